import PyProof.Rows.All
import Wide.All
import OpenK.AllK
import Wide.FinOn
import HandS.ForMost
import HandS.IsInst
import HandS.DictTup
import HandS.Conv
import HandS.TupSets
import HandS.Walk
import HandS.SetBool
import HandS.DictComp
import HandS.Strs
import HandS.SetFor
import KE.KDictCopyH
import KE.KDictDisplayH
import PyProof.ReprRoads
import PyProof.CallFns
import PyProof.ReprLen
import KE.DataFind
import HandS.Lambda
import HandS.EndTab
import KE.KDictOf
import PyProof.DictMoreH
import PyProof.DictFindH
import PyProof.P3Eq
import HandS.TupLen
import HandS.DictEq
import HandS.ListEq
import HandS.OwnEq
import HandS.Defaults
import HandS.MakeKwOnly
import KE.KDictPairs
import HandS.Style
import HandS.Deep
import HandS.NoneIn
import KE.KDictWalk
import HandS.SortRule
import HandS.SortOrd
import HandS.Wide
import HandS.ExcIs
import HandS.ForExc
import HandS.More
import HandS.SetKeys
import PyProof.ConsumeS
import PyProof.Meets
import KE.SortData
import HandS.EndBits
import HandS.HeadHook2
import KE.KNestM
import PySem.Challenge.RW_twoalone_k41_lots_and_far
set_option Elab.async false
set_option maxRecDepth 100000
set_option maxHeartbeats 4000000
namespace L2
open PySem PySem.Spec PyProof.Rows
set_option linter.unusedVariables false
/-! dicts with tuple keys: their items walked, their keys sorted -/
section
variable {X : Cx} {pins : List (Addr × Obj)} {σ : St} {H : Hp} {s : Shared} {d : Addr} {o : Obj}
/-- a locked dict of tuple keys as it lies: its entries, the keys' tuples, the values -/
theorem Inv.entriesT {kvs : List (List Key × V)} (I : Inv X pins σ H s) (locked : H d = some (.frz o (.dT kvs))) :
    (d == sysModules) = false ∧ ∃ (es : Array DictEntry) (ep : Nat), o.data = .dict es ep ∧ DT.Raw s.heap d es ep ∧ es.size = kvs.length ∧
      ∀ (i : Nat) (k : List Key) (v : V), kvs[i]? = some (k, v) → ∃ (hi : i < es.size) (q : Addr), es[i].key = .ref q ∧ H q = some (.tup (k.map kV)) ∧ RelV v es[i].val := by
  obtain ⟨there, _, notSys, xs, pairs, o', es, ep, found, exact', data, rows, _⟩ := I.hok d _ locked
  rw [there] at found
  cases found
  have sizes : es.size = kvs.length := (size_of_entries rows).trans (Paired.length pairs).symm
  refine ⟨notSys, es, ep, data, ⟨o, there, exact', data⟩, sizes, fun i k v e => ?_⟩
  obtain ⟨b, hb, e1, e2, e3⟩ := paired_get pairs e
  have hi : i < es.size := by rw [sizes]; exact (List.getElem?_eq_some_iff.mp e).1
  have q := entry_at rows i
  rw [hb, Array.getElem?_eq_getElem hi] at q
  have q' : es[i] = entryOfKey (tupleKind (mixKind X.prog X.w)) b := Option.some.inj q
  exact ⟨hi, b.2.1, by rw [q']; rfl, e2, by rw [q']; exact e3⟩
end
/-- the items of the locked dict at d: each a new pair of the key's own tuple and the value -/
def Itit (d : Addr) (o : Obj) (kvs : List (List Key × V)) : It :=
  ⟨fun i H => H d = some (.frz o (.dT kvs)) ∧ i < kvs.length,
   fun i H x H' => ∃ (T q : Addr) (k : List Key) (v : V), kvs[i]? = some (k, v) ∧ H q = some (.tup (k.map kV)) ∧ x = .ref T ∧ H T = none ∧ H' = upd H T (.tup [.ref q, v]),
   fun i H => H d = some (.frz o (.dT kvs)) ∧ kvs.length ≤ i⟩
theorem turn_itemsT {P : Program} {w : World} {K : PySem.W.Frag} {d : Addr} {o : Obj} {es : Array DictEntry} {ep : Nat} {kvs : List (List Key × V)} {elts : List Expr} {kk : Nat} {tpos : Pos} (it : Addr) (hod : o.data = .dict es ep) :
    Turn P w K (.Tuple elts kk tpos) (Itit d o kvs) [it] it (fun i h => ∃ ok ov, IsItemIter h it d i kvs.length ep ok ov) where
  mem := by simp
  obj := fun i h ⟨ok, ov, e⟩ b hb => by
    rw [List.mem_singleton.mp hb]
    exact ⟨_, e, fun v z => nomatch z⟩
  keep := fun i h h' ⟨ok, ov, e⟩ k => ⟨ok, ov, k it (by simp) _ e⟩
  item := by
    rintro X rfl rfl rfl hc i pins s σ H E I hf ⟨ok, ov, he⟩ ⟨hd, hi⟩
    obtain ⟨_, es', ep', hdt, raw, hsz, ent⟩ := I.entriesT hd
    obtain ⟨rfl, rfl⟩ := dict_ep hod hdt
    obtain ⟨⟨k, v⟩, hkv⟩ : ∃ p, kvs[i]? = some p := ⟨kvs[i], List.getElem?_eq_getElem hi⟩
    obtain ⟨hi', q, hkey, hq, rv⟩ := ent i k v hkv
    rw [← hsz] at he
    have hlt : it < s.heap.objs.size := Heap.lt_size he
    refine DT.nextI he raw hi' fun h' out laid grown kept => ?_
    refine ⟨_, rfl, wpAny_letOwnedTupleGo_items (s := { s with heap := h' }) out fun h'' he' sb => ?_⟩
    have laid2 : h''.get? s.heap.objs.size = some { cls := .type "tuple", data := .seq #[es'[i].key, es'[i].val] } := (sb.2 _ (Nat.ne_of_gt hlt)).trans laid
    have pair : ObjOk X.prog X.w (upd H s.heap.objs.size (.tup [.ref q, v])) h'' s.heap.objs.size (.tup [.ref q, v]) :=
      ⟨by show 2 ≤ sizeLine; decide, [es'[i].key, es'[i].val], .cons hkey (.cons rv .nil), ⟨_, laid2, rfl, _, rfl⟩⟩
    have I1 : Inv X pins σ (upd H s.heap.objs.size (.tup [.ref q, v])) { s with heap := h'' } :=
      I.turnedNew (t' := s.toks) (ch := [it]) (fun b ob hb e => (sb.2 b (fun z => hb (List.mem_singleton.mpr z))).trans (kept b ob (fun z => hb (List.mem_singleton.mpr z)) e)) hf (Nat.le_refl _) pair
    refine ⟨.ref s.heap.objs.size, _, I1, rfl, ⟨_, q, k, v, hkv, hq, rfl, I.hok.fresh (Nat.le_refl _), rfl⟩, ⟨es'[i].key, es'[i].val, by rw [← hsz]; exact he'⟩, fun b hb => ?_⟩
    rw [List.mem_singleton.mp hb, upd_ne (Nat.ne_of_lt hlt)]
    exact (hf it (by simp)).1
  done := by
    rintro X rfl rfl rfl hc i pins s σ H E I hf ⟨ok, ov, he⟩ ⟨hd, hi⟩
    obtain ⟨f0, f1, f2, f3, f4, f5⟩ := hf it (by simp)
    obtain ⟨_, es', ep', hdt, raw, hsz, ent⟩ := I.entriesT hd
    obtain ⟨rfl, rfl⟩ := dict_ep hod hdt
    rw [← hsz] at he
    exact DT.endI (I.ok.hd hc) he raw (by omega) fun h' eb => ⟨rfl, I.turned (t' := s.toks) (fun b ob hb e => eb b ob hb e) f0 f1 f3 f4 f5⟩
  self := fun A i s Q E ⟨_, _, e⟩ h => PySem.W.kcp_self e h
/-- for a, b in e.items(): e a locked dict of tuple keys -/
def iItemsT (td : TE) : TI := fun σ H R => td σ H fun x H1 => ∃ d o kvs, x = .ref d ∧ H1 d = some (.frz o (.dT kvs)) ∧ R (Itit d o kvs) H1
theorem pi_itemsT {X : Cx} {e : Expr} {td : TE} {apos cpos : Pos} {elts : List Expr} {kk : Nat} {tpos : Pos} (he : PE X e td) (hbase : attributeBase e "items" X.env (eval e X.env) = eval e X.env := by rfl) (hline : (apos.endLine == cpos.line) = true := by rfl) :
    PI X (.Tuple elts kk tpos) (.Call (.Attribute e "items" apos) [] [] cpos) (iItemsT td) := by
  refine ⟨fun pins s σ H R I h => ?_⟩
  refine wpAny_Call_method (T := "dict") (id := "dict.items") hbase rfl hline F.plainAttrs_dict F.slot_dict_items F.type_dict_items (thn (he.run pins s σ H _ I h) fun u s1 ⟨x, H1, I1, rx, d, o, kvs, ex, hd, q⟩ => ?_)
  subst ex
  obtain rfl : u = Value.ref d := rx
  obtain ⟨notSys, es, ep, hdt, raw, hsz, ent⟩ := I1.entriesT hd
  refine ⟨raw.typeIs, fun b z => ?_, ?_⟩
  · cases z
    obtain ⟨ob, h1, h2, h3⟩ := raw
    exact ⟨ob, h1, h2.2.1⟩
  have I2 : Inv X pins σ H1 { s1 with heap := s1.heap.push { cls := .type "dict_items", data := .fields #[.ref d] } } := I1.kept (t' := s1.toks) fun b ob q => Heap.get?_push_of_some _ q
  have walk : wpAny (model X.prog X.w) X.A (pyIter (.ref s1.heap.objs.size)) (PIE X pins σ (.Tuple elts kk tpos) R) X.xe { s1 with heap := s1.heap.push { cls := .type "dict_items", data := .fields #[.ref d] } } := by
    refine DT.iterI (d := d) ⟨_, Heap.get?_push_size _ rfl, rfl, rfl⟩ (raw.push _) (pi_one (tk := s1.toks) I2 _ (turn_itemsT _ hdt) ⟨.none, .none, ?_⟩ q)
    rw [← hsz]
    exact Heap.get?_push_size _ rfl
  show wpAny _ _ (callWith cpos (.builtin "dict.items") [.ref d] [] []) _ X.xe s1
  exact method_meetsIn F.slot_dict_items F.entry_dict_items rfl (PySem.evalArgs_none ⟨rfl, raw.typeIs, F.args_dict_items_1 _, _, DT.meetsItems (es := es) (ep := ep) notSys, raw, walk⟩)
end L2

set_option Elab.async false
set_option maxRecDepth 100000
set_option maxHeartbeats 4000000
namespace L2
open PySem PySem.Spec PyProof.Rows
set_option linter.unusedVariables false
/-! one core for comprehensions that gather into any thing: what is laid first, and what a turn adds, are parameters -/
section
variable {X : Cx}
/-- the walk of a comprehension that gathers at D: o0 is what stands there first; add says what one turn does to it -/
def tGather (o0 : Addr → HO) (wi : TI) (g : TG) (tt : TT) (add : Addr → St → Hp → (Hp → Prop) → Prop) (vs : List Nat) : TE := fun σ H Q =>
  wi σ H fun J H1 => ∀ D, H1 D = none → ∃ W : Nat → Nat → Hp → Prop, (∃ m, W 0 m (upd H1 D (o0 D))) ∧ ∀ i m H, W i m H →
    (J.stop i H ∧ Q (.ref D) H) ∨
    (J.go i H ∧ ∃ Nx : Hp → Prop, (∀ H', Nx H' → ∃ m', m' < m ∧ W (i + 1) m' H') ∧
      ∀ x H', J.yld i H x H' → g x (wipe σ vs) H' fun σ2 H2 => wipe σ2 vs = wipe σ vs ∧ tt σ2 H2 fun b H3 => if b = true then add D σ2 H3 Nx else Nx H3)
/-- one turn as the machine does it: the next thing, the target, the tests, then Body or the way back -/
def TurnIs (P : Program) (w : World) (A : Around) (target iter : Expr) (ifs : List Expr) (it : Value) (env : Env) (R : Result → Shared → Prop) (Body : (Shared → Prop) → Shared → Prop) (back : Shared → Prop) (s : Shared) : Prop :=
  wpAny (model P w) A (pyNext it) (fun r s₁ => match r with
    | none => R (.ok .next) s₁
    | some v => wpAny (model P w) A (letOwnedTupleGo target it v) (fun _ s₁' =>
        wpAny (model P w) A (assign target env v) (fun _ s₂ =>
          wpAny (model P w) A (forIn ifs true fun c r => if r = true then do let ok ← isTrue c env (eval c env); pure (ForInStep.yield ok) else pure (ForInStep.yield r))
            (fun ok s₃ => if ok = true then Body back s₃ else back s₃) (notedBy (model P w) A env fun e s' => R (.error e) s') s₂)
          (notedBy (model P w) A env fun e s' => R (.error e) s') s₁')
        (notedBy (model P w) A env fun e s' => R (.error e) s') s₁)
    (notedBy (model P w) A env fun e s' => R (.error e) s') s
variable {pins : List (Addr × Obj)} {s : Shared} {σ : L2.St} {H : Hp} {Q : VK} {node tg iter : Expr} {ifs : List Expr} {scope : Scope} {own : List (PySem.Str × Nat)} {pos' : Pos} {wi : TI} {g : TG} {tt : TT}
  {add : Addr → L2.St → Hp → (Hp → Prop) → Prop} {o0 : Addr → HO} {ob : Obj} {mk : Sem Value} {use : Option (Value → Sem Unit)} {Qf : Value → Shared → Prop} {Body : Value → Env → (Result → Shared → Prop) → (Shared → Prop) → Shared → Prop}
theorem gather_core (hc : X.calm = true) (hN : X.N.Nodup) (I : Inv X pins σ H s) (hi : PI X tg iter wi) (ok : BlkOk X.N X.env.scope scope own) (hcl : clausesOf node = [⟨tg, iter, ifs, 0⟩])
    (hmk : ∀ (A : Around) (E : Value → Shared → Prop) (s : Shared) (Q : Value → Shared → Prop), Q (.ref s.heap.objs.size) { s with heap := s.heap.push ob } → wpAny (model X.prog X.w) A mk Q E s)
    (hob : ∀ (h : Heap) (H : Hp), sysModules < h.objs.size → ObjOk X.prog X.w H (h.push ob) h.objs.size (o0 h.objs.size))
    (hloop : ∀ (it : Value) (D : Addr) (env : Env) (R : Result → Shared → Prop) (I : Nat → Shared → Prop), (∀ n s, I n s → TurnIs X.prog X.w X.A tg iter ifs it env R (Body (.ref D) env R) (fun s' => ∃ m, m < n ∧ I m s') s) →
      ∀ n s, I n s → codeAny (model X.prog X.w) X.A (.compLoop node 0 it (.ref D) env) R s)
    (hstart : ∀ (it acc : Value) (env : Env) (R : Result → Shared → Prop) (s : Shared), codeAny (model X.prog X.w) X.A (.compLoop node 0 it acc env) R s →
      wpAny (model X.prog X.w) X.A (pyIter it) (fun it' s' => codeAny (model X.prog X.w) X.A (.compLoop node 0 it' acc env) R s') (notedBy (model X.prog X.w) X.A env fun x s' => R (.error x) s') s →
      codeAny (model X.prog X.w) X.A (.compStart node 0 it acc env) R s)
    (hg : ∀ (s : Shared) (H : Hp) (C : Addr) (cl : List (PySem.Str × Addr)) (fp : List Addr), PG (X.blk s H scope (compEnvC scope cl C X.env) fp) tg g)
    (ht : ∀ (s : Shared) (H : Hp) (C : Addr) (cl : List (PySem.Str × Addr)) (fp : List Addr), PTs (X.blk s H scope (compEnvC scope cl C X.env) fp) ifs tt)
    (hadd : ∀ (s : Shared) (H : Hp) (C : Addr) (cl : List (PySem.Str × Addr)) (fp : List Addr) (D : Addr) (R : Result → Shared → Prop) (Nx : Hp → Prop) (back : Shared → Prop) (pins' : List (Addr × Obj)) (σ2 : L2.St) (H3 : Hp) (s3 : Shared),
      Inv (X.blk s H scope (compEnvC scope cl C X.env) fp) pins' σ2 H3 s3 → add D σ2 H3 Nx → (∀ s' H', Inv (X.blk s H scope (compEnvC scope cl C X.env) fp) pins' σ2 H' s' → Nx H' → back s') → Body (.ref D) (compEnvC scope cl C X.env) R back s3)
    (hs : ∀ x, foldedSetIterable iter X.env x = pure x) (h : tGather o0 wi g tt add (own.map (·.2)) σ H Q)
    (hRR : ∀ D C s' m H', Inv X pins σ H' s' → Q (.ref D) H' → s'.heap.Ns C m → FpOk X pins H' C → compPost (model X.prog X.w) X.A X.xe use Qf (.ref D) C (.ok .next) s') :
    wpAny (model X.prog X.w) X.A (comprehension node scope X.env pos' mk false (eval iter X.env) use) Qf X.xe s := by
  have free : ∀ y ∈ scope.names, y.2 = .free → ∃ c, X.env.cells.lookup y.1 = some c := fun y hy e => (ok.free y hy e).elim (fun k => I.ok.has _ (.inl k)) (fun k => I.ok.has _ (.inr k))
  refine wpAny_comprehension_free (use := use) hcl hs (closure_ok free) ok.kind (fun y hy e => by rw [ok.uniq y hy, e]) (thn (hi.run pins s σ H _ I h) fun xv s1 hx => thn hx fun itv s2 h2 => ?_)
  obtain ⟨it, fp, tn, J, H2, e, I2, T, st2, f2, q⟩ := h2
  subst e
  refine hmk _ _ _ _ (newEnv_comp ?_)
  obtain ⟨W, ⟨m0, w0⟩, turn⟩ := q s2.heap.objs.size (I2.hok.fresh (Nat.le_refl _))
  have I3 : Inv X pins σ (upd H2 s2.heap.objs.size (o0 s2.heap.objs.size)) ({ s2 with heap := s2.heap.push ob } : Shared) :=
    I2.laid (t' := s2.toks) (fun b o e => Heap.get?_push_of_some _ e) (Nat.le_refl _) (hob _ _ I2.big)
  have f3 : ∀ b ∈ fp, FpOk X pins (upd H2 s2.heap.objs.size (o0 s2.heap.objs.size)) b ∧ b < (s2.heap.push ob).objs.size := fun b hb => by
    obtain ⟨o, e, _⟩ := T.obj _ _ st2 b hb
    have lt := Heap.lt_size e
    exact ⟨⟨by rw [upd_ne (Nat.ne_of_lt lt)]; exact (f2 b hb).1, (f2 b hb).2⟩, by rw [Heap.size_push]; exact Nat.lt_succ_of_lt lt⟩
  have st3 : tn 0 (s2.heap.push ob) := T.keep _ _ _ st2 fun b _ o e => Heap.get?_push_of_some _ e
  generalize hD : s2.heap.objs.size = D at I3 w0 turn f3 ⊢
  generalize hs3 : ({ s2 with heap := s2.heap.push ob } : Shared) = s3 at I3 ⊢
  have h3 : s3.heap = s2.heap.push ob := by rw [← hs3]
  rw [← h3] at f3 st3
  generalize upd H2 D (o0 D) = H3 at I3 w0 f3
  have I4 := block_start I3 ok hN f3
  have pg := hg s3 H3 s3.heap.objs.size (cellsFrom (s3.heap.objs.size + 1) scope.names (cloFrom X.env.cells scope.names [])) fp
  have pt := ht s3 H3 s3.heap.objs.size (cellsFrom (s3.heap.objs.size + 1) scope.names (cloFrom X.env.cells scope.names [])) fp
  have pa := hadd s3 H3 s3.heap.objs.size (cellsFrom (s3.heap.objs.size + 1) scope.names (cloFrom X.env.cells scope.names [])) fp
  show codeAny _ _ (.compStart node 0 (.ref it) (.ref D) (compEnvC scope (cellsFrom (s3.heap.objs.size + 1) scope.names (cloFrom X.env.cells scope.names [])) s3.heap.objs.size X.env)) (compPost (model X.prog X.w) X.A X.xe use Qf (.ref D) s3.heap.objs.size) { s3 with heap := pushCells (s3.heap.push { cls := .type "dict", data := .dict #[] }) scope.names }
  generalize hce : compEnvC scope (cellsFrom (s3.heap.objs.size + 1) scope.names (cloFrom X.env.cells scope.names [])) s3.heap.objs.size X.env = ce at I4 pg pt pa ⊢
  have cL : ce.locals = s3.heap.objs.size := by subst hce; rfl
  generalize hs4 : ({ s3 with heap := pushCells (s3.heap.push { cls := .type "dict", data := .dict #[] }) scope.names } : Shared) = s4 at I4 ⊢
  have st4 : tn 0 s4.heap := T.keep _ _ _ st3 fun b _ o e => by rw [← hs4]; exact pushCells_keeps _ _ _ _ (Heap.get?_push_of_some _ e)
  have still : ∀ {σ' : L2.St} {H' : Hp} {s' : Shared}, Inv (X.blk s3 H3 scope ce fp) [] σ' H' s' → (∀ b ∈ fp, H' b = none) → ∀ b ∈ fp, FpOk (X.blk s3 H3 scope ce fp) [] H' b := fun I' hn b hb =>
    ⟨hn b hb, (I'.ok.exf b hb).1, I'.ok.exfs b hb, .inl hb, fun x c e => (I'.ok.exf b hb).2 x c e, fun p hp => absurd (show p ∈ ([] : List (Addr × Obj)) ++ [] from hp) (by simp)⟩
  have loop := hloop (.ref it) D ce (compPost (model X.prog X.w) X.A X.xe use Qf (.ref D) s3.heap.objs.size)
    (fun n s' => ∃ i H', Inv (X.blk s3 H3 scope ce fp) [] (wipe σ (own.map (·.2))) H' s' ∧ tn i s'.heap ∧ (∀ b ∈ fp, H' b = none) ∧ W i n H') ?_ m0 s4 ⟨0, H3, I4, st4, fun b hb => (f3 b hb).1.1, w0⟩
  · exact hstart _ _ _ _ _ loop (T.self X.A 0 _ _ _ st4 loop)
  rintro n s5 ⟨i, H5, I5, st5, n5, w5⟩
  rcases turn i n H5 w5 with ⟨stop, qq⟩ | ⟨go, Nx, hNx, step⟩
  · refine thnF (T.done (X.blk s3 H3 scope ce fp) rfl rfl rfl hc i [] s5 _ H5 (fun _ _ => False) I5 (still I5 n5) st5 stop) fun r s6 ⟨hr, I6⟩ => ?_
    subst hr
    have I7 : Inv X pins σ H5 s6 := I3.call' (ch := fp) I6.os I6.base I6.hok I6.bare fun b hb => ⟨(f3 b hb).1.2.2.2.1, (f3 b hb).1.2.1, (f3 b hb).1.2.2.2.2.1, (f3 b hb).1.2.2.2.2.2⟩
    have nC : H5 s3.heap.objs.size = none := by
      have z : H5 ce.locals = none := I6.free
      rwa [cL] at z
    obtain ⟨m, hn, _⟩ := I6.loc
    have hn : s6.heap.Ns ce.locals m := hn
    rw [cL] at hn
    exact hRR D s3.heap.objs.size s6 m H5 I7 qq hn (I3.fpOk (Nat.le_refl _) nC)
  · refine thnF (T.item (X.blk s3 H3 scope ce fp) rfl rfl rfl hc i [] s5 _ H5 (fun _ _ => False) I5 (still I5 n5) st5 go) fun r s6 ⟨u, hr, h6⟩ => ?_
    subst hr
    refine thnF h6 fun _ s7 ⟨x, H7, I7, r7, y7, st7, n7⟩ => ?_
    refine thnF (pg.run _ s7 _ H7 x u _ (I7.pinned (still I7 n7) (T.obj _ _ st7)) r7 (step x H7 y7)) fun _ s8 ⟨σ8, H8, I8, hw8, q8⟩ => ?_
    refine thnF (pt.run _ s8 σ8 H8 _ I8 q8) fun b s9 ⟨H9, I9, q9⟩ => ?_
    have again : ∀ (s' : Shared) (H' : Hp), Inv (X.blk s3 H3 scope ce fp) ([] ++ pinsAt fp s7.heap) σ8 H' s' → Nx H' → ∃ m, m < n ∧ ∃ i H', Inv (X.blk s3 H3 scope ce fp) [] (wipe σ (own.map (·.2))) H' s' ∧ tn i s'.heap ∧ (∀ b ∈ fp, H' b = none) ∧ W i m H' := fun s' H' I' nx => by
      obtain ⟨m', hm, w'⟩ := hNx H' nx
      have stands : ∀ b ∈ fp, ∀ o, s7.heap.get? b = some o → s'.heap.get? b = some o ∧ H' b = none := fun b hb o e =>
        let z := I'.pin (b, o) (List.mem_append_right _ (List.mem_append_right _ (mem_pinsAt hb e)))
        ⟨z.1, z.2.1⟩
      refine ⟨m', hm, i + 1, H', (I'.unpinned (pins := [])).weak (by rw [← hw8, wipe_length]) (fun j v e => ?_), T.keep _ _ _ st7 fun b hb o e => (stands b hb o e).1, fun b hb => ?_, w'⟩
      · rw [← hw8] at e
        exact (wipe_some e).1
      · obtain ⟨o, e, _⟩ := T.obj _ _ st7 b hb
        exact (stands b hb o e).2
    cases b with
    | false => exact again s9 H9 I9 q9
    | true => exact pa D _ Nx _ _ σ8 H9 s9 I9 q9 again
end
end L2

set_option Elab.async false
set_option maxRecDepth 100000
set_option maxHeartbeats 4000000
namespace L2
open PySem PySem.Spec PyProof.Rows PpSet
set_option linter.unusedVariables false
/-! the core taken twice: sets of ints, dicts with tuple keys; len of a set -/
/-- a set as it is made -/
abbrev bareSet (w : World) : Obj := { cls := .type "set", dict := none, data := .set #[] 0 (.fresh 0 0 (!w.params.followText "set-order")) }
section
variable {X : Cx}
/-- a turn of {e for ..}, e an int -/
def addI (w : World) (te : TE) : Addr → L2.St → Hp → (Hp → Prop) → Prop := fun D σ H Nx => te σ H fun y H1 => ∃ (k : Int) (S : Int → Bool) (n : Nat), y = .int k ∧ H1 D = some (SetO w D S n) ∧ n + 1 < scanBound ∧
  Nx (upd H1 D (SetO w D (fun j => S j || decide (j = k)) (if S k = true then n else n + 1)))
theorem pe_scI {elt tg iter : Expr} {ifs : List Expr} {scope : Scope} {own : List (PySem.Str × Nat)} {pos : Pos} {wi : TI} {g : TG} {tt : TT} {te : TE} (hc : X.calm = true) (hN : X.N.Nodup) (hi : PI X tg iter wi) (ok : BlkOk X.N X.env.scope scope own)
    (hg : ∀ (s : Shared) (H : Hp) (C : Addr) (cl : List (PySem.Str × Addr)) (fp : List Addr), PG (X.blk s H scope (compEnvC scope cl C X.env) fp) tg g)
    (ht : ∀ (s : Shared) (H : Hp) (C : Addr) (cl : List (PySem.Str × Addr)) (fp : List Addr), PTs (X.blk s H scope (compEnvC scope cl C X.env) fp) ifs tt)
    (he : ∀ (s : Shared) (H : Hp) (C : Addr) (cl : List (PySem.Str × Addr)) (fp : List Addr), PE (X.blk s H scope (compEnvC scope cl C X.env) fp) elt te)
    (hs : ∀ x, foldedSetIterable iter X.env x = pure x := by intro _; rfl) :
    PE X (.SetComp elt [⟨tg, iter, ifs, 0⟩] scope pos) (tGather (fun D => SetO X.w D (fun _ => false) 0) wi g tt (addI X.w te) (own.map (·.2))) := by
  refine ⟨fun pins s σ H Q I h => ?_⟩
  rw [eval_SetComp]
  refine gather_core (ob := bareSet X.w) (mk := newSet (.type "set")) (o0 := fun D => SetO X.w D (fun _ => false) 0) (add := addI X.w te)
    (Body := fun acc env R back s => wpAny (model X.prog X.w) X.A (eval elt env) (fun x s4 => wpAny (model X.prog X.w) X.A (call (.builtin "set.add") [acc, x]) (fun _ s5 => back s5) (notedBy (model X.prog X.w) X.A env fun e s' => R (.error e) s') s4)
      (notedBy (model X.prog X.w) X.A env fun e s' => R (.error e) s') s)
    hc hN I hi ok rfl (fun A E s Q q => newSet_ok q) (fun h H hb => setO_new (setR_fresh X.w)) (fun it D env R I turn n s => compLoopS_any I turn n) (fun it acc env R s a b => codeAny_compStart_set a b) hg ht ?_ hs h ?_
  · intro s H C cl fp D R Nx back pins' σ2 H3 s3 I3 q3 k
    refine thnF ((he s H C cl fp).run _ s3 σ2 H3 _ I3 q3) fun z s4 ⟨yv, H4, I4, r4, n, S, m, ey, hD, room, nx⟩ => ?_
    subst ey
    obtain ⟨tk, rfl⟩ := r4
    refine setR_add (setO_get (X := X.blk s H scope (compEnvC scope cl C X.env) fp) I4 hD) room fun h' sb new => k _ _ (I4.write (e := D) (t' := s4.toks + 1) (by rw [hD]; trivial) (.inl rfl) (fun b u hb hu => (sb.2 b hb).trans hu) ?_ (setO_new new)) nx
    have ⟨o, _, _, _, ho, _⟩ := new
    exact ⟨o, ho⟩
  · intro D C s' m H' I' q hn ⟨f0, f1, f2, f3, f4, f5⟩
    exact ⟨m, hn, fun h'' sb => ⟨.ref D, H', I'.turned (t' := s'.toks) (fun b o hb e => (sb.2 b hb).trans e) f0 f1 f3 f4 f5, rfl, q⟩⟩
/-- len of such a set -/
def rLenSI (w : World) : List V → Hp → VK → Prop := fun xs H Q => ∃ (a : Addr) (S : Int → Bool) (n : Nat), xs = [.ref a] ∧ H a = some (SetO w a S n) ∧ Q (.int (n : Int)) H
theorem call_len_SI : CallR X (.builtin "len") (rLenSI X.w) := by
  intro pins s σ H vs us Q I r h
  obtain ⟨a, S, n, rfl, ha, q⟩ := h
  rw [Vals.ref1 r]
  obtain ⟨o, es, ep, t, ho, hex, hd, _, _, _, small, fits, hn, _⟩ := setO_get I ha
  have lim : es.size < 2 ^ 62 := Nat.lt_trans small (by unfold scanBound; decide)
  refine call_len_set ho hex hd fits (by omega) ⟨.int n, H, (I.tok _).tok _, ⟨_, by rw [hn]⟩, q⟩
/-- a turn of {k: e for ..}, k a tuple of ints and texts -/
def addT (tk tv : TE) : Addr → L2.St → Hp → (Hp → Prop) → Prop := fun D σ H Nx => tk σ H fun y H1 => tv σ H1 fun z H2 => ∃ (kvs : List (List Key × V)) (k : List Key) (b : Addr), y = .ref b ∧ H2 b = some (.tup (k.map kV)) ∧ H2 D = some (.dT kvs) ∧ kvs.length < sizeLine ∧
  Nx (upd H2 D (.dT (putK kvs k z)))
theorem pe_dcT {kx vx tg iter : Expr} {ifs : List Expr} {scope : Scope} {own : List (PySem.Str × Nat)} {pos : Pos} {wi : TI} {g : TG} {tt : TT} {tk tv : TE} (hu : X.A.units + 1 < cLine) (hc : X.calm = true) (hN : X.N.Nodup) (hi : PI X tg iter wi) (ok : BlkOk X.N X.env.scope scope own)
    (hg : ∀ (s : Shared) (H : Hp) (C : Addr) (cl : List (PySem.Str × Addr)) (fp : List Addr), PG (X.blk s H scope (compEnvC scope cl C X.env) fp) tg g)
    (ht : ∀ (s : Shared) (H : Hp) (C : Addr) (cl : List (PySem.Str × Addr)) (fp : List Addr), PTs (X.blk s H scope (compEnvC scope cl C X.env) fp) ifs tt)
    (hk : ∀ (s : Shared) (H : Hp) (C : Addr) (cl : List (PySem.Str × Addr)) (fp : List Addr), PE (X.blk s H scope (compEnvC scope cl C X.env) fp) kx tk)
    (he : ∀ (s : Shared) (H : Hp) (C : Addr) (cl : List (PySem.Str × Addr)) (fp : List Addr), PE (X.blk s H scope (compEnvC scope cl C X.env) fp) vx tv)
    (hs : ∀ x, foldedSetIterable iter X.env x = pure x := by intro _; rfl) :
    PE X (.DictComp kx vx [⟨tg, iter, ifs, 0⟩] scope pos) (tGather (fun _ => .dT []) wi g tt (addT tk tv) (own.map (·.2))) := by
  refine ⟨fun pins s σ H Q I h => ?_⟩
  rw [arm_eval_DictComp]
  refine gather_core (ob := { cls := .type "dict", data := .dict #[] }) (mk := newDict) (o0 := fun _ => .dT []) (add := addT tk tv)
    (Body := fun acc env R back s => match acc with
      | .ref D => wpAny (model X.prog X.w) X.A (eval kx env) (fun kv s4 => wpAny (model X.prog X.w) X.A (eval vx env) (fun vv s5 => wpAny (model X.prog X.w) X.A (dictSet D kv vv) (fun _ s6 => back s6) (notedBy (model X.prog X.w) X.A env fun e s' => R (.error e) s') s5)
          (notedBy (model X.prog X.w) X.A env fun e s' => R (.error e) s') s4) (notedBy (model X.prog X.w) X.A env fun e s' => R (.error e) s') s
      | _ => False)
    hc hN I hi ok rfl (fun A E s Q q => wpAny_newObj_type q) (fun h H hb => dt_empty h hb) (fun it D env R I turn n s => compLoop_anyD I turn n) (fun it acc env R s a b => codeAny_compStart_dict a b) hg ht ?_ hs h ?_
  · intro s H C cl fp D R Nx back pins' σ2 H3 s3 I3 q3 k
    refine thnF ((hk s H C cl fp).run _ s3 σ2 H3 _ I3 q3) fun z s4 ⟨yk, H4, I4, r4, q4⟩ => ?_
    refine thnF ((he s H C cl fp).run _ s4 σ2 H4 _ I4 q4) fun z2 s5 ⟨yv, H5, I5, r5, kvs, ks, b, ey, hb, hD, hz, nx⟩ => ?_
    subst ey
    cases (show z = Value.ref b from r4)
    obtain ⟨hl, hd, xs, rel, dd⟩ := dt_of I5.hok hD
    have hz' : xs.length ≤ sizeLine := by rw [← Paired.length rel]; exact hl
    have grown : (putK kvs ks yv).length ≤ sizeLine := by have := length_putK kvs ks yv; omega
    refine wpAny_dictSet_heap (hsz := hz') (show X.A.units < cLine by omega) (key_of I5.hok hb) dd fun h' dd' same => k _ _ ?_ nx
    obtain ⟨q, es, ep, hq, h2, h3, h4, _, h5⟩ := dd'
    refine d_write I5 (by rw [hD]; exact True.intro) same ⟨q, hq⟩ ⟨grown, hd, _, (rel.put ks hb r5).keeps fun c ys ec => ?_, q, es, ep, hq, h2, h3, h4, h5⟩
    rw [upd_ne (ne_of ec hD (fun z => nomatch z))]
    exact ec
  · intro D C s' m H' I' q hn ⟨f0, f1, f2, f3, f4, f5⟩
    exact ⟨m, hn, fun h'' sb => ⟨.ref D, H', I'.turned (t' := s'.toks) (fun b o hb e => (sb.2 b hb).trans e) f0 f1 f3 f4 f5, rfl, q⟩⟩
end
end L2

set_option Elab.async false
set_option maxRecDepth 100000
set_option maxHeartbeats 4000000
namespace L2
open PySem PySem.Spec PyProof.Rows
set_option linter.unusedVariables false
/-! sorted(d), d a dict whose keys are tuples of ints -/
def rSortDT (d : Nat) (B : Int) : List V → Hp → VK → Prop := fun vs H Q => ∃ (a : Addr) (kvs : List (List Key × V)) (nss : List (List Int)), vs = [V.ref a] ∧ Rd H a (.dT kvs) ∧ kvs.map (·.1) = nss.map (fun ns => ns.map Sum.inl) ∧ nss.length < 64 ∧
  (∀ ns ∈ nss, ns.length = d ∧ TS.Bd B ns) ∧
  ∀ (L : List (Addr × List Int)) (p : Addr), (L.map (·.2)).Perm nss → L.Pairwise (fun q r => TS.code B q.2 ≤ TS.code B r.2) → (∀ q ∈ L, H q.1 = some (.tup (q.2.map V.int))) → H p = none → Q (.ref p) (upd H p (.lst (L.map fun q => V.ref q.1)))
theorem inl_inj : ∀ {a b : List Int}, a.map (Sum.inl : Int → Key) = b.map Sum.inl → a = b
  | [], [], _ => rfl
  | x :: a, y :: b, e => by
    rw [List.map_cons, List.map_cons] at e
    injection e with e1 e2
    rw [Sum.inl.inj e1, inl_inj e2]
  | [], _ :: _, e => by cases e
  | _ :: _, [], e => by cases e
section
variable {X : Cx}
theorem cr_sortedDT {d : Nat} {B : Int} (hd1 : 1 ≤ d) (hc : X.calm = true) : CallR X (.builtin "sorted") (rSortDT d B) := by
  intro pins s σ H vs us Q I r h
  obtain ⟨a, kvs, nss, rfl, hR, hkeys, few, hB, q⟩ := h
  rw [Vals.ref1 r]
  obtain ⟨hz, notSys, ks, pairs, o, es, ep, ho, hx, hdt, rows, nd⟩ := (show ObjOk X.prog X.w H s.heap a (.dT kvs) from hR.ok I.hok)
  have l1 : es.size = ks.length := size_of_entries rows
  have l2 : kvs.length = ks.length := Paired.length pairs
  have l3 : kvs.length = nss.length := by have e := congrArg List.length hkeys; rwa [List.length_map, List.length_map] at e
  -- each row: its tuple, by number
  have row : ∀ (j : Nat) (x : List Key × Addr × Value), ks[j]? = some x → ∃ ns, nss[j]? = some ns ∧ H x.2.1 = some (.tup (ns.map V.int)) := fun j x hj => by
    have lt : j < kvs.length := by have := (List.getElem?_eq_some_iff.mp hj).1; omega
    obtain ⟨b, hb, e1, e2, _⟩ := paired_get pairs (List.getElem?_eq_getElem lt)
    rw [hj] at hb
    cases hb
    have e3 : (kvs.map (·.1))[j]? = some kvs[j].1 := by rw [List.getElem?_map, List.getElem?_eq_getElem lt]; rfl
    rw [hkeys, List.getElem?_map] at e3
    obtain ⟨ns, hns, e4⟩ := Option.map_eq_some_iff.mp e3
    refine ⟨ns, hns, ?_⟩
    rw [e2, ← e4, List.map_map]
    rfl
  refine Calls.call_function_entry kind_sorted plain_sorted entry_sorted (args_sorted1 _) ?_
  unfold Builtin.«sorted»
  refine wpAny_bind (m := checkCount "sorted" 1 1 _) (wpAny_pure ?_)
  refine wpAny_bind (PySem.W.kdu_collect (A := X.A.in1) (kdl_raw notSys hx hdt) (I.ok.hd hc) ho (by omega) fun h' tk acc kept its => ?_)
  have eq : acc.toList = ks.map fun x => Value.ref x.2.1 := by
    apply List.ext_getElem?
    intro j
    rw [List.getElem?_map]
    rcases Nat.lt_or_ge j ks.length with lt | ge
    · have hacc : j < acc.toList.length := by rw [Array.length_toList, its.1, l1]; exact lt
      obtain ⟨en, hen, hv⟩ := its.2 j acc.toList[j] (by rw [← Array.getElem?_toList]; exact List.getElem?_eq_getElem hacc)
      have qe := entry_at rows j
      rw [hen, List.getElem?_eq_getElem lt] at qe
      have e2 : en = entryOfKey (tupleKind (mixKind X.prog X.w)) ks[j] := Option.some.inj qe
      rw [List.getElem?_eq_getElem hacc, List.getElem?_eq_getElem lt, hv, e2]
      rfl
    · rw [List.getElem?_eq_none (by rw [Array.length_toList, its.1, l1]; exact ge), List.getElem?_eq_none ge]
      rfl
  have I1 : Inv X pins σ H { s with heap := h', toks := tk } := I.kept kept
  refine wpAny_bind (wpAny_newList ?_ (by rw [eq, List.length_map, sizeLine_eq]; omega))
  have made : (h'.push (seqObj "list" acc.toList.toArray 0)).get? h'.objs.size = some (seqObj "list" acc.toList.toArray 0) := Heap.get?_push_size _ rfl
  generalize hvs : acc.toList = vs at made eq ⊢
  have I2 : Inv X pins σ H { s with heap := h'.push (seqObj "list" vs.toArray 0), toks := tk } := I1.kept (t' := tk) fun b o e => Heap.get?_push_of_some _ e
  have tups : ∀ v ∈ vs, ∃ (b : Addr) (ns : List Int), v = .ref b ∧ ns ∈ nss ∧ H b = some (.tup (ns.map V.int)) ∧ TS.TupInts (h'.push (seqObj "list" vs.toArray 0)) v ns := fun v hv => by
    rw [eq] at hv
    obtain ⟨x, hx, rfl⟩ := List.mem_map.mp hv
    obtain ⟨j, hj⟩ := List.getElem?_of_mem hx
    obtain ⟨ns, h1, h2⟩ := row j x hj
    obtain ⟨_, ws, rv, it⟩ := (show ObjOk X.prog X.w H (h'.push (seqObj "list" vs.toArray 0)) x.2.1 (.tup (ns.map V.int)) from I2.hok _ _ h2)
    exact ⟨_, ns, rfl, List.mem_of_getElem? h1, h2, _, ws.toArray, rfl, it, by simpa using rv.ints⟩
  show wpAny _ _ _ _ _ { s with heap := h'.push (seqObj "list" vs.toArray 0), toks := tk }
  refine wpAny_bind (wpAny_holding (TS.call_sort_tups (d := d) (B := B) (s := { s with heap := h'.push (seqObj "list" vs.toArray 0), toks := tk }) made (by rw [eq, List.length_map]; omega) hd1 (fun v hv => ?_) fun out a1 a2 => ?_))
  · obtain ⟨b, ns, _, h1, _, h2⟩ := tups v hv
    exact ⟨ns, h2, (hB ns h1).1, (hB ns h1).2⟩
  obtain ⟨e', he'⟩ := sortedHeap_at (vs := vs) (out := out) made
  have kept2 : ∀ b u, h'.get? b = some u → (sortedHeap (h'.push (seqObj "list" vs.toArray 0)) h'.objs.size vs out).get? b = some u := fun b u e => by
    have hb : b < h'.objs.size := Heap.lt_size e
    rw [sortedHeap_old (Nat.ne_of_lt hb) (by rw [size_push']; exact Nat.lt_succ_of_lt hb)]
    exact Heap.get?_push_of_some _ e
  -- the rows that come out
  have L0 : ∀ ws : List Value, (∀ v ∈ ws, v ∈ vs) → ∃ L : List (Addr × List Int), ws = L.map (fun q => Value.ref q.1) ∧ L.map (·.2) = ws.map (TS.intsOf (h'.push (seqObj "list" vs.toArray 0))) ∧ ∀ q ∈ L, H q.1 = some (.tup (q.2.map V.int)) := by
    intro ws
    induction ws with
    | nil => intro _; exact ⟨[], rfl, rfl, fun q hq => by cases hq⟩
    | cons v ws ih =>
      intro hv
      obtain ⟨b, ns, e, _, h2, h3⟩ := tups v (hv v List.mem_cons_self)
      obtain ⟨L, e1, e2, e3⟩ := ih fun u hu => hv u (List.mem_cons_of_mem _ hu)
      refine ⟨(b, ns) :: L, by rw [List.map_cons, e, e1], by rw [List.map_cons, List.map_cons, e2, h3.ints], fun q hq => ?_⟩
      rcases List.mem_cons.mp hq with rfl | z
      · exact h2
      · exact e3 q z
  obtain ⟨L, e1, e2, e3⟩ := L0 out.toList fun v hv => a1.mem_iff.mp hv
  have lenL : (L.map fun q => V.ref q.1).length ≤ sizeLine := by
    have e4 := a1.length_eq
    rw [e1, eq, List.length_map, List.length_map] at e4
    rw [List.length_map, e4, sizeLine_eq]; omega
  refine wpAny_pure ⟨_, rfl, .ref h'.objs.size, upd H h'.objs.size (.lst (L.map fun q => V.ref q.1)), I1.laid (t' := tk) kept2 (Nat.le_refl _)
    (show ObjOk X.prog X.w _ _ _ (.lst (L.map fun q => V.ref q.1)) from ⟨lenL, out.toList, e', by rw [e1]; exact vals_of_refs L, he'⟩), rfl, q L _ ?_ ?_ e3 (I1.hok.fresh (Nat.le_refl _))⟩
  · rw [e2]
    have all : ∀ F : Value → List Int, (∀ (j : Nat) (x : List Key × Addr × Value), ks[j]? = some x → nss[j]? = some (F (.ref x.2.1))) → vs.map F = nss := fun F hF => by
      rw [eq, List.map_map]
      apply List.ext_getElem?
      intro j
      rw [List.getElem?_map]
      cases hj : ks[j]? with
      | none => rw [List.getElem?_eq_none (by have := List.getElem?_eq_none_iff.mp hj; omega)]; rfl
      | some x => rw [hF j x hj]; rfl
    refine (a1.map _).trans (List.Perm.of_eq (all _ fun j x hj => ?_))
    obtain ⟨ns, h1, h2⟩ := row j x hj
    obtain ⟨_, ws, rv, it⟩ := (show ObjOk X.prog X.w H (h'.push (seqObj "list" vs.toArray 0)) x.2.1 (.tup (ns.map V.int)) from I2.hok _ _ h2)
    rw [h1]
    exact congrArg some (show TS.TupInts (h'.push (seqObj "list" vs.toArray 0)) (.ref x.2.1) ns from ⟨_, ws.toArray, rfl, it, by simpa using rv.ints⟩).ints.symm
  · rw [e1, List.pairwise_map] at a2
    have e5 : ∀ q ∈ L, TS.intsOf (h'.push (seqObj "list" vs.toArray 0)) (.ref q.1) = q.2 := fun q hq => by
      obtain ⟨_, ws, rv, it⟩ := (show ObjOk X.prog X.w H (h'.push (seqObj "list" vs.toArray 0)) q.1 (.tup (q.2.map V.int)) from I2.hok _ _ (e3 q hq))
      exact (show TS.TupInts (h'.push (seqObj "list" vs.toArray 0)) (.ref q.1) q.2 from ⟨_, ws.toArray, rfl, it, by simpa using rv.ints⟩).ints
    refine List.Pairwise.imp_of_mem (fun {x y} hx hy hle => ?_) a2
    rw [← e5 x hx, ← e5 y hy]
    exact hle
end
end L2

set_option Elab.async false
set_option maxRecDepth 100000
set_option maxHeartbeats 4000000
namespace L2
open PySem PySem.Spec PyProof.Rows
set_option linter.unusedVariables false
/-! set(xs), xs a list of ints, as a set that can be sorted -/
section
variable {P : Program} {w : World} {A : Around} {E : Value → Shared → Prop} {s : Shared}
theorem set_of_list {l : Addr} {items : Array Value} (ns : List Int) {Q : Value → Shared → Prop} (hh : A.handled = none) (hl : s.heap.IsList l items) (hit : IntsAre items.toList ns) (hb : ns.length + 1 < scanBound)
    (h : ∀ (h' : Heap) (tk c : Nat), SetR w h' s.heap.objs.size (fun j => decide (j ∈ ns)) c → c ≤ ns.length → (∀ b o, s.heap.get? b = some o → h'.get? b = some o) → Q (.ref s.heap.objs.size) { s with heap := h', toks := tk }) :
    wpAny (model P w) A (call (.type "set") [.ref l]) Q E s := by
  have sizes : items.size = ns.length := by rw [← Array.length_toList]; exact IntsAre.length hit
  obtain ⟨c, tl, hmro⟩ := F.called_set.mro
  have hmade := F.called_set.made
  have hsub := F.called_set.sub
  refine wpAny_call (codeAny_of_tree ?_)
  show wpAny (model P w) _ (callAny (.type "set") _) _ _ s
  refine wpAny_pure ⟨Code.quiet_builtin _ (by decide +kernel), codeAny_builtin F.entry_type_call ?_⟩
  rw [Around.under_plain (weight_type_call_type "set" [.ref l] []) rfl]
  have h1 := F.called_set.notType
  have h2 := F.called_set.canCreate
  have hct := F.typeCall_set_1 (.ref l)
  repeat (any_goals (first | assumption | wp_step))
  refine codeAny_mono (code_set_led1 (.ref l) (E := E) (Q₁ := fun obj s₁ => obj = .ref s.heap.objs.size ∧ s₁ = { s with heap := s.heap.push (bareSet w) }) ⟨rfl, rfl⟩) fun r s₁ hr => ?_
  match r, hr with
  | .error e, hr => exact hr
  | .ok .next, hr | .ok .brk, hr | .ok .cont, hr => exact hr.elim
  | .ok (.ret obj), hr =>
    obtain ⟨rfl, rfl⟩ := hr
    have laid : (s.heap.push (bareSet w)).get? s.heap.objs.size = some (bareSet w) := Heap.get?_push_size _ rfl
    have hT : Shared.TypeIs { s with heap := s.heap.push (bareSet w) } (.ref s.heap.objs.size) "set" := ⟨_, laid, rfl⟩
    have hli := F.called_set.init.lookup
    have hbi := F.called_set.init.bind (.ref s.heap.objs.size)
    repeat (any_goals (first | assumption | wp_step))
    refine codeAny_mono (codeAny_call_builtin (R := wants (fun r s₂ => r = .none ∧ ∃ h' tk c, s₂ = { s with heap := h', toks := tk } ∧ SetR w h' s.heap.objs.size (fun j => decide (j ∈ ns)) c ∧ c ≤ ns.length ∧
        (∀ b o, s.heap.get? b = some o → h'.get? b = some o)) E) F.called_set.init.plain F.entry_set_init (check_set_init_1 hT ?_)) fun r₂ s₂ hr₂ => ?_
    · obtain ⟨⟨ocls, odict, odata, oslots⟩, hol, hcl, nl, hdl⟩ := hl
      simp only at hcl hdl
      subst hcl; subst hdl
      have lS : l < s.heap.objs.size := Heap.lt_size hol
      have hol' : (s.heap.push (bareSet w)).get? l = some { cls := .type "list", dict := odict, data := .seq items nl, slots := oslots } := Heap.get?_push_of_some _ hol
      have hsls := F.sub_list_set
      have hslf := F.sub_list_frozenset
      have hne : (Value.type "list" == Value.type "dict") = false := by decide
      have hl1 : (s.heap.push (bareSet w)).IsList l items := ⟨_, hol', rfl, nl, rfl⟩
      unfold Builtin.«set.__init__» noKeywords Builtin.Frozenset.updateFrom
      generalize hPI : pyIter = PI
      wp_walk
      subst hPI
      refine wpAny_pyIter_list hl1 ?_
      refine wpAny_bind (wpAny_runValue ?_)
      have hh3 : A.in1.in1.in1.handled = none := by simp [hh]
      have pz : (s.heap.push (bareSet w)).objs.size = s.heap.objs.size + 1 := Heap.size_push ..
      have hneI : l ≠ (s.heap.push (bareSet w)).objs.size := by rw [pz]; exact Nat.ne_of_lt (Nat.lt_succ_of_lt lS)
      have away : s.heap.objs.size ∉ [(s.heap.push (bareSet w)).objs.size, l] := by
        rw [pz]; simp only [List.mem_cons, List.not_mem_nil, or_false, not_or]
        exact ⟨Nat.ne_of_lt (Nat.lt_succ_self _), Nat.ne_of_gt lS⟩
      have hval : ∀ (i : Nat) (v : Value), items[i]? = some v → ∃ k t, ns[i]? = some k ∧ v = .int k t := fun i v hv => by
        have hi : i < ns.length := by rw [← sizes]; exact (Array.getElem?_eq_some_iff.mp hv).1
        obtain ⟨t, e⟩ := IntsAre.int_at hit i v (by rw [Array.getElem?_toList]; exact hv)
        refine ⟨ns[i], t, List.getElem?_eq_getElem hi, ?_⟩
        rw [e, List.getD_eq_getElem?_getD, List.getElem?_eq_getElem hi]
        rfl
      refine set_update_ints ((Walks.list hh3 _ l hneI items).toS) s.heap.objs.size away ns sizes hb hval (items.size - 0) 0 _ (by omega) (Nat.zero_le _) ⟨⟨_, Heap.get?_push_size _ rfl, rfl, rfl⟩, (hl1.push _)⟩ ⟨0, Nat.le_refl 0, setR_new_at (Heap.get?_push_of_some _ laid)⟩ ?_
      intro s' c' hm hc' hS'
      obtain ⟨h', g2, d', tk', os'⟩ := s'
      cases (hm.gens : g2 = s.gens); cases (hm.drawn : d' = s.drawn); cases (hm.os : os' = s.os)
      show wpAny (model P w) _ _ _ _ _
      refine wpAny_pure ?_
      show wpAny (model P w) _ (ret Value.none) _ _ _
      rw [sizes] at hc'
      refine wpAny_pure ⟨rfl, h', tk', c', rfl, hS', hc', fun b o e => ?_⟩
      have b0 : b < s.heap.objs.size := Heap.lt_size e
      have b2 : b ≠ (s.heap.push (bareSet w)).objs.size := by rw [pz]; exact Nat.ne_of_lt (Nat.lt_succ_of_lt b0)
      exact hm.heap b o (by simp only [List.mem_cons, List.not_mem_nil, or_false, not_or]; exact ⟨Nat.ne_of_lt b0, b2⟩) (Heap.get?_push_of_some _ (Heap.get?_push_of_some _ e))
    · match r₂, hr₂ with
      | .error e, hr₂ => exact hr₂
      | .ok .next, hr₂ | .ok .brk, hr₂ | .ok .cont, hr₂ => exact hr₂.elim
      | .ok (.ret r), hr₂ =>
        obtain ⟨rfl, h', tk, c', rfl, hS', hc', hk'⟩ := hr₂
        repeat (any_goals (first | assumption | wp_step))
        exact h _ _ _ hS' hc' hk'
end
section
variable {X : Cx}
/-- set(xs), xs a list of ints -/
def rSetOfI (K : PySem.W.Frag) (w : World) : List V → Hp → VK → Prop := fun vs H Q => ∃ (l : Addr) (ns : List Int), vs = [V.ref l] ∧ SqL K H l (ns.map V.int) ∧ ns.length ≤ 1000 ∧
  ∀ (a : Addr) (c : Nat), H a = none → c ≤ ns.length → Q (.ref a) (upd H a (SetO w a (fun j => decide (j ∈ ns)) c))
theorem cr_setOfI (hc : X.calm = true) : CallR X (.type "set") (rSetOfI X.K X.w) := by
  intro pins s σ H vs us Q I r h
  obtain ⟨l, ns, rfl, hl, few, q⟩ := h
  rw [Vals.ref1 r]
  obtain ⟨its, rv, pl, hz⟩ := I.list hl
  refine set_of_list ns (I.ok.hd hc) pl.isList (by simpa using rv.ints) (by unfold scanBound; omega) fun h' tk c R hle kept => ?_
  exact ⟨.ref s.heap.objs.size, upd H s.heap.objs.size (SetO X.w s.heap.objs.size (fun j => decide (j ∈ ns)) c), I.laid (t' := tk) kept (Nat.le_refl _) (setO_new R), rfl, q _ c (I.hok.fresh (Nat.le_refl _)) hle⟩
end
end L2

set_option Elab.async false
set_option maxRecDepth 100000
set_option maxHeartbeats 4000000
namespace L2
open PySem PySem.Spec PyProof.Rows
set_option linter.unusedVariables false
/-! d.clear() of a dict with tuple keys -/
def rClearT : V → List V → Hp → VK → Prop := fun x vs H Q => ∃ (a : Addr) (kvs : List (List Key × V)), x = .ref a ∧ vs = [] ∧ H a = some (.dT kvs) ∧ Q .non (upd H a (.dT []))
theorem mt_clearT {X : Cx} : MtR X "dict.clear" rClearT := by
  intro pins s σ H x vs v us Q I rx rv h
  obtain ⟨a, kvs, ex, ev, e, q⟩ := h
  subst ex
  subst ev
  obtain rfl : v = Value.ref a := rx
  have hus := rv.zero
  subst hus
  obtain ⟨hz, notSys, ks, pairs, o, es, ep, ho, hx, hdt, rows, nd⟩ := (show ObjOk X.prog X.w H s.heap a (.dT kvs) from I.hok a _ e)
  have l1 : es.size = ks.length := size_of_entries rows
  have l2 : kvs.length = ks.length := Paired.length pairs
  have raw : s.heap.DictRaw a es ep := ⟨o, ho, hx, hdt⟩
  refine call_meetsIn PySem.F.slot_dict_clear raw.typeIs PySem.F.entry_dict_clear (PySem.F.args_dict_clear_1 _) (meets_dict_clear_raw a) ⟨es, ep, raw, by omega, fun h' dd' hs => ?_⟩
  obtain ⟨o', h1, h2, h3⟩ := dd'
  refine ⟨.non, _, d_write (ob := .dT []) (t' := s.toks) I (by rw [e]; exact True.intro) hs ⟨o', h1⟩ ⟨Nat.zero_le _, notSys, [], .nil, o', #[], ep + 1, h1, h2, h3, rfl, List.nodup_nil⟩, rfl, q⟩
end L2

set_option Elab.async false
set_option maxRecDepth 100000
set_option maxHeartbeats 4000000
namespace L2
open PySem PySem.Spec PyProof.Rows PpSet
set_option linter.unusedVariables false
/-! a display with tuples as keys -/
/-- the pairs that were made, as keys and values -/
abbrev PDt (H : Hp) : List (V × V) → List (List Key × V) → Prop := Paired fun p q => (∃ b, p.1 = .ref b ∧ H b = some (.tup (q.1.map kV))) ∧ p.2 = q.2
def mergeT (kvs more : List (List Key × V)) : List (List Key × V) := more.foldl (fun acc kv => putK acc kv.1 kv.2) kvs
theorem length_mergeT : ∀ (more kvs : List (List Key × V)), (mergeT kvs more).length ≤ kvs.length + more.length
  | [], kvs => by show kvs.length ≤ kvs.length + 0; omega
  | p :: r, kvs => by
    have a := length_mergeT r (putK kvs p.1 p.2)
    have b := length_putK kvs p.1 p.2
    show (mergeT (putK kvs p.1 p.2) r).length ≤ _
    rw [List.length_cons]; omega
theorem KT.merge {H : Hp} : ∀ {more : List (List Key × V)} {rs : List (List Key × Addr × Value)} {kvs : List (List Key × V)} {xs : List (List Key × Addr × Value)}, KT H more rs → KT H kvs xs → KT H (mergeT kvs more) (storedAllH xs rs) := by
  intro more rs kvs xs r
  unfold KT at r
  induction r generalizing kvs xs with
  | nil => intro q; exact q
  | @cons p q ps qs h t ih =>
    intro r0
    have e : KT H (putK kvs p.1 p.2) (storedH xs q.1 q.2.1 q.2.2) := by
      rw [← h.1]
      exact r0.put p.1 h.2.1 h.2.2
    exact ih e
theorem carriesT_of {P : Program} {w : World} {H : Hp} {h : Heap} (ok : HOk P w H h) : ∀ {ps : List (V × V)} {kvs : List (List Key × V)} {ws : List (Value × Value)}, VV ps ws → PDt H ps kvs → ∃ rs, CarriesH (tupleKind (mixKind P w)) h ws rs ∧ KT H kvs rs := by
  intro ps kvs ws r
  induction r generalizing kvs with
  | nil =>
    intro q
    cases q
    exact ⟨[], True.intro, .nil⟩
  | @cons p v ps vs hv t ih =>
    intro q
    cases q with
    | @cons _ kv _ kvs hk tk =>
      obtain ⟨rs, c, z⟩ := ih tk
      obtain ⟨⟨b, e1, hb⟩, e2⟩ := hk
      obtain ⟨v1, v2⟩ := v
      obtain ⟨r1, r2⟩ := hv
      rw [e1] at r1
      cases (show v1 = Value.ref b from r1)
      exact ⟨(kv.1, b, v2) :: rs, ⟨rfl, rfl, key_of ok hb, c⟩, .cons ⟨rfl, hb, e2 ▸ r2⟩ z⟩
/-- {(a, b): v, ..}; the new dict stands empty while the pairs are made -/
def tDispT (trs : List (TE × TE)) : TE := fun σ H Q => ∀ p, H p = none → tPairs trs σ (upd H p (.dT [])) fun ps H2 => H2 p = some (.dT []) ∧ ∃ kvs : List (List Key × V), PDt H2 ps kvs ∧ kvs.length ≤ 15 ∧ Q (.ref p) (upd H2 p (.dT (mergeT [] kvs)))
theorem pe_dispT {X : Cx} {pos : Pos} {keys : List (Option Expr)} {values : List Expr} {trs : List (TE × TE)} (hu : X.A.units + 1 < cLine) (h : PPs X pos keys values trs) (hall : keys.all (·.isSome) = true) (hl : keys.length = values.length) (h0 : keys ≠ [])
    (h15 : keys.length ≤ 15) : PE X (.Dict keys values pos) (tDispT trs) := by
  refine ⟨fun pins s σ H Q I q => ?_⟩
  have hn := I.hok.fresh (Nat.le_refl s.heap.objs.size)
  have I1 := I.laid (a := s.heap.objs.size) (o := .dT []) (h' := s.heap.push { cls := .type "dict", data := .dict #[] }) (t' := s.toks) (fun _ _ q => Heap.get?_push_of_some _ q) (Nat.le_refl _) (dt_empty s.heap I.big)
  have hlen := pairTrees_length keys values X.env pos hall hl
  have hne : pairTrees keys values X.env pos ≠ [] := fun he => by
    rw [he] at hlen
    exact h0 (List.length_eq_zero_iff.mp hlen.symm)
  rw [arm_eval_Dict, zip_pairTrees keys values X.env pos hall hl, dictDisplay_pairs _ hne (by omega)]
  refine wpAny_bind (wpAny_standAt (wpAny_bind (wpAny_subDictH (knd := tupleKind (mixKind X.prog X.w)) (show X.A.units < cLine by omega) (by omega) (thn (h.run pins _ σ _ _ I1 (q _ hn)) fun ws s2 ⟨ps, H2, I2, rel, e, kvs, pt, lk, q2⟩ => ?_))))
  obtain ⟨rs, c, rk⟩ := carriesT_of I2.hok rel pt
  obtain ⟨z, hd, vs0, r0, dd⟩ := dt_of I2.hok e
  cases r0
  refine ⟨rs, c, dd, fun h' tk dd' hs => wpAny_pure ⟨.ref s.heap.objs.size, _, ?_, rfl, q2⟩⟩
  have hz : (mergeT [] kvs).length ≤ sizeLine := by
    have h1 := length_mergeT kvs []
    rw [List.length_nil] at h1
    rw [sizeLine_eq]; omega
  obtain ⟨o, es, ep, ho, h2, h3, h4, _, h5⟩ := dd'
  refine d_write I2 (by rw [e]; exact True.intro) hs ⟨o, ho⟩ ⟨hz, hd, _, (rk.merge .nil).keeps fun c ys ec => ?_, o, es, ep, ho, h2, h3, h4, h5⟩
  rw [upd_ne (ne_of ec e (fun z => nomatch z))]
  exact ec
end L2

set_option Elab.async false
set_option maxRecDepth 100000
set_option maxHeartbeats 4000000
namespace L2
open PySem PySem.Spec PyProof.Rows
set_option linter.unusedVariables false
/-! t in s, s a set of tuples of ints that stands still -/
section
variable {P : Program} {w : World} {A : Around} {E : Value → Shared → Prop} {s : Shared}
variable {a : Addr} {L : List (Addr × List Int)} {es : Array (Int × Value)} {ep : Nat} {t : SetTable}
theorem nth_dummy (m : Nat) : ∀ (c : Nat) (q : SetTable.Probe), q.dummy = none → (nth m q c).dummy = none
  | 0, q, e => e
  | c + 1, q, e => nth_dummy m c (adv m q) (by unfold adv; split <;> exact e)
theorem seek {x : Addr} {k : List Int} (R : SetTR P w s.heap a L es ep t) (mine : IsT P w s.heap k x) (few : A.units < cLine) {end_ : Nat} {Q : SetFound → Shared → Prop}
    (ends : end_ < 10 * SetTable.turns t.mask) (free : way t.mask (thash P w k) end_ ∉ t.place.toList) (full : ∀ c, c < end_ → way t.mask (thash P w k) c ∈ t.place.toList)
    (yes : k ∈ L.map (·.2) → ∀ i, Q (.there (some i)) s) (no : k ∉ L.map (·.2) → ∀ j, Q (.free j false) s) :
    ∀ (fuel c : Nat) (at_ : Option SetTable.Probe), at_.getD (t.probeStart (thash P w k)) = nth t.mask (t.probeStart (thash P w k)) c → c ≤ end_ → end_ - c < fuel →
      (∀ (i : Nat) q, L[i]? = some q → q.2 = k → ∃ d, c ≤ d ∧ d < end_ ∧ t.place.toList[i]? = some (way t.mask (thash P w k) d)) →
      wpAny (model P w) A (setSearchFrom a (.ref x) (thash P w k) false fuel at_) Q E s := by
  intro fuel
  induction fuel with
  | zero => exact fun c at_ _ _ lt _ => absurd lt (Nat.not_lt_zero _)
  | succ n again =>
    intro c at_ here cle lt ahead
    obtain ⟨ob, got, exact_, dat⟩ := R.ob
    rw [setSearchFrom_succ]
    apply wpAny_bind
    apply wpAny_setState_of got dat R.fits
    dsimp only
    apply wp_if_neg R.gw
    try (apply wpAny_bind; apply wpAny_pure)
    have plain0 := nth_dummy t.mask c (t.probeStart (thash P w k)) rfl
    have join : ∀ d, nth t.mask (nth t.mask (t.probeStart (thash P w k)) c) d = nth t.mask (t.probeStart (thash P w k)) (c + d) := fun d => (nth_add t.mask c _ d).symm
    have spot : ∀ d, (nth t.mask (nth t.mask (t.probeStart (thash P w k)) c) d).j = way t.mask (thash P w k) (c + d) := fun d => congrArg (·.j) (join d)
    have hash_ : ∀ (i : Nat) q, L[i]? = some q → ((es[i]?.map (·.1)).getD 0) = thash P w q.2 := fun i q e => by
      rw [R.entry e] <;> rfl
    rcases go_spec t R.tab.ris R.tab.dm (fun i => (es[i]?.map (·.1)).getD 0) (thash P w k) (10 * SetTable.turns t.mask) (end_ - c) _ plain0 (by omega) (fun d lt => by rw [spot]; exact full _ (by omega)) (by rw [spot, Nat.add_sub_cancel' cle]; exact free) with ⟨d, i, dlt, at_i, hi, before, probe⟩ | ⟨before, probe⟩
    · rw [spot] at at_i probe
      rw [join] at probe
      have probe' : t.probe (fun i => (es[i]?.map (·.1)).getD 0) (thash P w k) (at_.getD (t.probeStart (thash P w k))) = some (.candidate (way t.mask (thash P w k) (c + d)) i (nth t.mask (t.probeStart (thash P w k)) (c + (d + 1)))) := by rw [here]; exact probe
      rw [probe']
      dsimp only
      have il : i < L.length := by
        have z1 := (List.getElem?_eq_some_iff.mp at_i).1
        have z2 := R.tab.sz
        rw [List.length_map] at z2
        rwa [Array.length_toList, z2] at z1
      obtain ⟨q, eq⟩ : ∃ q, L[i]? = some q := ⟨_, List.getElem?_eq_getElem il⟩
      have qm := List.mem_of_getElem? eq
      have inner : wpAny (model P w) A (searchRest a (.ref x) (thash P w k) false n es t (way t.mask (thash P w k) (c + d)) i (nth t.mask (t.probeStart (thash P w k)) (c + (d + 1)))) Q E s := by
        unfold searchRest
        rw [R.entry eq]
        dsimp only
        apply wpAny_bind
        apply wpAny_holding
        apply wpAny_eqBool_tuple few (R.tup q qm) mine
        apply wpAny_bind
        apply wpAny_setState_of got dat R.fits
        dsimp only
        apply wp_if_neg (by simp)
        try (apply wpAny_bind; apply wpAny_pure)
        rw [sameMem]
        dsimp only
        have live := slot_live R.tab.ris at_i
        simp only [if_true, live, R.entry eq]
        apply wpAny_bind
        apply wpAny_isSame_ref_self
        apply wpAny_bind
        apply wpAny_pure
        simp only [if_true]
        by_cases same : q.2 = k
        · apply wp_if_pos (by simp [same])
          exact wpAny_pure (yes (List.mem_map.mpr ⟨q, qm, same⟩) i)
        · apply wp_if_neg (by simp [same])
          apply again (c + (d + 1)) _ rfl (by omega) (by omega)
          intro i0 q0 e0 k0
          obtain ⟨d', l1, l2, l3⟩ := ahead i0 q0 e0 k0
          refine ⟨d', ?_, l2, l3⟩
          by_cases z : d' < c + d
          · refine absurd ((hash_ i0 q0 e0).trans (congrArg (thash P w) k0)) (before (d' - c) i0 (by omega) ?_)
            rw [spot, Nat.add_sub_cancel' l1]
            exact l3
          · by_cases y : d' = c + d
            · exfalso
              rw [y] at l3
              have live0 := slot_live R.tab.ris l3
              rw [live] at live0
              injection live0 with live0
              rw [← live0, eq] at e0
              cases e0
              exact same k0
            · omega
      by_cases led : t.led = true
      · apply wp_if_neg (by simp [led])
        try (apply wpAny_bind; apply wpAny_pure)
        exact inner
      · apply wp_if_pos (by simp [led])
        apply wpAny_bind
        apply seen_tup mine
        · intro y hy
          obtain ⟨e, me, rfl⟩ := List.mem_map.mp hy
          have me1 : e ∈ es.toList := (show e ∈ es ∧ _ by simpa using me).1.val
          rw [R.rows] at me1
          obtain ⟨q2, m2, rfl⟩ := List.mem_map.mp me1
          exact ⟨q2.2, q2.1, rfl, R.tup q2 m2⟩
        · apply wp_if_neg (by decide)
          try (apply wpAny_bind; apply wpAny_pure)
          exact inner
    · have probe' : t.probe (fun i => (es[i]?.map (·.1)).getD 0) (thash P w k) (at_.getD (t.probeStart (thash P w k))) = some (.empty (nth t.mask (nth t.mask (t.probeStart (thash P w k)) c) (end_ - c)).j none) := by rw [here]; exact probe
      rw [probe']
      dsimp only
      apply wpAny_pure
      apply no
      intro hm
      obtain ⟨q0, m0, k0⟩ := List.mem_map.mp hm
      obtain ⟨i0, e0⟩ := List.getElem?_of_mem m0
      obtain ⟨d', l1, l2, l3⟩ := ahead i0 q0 e0 k0
      refine before (d' - c) i0 (by omega) ?_ ((hash_ i0 q0 e0).trans (congrArg (thash P w) k0))
      rw [spot, Nat.add_sub_cancel' l1]
      exact l3
theorem seek_all {x : Addr} {k : List Int} (R : SetTR P w s.heap a L es ep t) (mine : IsT P w s.heap k x) (few : A.units < cLine) {Q : SetFound → Shared → Prop}
    (yes : k ∈ L.map (·.2) → ∀ i, Q (.there (some i)) s) (no : k ∉ L.map (·.2) → ∀ j, Q (.free j false) s) : wpAny (model P w) A (setSearch a (.ref x) (thash P w k)) Q E s := by
  have room := R.room
  obtain ⟨end_, ends, free, full⟩ := R.tab.first (by rw [List.length_map]; omega) (thash P w k)
  have turns : 10 * SetTable.turns t.mask ≤ 1420 := by
    unfold SetTable.turns
    rcases R.tab.mok with z | z | z <;> omega
  unfold setSearch
  apply seek R mine few ends free full yes no 100000 0 none rfl (Nat.zero_le _) (by omega)
  intro i q e hk
  have e' : (L.map fun p => thash P w p.2)[i]? = some (thash P w k) := by rw [List.getElem?_map, e, ← hk] <;> rfl
  have il : i < t.place.toList.length := by
    have z1 := (List.getElem?_eq_some_iff.mp e).1
    have z2 := R.tab.sz
    rw [List.length_map] at z2
    rw [Array.length_toList]
    omega
  obtain ⟨d, dlt, de⟩ := R.tab.before free e' (List.getElem?_eq_getElem il)
  exact ⟨d, Nat.zero_le _, dlt, by rw [List.getElem?_eq_getElem il, de]⟩
theorem find_tup {x : Addr} {k : List Int} (R : SetTR P w s.heap a L es ep t) (mine : IsT P w s.heap k x) (few : A.units < cLine) {Q : Option Nat → Shared → Prop} (h : ∀ r : Option Nat, r.isSome = decide (k ∈ L.map (·.2)) → Q r s) :
    wpAny (model P w) A (setFind a (.ref x) (thash P w k)) Q E s := by
  obtain ⟨ob, got, exact_, dat⟩ := R.ob
  unfold setFind setFindIn
  apply wpAny_bind
  apply wpAny_setState_of got dat R.fits
  dsimp only
  apply wp_if_neg (by simp [byScan, Value.scannable])
  try (apply wpAny_bind; apply wpAny_pure)
  apply wpAny_bind
  apply seek_all R mine few
  · intro m i
    exact wpAny_pure (h (some i) (by rw [decide_eq_true m]; rfl))
  · intro m j
    exact wpAny_pure (h none (by rw [decide_eq_false m]; rfl))
theorem holds_tup (neg : Bool) {x : Addr} {k : List Int} (R : SetTR P w s.heap a L es ep t) (mine : IsT P w s.heap k x) (few : A.units + 64 < cLine) {Q : Value → Shared → Prop} (h : ∀ tk, Q (.bool (if neg = true then !decide (k ∈ L.map (·.2)) else decide (k ∈ L.map (·.2)))) { s with toks := tk }) :
    wpAny (model P w) A (compareOp (if neg = true then .NotIn else .In) (.ref x) (.ref a)) Q E s := by
  have isSet : s.TypeIs (.ref a) "set" := by
    obtain ⟨ob, got, exact_, _⟩ := R.ob
    exact ⟨ob, got, exact_.1⟩
  have core : ∀ {Q' : Bool → Shared → Prop}, (∀ tk, Q' (decide (k ∈ L.map (·.2))) { s with toks := tk }) → wpAny (model P w) A (contains (.ref a) (.ref x)) Q' E s := by
    intro Q' h'
    unfold contains
    try with_reducible apply wpAny_holding
    apply wpAny_bind
    apply wpAny_specialOf isSet F.slot_set_contains.lookup
    show wpAny _ _ (if (some (Value.builtin "set.__contains__") == some Value.none) = true then _ else _) _ E s
    rw [if_neg (by rw [beq_builtin_none]; decide)]
    apply wpAny_bind
    apply wpAny_callSpecialUnlessNone?_slot (name := Str.ofString "__contains__") isSet F.slot_set_contains
    apply wpAny_call_entry F.slot_set_contains isSet entry_set_contains ?_ (F.args_set_contains_2 _ _)
    unfold Builtin.«frozenset.__contains__» Builtin.Frozenset.oneOther
    simp only [List.isEmpty_nil, bind_assoc]
    unfold Builtin.Frozenset.addrOf Builtin.Frozenset.withSetAsKey setContains
    apply wpAny_bind
    apply wpAny_pure
    try dsimp only
    apply wpAny_bind
    apply wpAny_pure
    try dsimp only
    apply wpAny_bind
    apply wpAny_tryCatch
    apply wpAny_holding
    apply wpAny_bind
    apply wpAny_pyHash_tuple ?_ mine
    apply wpAny_bind
    apply find_tup (s := { s with toks := s.toks + (k.length + 1) }) R mine ?_
    · intro r er
      apply wpAny_pure
      show wpAny _ _ (ret (Value.bool r.isSome)) _ _ _
      rw [er]
      exact wpAny_pure ⟨_, rfl, wpAny_truthy_bool (h' _)⟩
    all_goals (show A.units + 1 < cLine; omega)
  cases neg with
  | true =>
    show wpAny _ _ (do return .bool (!(← contains (.ref a) (.ref x)))) Q E s
    apply wpAny_bind
    exact core fun tk => wpAny_pure (h tk)
  | false =>
    show wpAny _ _ (do return .bool (← contains (.ref a) (.ref x))) Q E s
    apply wpAny_bind
    exact core fun tk => wpAny_pure (h tk)
end
section
variable {X : Cx}
/-- x in s, s a set of tuples of ints -/
def rInSetT (neg : Bool) (K : PySem.W.Frag) (P : Program) (w : World) : R2 := fun x y H Q => ∃ (b a : Addr) (k : List Int) (L : List (Addr × List Int)), x = .ref b ∧ y = .ref a ∧ SqT K H b (k.map V.int) ∧ H a = some (SetTO P w a L) ∧ (∀ q ∈ L, SqT K H q.1 (q.2.map V.int)) ∧ Q (.bl (if neg = true then !decide (k ∈ L.map (·.2)) else decide (k ∈ L.map (·.2)))) H
theorem or_setT (neg : Bool) (hu : X.A.units + 64 < cLine) : OpR X (compareOp (if neg = true then .NotIn else .In)) (rInSetT neg X.K X.prog X.w) := by
  intro pins s σ H x y v u Q I rx ry h
  obtain ⟨b, a, k, L, rfl, rfl, tup, isSet, rows, q⟩ := h
  cases rx
  cases ry
  have R0 : SetT0 X.prog X.w s.heap a L := (I.hok a _ isSet).1
  obtain ⟨es, ep, t, R⟩ := R0.full fun p hp => I.isT (rows p hp)
  exact holds_tup neg R (I.isT tup) hu fun tk => ⟨.bl _, H, I.tok tk, rfl, q⟩
theorem op_inSetT (hu : X.A.units + 64 < cLine) : OpR X (compareOp .In) (rInSetT false X.K X.prog X.w) := or_setT false hu
theorem op_notInSetT (hu : X.A.units + 64 < cLine) : OpR X (compareOp .NotIn) (rInSetT true X.K X.prog X.w) := or_setT true hu
end
end L2

set_option Elab.async false
set_option maxRecDepth 100000
set_option maxHeartbeats 4000000
namespace L2
open PySem PySem.Spec PyProof.Rows
set_option linter.unusedVariables false
/-! data in which dicts with tuple keys may stand -/
def keyD1 : Key → PyData
  | .inl i => .int i
  | .inr s => .str s
def keyD (k : List Key) : PyData := .tuple (k.map keyD1)
mutual
inductive DX (K : PySem.W.Frag) (H : Hp) : V → PyData → Prop
  | flat {v : V} {d : PyData} : Dp K H v d → d.hasDict = false → DX K H v d
  | lst {a : Addr} {xs : List V} {ds : List PyData} : SqL K H a xs → DXs K H xs ds → DX K H (.ref a) (.list ds)
  | tup {a : Addr} {xs : List V} {ds : List PyData} : SqT K H a xs → DXs K H xs ds → DX K H (.ref a) (.tuple ds)
  | dic {a : Addr} {kvs : List (List Key × V)} {vs : List V} {ds : List PyData} {es : List (PyData × PyData)} : H a = some (.dT kvs) → vs = kvs.map (·.2) → DXs K H vs ds → es.map (·.1) = kvs.map (fun kv => keyD kv.1) → es.map (·.2) = ds → DX K H (.ref a) (.dict es)
inductive DXs (K : PySem.W.Frag) (H : Hp) : List V → List PyData → Prop
  | nil : DXs K H [] []
  | cons {v : V} {vs : List V} {d : PyData} {ds : List PyData} : DX K H v d → DXs K H vs ds → DXs K H (v :: vs) (d :: ds)
end
theorem keyD1_dp {K : PySem.W.Frag} {H : Hp} : ∀ k : List Key, DpAll K H (k.map kV) (k.map keyD1)
  | [] => .nil
  | .inl i :: k => .cons (.int i) (keyD1_dp k)
  | .inr s :: k => .cons (.str s) (keyD1_dp k)
theorem keyD1_no : ∀ k : List Key, PyData.hasDictAll (k.map keyD1) = false
  | [] => rfl
  | .inl i :: k => by
    show (false || PyData.hasDictAll (k.map keyD1)) = false
    rw [keyD1_no k]
    rfl
  | .inr s :: k => by
    show (false || PyData.hasDictAll (k.map keyD1)) = false
    rw [keyD1_no k]
    rfl
section
variable {X : Cx} {pins : List (Addr × Obj)} {σ : L2.St} {H : Hp} {s : Shared}
/-- what may be shown of a value -/
def Shw (P : Program) (w : World) (h : Heap) (u : Value) (d : PyData) : Prop := (∃ as, Reads h u d as) ∧ (d.showable = true → d.shown.length ≤ sizeLine → ∃ bs, ReadAtMost h d.depth bs ∧ ReprK P w bs h d.depth u d.shown)
def ShwS (P : Program) (w : World) (h : Heap) (us : List Value) (ds : List PyData) : Prop := (∃ as, ReadsAll h us ds as) ∧ (PyData.showableAll ds = true → (∀ t ∈ PyData.shownAll ds, t.length ≤ sizeLine) → ∃ bs, ReadAtMost h (PyData.depthAll ds) bs ∧ ReprAllK P w bs h (PyData.depthAll ds) us (PyData.shownAll ds))
theorem shw_nil {P : Program} {w : World} {h : Heap} : ShwS P w h [] [] := ⟨⟨_, .nil⟩, fun _ _ => ⟨[], fun _ m => (nomatch m), by rw [PyData.shownAll]; exact .nil⟩⟩
theorem shw_cons {P : Program} {w : World} {h : Heap} {u : Value} {us : List Value} {d : PyData} {ds : List PyData} (a : Shw P w h u d) (b : ShwS P w h us ds) : ShwS P w h (u :: us) (d :: ds) := by
  obtain ⟨⟨as, ra⟩, ga⟩ := a
  obtain ⟨⟨bs, rb⟩, gb⟩ := b
  refine ⟨⟨_, .cons ra rb⟩, fun hs hz => ?_⟩
  rw [PyData.showableAll, Bool.and_eq_true] at hs
  rw [PyData.shownAll] at hz
  obtain ⟨p, p1, p2⟩ := ga hs.1 (hz _ List.mem_cons_self)
  obtain ⟨q, q1, q2⟩ := gb hs.2 fun t m => hz t (List.mem_cons_of_mem _ m)
  rw [PyData.depthAll, PyData.shownAll]
  exact ⟨p ++ q, (p1.mono (Nat.le_max_left _ _)).append (q1.mono (Nat.le_max_right _ _)), .cons ((p2.more fun _ m => List.mem_append_left _ m).level_le (Nat.le_max_left _ _)) (q2.more_le (fun _ m => List.mem_append_right _ m) (Nat.le_max_right _ _))⟩
theorem shw_seq {P : Program} {w : World} {h : Heap} {u : Value} {d : PyData} {as : List Addr} (r : Reads h u d as) (n : d.hasDict = false) : Shw P w h u d := ⟨⟨as, r⟩, fun hs hz => ReprK.of_reads r hs (PyData.noDict_hsm n) hz⟩
theorem shw_lst {P : Program} {w : World} {h : Heap} {a : Addr} {o : Obj} {its : Array Value} {n : Nat} {ds : List PyData} (ha : h.get? a = some o) (hc : o.cls = .type "list") (hd : o.data = .seq its n) (g : ShwS P w h its.toList ds) : Shw P w h (.ref a) (.list ds) := by
  obtain ⟨⟨as, ra⟩, g⟩ := g
  have rd : Reads h (.ref a) (.list ds) _ := .list ha hc hd ra
  refine ⟨⟨_, rd⟩, fun hs hz => ?_⟩
  rw [PyData.showable] at hs
  rw [PyData.shown] at hz ⊢
  obtain ⟨bs, b1, b2⟩ := g hs fun t m => Nat.le_trans (listText_mem_le m) hz
  have out : a ∉ bs := not_mem_of_deeper rd (by rw [PyData.depth]; omega) b1
  refine ⟨a :: bs, b1.cons rd (by rw [PyData.depth]; omega), ?_⟩
  rw [PyData.depth]
  obtain ⟨l⟩ := its
  cases l with
  | nil =>
    cases ra
    rw [PyData.shownAll, listText_nil]
    exact .listEmpty ha hc hd
  | cons x l => exact .list ha hc hd out (by simpa using b2.length_eq) fun i y e => b2.item i y (by simpa using e)
theorem shw_tup {P : Program} {w : World} {h : Heap} {a : Addr} {o : Obj} {its : Array Value} {n : Nat} {ds : List PyData} (ha : h.get? a = some o) (hc : o.cls = .type "tuple") (hd : o.data = .seq its n) (g : ShwS P w h its.toList ds) : Shw P w h (.ref a) (.tuple ds) := by
  obtain ⟨⟨as, ra⟩, g⟩ := g
  have rd : Reads h (.ref a) (.tuple ds) _ := .tuple ha hc hd ra
  refine ⟨⟨_, rd⟩, fun hs hz => ?_⟩
  rw [PyData.showable] at hs
  rw [PyData.shown] at hz ⊢
  obtain ⟨bs, b1, b2⟩ := g hs fun t m => Nat.le_trans (tupleText_mem_le m) hz
  refine ⟨a :: bs, b1.cons rd (by rw [PyData.depth]; omega), ?_⟩
  rw [PyData.depth]
  exact .tuple ha hc hd (not_mem_of_deeper rd (by rw [PyData.depth]; omega) b1) b2
theorem shw_dic {P : Program} {w : World} {h : Heap} {a : Addr} {o : Obj} {es : Array DictEntry} {n : Nat} {kvs : List (PyData × PyData)} (ha : h.get? a = some o) (hc : o.cls = .type "dict") (hd : o.data = .dict es n) (hy : (a == sysModules) = false) (gk : ShwS P w h (es.toList.map (·.key)) (kvs.map (·.1))) (gv : ShwS P w h (es.toList.map (·.val)) (kvs.map (·.2))) : Shw P w h (.ref a) (.dict kvs) := by
  obtain ⟨⟨as, ra⟩, gk⟩ := gk
  obtain ⟨⟨bs, rb⟩, gv⟩ := gv
  have rd : Reads h (.ref a) (.dict kvs) _ := .dict ha hc hd ra rb
  refine ⟨⟨_, rd⟩, fun hs hz => ?_⟩
  rw [PyData.showable] at hs
  rw [PyData.shown] at hz ⊢
  obtain ⟨s1, s2⟩ := PyData.showableKv_split kvs hs
  obtain ⟨p, p1, p2⟩ := gk s1 fun t m => by
    obtain ⟨x, x1, x2⟩ := PyData.shownKv_key_le kvs t m
    exact Nat.le_trans x2 (Nat.le_trans (dictText_mem_le x1) hz)
  obtain ⟨q, q1, q2⟩ := gv s2 fun t m => by
    obtain ⟨x, x1, x2⟩ := PyData.shownKv_val_le kvs t m
    exact Nat.le_trans x2 (Nat.le_trans (dictText_mem_le x1) hz)
  have pq : ReadAtMost h (PyData.depthKv kvs) (p ++ q) := (p1.mono (PyData.depthAll_keys_le kvs)).append (q1.mono (PyData.depthAll_vals_le kvs))
  refine ⟨a :: (p ++ q), pq.cons rd (by rw [PyData.depth]; omega), ?_⟩
  rw [PyData.depth, PyData.shownKv_eq]
  exact .dict ha hc hd hy (not_mem_of_deeper rd (by rw [PyData.depth]; omega) pq) (.of_two es.toList _ _ (p2.more_le (fun _ m => List.mem_append_left _ m) (PyData.depthAll_keys_le kvs)) (q2.more_le (fun _ m => List.mem_append_right _ m) (PyData.depthAll_vals_le kvs)))
theorem dpAll_shw (I : Inv X pins σ H s) : ∀ (ds : List PyData) (vs : List V) (us : List Value), DpAll X.K H vs ds → Vals vs us → PyData.hasDictAll ds = false → ShwS X.prog X.w s.heap us ds
  | [], _, _, h, r, _ => by
    cases h
    cases r
    exact shw_nil
  | d :: ds, _, _, h, r, n => by
    cases h with
    | cons h1 h2 =>
      cases r with
      | cons r1 r2 =>
        rw [PyData.hasDictAll, Bool.or_eq_false_iff] at n
        obtain ⟨as, q⟩ := Dp.reads I d _ _ h1 r1
        exact shw_cons (shw_seq q n.1) (dpAll_shw I ds _ _ h2 r2 n.2)
mutual
theorem DX.shw (I : Inv X pins σ H s) : ∀ {v : V} {d : PyData}, DX X.K H v d → ∀ u : Value, RelV v u → Shw X.prog X.w s.heap u d
  | _, _, .flat h n, u, r => by
    obtain ⟨as, q⟩ := Dp.reads I _ _ _ h r
    exact shw_seq q n
  | _, _, .lst hq g, u, r => by
    obtain rfl : u = Value.ref _ := r
    obtain ⟨its, rv, ⟨o, n, ho, hc, _, hd⟩, _⟩ := I.list hq
    exact shw_lst ho hc hd (DXs.shw I g its rv)
  | _, _, .tup hq g, u, r => by
    obtain rfl : u = Value.ref _ := r
    obtain ⟨its, rv, ⟨o, ho, hc, n, hd⟩, _⟩ := I.tuple hq
    exact shw_tup ho hc hd (DXs.shw I g its rv)
  | _, _, .dic (a := a) (kvs := kvs) (es := eds) ha ev g ek ed, u, r => by
    obtain rfl : u = Value.ref a := r
    obtain ⟨hz, hy, xs, pairs, o, es, ep, ho, hx, hdt, rows, nd⟩ := (show ObjOk X.prog X.w H s.heap a (.dT kvs) from I.hok _ _ ha)
    have hvals : Vals (kvs.map (·.2)) (es.toList.map (·.val)) := by
      rw [rows]
      clear rows nd g ev ek ha hz
      induction pairs with
      | nil => exact .nil
      | cons p _ ih => exact .cons p.2.2 ih
    have hkeys : ∀ (ks : List (List Key × V)) (ys : List (List Key × Addr × Value)), Paired (fun (p : List Key × V) (q : List Key × Addr × Value) => p.1 = q.1 ∧ H q.2.1 = some (.tup (p.1.map kV)) ∧ RelV p.2 q.2.2) ks ys → ShwS X.prog X.w s.heap ((ys.map (entryOfKey (tupleKind (mixKind X.prog X.w)))).map (·.key)) (ks.map fun kv => keyD kv.1) := fun ks ys p => by
      induction p with
      | nil => exact shw_nil
      | @cons k y ks ys p _ ih =>
        obtain ⟨as, q⟩ := Dp.reads I (keyD k.1) (.ref y.2.1) (.ref y.2.1) (.tup (SqT.of p.2.1) (keyD1_dp k.1)) rfl
        exact shw_cons (shw_seq q (by unfold keyD; rw [PyData.hasDict]; exact keyD1_no _)) ih
    refine shw_dic ho hx.1 hdt hy ?_ ?_
    · rw [ek, rows]
      exact hkeys kvs xs pairs
    · rw [ed]
      exact DXs.shw I g _ (ev ▸ hvals)
theorem DXs.shw (I : Inv X pins σ H s) : ∀ {vs : List V} {ds : List PyData}, DXs X.K H vs ds → ∀ us : List Value, Vals vs us → ShwS X.prog X.w s.heap us ds
  | _, _, .nil, us, r => by
    cases r
    exact shw_nil
  | _, _, .cons g gs, us, r => by
    cases r with
    | cons r1 r2 => exact shw_cons (DX.shw I g _ r1) (DXs.shw I gs _ r2)
end
/-- repr of a tuple in which dicts may stand -/
def rReprX (K : PySem.W.Frag) : List V → Hp → VK → Prop := fun xs H Q => ∃ (a : Addr) (vs : List V) (ds : List PyData), xs = [.ref a] ∧ SqT K H a vs ∧ DXs K H vs ds ∧ (PyData.tuple ds).showable = true ∧ (PyData.tuple ds).depth ≤ 40 ∧ (PyData.tuple ds).shown.length ≤ sizeLine ∧ Q (.str (PyData.tuple ds).shown) H
theorem call_reprX (hg : X.A.guards = some []) (hu : X.A.units + 64 < cLine) : CallR X (.builtin "repr") (rReprX X.K) := by
  intro pins s σ H xs us Q I r h
  obtain ⟨a, vs, ds, rfl, hq, g, hs, hd, hz, q⟩ := h
  obtain rfl := Vals.ref1 r
  obtain ⟨its, rv, ⟨o, ho, hc, n, hdd⟩, _⟩ := I.tuple hq
  obtain ⟨⟨as, ra⟩, gg⟩ := DXs.shw I g its rv
  have rd : Reads s.heap (.ref a) (.tuple ds) _ := .tuple ho hc hdd ra
  rw [PyData.showable] at hs
  rw [PyData.shown] at hz q
  rw [PyData.depth] at hd
  obtain ⟨bs, b1, b2⟩ := gg hs fun t m => Nat.le_trans (tupleText_mem_le m) hz
  have out : a ∉ bs := not_mem_of_deeper rd (by rw [PyData.depth]; omega) b1
  refine call_repr_slot (T := "tuple") (idr := "tuple.__repr__") (by omega) ⟨o, ho, hc⟩ F.slot_tuple_repr ?_
  exact call_tuple_reprK ho hc hdd out b2 (g := []) hg (fun b _ => Clear.nil b) (by show X.A.units + 1 + (PyData.depthAll ds + 1) < cLine; omega) (fun _ _ e => e) (fun h' u tk hk => ⟨_, _, rfl, .str _, H, I.kept (t' := tk) hk, ⟨_, rfl⟩, q⟩) hz
end
end L2

set_option Elab.async false
set_option maxRecDepth 100000
set_option maxHeartbeats 4000000
namespace L2
open PySem PySem.Spec PyProof.Rows
set_option linter.unusedVariables false
/-! dict(d) and d.pop(k) of a dict whose keys are pairs of small numbers -/
def hI (a b : Nat) : Int := reduceHash (Builtin.Tuple.tupleHashOf [hashInt ((a : Nat) : Int), hashInt ((b : Nat) : Int)])
theorem hI_all : ((List.range 400).map fun i => hI (i / 20) (i % 20)).Pairwise (· ≠ ·) := by decide +kernel
theorem hI_inj {a b c d : Nat} (ha : a < 20) (hb : b < 20) (hc : c < 20) (hd : d < 20) (h : hI a b = hI c d) : a = c ∧ b = d := by
  have key : ∀ {a b c d : Nat}, a < 20 → b < 20 → c < 20 → d < 20 → 20 * a + b < 20 * c + d → hI a b ≠ hI c d := fun {a b c d} ha hb hc hd hl => by
    have h1 := List.pairwise_iff_getElem.mp hI_all (20 * a + b) (20 * c + d) (by rw [List.length_map, List.length_range]; omega) (by rw [List.length_map, List.length_range]; omega) hl
    rw [List.getElem_map, List.getElem_map, List.getElem_range, List.getElem_range] at h1
    rw [show (20 * a + b) / 20 = a by omega, show (20 * a + b) % 20 = b by omega, show (20 * c + d) / 20 = c by omega, show (20 * c + d) % 20 = d by omega] at h1
    exact h1
  rcases Nat.lt_trichotomy (20 * a + b) (20 * c + d) with g | g | g
  · exact absurd h (key ha hb hc hd g)
  · omega
  · exact absurd h.symm (key hc hd ha hb g)
def smallK (k : List Key) : Prop := ∃ a b : Nat, a < 20 ∧ b < 20 ∧ k = [.inl (a : Int), .inl (b : Int)]
section
variable {prog : Program} {w : World} {A : Around} {E : Value → Shared → Prop} {s : Shared}
theorem smallK_hash {a b : Nat} : (tupleKind (mixKind prog w)).hash [.inl (a : Int), .inl (b : Int)] = hI a b := rfl
theorem small_nodup : ∀ {ks : List (List Key)}, (∀ k ∈ ks, smallK k) → ks.Nodup → (ks.map fun k => (tupleKind (mixKind prog w)).hash k).Nodup
  | [], _, _ => List.nodup_nil
  | k :: ks, h, n => by
    rw [List.nodup_cons] at n
    rw [List.map_cons, List.nodup_cons]
    refine ⟨fun m => ?_, small_nodup (fun x hx => h x (List.mem_cons_of_mem _ hx)) n.2⟩
    obtain ⟨k2, hk2, e⟩ := List.mem_map.mp m
    obtain ⟨a, b, ha, hb, rfl⟩ := h k List.mem_cons_self
    obtain ⟨c, d, hc, hd, rfl⟩ := h k2 (List.mem_cons_of_mem _ hk2)
    have e : hI c d = hI a b := e
    obtain ⟨rfl, rfl⟩ := hI_inj hc hd ha hb e
    exact n.1 hk2
theorem call_dictH {o : Addr} {more : List (List Key × Addr × Value)} {Q : Value → Shared → Prop} (hu : (tupleKind (mixKind prog w)).room A.in1.in1) (hoS : (o == sysModules) = false) (ho : s.heap.DictOfH (tupleKind (mixKind prog w)) o more) (hsz : more.length ≤ sizeLine)
    (hty : ∀ x ∈ more, s.TypeIs (.ref x.2.1) "tuple") (hap : (more.map fun x => (tupleKind (mixKind prog w)).hash x.1).Nodup)
    (h : ∀ h', h'.DictOfH (tupleKind (mixKind prog w)) s.heap.objs.size more → Heap.SameBut s.heap.objs.size (s.heap.push { cls := .type "dict", data := .dict #[] }) h' → Q (.ref s.heap.objs.size) { s with heap := h' }) :
    wpAny (model prog w) A (call (.type "dict") [.ref o]) Q E s := by
  refine callType_codes (Q₁ := fun obj s₁ => obj = .ref s.heap.objs.size ∧ s₁ = { s with heap := s.heap.push { cls := .type "dict", data := .dict #[] } }) F.kt_called_dict (F.kt_typeCall_dict_1 _) F.entry_dict_init (kt_code_dict_new _ ⟨rfl, rfl⟩) ?_
  rintro obj s₁ ⟨rfl, rfl⟩
  have hnew : (s.heap.push { cls := .type "dict", data := .dict #[] }).DictOfH (tupleKind (mixKind prog w)) s.heap.objs.size [] :=
    ⟨_, #[], 0, Heap.get?_push_size _ rfl, ⟨rfl, rfl, rfl⟩, rfl, rfl, (fun _ hx => nomatch hx), List.nodup_nil⟩
  have hdo : s.heap.objs.size ≠ o := by
    obtain ⟨_, _, _, hg, _⟩ := ho
    exact fun e => absurd (Heap.lt_size hg) (by rw [e]; exact Nat.lt_irrefl _)
  have ho' : (s.heap.push { cls := .type "dict", data := .dict #[] }).DictOfH (tupleKind (mixKind prog w)) o more := by
    obtain ⟨ob, es, ep, h1, h2, h3, h4, h5, h6⟩ := ho
    refine ⟨ob, es, ep, Heap.get?_push_of_some _ h1, h2, h3, h4, fun x hx => ?_, h6⟩
    obtain ⟨o1, its, n, q1, q2, q3, q4⟩ := (show IsTupleKey (mixKind prog w) s.heap x.1 x.2.1 from h5 x hx)
    exact ⟨o1, its, n, Heap.get?_push_of_some _ q1, q2, q3, q4⟩
  have hn : (more.map (·.1)).Nodup := ho.nodup
  have ty' : ∀ x ∈ more, ({ s with heap := s.heap.push { cls := .type "dict", data := .dict #[] } } : Shared).TypeIs (.ref x.2.1) "tuple" := fun x hx => by
    obtain ⟨o1, q1, q2⟩ := hty x hx
    exact ⟨o1, Heap.get?_push_of_some _ q1, q2⟩
  have hnt : ({ s with heap := s.heap.push { cls := .type "dict", data := .dict #[] } } : Shared).TypeIs (.ref s.heap.objs.size) "dict" := ⟨_, Heap.get?_push_size _ rfl, rfl⟩
  refine ⟨hnt, F.args_dict_init_2 _ _, ?_⟩
  unfold Builtin.«dict.__init__»
  refine wpAny_bind ?_
  unfold Builtin.Dict.selfAndRest
  refine wpAny_bind (wpAny_notOrdered_dict hnt ?_)
  show wpAny _ _ (pure (s.heap.objs.size, [Value.ref o])) _ _ _
  refine wpAny_pure ?_
  show wpAny _ _ (Builtin.Dict.updateFrom "dict.__init__" s.heap.objs.size (.ref o) [] .none) _ _ _
  unfold Builtin.Dict.updateFrom
  refine wpAny_bind (wpAny_typeOf (s := { s with heap := s.heap.push { cls := .type "dict", data := .dict #[] } }) ho'.typeIs ?_)
  rw [if_neg (by decide)]
  refine wpAny_bind ?_
  unfold Builtin.Dict.merge
  refine wpAny_bind ?_
  unfold Builtin.Dict.readDirectly
  refine wpAny_bind (wpAny_isInstance (s := { s with heap := s.heap.push { cls := .type "dict", data := .dict #[] } }) ho'.typeIs isSubtype_dict_dict ?_)
  simp only [Bool.not_true, Bool.false_eq_true, if_false]
  refine wpAny_bind (wpAny_specialOf (s := { s with heap := s.heap.push { cls := .type "dict", data := .dict #[] } }) ho'.typeIs F.slot_dict_iter.lookup (wpAny_pure ?_))
  simp only [beq_self_eq_true, if_true]
  refine wpAny_bind (wpAny_pure ?_)
  refine wpAny_mergeDict_heap (s := { s with heap := s.heap.push { cls := .type "dict", data := .dict #[] } }) (hsz := by simpa using hsz) hu hdo hoS hnew ho' (.inr ⟨ty', hap⟩) fun h' hd' _ hs' => ?_
  show wpAny _ _ (Builtin.Dict.addKeywords s.heap.objs.size [] >>= _) _ _ _
  rw [storedAllH_nil_of_nodup more hn] at hd'
  exact wpAny_bind (wpAny_pure (wpAny_pure ⟨rfl, h h' hd' hs'⟩))
end
/-- dict(d): a copy -/
def rDictT : List V → Hp → VK → Prop := fun xs H Q => ∃ (a : Addr) (kvs : List (List Key × V)), xs = [.ref a] ∧ Rd H a (.dT kvs) ∧ (∀ kv ∈ kvs, smallK kv.1) ∧ ∀ p, H p = none → Q (.ref p) (upd H p (.dT kvs))
theorem KT.keysEq {H : Hp} : ∀ {kvs : List (List Key × V)} {xs : List (List Key × Addr × Value)}, KT H kvs xs → xs.map (·.1) = kvs.map (·.1)
  | _, _, .nil => rfl
  | _, _, .cons h t => by
    rw [List.map_cons, List.map_cons, KT.keysEq t, h.1]
theorem call_dict_dT {X : Cx} (hu : X.A.units + 2 < cLine) : CallR X (.type "dict") rDictT := by
  intro pins s σ H xs us Q I r q
  obtain ⟨a, kvs, ex, hd, hk, q⟩ := q
  subst ex
  obtain ⟨u, eu, rx⟩ := vals1 r
  subst eu
  cases rx
  obtain ⟨z, lo, xs, rel, dd⟩ := dt_rd I.hok hd
  have ek := KT.keysEq rel
  have hall : ∀ k ∈ xs.map (·.1), smallK k := fun k hkm => by
    rw [ek] at hkm
    obtain ⟨kv, hkv, rfl⟩ := List.mem_map.mp hkm
    exact hk kv hkv
  have hn : (xs.map (·.1)).Nodup := dd.nodup
  have hap := small_nodup (prog := X.prog) (w := X.w) hall hn
  rw [List.map_map] at hap
  have hst : ∀ x ∈ xs, (tupleKind (mixKind X.prog X.w)).is s.heap x.1 x.2.1 := by
    obtain ⟨o, es, ep, h1, h2, h3, h4, h5, h6⟩ := id dd
    exact h5
  refine call_dictH (show X.A.units + 2 < cLine from hu) lo dd (by rw [← Paired.length rel]; exact z) (fun x hx => ?_) hap fun h' d' hs => ?_
  · obtain ⟨o, its, n, h1, h2, _⟩ := (show IsTupleKey (mixKind X.prog X.w) s.heap x.1 x.2.1 from hst x hx)
    exact ⟨o, h1, h2⟩
  have hm : (s.heap.objs.size == sysModules) = false := beq_eq_false_iff_ne.mpr (Nat.ne_of_gt I.big)
  have hf := I.hok.fresh (Nat.le_refl _)
  obtain ⟨o, es, ep, h1, h2, h3, h4, h5, h6⟩ := d'
  exact ⟨.ref s.heap.objs.size, upd H s.heap.objs.size (.dT kvs), I.laid (t' := s.toks) (fun b u e => (hs.2 b (Nat.ne_of_lt (Heap.lt_size e))).trans (Heap.get?_push_of_some _ e)) (Nat.le_refl _)
    (show ObjOk X.prog X.w _ _ _ (.dT kvs) from ⟨z, hm, xs, rel.keeps (fun c ys ec => (by rw [upd_ne (ne_of_none ec hf)]; exact ec)), o, es, ep, h1, h2, h3, h4, h6⟩), rfl, q _ hf⟩
/-- d.pop(k), k a key -/
def rPop1T : V → List V → Hp → VK → Prop := fun x xs H Q => ∃ (a : Addr) (kvs : List (List Key × V)) (k : List Key) (b : Addr) (v : V), x = .ref a ∧ xs = [.ref b] ∧ H a = some (.dT kvs) ∧ H b = some (.tup (k.map kV)) ∧ valV kvs k = some v ∧ Q v (upd H a (.dT (dropK kvs k)))
theorem mt_pop1T {X : Cx} (hu : X.A.units + 1 < cLine) : MtR X "dict.pop" rPop1T := by
  intro pins s σ H x xs v us Q I rx rxs h
  obtain ⟨a, kvs, k, b, v0, rfl, rfl, ha, hb, ev, q⟩ := h
  cases rx
  obtain ⟨u1, rfl, r1⟩ := vals1 rxs
  cases r1
  obtain ⟨z, hd, xs', rel, dd⟩ := dt_of I.hok ha
  have hz : xs'.length ≤ sizeLine := by rw [← Paired.length rel]; exact z
  have r := rel.val k
  rw [ev] at r
  obtain ⟨p, hp, rv⟩ : ∃ p, atKey xs' k = some p ∧ RelV v0 p.2 := by
    cases ep : atKey xs' k with
    | none =>
      rw [ep] at r
      exact (show False from r).elim
    | some p =>
      rw [ep] at r
      exact ⟨p, rfl, r⟩
  refine call_pop_heap (hsz := hz) (.inl rfl) (PySem.F.args_dict_pop_2 _ _) (tupleKind_room_in1 hu) (key_of I.hok hb) hd dd hp fun h' dd' hs => ?_
  obtain ⟨o, es, ep, hq, h2, h3, h4, _, h5⟩ := dd'
  have I2 : Inv X pins σ (upd H a (.dT (dropK kvs k))) { s with heap := h', toks := s.toks + (tupleKind (mixKind X.prog X.w)).draws k } :=
    d_write I (by rw [ha]; exact True.intro) hs ⟨o, hq⟩ ⟨Nat.le_trans (dropK_le kvs k) z, hd, _, (DX.KT_drop k rel).keeps (fun c ys ec => (by rw [upd_ne (ne_of ec ha (fun z => nomatch z))]; exact ec)), o, es, ep, hq, h2, h3, h4, h5⟩
  exact ⟨v0, _, I2, rv, q⟩
end L2

set_option Elab.async false
set_option maxRecDepth 100000
set_option maxHeartbeats 4000000
namespace L2
open PySem PySem.Spec PyProof.Rows
set_option linter.unusedVariables false
/-! a key that is no tuple, among keys that are tuples -/
inductive OddKey : V → Value → PyData → Prop
  | non : OddKey .non .none .none
  | int {i : Int} {t : Tok} : OddKey (.int i) (.int i t) (.int i)
  | str {x : Str} {t : Tok} : PyData.strOk x = true → OddKey (.str x) (.str x t) (.str x)
theorem OddKey.carried {v : V} {u : Value} {d : PyData} (h : OddKey v u d) : carriedByValue u = true := by cases h <;> rfl
theorem OddKey.eqv {v : V} {u : Value} {d : PyData} (h : OddKey v u d) (k : List Key) : PyData.eqv (keyD k) d = false := by
  cases h <;> (unfold keyD; simp [PyData.eqv])
def IntK (k : List Key) : Prop := ∀ x ∈ k, ∃ i : Int, x = .inl i
theorem canLay_key : ∀ k : List Key, IntK k → PyData.canLayAll0 (k.map keyD1) = true
  | [], _ => rfl
  | x :: k, h => by
    obtain ⟨i, rfl⟩ := h x List.mem_cons_self
    rw [List.map_cons, PyData.canLayAll0, canLay_key k fun y hy => h y (List.mem_cons_of_mem _ hy)]
    simp [keyD1, PyData.canLay0]
theorem OddKey.lay {v : V} {u : Value} {d : PyData} (h : OddKey v u d) : PyData.canLay0 d = true ∧ d.depth = 0 := by
  cases h with
  | non => exact ⟨by simp [PyData.canLay0], by simp [PyData.depth]⟩
  | int => exact ⟨by simp [PyData.canLay0], by simp [PyData.depth]⟩
  | str o => exact ⟨by simpa [PyData.canLay0] using o, by simp [PyData.depth]⟩
section
variable {X : Cx} {pins : List (Addr × Obj)} {σ : L2.St} {H : Hp} {s : Shared}
theorem OddKey.reads {v : V} {u : Value} {d : PyData} (h : OddKey v u d) (hp : Heap) : Reads hp u d [] := by
  cases h
  · exact .none
  · exact .int _ _
  · exact .str _ _
theorem OddKey.quiet {A : Around} {E : Value → Shared → Prop} {v : V} {u : Value} {d : PyData} (h : OddKey v u d) {Q : Bool → Shared → Prop} (q : Q true s) : wpAny (model X.prog X.w) A (eqIsQuiet 8 u) Q E s := by
  cases h <;> (unfold eqIsQuiet; exact wpAny_pure q)
/-- it isn't there -/
theorem find_odd (I : Inv X pins σ H s) {A : Around} {E : Value → Shared → Prop} (hu : A.units < cLine) {d : Addr} {o : Obj} {es : Array DictEntry} {ep : Nat} {xs : List (List Key × Addr × Value)} {kvs : List (List Key × V)} (ho : s.heap.get? d = some o) (hd : o.data = .dict es ep) (he : es.toList = xs.map (entryOfKey (tupleKind (mixKind X.prog X.w)))) (rel : KT H kvs xs) (hi : ∀ kv ∈ kvs, IntK kv.1)
    {v : V} {key : Value} {dk : PyData} (hk : OddKey v key dk) (h : Int) {Q : Option Nat → Shared → Prop} (q : Q none s) : wpAny (model X.prog X.w) A (dictFind d key h) Q E s := by
  have hall : ∀ x ∈ xs, ∃ k : List Key, H x.2.1 = some (.tup (k.map kV)) ∧ IntK k := by
    clear he
    induction rel with
    | nil => exact fun x hx => nomatch hx
    | @cons p y ks ys r _ ih =>
      intro x hx
      rcases List.mem_cons.mp hx with rfl | hx
      · exact ⟨p.1, r.2.1, hi p List.mem_cons_self⟩
      · exact ih (fun kv hkv => hi kv (List.mem_cons_of_mem _ hkv)) x hx
  have hmem : ∀ (i : Nat) (e : DictEntry), es[i]? = some e → ∃ (b : Addr) (k : List Key), e.key = .ref b ∧ H b = some (.tup (k.map kV)) ∧ IntK k := by
    intro i e hi
    have : e ∈ xs.map (entryOfKey (tupleKind (mixKind X.prog X.w))) := he ▸ Array.mem_toList_iff.mpr (Array.mem_of_getElem? hi)
    obtain ⟨x, hx, rfl⟩ := List.mem_map.mp this
    obtain ⟨k, hk⟩ := hall x hx
    exact ⟨x.2.1, k, rfl, hk⟩
  have hst : ∀ v ∈ (placesWithHash es.size (fun i => es[i]?.map (·.hash)) h).filterMap (fun i => es[i]?.map (·.key)), ∃ (b : Addr) (k : List Key), v = .ref b ∧ H b = some (.tup (k.map kV)) ∧ IntK k := by
    intro v hv
    obtain ⟨i, _, hi⟩ := List.mem_filterMap.mp hv
    cases hei : es[i]? with
    | none => rw [hei] at hi; cases hi
    | some e =>
      rw [hei] at hi
      obtain rfl : e.key = v := by simpa using hi
      exact hmem i e hei
  have unlike : ∀ {Q : Bool → Shared → Prop} {E : Value → Shared → Prop} {b : Addr} {k : List Key}, H b = some (.tup (k.map kV)) ∧ IntK k → Q false s → wpAny (model X.prog X.w) A (eqBool (.ref b) key) Q E s := fun {Q E b k} hb hq => by
    obtain ⟨as, ra⟩ := Dp.reads I (keyD k) (.ref b) (.ref b) (.tup (SqT.of hb.1) (keyD1_dp k)) rfl
    refine PySem.SeqAt.eqBoolOverData _ _ A E s _ _ _ dk _ [] Q ra (hk.reads _) (by unfold keyD; rw [PyData.canLay0]; exact canLay_key k hb.2) hk.lay.1 (by rw [hk.lay.2]; omega) ?_
    rw [hk.eqv]
    exact hq
  have walk : wpAny (model X.prog X.w) A (dictWalkPlain d key h es (placesWithHash es.size (fun i => es[i]?.map (·.hash)) h)) Q E s := by
    unfold dictWalkPlain
    refine wpAny_bind ?_
    refine wpAny_forIn_list _ (fun rest b s' => s' = s ∧ b = (none, ())) _ ?_ ?_ _ _ ⟨rfl, rfl⟩
    · rintro x rest b s' ⟨rfl, rfl⟩
      cases hx : es[x]? with
      | none => exact wpAny_pure ⟨rfl, rfl⟩
      | some e =>
        obtain ⟨b, k, ek, hb⟩ := hmem x e hx
        dsimp only
        by_cases hh : (e.hash == h) = true
        · rw [if_pos hh]
          refine wpAny_bind (wpAny_dictEpoch ho hd (wpAny_bind ?_))
          rw [ek]
          refine unlike hb (wpAny_bind (wpAny_dictEpoch ho hd ?_))
          show wpAny _ _ (if (ep != ep) = true then _ else _) _ E _
          rw [if_neg (by simp)]
          simp only [Bool.false_eq_true, if_false]
          exact wpAny_bind (wpAny_rule (wpAny_pure ⟨rfl, rfl⟩))
        · rw [if_neg hh]
          exact wpAny_pure ⟨rfl, rfl⟩
    · rintro b s' ⟨rfl, rfl⟩
      exact wpAny_pure q
  have tells : ∀ {Q : Bool → Shared → Prop} {E : Value → Shared → Prop}, Q false s → wpAny (model X.prog X.w) A (tableMayTell key ((placesWithHash es.size (fun i => es[i]?.map (·.hash)) h).filterMap (fun i => es[i]?.map (·.key)))) Q E s := fun {Q E} hq => by
    unfold tableMayTell
    split
    · exact wpAny_pure hq
    · refine wpAny_bind (hk.quiet (X := X) ?_)
      simp only [Bool.not_true, Bool.false_eq_true, if_false]
      refine wpAny_bind ?_
      refine wpAny_forIn_list _ (fun rest r s' => s' = s ∧ r = (none, ()) ∧ ∀ v ∈ rest, ∃ (b : Addr) (k : List Key), v = .ref b ∧ H b = some (.tup (k.map kV)) ∧ IntK k) _ ?_ ?_ _ _ ⟨rfl, rfl, hst⟩
      · rintro x rest r s' ⟨rfl, rfl, hr⟩
        obtain ⟨b, k, rfl, hb⟩ := hr x List.mem_cons_self
        refine wpAny_bind ((tupleKind (mixKind X.prog X.w)).quiet (key_of I.hok hb.1) ?_)
        simp only [Bool.not_true, Bool.false_eq_true, if_false]
        exact wpAny_pure ⟨rfl, rfl, fun v hv => hr v (List.mem_cons_of_mem _ hv)⟩
      · rintro r s' ⟨rfl, rfl, _⟩
        exact wpAny_pure hq
  cases hk with
  | non =>
    unfold dictFind
    try with_reducible refine wpAny_holding ?_
    refine wpAny_bind (wpAny_dictEntries ho hd ?_)
    dsimp only
    by_cases hc : ((Value.none :: (placesWithHash es.size (fun i => es[i]?.map (·.hash)) h).filterMap (fun i => es[i]?.map (·.key))).all carriedByValue) = true
    · rw [if_pos hc]
      exact walk
    · rw [if_neg hc]
      have hne : ¬ (((placesWithHash es.size (fun i => es[i]?.map (·.hash)) h).filterMap (fun i => es[i]?.map (·.key))) == [Value.none]) = true := by
        intro e
        have e := eq_of_beq e
        obtain ⟨b, k, e2, _⟩ := hst Value.none (by rw [e]; exact List.mem_cons_self)
        cases e2
      rw [if_neg hne]
      refine wpAny_bind (tells ?_)
      simp only [Bool.false_and, Bool.false_eq_true, if_false]
      refine wpAny_bind ?_
      refine wpAny_forIn_list _ (fun rest b s' => s' = s ∧ b = (none, none)) _ ?_ ?_ _ _ ⟨rfl, rfl⟩
      · rintro x rest b s' ⟨rfl, rfl⟩
        cases hx : es[x]? with
        | none => exact wpAny_pure ⟨rfl, rfl⟩
        | some e =>
          obtain ⟨b, k, ek, hb⟩ := hmem x e hx
          dsimp only
          by_cases hh : (e.hash == h) = true
          · rw [if_pos hh]
            refine wpAny_bind (wpAny_dictEpoch ho hd (wpAny_bind ?_))
            rw [ek]
            refine unlike hb (wpAny_bind (wpAny_dictEpoch ho hd ?_))
            show wpAny _ _ (if (ep != ep) = true then _ else _) _ E _
            rw [if_neg (by simp)]
            simp only [Bool.false_eq_true, if_false]
            exact wpAny_bind (wpAny_rule (wpAny_pure ⟨rfl, rfl⟩))
          · rw [if_neg hh]
            exact wpAny_pure ⟨rfl, rfl⟩
      · rintro b s' ⟨rfl, rfl⟩
        exact wpAny_pure q
  | @int i t =>
    unfold dictFind
    try with_reducible refine wpAny_holding ?_
    refine wpAny_bind (wpAny_dictEntries ho hd ?_)
    dsimp only
    by_cases hc : ((Value.int i t :: (placesWithHash es.size (fun i => es[i]?.map (·.hash)) h).filterMap (fun i => es[i]?.map (·.key))).all carriedByValue) = true
    · rw [if_pos hc]
      exact walk
    · rw [if_neg hc]
      have hne : ¬ (((placesWithHash es.size (fun i => es[i]?.map (·.hash)) h).filterMap (fun i => es[i]?.map (·.key))) == [Value.int i t]) = true := by
        intro e
        have e := eq_of_beq e
        obtain ⟨b, k, e2, _⟩ := hst (Value.int i t) (by rw [e]; exact List.mem_cons_self)
        cases e2
      rw [if_neg hne]
      refine wpAny_bind (tells ?_)
      simp only [Bool.false_and, Bool.false_eq_true, if_false]
      refine wpAny_bind ?_
      refine wpAny_forIn_list _ (fun rest b s' => s' = s ∧ b = (none, none)) _ ?_ ?_ _ _ ⟨rfl, rfl⟩
      · rintro x rest b s' ⟨rfl, rfl⟩
        cases hx : es[x]? with
        | none => exact wpAny_pure ⟨rfl, rfl⟩
        | some e =>
          obtain ⟨b, k, ek, hb⟩ := hmem x e hx
          dsimp only
          by_cases hh : (e.hash == h) = true
          · rw [if_pos hh]
            refine wpAny_bind (wpAny_dictEpoch ho hd (wpAny_bind ?_))
            rw [ek]
            refine unlike hb (wpAny_bind (wpAny_dictEpoch ho hd ?_))
            show wpAny _ _ (if (ep != ep) = true then _ else _) _ E _
            rw [if_neg (by simp)]
            simp only [Bool.false_eq_true, if_false]
            exact wpAny_bind (wpAny_rule (wpAny_pure ⟨rfl, rfl⟩))
          · rw [if_neg hh]
            exact wpAny_pure ⟨rfl, rfl⟩
      · rintro b s' ⟨rfl, rfl⟩
        exact wpAny_pure q
  | @str x t ox =>
    unfold dictFind
    try with_reducible refine wpAny_holding ?_
    refine wpAny_bind (wpAny_dictEntries ho hd ?_)
    dsimp only
    by_cases hs : (es.all fun e => isExactStrKey e.key) = true
    · rw [if_pos hs]
      have h0 : es = #[] := by
        by_cases h1 : 0 < es.size
        · obtain ⟨b, k, ek, _⟩ := hmem 0 es[0] (Array.getElem?_eq_getElem h1)
          have := Array.all_eq_true.mp hs 0 h1
          rw [ek] at this
          cases this
        · exact Array.size_eq_zero_iff.mp (by omega)
      subst h0
      unfold foundByValue
      have e0 : (#[] : Array DictEntry).findIdx? (fun y => y.key.isStr x) = none := by simp
      rw [e0]
      exact wpAny_pure q
    · rw [if_neg hs]
      by_cases hc : ((Value.str x t :: (placesWithHash es.size (fun i => es[i]?.map (·.hash)) h).filterMap (fun i => es[i]?.map (·.key))).all carriedByValue) = true
      · rw [if_pos hc]
        exact walk
      · rw [if_neg hc]
        have hne : ¬ (((placesWithHash es.size (fun i => es[i]?.map (·.hash)) h).filterMap (fun i => es[i]?.map (·.key))) == [Value.str x t]) = true := by
          intro e
          have e := eq_of_beq e
          obtain ⟨b, k, e2, _⟩ := hst (Value.str x t) (by rw [e]; exact List.mem_cons_self)
          cases e2
        rw [if_neg hne]
        refine wpAny_bind (tells ?_)
        simp only [Bool.false_and, Bool.false_eq_true, if_false]
        refine wpAny_bind ?_
        refine wpAny_forIn_list _ (fun rest b s' => s' = s ∧ b = (none, none)) _ ?_ ?_ _ _ ⟨rfl, rfl⟩
        · rintro x rest b s' ⟨rfl, rfl⟩
          cases hx : es[x]? with
          | none => exact wpAny_pure ⟨rfl, rfl⟩
          | some e =>
            obtain ⟨b, k, ek, hb⟩ := hmem x e hx
            dsimp only
            by_cases hh : (e.hash == h) = true
            · rw [if_pos hh]
              refine wpAny_bind (wpAny_dictEpoch ho hd (wpAny_bind ?_))
              rw [ek]
              refine unlike hb (wpAny_bind (wpAny_dictEpoch ho hd ?_))
              show wpAny _ _ (if (ep != ep) = true then _ else _) _ E _
              rw [if_neg (by simp)]
              simp only [Bool.false_eq_true, if_false]
              exact wpAny_bind (wpAny_rule (wpAny_pure ⟨rfl, rfl⟩))
            · rw [if_neg hh]
              exact wpAny_pure ⟨rfl, rfl⟩
        · rintro b s' ⟨rfl, rfl⟩
          exact wpAny_pure q
/-- what may be put among keys that are tuples, and is none -/
def OddV (y : V) : Prop := y = .non ∨ (∃ i, y = .int i) ∨ ∃ x, y = .str x ∧ PyData.strOk x = true
theorem OddV.key {y : V} {u : Value} (h : OddV y) (r : RelV y u) : ∃ d, OddKey y u d := by
  rcases h with rfl | ⟨i, rfl⟩ | ⟨x, rfl, o⟩
  · cases (show u = Value.none from r)
    exact ⟨_, .non⟩
  · obtain ⟨t, rfl⟩ := r
    exact ⟨_, .int⟩
  · obtain ⟨t, rfl⟩ := r
    exact ⟨_, .str o⟩
theorem OddKey.hash {A : Around} {E : Value → Shared → Prop} {v : V} {u : Value} {d : PyData} (h : OddKey v u d) {Q : Int → Shared → Prop} (q : ∀ i, Q i { s with toks := s.toks + 1 }) : wpAny (model X.prog X.w) A (pyHash u) Q E s := by
  cases h with
  | non => exact pyHash_leaf (k := .none) rfl (q _)
  | @int i t => exact pyHash_leaf (k := .num i) (by simp [Leaf.isOf]) (q _)
  | @str x t o => exact pyHash_leaf (k := .text x) (by simp [Leaf.isOf, Value.isStrOf]) (q _)
/-- a dict of tuple keys in which one more key stands, at the end, that is none; its object is o -/
structure OddW (o : Obj) (H : Hp) (a : Addr) (kvs : List (List Key × V)) (k v : V) : Prop where
  at' : H a = some (.ext fun h => h.get? a = some o)
  ec : o.ExactDict
  ex : ∃ (es : Array DictEntry) (ep : Nat) (xs : List (List Key × Addr × Value)) (uk uv : Value), o.data = .dict es ep ∧ (a == sysModules) = false ∧ KT H kvs xs ∧ RelV k uk ∧ RelV v uv ∧
    es.toList.map (fun e => (e.key, e.val)) = xs.map (fun x => (Value.ref x.2.1, x.2.2)) ++ [(uk, uv)] ∧ es.size ≤ sizeLine
  key : OddV k
def OddAt (H : Hp) (a : Addr) (kvs : List (List Key × V)) (k v : V) : Prop := ∃ o, OddW o H a kvs k v
theorem OddW.mono {o : Obj} {H H' : Hp} {a : Addr} {kvs : List (List Key × V)} {k v : V} (h : OddW o H a kvs k v) (s : ∀ b u, H b = some u → H' b = some u) : OddW o H' a kvs k v := by
  obtain ⟨h1, h2, ⟨es, ep, xs, uk, uv, h3, h4, h5, h6⟩, h7⟩ := h
  exact ⟨s _ _ h1, h2, ⟨es, ep, xs, uk, uv, h3, h4, h5.keeps (fun c ys e => s _ _ e), h6⟩, h7⟩
theorem put_odd (I : Inv X pins σ H s) {A : Around} {E : Value → Shared → Prop} (hu : A.units + 1 < cLine) {a : Addr} {kvs : List (List Key × V)} {y v : V} {u r : Value} {Q : Unit → Shared → Prop} (ha : H a = some (.dT kvs)) (hi : ∀ kv ∈ kvs, IntK kv.1) (hz : kvs.length < sizeLine) (hy : OddV y) (ry : RelV y u) (rv : RelV v r)
    (q : ∀ φ s', OddAt (upd H a (.ext φ)) a kvs y v → Inv X pins σ (upd H a (.ext φ)) s' → Q () s') : wpAny (model X.prog X.w) A (setItem (.ref a) u r) Q E s := by
  obtain ⟨dk, hk⟩ := hy.key ry
  obtain ⟨z, hd, xs, rel, dd⟩ := dt_of I.hok ha
  obtain ⟨o, es, ep, ho, hc, hdat, he, his, hn⟩ := id dd
  have hty : s.TypeIs (.ref a) "dict" := ⟨o, ho, hc.1⟩
  have hes : es.size = kvs.length := by rw [size_of_entries he, ← Paired.length rel]
  unfold setItem
  try with_reducible refine wpAny_holding ?_
  refine wpAny_bind (wpAny_sequenceKey hty (by decide) ?_)
  refine wpAny_bind (wpAny_callSpecial?_slot (name := Str.ofString "__setitem__") hty PySem.slot_dict_setitem
    (wpAny_call_entry PySem.slot_dict_setitem hty PySem.entry_dict_setitem ?_ (PySem.args_dict_setitem _ _ _)))
  show wpAny _ _ (Builtin.Dict.notOrdered "__setitem__" ⟨[.ref a, u, r], []⟩ >>= _) _ _ s
  refine wpAny_bind (wpAny_notOrdered_dict hty ?_)
  show wpAny _ _ (dictSet a u r >>= _) _ _ s
  refine wpAny_bind ?_
  unfold dictSet
  try with_reducible refine wpAny_holding ?_
  refine wpAny_bind (hk.hash (X := X) fun hh => ?_)
  unfold dictSetHashed
  try with_reducible refine wpAny_holding ?_
  have I1 : Inv X pins σ H { s with toks := s.toks + 1 } := I.tok _
  refine wpAny_bind (find_odd I1 (show A.in1.units < cLine from by show A.units + 1 < cLine; exact hu) ho hdat he rel hi hk hh ?_)
  refine wpAny_bind (wpAny_rule (wpAny_updateDictKeys (s := { s with toks := s.toks + 1 }) (hz := by omega) ho hdat ?_))
  refine wpAny_pure ⟨.none, rfl, wpAny_pure ?_⟩
  have hg := Heap.get?_update_self (Obj.mapDictKeys fun es => es.push ⟨hh, u, r⟩) ho (Obj.isFreed_of_dict (Obj.data_mapDictKeys hdat _))
  have hs : Heap.SameBut a s.heap (s.heap.update a (Obj.mapDictKeys fun es => es.push ⟨hh, u, r⟩)) := Heap.SameBut.update ..
  refine q (fun h => h.get? a = some (Obj.mapDictKeys (fun es => es.push ⟨hh, u, r⟩) o)) _ ⟨_, upd_same, hc.mapDictKeys _, ⟨_, ep + 1, xs, u, r, Obj.data_mapDictKeys hdat _, hd, rel.keeps (fun c ys ec => by rw [upd_ne (ne_of ec ha (fun z => nomatch z))]; exact ec), ry, rv, ?_, ?_⟩, hy⟩ ?_
  · rw [Array.toList_push, List.map_append, he, List.map_map]
    rfl
  · rw [Array.size_push]
    omega
  · exact d_write (t' := s.toks + 1) I1 (by rw [ha]; exact True.intro) hs ⟨_, hg⟩ ⟨hg, ⟨_, hg⟩, fun h1 h2 e k => k _ e⟩
/-- as it lies -/
theorem OddW.entries (I : Inv X pins σ H s) {d : Addr} {o : Obj} {kvs : List (List Key × V)} {k v : V} (h : OddW o H d kvs k v) :
    (d == sysModules) = false ∧ ∃ (es : Array DictEntry) (ep : Nat), o.data = .dict es ep ∧ DT.Raw s.heap d es ep ∧ es.size = kvs.length + 1 ∧
      (∀ (i : Nat) (k : List Key) (v : V), kvs[i]? = some (k, v) → ∃ (hi : i < es.size) (q : Addr), es[i].key = .ref q ∧ H q = some (.tup (k.map kV)) ∧ RelV v es[i].val) ∧ ∃ hi : kvs.length < es.size, RelV k es[kvs.length].key ∧ RelV v es[kvs.length].val := by
  obtain ⟨h1, h2, ⟨es, ep, xs, uk, uv, h3, h4, h5, h6, h7, h8, h9⟩, hk⟩ := h
  have there : s.heap.get? d = some o := (show ObjOk X.prog X.w H s.heap d (.ext fun h => h.get? d = some o) from I.hok _ _ h1).1
  have l5 : kvs.length = xs.length := Paired.length h5
  have sizes : es.size = kvs.length + 1 := by
    have := congrArg List.length h8
    rw [List.length_map, List.length_append, List.length_map, Array.length_toList] at this
    simpa [l5] using this
  have at8 : ∀ (i : Nat) (hi : i < es.size), (es.toList.map (fun e => (e.key, e.val)))[i]? = some (es[i].key, es[i].val) := fun i hi => by
    rw [List.getElem?_map, Array.getElem?_toList, Array.getElem?_eq_getElem hi]
    rfl
  refine ⟨h4, es, ep, h3, ⟨o, there, h2, h3⟩, sizes, fun i k v e => ?_, by omega, ?_⟩
  · obtain ⟨b, hb, e1, e2, e3⟩ := paired_get h5 e
    have hi : i < es.size := by have := (List.getElem?_eq_some_iff.mp e).1; omega
    have q := at8 i hi
    rw [h8, List.getElem?_append_left (by rw [List.length_map]; exact (List.getElem?_eq_some_iff.mp hb).1), List.getElem?_map, hb] at q
    injection q with q
    injection q with q1 q2
    exact ⟨hi, b.2.1, q1.symm, e2, by rw [← q2]; exact e3⟩
  · have hi : kvs.length < es.size := by omega
    have q := at8 kvs.length hi
    rw [h8, List.getElem?_append_right (by rw [List.length_map]; omega), List.length_map, show kvs.length - xs.length = 0 by omega] at q
    injection q with q
    injection q with q1 q2
    exact ⟨by rw [← q1]; exact h6, by rw [← q2]; exact h7⟩
end
/-- the items of the odd dict at d -/
def ItO (o : Obj) (d : Addr) (kvs : List (List Key × V)) (k v : V) : It :=
  ⟨fun i H => OddW o H d kvs k v ∧ i < kvs.length + 1,
   fun i H x H' => ∃ (T : Addr) (a b : V), x = .ref T ∧ H T = none ∧ H' = upd H T (.tup [a, b]) ∧ ((∃ (q : Addr) (k' : List Key), kvs[i]? = some (k', b) ∧ H q = some (.tup (k'.map kV)) ∧ a = .ref q) ∨ (i = kvs.length ∧ a = k ∧ b = v)),
   fun i H => OddW o H d kvs k v ∧ kvs.length + 1 ≤ i⟩
theorem turn_itemsO {P : Program} {w : World} {K : PySem.W.Frag} {d : Addr} {o : Obj} {es : Array DictEntry} {ep : Nat} {kvs : List (List Key × V)} {k v : V} {elts : List Expr} {kk : Nat} {tpos : Pos} (it : Addr) (hod : o.data = .dict es ep) :
    Turn P w K (.Tuple elts kk tpos) (ItO o d kvs k v) [it] it (fun i h => ∃ ok ov, IsItemIter h it d i (kvs.length + 1) ep ok ov) where
  mem := by simp
  obj := fun i h ⟨ok, ov, e⟩ b hb => by
    rw [List.mem_singleton.mp hb]
    exact ⟨_, e, fun v z => nomatch z⟩
  keep := fun i h h' ⟨ok, ov, e⟩ k => ⟨ok, ov, k it (by simp) _ e⟩
  item := by
    rintro X rfl rfl rfl hc i pins s σ H E I hf ⟨ok, ov, he⟩ ⟨hd, hi⟩
    obtain ⟨_, es', ep', hdt, raw, hsz, ent, hlast, lk, lv⟩ := hd.entries I
    obtain ⟨rfl, rfl⟩ := dict_ep hod hdt
    have hi' : i < es'.size := by omega
    obtain ⟨a, b, ra, rb, hab⟩ : ∃ a b : V, RelV a es'[i].key ∧ RelV b es'[i].val ∧ ((∃ (q : Addr) (k' : List Key), kvs[i]? = some (k', b) ∧ H q = some (.tup (k'.map kV)) ∧ a = .ref q) ∨ (i = kvs.length ∧ a = k ∧ b = v)) := by
      by_cases c : i < kvs.length
      · obtain ⟨⟨k', v'⟩, hkv⟩ : ∃ p, kvs[i]? = some p := ⟨kvs[i], List.getElem?_eq_getElem c⟩
        obtain ⟨hi2, q, hkey, hq, rv⟩ := ent i k' v' hkv
        exact ⟨.ref q, v', hkey, rv, .inl ⟨q, k', hkv, hq, rfl⟩⟩
      · have e : i = kvs.length := by omega
        subst e
        exact ⟨k, v, lk, lv, .inr ⟨rfl, rfl, rfl⟩⟩
    rw [← hsz] at he
    have hlt : it < s.heap.objs.size := Heap.lt_size he
    refine DT.nextI he raw hi' fun h' out laid grown kept => ?_
    refine ⟨_, rfl, wpAny_letOwnedTupleGo_items (s := { s with heap := h' }) out fun h'' he' sb => ?_⟩
    have laid2 : h''.get? s.heap.objs.size = some { cls := .type "tuple", data := .seq #[es'[i].key, es'[i].val] } := (sb.2 _ (Nat.ne_of_gt hlt)).trans laid
    have pair : ObjOk X.prog X.w (upd H s.heap.objs.size (.tup [a, b])) h'' s.heap.objs.size (.tup [a, b]) :=
      ⟨by show 2 ≤ sizeLine; decide, [es'[i].key, es'[i].val], .cons ra (.cons rb .nil), ⟨_, laid2, rfl, _, rfl⟩⟩
    have I1 : Inv X pins σ (upd H s.heap.objs.size (.tup [a, b])) { s with heap := h'' } :=
      I.turnedNew (t' := s.toks) (ch := [it]) (fun b ob hb e => (sb.2 b (fun z => hb (List.mem_singleton.mpr z))).trans (kept b ob (fun z => hb (List.mem_singleton.mpr z)) e)) hf (Nat.le_refl _) pair
    refine ⟨.ref s.heap.objs.size, _, I1, rfl, ⟨_, a, b, rfl, I.hok.fresh (Nat.le_refl _), rfl, hab⟩, ⟨es'[i].key, es'[i].val, by rw [← hsz]; exact he'⟩, fun b hb => ?_⟩
    rw [List.mem_singleton.mp hb, upd_ne (Nat.ne_of_lt hlt)]
    exact (hf it (by simp)).1
  done := by
    rintro X rfl rfl rfl hc i pins s σ H E I hf ⟨ok, ov, he⟩ ⟨hd, hi⟩
    obtain ⟨f0, f1, f2, f3, f4, f5⟩ := hf it (by simp)
    obtain ⟨_, es', ep', hdt, raw, hsz, _⟩ := hd.entries I
    obtain ⟨rfl, rfl⟩ := dict_ep hod hdt
    rw [← hsz] at he
    exact DT.endI (I.ok.hd hc) he raw (by omega) fun h' eb => ⟨rfl, I.turned (t' := s.toks) (fun b ob hb e => eb b ob hb e) f0 f1 f3 f4 f5⟩
  self := fun A i s Q E ⟨_, _, e⟩ h => PySem.W.kcp_self e h
/-- for a, b in e.items(): e an odd dict -/
def iItemsO (td : TE) : TI := fun σ H R => td σ H fun x H1 => ∃ d o kvs k v, x = .ref d ∧ OddW o H1 d kvs k v ∧ R (ItO o d kvs k v) H1
theorem pi_itemsO {X : Cx} {e : Expr} {td : TE} {apos cpos : Pos} {elts : List Expr} {kk : Nat} {tpos : Pos} (he : PE X e td) (hbase : attributeBase e "items" X.env (eval e X.env) = eval e X.env := by rfl) (hline : (apos.endLine == cpos.line) = true := by rfl) :
    PI X (.Tuple elts kk tpos) (.Call (.Attribute e "items" apos) [] [] cpos) (iItemsO td) := by
  refine ⟨fun pins s σ H R I h => ?_⟩
  refine wpAny_Call_method (T := "dict") (id := "dict.items") hbase rfl hline F.plainAttrs_dict F.slot_dict_items F.type_dict_items (thn (he.run pins s σ H _ I h) fun u s1 ⟨x, H1, I1, rx, d, o, kvs, k, v, ex, hd, q⟩ => ?_)
  subst ex
  obtain rfl : u = Value.ref d := rx
  obtain ⟨notSys, es, ep, hdt, raw, hsz, ent, _⟩ := hd.entries I1
  refine ⟨raw.typeIs, fun b z => ?_, ?_⟩
  · cases z
    obtain ⟨ob, h1, h2, h3⟩ := raw
    exact ⟨ob, h1, h2.2.1⟩
  have I2 : Inv X pins σ H1 { s1 with heap := s1.heap.push { cls := .type "dict_items", data := .fields #[.ref d] } } := I1.kept (t' := s1.toks) fun b ob q => Heap.get?_push_of_some _ q
  have walk : wpAny (model X.prog X.w) X.A (pyIter (.ref s1.heap.objs.size)) (PIE X pins σ (.Tuple elts kk tpos) R) X.xe { s1 with heap := s1.heap.push { cls := .type "dict_items", data := .fields #[.ref d] } } := by
    refine DT.iterI (d := d) ⟨_, Heap.get?_push_size _ rfl, rfl, rfl⟩ (raw.push _) (pi_one (tk := s1.toks) I2 _ (turn_itemsO _ hdt) ⟨.none, .none, ?_⟩ q)
    rw [← hsz]
    exact Heap.get?_push_size _ rfl
  show wpAny _ _ (callWith cpos (.builtin "dict.items") [.ref d] [] []) _ X.xe s1
  exact method_meetsIn F.slot_dict_items F.entry_dict_items rfl (PySem.evalArgs_none ⟨rfl, raw.typeIs, F.args_dict_items_1 _, _, DT.meetsItems (es := es) (ep := ep) notSys, raw, walk⟩)
end L2

set_option Elab.async false
set_option maxRecDepth 100000
set_option maxHeartbeats 4000000
namespace PySem
section
variable {prog : Program} {w : World} {A : Around} {E : Value → Shared → Prop} {s : Shared}
theorem wpAny_len_body_raw {d : Addr} {es : Array DictEntry} {ep : Nat} {Q : Value → Shared → Prop} (hd : (d == sysModules) = false) (hm : s.heap.DictRaw d es ep) (hfit : (es.size : Int) < 2 ^ 63)
    (h : Q (.int es.size (s.toks + 1)) { s with toks := s.toks + 1 + 1 }) : wpAny (model prog w) A (Builtin.«len» ⟨[.ref d], []⟩) (fun fin s' => ∃ r, fin = .done (.ret r) ∧ Q r s') E s := by
  unfold Builtin.«len»
  refine wpAny_bind (m := oneArg "len" _) (wpAny_pure ?_)
  refine wpAny_bind (m := callSpecial? (.ref d) (Str.ofString "__len__")) (wpAny_callSpecial?_slot (name := Str.ofString "__len__") hm.typeIs F.slot_dict_len
    (call_len_raw hd hm ?_))
  show wpAny _ _ _ _ _ { s with toks := s.toks + 1 }
  refine wpAny_bind (wpAny_holding (wpAny_pure ?_))
  refine wpAny_bind (wpAny_letGo ?_)
  show wpAny _ _ (if ((es.size : Nat) : Int) < 0 then _ else _) _ _ _
  rw [if_neg (by omega)]
  show wpAny _ _ (if ((es.size : Nat) : Int) ≥ 2 ^ 63 then _ else _) _ _ _
  rw [if_neg (by omega)]
  exact wpAny_bind (wpAny_mkInt (wpAny_pure ⟨_, rfl, h⟩))
end
end PySem
namespace L2
open PySem PySem.Spec PyProof.Rows
set_option linter.unusedVariables false
section
variable {X : Cx} {pins : List (Addr × Obj)} {σ : L2.St} {H : Hp} {s : Shared}
def rLenO : List V → Hp → VK → Prop := fun xs H Q => ∃ (p : Addr) (kvs : List (List Key × V)) (k v : V), xs = [.ref p] ∧ OddAt H p kvs k v ∧ Q (.int ((kvs.length + 1 : Nat) : Int)) H
theorem call_len_O : CallR X (.builtin "len") rLenO := by
  intro pins s σ H xs us Q I r h
  obtain ⟨p, kvs, k, v, rfl, ⟨o, hp⟩, q⟩ := h
  obtain ⟨u, rfl, rx⟩ := vals1 r
  obtain rfl : u = .ref p := rx
  obtain ⟨z, es, ep, hdt, ⟨o', raw⟩, hsz, _⟩ := hp.entries I
  obtain ⟨es1, ep1, xs, uk, uv, h3, _, _, _, _, _, h9⟩ := hp.ex
  have e1 : es1 = es := by rw [hdt] at h3; cases h3; rfl
  subst e1
  refine Calls.call_function_entry kind_len plain_len entry_len (args_len1 _) (wpAny_len_body_raw z ⟨o', raw⟩ (by rw [sizeLine_eq] at h9; omega) ?_)
  rw [hsz]
  exact ⟨.int ((kvs.length + 1 : Nat) : Int), H, I.tok _, ⟨_, rfl⟩, q⟩
def rIsiO (K : PySem.W.Frag) : List V → Hp → VK → Prop := fun xs H Q => ∃ (p : Addr) (kvs : List (List Key × V)) (k v c : V) (u : Value) (b : Bool), xs = [.ref p, c] ∧ OddAt H p kvs k v ∧ ClsV c u ∧ PySem.W.kitOne K (.type "dict") u = some b ∧ Q (.bl b) H
theorem call_isiO : CallR X (.builtin "isinstance") (rIsiO X.K) := by
  intro pins s σ H xs us Q I r h
  obtain ⟨p, kvs, k, v, c, u, b, rfl, ⟨o, hp⟩, hc, e, q⟩ := h
  obtain ⟨u1, u2, rfl, r1, r2⟩ := vals2 r
  have e2 := hc.eq r2
  subst e2
  cases (show u1 = Value.ref p from r1)
  obtain ⟨z, es, ep, hdt, ⟨o', h1, h2, h3⟩, hsz, _⟩ := hp.entries I
  exact PySem.W.kia_one PySem.W.kitx_dict I.kIn ⟨o', h1, h2.1⟩ e (fun z => nomatch z) fun tk => ⟨.bl b, H, I.tok tk, rfl, q⟩
/-- d[y] = v, y perhaps no tuple -/
def sDPutO (td ty tv : TE) : TS := fun D σ H => tv σ H fun v H1 => td σ H1 fun x H2 => ty σ H2 fun y H3 => (∃ a H4, x = .ref a ∧ DPut H3 a y v H4 ∧ D.nx σ H4) ∨
  ∃ (a : Addr) (kvs : List (List Key × V)), x = .ref a ∧ H3 a = some (.dT kvs) ∧ (∀ kv ∈ kvs, IntK kv.1) ∧ kvs.length < sizeLine ∧ OddV y ∧ ∀ φ, OddAt (upd H3 a (.ext φ)) a kvs y v → D.nx σ (upd H3 a (.ext φ))
theorem ps_dputO {o i value : Expr} {td ty tv : TE} {pos pos' : Pos} (hu : X.A.units + 1 < cLine) (ho : PE X o td) (hi : PE X i ty) (hv : PE X value tv) (hs : swapsWith value (some (.Subscript o i pos')) pos.line X.env = pure false) :
    PS X (.Assign [.Subscript o i pos'] value pos) (sDPutO td ty tv) := by
  refine ⟨fun pins s σ H D I h => ?_⟩
  refine wpAny_Assign_Subscript (thn (hv.run pins s σ H _ I h) fun r s1 ⟨v, H1, I1, rv, q1⟩ => thn (ho.run pins s1 σ H1 _ I1 q1) fun u s2 ⟨x, H2, I2, rx, q2⟩ => thn (hi.run pins s2 σ H2 _ I2 q2) fun iv s3 ⟨y, H3, I3, ry, q3⟩ => ?_) hs
  rcases q3 with ⟨a, H4, ex, g, q3⟩ | ⟨a, kvs, ex, ha, hk, hz, hy, q3⟩
  · subst ex
    obtain rfl : u = Value.ref a := rx
    exact d_setItem hu I3 g ry rv fun s4 I4 => ⟨σ, H4, I4, q3⟩
  · subst ex
    obtain rfl : u = Value.ref a := rx
    exact put_odd I3 hu ha hk hz hy ry rv fun φ s4 od I4 => ⟨σ, _, I4, q3 φ od⟩
/-! what may be shown: an odd dict too -/
inductive DY (K : PySem.W.Frag) (H : Hp) : V → PyData → Prop
  | even {v : V} {d : PyData} : DX K H v d → DY K H v d
  | odd {a : Addr} {kvs : List (List Key × V)} {k v : V} {vs : List V} {ds : List PyData} {es : List (PyData × PyData)} {dk dv : PyData} : OddAt H a kvs k v → vs = kvs.map (·.2) → DXs K H vs ds → es.map (·.1) = kvs.map (fun kv => keyD kv.1) → es.map (·.2) = ds → Dp K H k dk → dk.hasDict = false → DX K H v dv → DY K H (.ref a) (.dict (es ++ [(dk, dv)]))
  | lst {a : Addr} {xs : List V} {ds : List PyData} : SqL K H a xs → xs.length = ds.length → (∀ (i : Nat) (x : V) (d : PyData), xs[i]? = some x → ds[i]? = some d → DY K H x d) → DY K H (.ref a) (.list ds)
  | tup {a : Addr} {xs : List V} {ds : List PyData} : SqT K H a xs → xs.length = ds.length → (∀ (i : Nat) (x : V) (d : PyData), xs[i]? = some x → ds[i]? = some d → DY K H x d) → DY K H (.ref a) (.tuple ds)
theorem shwS_of {P : Program} {w : World} {h : Heap} : ∀ {xs : List V} {us : List Value} {ds : List PyData}, Vals xs us → xs.length = ds.length → (∀ (i : Nat) (x : V) (d : PyData) (u : Value), xs[i]? = some x → ds[i]? = some d → RelV x u → Shw P w h u d) → ShwS P w h us ds
  | _, _, [], .nil, _, _ => shw_nil
  | _, _, d :: ds, .cons r rs, hl, g => shw_cons (g 0 _ d _ rfl rfl r) (shwS_of rs (by simpa using hl) fun i x d u hx hd hr => g (i + 1) x d u (by simpa using hx) (by simpa using hd) hr)
  | _, _, [], .cons r rs, hl, _ => by simp at hl
  | _, _, d :: ds, .nil, hl, _ => by simp at hl
theorem shwS_idx {P : Program} {w : World} {h : Heap} : ∀ {us : List Value} {ds : List PyData}, us.length = ds.length → (∀ (i : Nat) (u : Value) (d : PyData), us[i]? = some u → ds[i]? = some d → Shw P w h u d) → ShwS P w h us ds
  | [], [], _, _ => shw_nil
  | u :: us, d :: ds, hl, g => shw_cons (g 0 _ d rfl rfl) (shwS_idx (by simpa using hl) fun i u d hx hd => g (i + 1) u d (by simpa using hx) (by simpa using hd))
  | [], d :: ds, hl, _ => by simp at hl
  | u :: us, [], hl, _ => by simp at hl
theorem DXs.get {K : PySem.W.Frag} {H : Hp} : ∀ {vs : List V} {ds : List PyData} {i : Nat} {v : V}, DXs K H vs ds → vs[i]? = some v → ∃ d, ds[i]? = some d ∧ DX K H v d
  | _, _, 0, _, .cons a _, h => by
    cases h
    exact ⟨_, rfl, a⟩
  | _, _, i + 1, _, .cons _ b, h => by
    obtain ⟨d, h1, h2⟩ := DXs.get (i := i) b (by simpa using h)
    exact ⟨d, by simpa using h1, h2⟩
  | _, _, _, _, .nil, h => by simp at h
theorem DXs.len {K : PySem.W.Frag} {H : Hp} : ∀ {vs : List V} {ds : List PyData}, DXs K H vs ds → vs.length = ds.length
  | _, _, .nil => rfl
  | _, _, .cons _ b => by rw [List.length_cons, List.length_cons, DXs.len b]
theorem DY.shw (I : Inv X pins σ H s) {v : V} {d : PyData} (h : DY X.K H v d) : ∀ u : Value, RelV v u → Shw X.prog X.w s.heap u d := by
  induction h with
  | even h => exact fun u r => DX.shw I h u r
  | @lst a xs ds hq hl g ih =>
    intro u r
    obtain rfl : u = Value.ref _ := r
    obtain ⟨its, rv, ⟨o, n, ho, hc, _, hd⟩, _⟩ := I.list hq
    exact shw_lst ho hc hd (shwS_of rv hl fun i x d u hx hd hr => ih i x d hx hd u hr)
  | @tup a xs ds hq hl g ih =>
    intro u r
    obtain rfl : u = Value.ref _ := r
    obtain ⟨its, rv, ⟨o, ho, hc, n, hd⟩, _⟩ := I.tuple hq
    exact shw_tup ho hc hd (shwS_of rv hl fun i x d u hx hd hr => ih i x d hx hd u hr)
  | @odd a kvs k v vs ds es dk dv ho ev g ek ed hk nk hv =>
    intro u r
    obtain rfl : u = Value.ref a := r
    obtain ⟨o, hp⟩ := ho
    obtain ⟨z, es', ep, hdt, ⟨o', h1, h2, h3⟩, hsz, ent, hlast, lk, lv⟩ := hp.entries I
    have el : es.length = kvs.length := by
      have := congrArg List.length ek
      rwa [List.length_map, List.length_map] at this
    have at8 : ∀ {α : Type} (f : DictEntry → α) (i : Nat) (u : α), (es'.toList.map f)[i]? = some u → ∃ hi : i < es'.size, u = f es'[i] := fun f i u hu => by
      rw [List.getElem?_map] at hu
      obtain ⟨e, he, rfl⟩ := Option.map_eq_some_iff.mp hu
      rw [Array.getElem?_toList] at he
      obtain ⟨hi, rfl⟩ := Array.getElem?_eq_some_iff.mp he
      exact ⟨hi, rfl⟩
    have keys : ShwS X.prog X.w s.heap (es'.toList.map (·.key)) ((es ++ [(dk, dv)]).map (·.1)) := by
      refine shwS_idx (by rw [List.length_map, List.length_map, List.length_append, Array.length_toList, hsz, el]; rfl) fun i u d hu hd => ?_
      obtain ⟨hi, rfl⟩ := at8 _ i u hu
      rw [List.map_append] at hd
      by_cases c : i < kvs.length
      · rw [List.getElem?_append_left (by rw [List.length_map, el]; exact c), ek, List.getElem?_map, List.getElem?_eq_getElem c] at hd
        cases hd
        obtain ⟨_, q, e1, e2, _⟩ := ent i kvs[i].1 kvs[i].2 (List.getElem?_eq_getElem c)
        rw [e1]
        obtain ⟨as, ra⟩ := Dp.reads I (keyD kvs[i].1) (.ref q) (.ref q) (.tup (SqT.of e2) (keyD1_dp _)) rfl
        exact shw_seq ra (by unfold keyD; rw [PyData.hasDict]; exact keyD1_no _)
      · have ei : i = kvs.length := by omega
        subst ei
        rw [List.getElem?_append_right (by rw [List.length_map, el]; exact Nat.le_refl _), List.length_map, el, Nat.sub_self] at hd
        cases hd
        obtain ⟨as, ra⟩ := Dp.reads I dk k _ hk lk
        exact shw_seq ra nk
    have vals : ShwS X.prog X.w s.heap (es'.toList.map (·.val)) ((es ++ [(dk, dv)]).map (·.2)) := by
      refine shwS_idx (by rw [List.length_map, List.length_map, List.length_append, Array.length_toList, hsz, el]; rfl) fun i u d hu hd => ?_
      obtain ⟨hi, rfl⟩ := at8 _ i u hu
      rw [List.map_append] at hd
      by_cases c : i < kvs.length
      · rw [List.getElem?_append_left (by rw [List.length_map, el]; exact c), ed] at hd
        obtain ⟨_, q, e1, e2, e3⟩ := ent i kvs[i].1 kvs[i].2 (List.getElem?_eq_getElem c)
        obtain ⟨d', h4, h5⟩ := DXs.get g (i := i) (v := kvs[i].2) (by rw [ev, List.getElem?_map, List.getElem?_eq_getElem c]; rfl)
        rw [h4] at hd
        cases hd
        exact DX.shw I h5 _ e3
      · have ei : i = kvs.length := by omega
        subst ei
        rw [List.getElem?_append_right (by rw [List.length_map, el]; exact Nat.le_refl _), List.length_map, el, Nat.sub_self] at hd
        cases hd
        exact DX.shw I hv _ lv
    exact shw_dic h1 h2.1 h3 z keys vals
/-- repr of a tuple in which odd dicts may stand -/
def rReprY (K : PySem.W.Frag) : List V → Hp → VK → Prop := fun xs H Q => ∃ (a : Addr) (vs : List V) (ds : List PyData), xs = [.ref a] ∧ SqT K H a vs ∧ vs.length = ds.length ∧ (∀ (i : Nat) (x : V) (d : PyData), vs[i]? = some x → ds[i]? = some d → DY K H x d) ∧ (PyData.tuple ds).showable = true ∧ (PyData.tuple ds).depth ≤ 40 ∧ (PyData.tuple ds).shown.length ≤ sizeLine ∧ Q (.str (PyData.tuple ds).shown) H
theorem call_reprY (hg : X.A.guards = some []) (hu : X.A.units + 64 < cLine) : CallR X (.builtin "repr") (rReprY X.K) := by
  intro pins s σ H xs us Q I r h
  obtain ⟨a, vs, ds, rfl, hq, hl, g, hs, hd, hz, q⟩ := h
  obtain rfl := Vals.ref1 r
  obtain ⟨its, rv, ⟨o, ho, hc, n, hdd⟩, _⟩ := I.tuple hq
  obtain ⟨⟨as, ra⟩, gg⟩ := shwS_of rv hl fun i x d u hx hd hr => DY.shw I (g i x d hx hd) u hr
  have rd : Reads s.heap (.ref a) (.tuple ds) _ := .tuple ho hc hdd ra
  rw [PyData.showable] at hs
  rw [PyData.shown] at hz q
  rw [PyData.depth] at hd
  obtain ⟨bs, b1, b2⟩ := gg hs fun t m => Nat.le_trans (tupleText_mem_le m) hz
  have out : a ∉ bs := not_mem_of_deeper rd (by rw [PyData.depth]; omega) b1
  refine call_repr_slot (T := "tuple") (idr := "tuple.__repr__") (by omega) ⟨o, ho, hc⟩ F.slot_tuple_repr ?_
  exact call_tuple_reprK ho hc hdd out b2 (g := []) hg (fun b _ => Clear.nil b) (by show X.A.units + 1 + (PyData.depthAll ds + 1) < cLine; omega) (fun _ _ e => e) (fun h' u tk hk => ⟨_, _, rfl, .str _, H, I.kept (t' := tk) hk, ⟨_, rfl⟩, q⟩) hz
end
end L2

set_option Elab.async false
set_option maxRecDepth 100000
set_option maxHeartbeats 4000000
namespace L2
open PySem PySem.Spec PyProof.Rows PySem.SeqAt PySem.Calls PyProof.V PySem.W
set_option linter.unusedVariables false
/-! == of dicts with tuple keys -/
section
variable {prog : Program} {w : World} {K : Type} [DecidableEq K] {knd : HeapKind prog w K} {A : Around} {E : Value → Shared → Prop} {s : Shared}
inductive HitsH {K : Type} (prog : Program) (w : World) (A : Around) (s : Shared) (kb : List (K × Addr × Value)) : List (K × Addr × Value) → Bool → Prop
  | nil : HitsH prog w A s kb [] true
  | miss {k : K} {v : Addr × Value} {r : List (K × Addr × Value)} : (∀ (j : Nat) (p : Addr × Value), kb[j]? ≠ some (k, p)) → HitsH prog w A s kb ((k, v) :: r) false
  | hit {k : K} {v p : Addr × Value} {j : Nat} {r : List (K × Addr × Value)} {e b : Bool} : kb[j]? = some (k, p) → SeqAt.EqP prog w A s v.2 p.2 e → HitsH prog w A s kb r b → HitsH prog w A s kb ((k, v) :: r) (e && b)
theorem HitsH.inv {kb : List (K × Addr × Value)} {k : K} {v : Addr × Value} {r : List (K × Addr × Value)} {b : Bool} (h : HitsH prog w A s kb ((k, v) :: r) b) :
    ((∀ (j : Nat) (p : Addr × Value), kb[j]? ≠ some (k, p)) ∧ b = false) ∨ ∃ (j : Nat) (p : Addr × Value) (e b' : Bool), kb[j]? = some (k, p) ∧ SeqAt.EqP prog w A s v.2 p.2 e ∧ HitsH prog w A s kb r b' ∧ b = (e && b') := by
  cases h with
  | miss hn => exact .inl ⟨hn, rfl⟩
  | hit hy he hr => exact .inr ⟨_, _, _, _, hy, he, hr, rfl⟩
theorem samePairsH {nm : String} {a b : Addr} {ka kb : List (K × Addr × Value)} {r : Bool} {Q : Bool → Shared → Prop} (hu : knd.room A) (ha : (a == sysModules) = false) (hb : (b == sysModules) = false)
    (da : s.heap.DictOfH knd a ka) (db : s.heap.DictOfH knd b kb) (hits : ka.length = kb.length → HitsH prog w A s kb ka r) (h : Q (ka.length == kb.length && r) s) :
    wpAny (model prog w) A (Builtin.Dict.samePairs nm a b) Q E s := by
  obtain ⟨oa, es, ep, hoa, _, hda, hea, hia, hna⟩ := da
  obtain ⟨ob, es', ep', hob, _, hdb, heb, hib, hnb⟩ := db
  have hla : ka.length = es.size := (size_of_entries hea).symm
  have hlb : kb.length = es'.size := (size_of_entries heb).symm
  rw [hla, hlb] at h
  unfold Builtin.Dict.samePairs Builtin.Dict.showsAll
  rw [if_neg (show ¬ (a == sysModules) = true by rw [ha]; exact Bool.false_ne_true), if_neg (show ¬ (b == sysModules) = true by rw [hb]; exact Bool.false_ne_true)]
  refine wpAny_bind (wpAny_pure (wpAny_bind (wpAny_pure ?_)))
  refine wpAny_bind (wpAny_dictEntries hoa hda ?_)
  dsimp only
  refine wpAny_bind (wpAny_dictEntries hob hdb ?_)
  by_cases hsz : es.size = es'.size
  case neg =>
    rw [if_pos (by simpa using hsz)]
    have hbf : (es.size == es'.size) = false := by simpa using hsz
    rw [hbf, Bool.false_and] at h
    exact wpAny_bind (wpAny_rule (wpAny_pure h))
  case pos =>
    have h' : Q r s := by simpa [hsz] using h
    have hits' := hits (by rw [hla, hlb]; exact hsz)
    rw [if_neg (by rw [hsz]; simp)]
    refine wpAny_bind (wpAny_dictEpoch hoa hda ?_)
    refine wpAny_bind ?_
    rw [Std.Legacy.Range.forIn_eq_forIn_range']
    simp only [Std.Legacy.Range.size, Nat.sub_zero, Nat.add_sub_cancel, Nat.div_one]
    refine wpAny_forIn_list _
      (fun rest q s' => s' = s ∧ q = (none, ()) ∧ ∃ i, rest = List.range' i (es.size - i) ∧ i ≤ es.size ∧ HitsH prog w A s kb (ka.drop i) r)
      _ ?_ ?_ _ _ ⟨rfl, rfl, 0, by simp, Nat.zero_le _, hits'⟩
    · rintro x rest q s' ⟨rfl, rfl, i, hr, hi, hpre⟩
      have hlt : i < es.size := by
        rcases Nat.lt_or_ge i es.size with h | h
        · exact h
        · rw [Nat.sub_eq_zero_of_le h] at hr; simp at hr
      obtain ⟨rfl, hrest⟩ : x = i ∧ rest = List.range' (i + 1) (es.size - (i + 1)) := by
        have e : es.size - i = (es.size - (i + 1)) + 1 := by omega
        rw [e, List.range'_succ] at hr
        injection hr with h1 h2
        exact ⟨h1, h2⟩
      refine wpAny_bind (wpAny_dictEntries hoa hda ?_)
      rw [Array.getElem?_eq_getElem hlt]
      have hlt' : x < ka.length := by rw [hla]; exact hlt
      obtain ⟨k, v, hkv⟩ : ∃ k v, ka[x] = (k, v) := ⟨_, _, rfl⟩
      have hdrop : ka.drop x = (k, v) :: ka.drop (x + 1) := by rw [← hkv]; exact List.drop_eq_getElem_cons hlt'
      have hen : es[x] = entryOfKey knd (k, v) := by
        have q := entry_at hea x
        rw [Array.getElem?_eq_getElem hlt, List.getElem?_eq_getElem hlt', hkv] at q
        exact Option.some.inj q
      have hkm : knd.is s'.heap k v.1 := by
        have := hia ka[x] (List.getElem_mem hlt')
        rw [hkv] at this
        exact this
      rw [hdrop] at hpre
      rw [hen]
      show wpAny _ _ (holding [Value.ref v.1, v.2] _ >>= _) _ _ _
      refine wpAny_bind (wpAny_holding (wpAny_bind ?_))
      show wpAny _ _ (dictFind b (.ref v.1) (knd.hash k)) _ _ _
      refine wpAny_dictFind_heap hu hkm hob hdb heb hib hnb (fun hno => ?_) fun j p hj => ?_
      · rcases hpre.inv with ⟨_, er⟩ | ⟨j, y, _, _, hy, _⟩
        · rw [er] at h'
          refine wpAny_pure ?_
          show wpAny _ _ (if (!false) = true then _ else _) _ _ _
          rw [if_pos (by decide)]
          exact wpAny_pure (wpAny_pure h')
        · exact absurd hy (hno j y)
      · have hjlt : j < es'.size := by
          rw [← hlb]
          exact (List.getElem?_eq_some_iff.mp hj).1
        refine wpAny_bind (wpAny_dictEntries hob hdb ?_)
        rw [Array.getElem?_eq_getElem hjlt]
        rcases hpre.inv with ⟨hn, _⟩ | ⟨j2, y, e, b', hy, he, hrr, er⟩
        · exact absurd hj (hn j p)
        · have ejj : j = j2 := by
            obtain ⟨l1, e1⟩ := List.getElem?_eq_some_iff.mp hj
            obtain ⟨l2, e2⟩ := List.getElem?_eq_some_iff.mp hy
            have g1 : (kb.map (·.1))[j]'(by simpa using l1) = k := by rw [List.getElem_map, e1]
            have g2 : (kb.map (·.1))[j2]'(by simpa using l2) = k := by rw [List.getElem_map, e2]
            have pw := List.pairwise_iff_getElem.mp hnb
            rcases Nat.lt_trichotomy j j2 with c | c | c
            · exact absurd (g1.trans g2.symm) (pw j j2 (by simpa using l1) (by simpa using l2) c)
            · exact c
            · exact absurd (g2.trans g1.symm) (pw j2 j (by simpa using l2) (by simpa using l1) c)
          subst ejj
          rw [hj] at hy
          cases hy
          have ev : es'[j].val = p.2 := by
            have q := entry_at heb j
            rw [Array.getElem?_eq_getElem hjlt, hj] at q
            rw [Option.some.inj q]
            rfl
          show wpAny _ _ (holding [es'[j].val] (eqBool v.2 es'[j].val)) _ _ _
          rw [ev]
          refine wpAny_holding (he _ _ ?_)
          cases e with
          | false =>
            rw [er, Bool.false_and] at h'
            show wpAny _ _ (if (!false) = true then _ else _) _ _ _
            rw [if_pos (by decide)]
            exact wpAny_pure (wpAny_pure h')
          | true =>
            rw [Bool.true_and] at er
            rw [← er] at hrr
            show wpAny _ _ (if (!true) = true then _ else _) _ _ _
            rw [if_neg (by decide)]
            refine wpAny_bind (wpAny_dictEpoch hoa hda ?_)
            rw [if_neg (by simp)]
            exact wpAny_pure ⟨rfl, rfl, x + 1, hrest, hlt, hrr⟩
    · rintro q s' ⟨rfl, rfl, i, hr, hi, hpre⟩
      have hin : i = es.size := by
        rcases Nat.lt_or_ge i es.size with h | h
        · have e : es.size - i = (es.size - (i + 1)) + 1 := by omega
          rw [e, List.range'_succ] at hr; exact nomatch hr
        · exact Nat.le_antisymm hi h
      refine wpAny_pure ?_
      rw [hin, ← hla, List.drop_length] at hpre
      cases hpre
      exact h'
theorem DictOfH.ty {d : Addr} {xs : List (K × Addr × Value)} (h : s.heap.DictOfH knd d xs) : s.TypeIs (.ref d) "dict" := let ⟨o, _, _, ho, hc, _⟩ := h; ⟨o, ho, hc.1⟩
theorem rcH_dicts {a b : Addr} {ka kb : List (K × Addr × Value)} {r : Bool} (hr : knd.room A.in1) (ha : (a == sysModules) = false) (hb : (b == sysModules) = false)
    (da : s.heap.DictOfH knd a ka) (db : s.heap.DictOfH knd b kb) (hu : A.units < cLine) (hits : ka.length = kb.length → HitsH prog w A.in1 s kb ka r) (E Q : Value → Shared → Prop) (h : Q (.bool (ka.length == kb.length && r)) s) : wpAny (model prog w) A (richCompare .Eq (.ref a) (.ref b)) Q E s := by
  refine wpAny_richCompare_same_room (op := .Eq) (DictOfH.ty da) (DictOfH.ty db) PySem.F.slot_dict_eq (wpAny_call_entry PySem.F.slot_dict_eq (DictOfH.ty da) PySem.F.entry_dict_eq ?_ (PySem.F.args_dict_eq_2 _ _)) hu
  show wpAny _ _ (Builtin.Dict.dictSlotArgs "__eq__" ⟨[.ref a, .ref b], []⟩ >>= _) _ _ s
  refine wpAny_bind ?_
  unfold Builtin.Dict.dictSlotArgs
  refine wpAny_bind (wpAny_notOrdered_dict (DictOfH.ty da) ?_)
  show wpAny _ _ (pure (Value.ref a, Value.ref b)) _ _ s
  refine wpAny_pure ?_
  refine wpAny_bind (wpAny_isInstance (T := "dict") (DictOfH.ty db) PySem.F.sub_dict_dict ?_)
  simp only [Bool.not_true, Bool.false_eq_true, if_false]
  refine wpAny_bind (wpAny_pure (wpAny_bind (wpAny_pure ?_)))
  refine wpAny_bind (samePairsH hr ha hb da db hits ?_)
  refine wpAny_pure ⟨_, rfl, ?_, ?_⟩
  · exact fun x => nomatch x
  · simpa using h
theorem rcHN_dicts {a b : Addr} {ka kb : List (K × Addr × Value)} {r : Bool} (hr : knd.room A.in1) (ha : (a == sysModules) = false) (hb : (b == sysModules) = false)
    (da : s.heap.DictOfH knd a ka) (db : s.heap.DictOfH knd b kb) (hu : A.units < cLine) (hits : ka.length = kb.length → HitsH prog w A.in1 s kb ka r) (E Q : Value → Shared → Prop) (h : Q (.bool (!(ka.length == kb.length && r))) s) : wpAny (model prog w) A (richCompare .NotEq (.ref a) (.ref b)) Q E s := by
  refine wpAny_richCompare_same_room (op := .NotEq) (DictOfH.ty da) (DictOfH.ty db) PySem.F.slot_dict_ne (wpAny_call_entry PySem.F.slot_dict_ne (DictOfH.ty da) PySem.F.entry_dict_ne ?_ (PySem.F.args_dict_ne_2 _ _)) hu
  show wpAny _ _ (Builtin.Dict.dictSlotArgs "__ne__" ⟨[.ref a, .ref b], []⟩ >>= _) _ _ s
  refine wpAny_bind ?_
  unfold Builtin.Dict.dictSlotArgs
  refine wpAny_bind (wpAny_notOrdered_dict (DictOfH.ty da) ?_)
  show wpAny _ _ (pure (Value.ref a, Value.ref b)) _ _ s
  refine wpAny_pure ?_
  refine wpAny_bind (wpAny_isInstance (T := "dict") (DictOfH.ty db) PySem.F.sub_dict_dict ?_)
  simp only [Bool.not_true, Bool.false_eq_true, if_false]
  refine wpAny_bind (wpAny_pure (wpAny_bind (wpAny_pure ?_)))
  refine wpAny_bind (samePairsH hr ha hb da db hits ?_)
  refine wpAny_pure ⟨_, rfl, ?_, ?_⟩
  · exact fun x => nomatch x
  · simpa using h
end

section
variable {prog : Program} {w : World}
open AutoSeq1 (wpAny_loadPart')
theorem tuple_eqIn (l b : Addr) (items items2 : Array Value) (n n2 : Nat) (dd dd2 : Option Addr) (sl sl2 : Array (Option Value)) (e : Nat → Bool) :
    MeetsIn prog w (Builtin.«tuple.__eq__» ⟨[.ref l, .ref b], []⟩)
      (fun A R s => s.heap.get? l = some { cls := .type "tuple", dict := dd, data := .seq items n, slots := sl } ∧ s.heap.get? b = some { cls := .type "tuple", dict := dd2, data := .seq items2 n2, slots := sl2 } ∧
        (∀ j (h1 : j < items.size) (h2 : j < items2.size), SeqAt.EqP prog w A.in1 s items[j] items2[j] (e j)) ∧
        R (.ok (.ret (.bool ((List.range (min items.size items2.size)).all e && items.size == items2.size)))) s) :=
  .of_wp fun A R s h => by
    obtain ⟨hp, g, d, tk, os⟩ := s; obtain ⟨hl, hb, he, h⟩ := h
    have f2 := AutoSeq1.sub_tuple_tuple
    have hZ : (items.toList.zip items2.toList).length = min items.size items2.size := by simp
    wp_walk using wpAny_loadPart' hl, wpAny_loadPart' hb, wpAny_forIn_list _ (fun rest b s' => b.1 = none ∧ s' = ⟨hp, g, d, tk, os⟩ ∧ ∃ i, rest = (items.toList.zip items2.toList).drop i ∧
      R (.ok (.ret (.bool (((List.range (min items.size items2.size)).drop i).all e && items.size == items2.size)))) ⟨hp, g, d, tk, os⟩) _
    case turn =>
      rintro ⟨y, x⟩ rest b s' ⟨hb', rfl, i, hz, hR⟩
      have hlt : i < (items.toList.zip items2.toList).length := by
        rcases Nat.lt_or_ge i (items.toList.zip items2.toList).length with h' | h'
        · exact h'
        · rw [List.drop_of_length_le h'] at hz; cases hz
      have hm : i < min items.size items2.size := hZ ▸ hlt
      have h1 : i < items.size := Nat.lt_of_lt_of_le hm (Nat.min_le_left _ _)
      have h2 : i < items2.size := Nat.lt_of_lt_of_le hm (Nat.min_le_right _ _)
      rw [List.drop_eq_getElem_cons hlt] at hz
      injection hz with hyx hrest
      have hy : y = items[i] := by have := congrArg Prod.fst hyx; simpa using this
      have hx : x = items2[i] := by have := congrArg Prod.snd hyx; simpa using this
      subst hy hx
      have hd : (List.range (min items.size items2.size)).drop i = i :: (List.range (min items.size items2.size)).drop (i + 1) := by simp [List.drop_eq_getElem_cons, hm]
      rw [hd, List.all_cons] at hR
      refine wpAny_bind (he i h1 h2 _ _ ?_)
      cases hy : e i with
      | true =>
        rw [hy] at hR
        wp_walk
        exact ⟨rfl, rfl, i + 1, hrest, by simpa using hR⟩
      | false =>
        rw [hy] at hR
        wp_walk
        exact ⟨_, rfl, by simpa using hR⟩
    case fin =>
      rintro ⟨b1, b2⟩ s' ⟨hb', rfl, i, hz, hR⟩
      simp only at hb'
      subst hb'
      have hge : min items.size items2.size ≤ i := by
        rcases Nat.lt_or_ge i (items.toList.zip items2.toList).length with h' | h'
        · rw [List.drop_eq_getElem_cons h'] at hz; cases hz
        · exact hZ ▸ h'
      rw [List.drop_of_length_le (by simpa using hge)] at hR
      wp_walk
      exact ⟨_, rfl, by simpa [Builtin.Tuple.tupleCompareSizes] using hR⟩
    case h =>
      exact ⟨rfl, rfl, 0, rfl, by simpa using h⟩
theorem rcP_tups {A : Around} {s : Shared} {l b : Addr} {items items2 : Array Value} {e : Nat → Bool} (hl : s.heap.IsTuple l items) (hb : s.heap.IsTuple b items2) (hu : A.units < cLine)
    (he : ∀ j (h1 : j < items.size) (h2 : j < items2.size), SeqAt.EqP prog w A.in1 s items[j] items2[j] (e j)) (E Q : Value → Shared → Prop) (h : Q (.bool ((List.range (min items.size items2.size)).all e && items.size == items2.size)) s) : wpAny (model prog w) A (richCompare .Eq (.ref l) (.ref b)) Q E s := by
  obtain ⟨⟨cls, dd, data, sl⟩, ho, hc, n, hd⟩ := id hl
  obtain ⟨⟨cls2, dd2, data2, sl2⟩, ho2, hc2, n2, hd2⟩ := id hb
  simp only at hc hd hc2 hd2
  subst hc hd hc2 hd2
  have ta : s.TypeIs (.ref l) "tuple" := ⟨_, ho, rfl⟩
  have tb : s.TypeIs (.ref b) "tuple" := ⟨_, ho2, rfl⟩
  exact wpAny_richCompare_same_room (op := .Eq) ta tb F.slot_tuple_eq (call_meetsIn F.slot_tuple_eq ta F.entry_tuple_eq (F.args_tuple_eq_2 _ _) (tuple_eqIn l b items items2 n n2 dd dd2 sl sl2 e)
    ⟨ho, ho2, he, show Value.bool ((List.range (min items.size items2.size)).all e && items.size == items2.size) ≠ Value.notImplemented ∧ Q (.bool ((List.range (min items.size items2.size)).all e && items.size == items2.size)) s from ⟨(fun x => nomatch x), h⟩⟩) hu
theorem tuple_neIn (l b : Addr) (items items2 : Array Value) (n n2 : Nat) (dd dd2 : Option Addr) (sl sl2 : Array (Option Value)) (e : Nat → Bool) :
    MeetsIn prog w (Builtin.«tuple.__ne__» ⟨[.ref l, .ref b], []⟩)
      (fun A R s => s.heap.get? l = some { cls := .type "tuple", dict := dd, data := .seq items n, slots := sl } ∧ s.heap.get? b = some { cls := .type "tuple", dict := dd2, data := .seq items2 n2, slots := sl2 } ∧
        (∀ j (h1 : j < items.size) (h2 : j < items2.size), SeqAt.EqP prog w A.in1 s items[j] items2[j] (e j)) ∧
        R (.ok (.ret (.bool (!((List.range (min items.size items2.size)).all e && items.size == items2.size))))) s) :=
  .of_wp fun A R s h => by
    obtain ⟨hp, g, d, tk, os⟩ := s; obtain ⟨hl, hb, he, h⟩ := h
    have f2 := AutoSeq1.sub_tuple_tuple
    have hZ : (items.toList.zip items2.toList).length = min items.size items2.size := by simp
    wp_walk using wpAny_loadPart' hl, wpAny_loadPart' hb, wpAny_forIn_list _ (fun rest b s' => b.1 = none ∧ s' = ⟨hp, g, d, tk, os⟩ ∧ ∃ i, rest = (items.toList.zip items2.toList).drop i ∧
      R (.ok (.ret (.bool (!(((List.range (min items.size items2.size)).drop i).all e && items.size == items2.size))))) ⟨hp, g, d, tk, os⟩) _
    case turn =>
      rintro ⟨y, x⟩ rest b s' ⟨hb', rfl, i, hz, hR⟩
      have hlt : i < (items.toList.zip items2.toList).length := by
        rcases Nat.lt_or_ge i (items.toList.zip items2.toList).length with h' | h'
        · exact h'
        · rw [List.drop_of_length_le h'] at hz; cases hz
      have hm : i < min items.size items2.size := hZ ▸ hlt
      have h1 : i < items.size := Nat.lt_of_lt_of_le hm (Nat.min_le_left _ _)
      have h2 : i < items2.size := Nat.lt_of_lt_of_le hm (Nat.min_le_right _ _)
      rw [List.drop_eq_getElem_cons hlt] at hz
      injection hz with hyx hrest
      have hy : y = items[i] := by have := congrArg Prod.fst hyx; simpa using this
      have hx : x = items2[i] := by have := congrArg Prod.snd hyx; simpa using this
      subst hy hx
      have hd : (List.range (min items.size items2.size)).drop i = i :: (List.range (min items.size items2.size)).drop (i + 1) := by simp [List.drop_eq_getElem_cons, hm]
      rw [hd, List.all_cons] at hR
      refine wpAny_bind (he i h1 h2 _ _ ?_)
      cases hy : e i with
      | true =>
        rw [hy] at hR
        wp_walk
        exact ⟨rfl, rfl, i + 1, hrest, by simpa using hR⟩
      | false =>
        rw [hy] at hR
        wp_walk
        exact ⟨_, rfl, by simpa using hR⟩
    case fin =>
      rintro ⟨b1, b2⟩ s' ⟨hb', rfl, i, hz, hR⟩
      simp only at hb'
      subst hb'
      have hge : min items.size items2.size ≤ i := by
        rcases Nat.lt_or_ge i (items.toList.zip items2.toList).length with h' | h'
        · rw [List.drop_eq_getElem_cons h'] at hz; cases hz
        · exact hZ ▸ h'
      rw [List.drop_of_length_le (by simpa using hge)] at hR
      wp_walk
      exact ⟨_, rfl, by simpa [Builtin.Tuple.tupleCompareSizes, bne] using hR⟩
    case h =>
      exact ⟨rfl, rfl, 0, rfl, by simpa using h⟩
theorem rcN_tups {A : Around} {s : Shared} {l b : Addr} {items items2 : Array Value} {e : Nat → Bool} (hl : s.heap.IsTuple l items) (hb : s.heap.IsTuple b items2) (hu : A.units < cLine)
    (he : ∀ j (h1 : j < items.size) (h2 : j < items2.size), SeqAt.EqP prog w A.in1 s items[j] items2[j] (e j)) (E Q : Value → Shared → Prop) (h : Q (.bool (!((List.range (min items.size items2.size)).all e && items.size == items2.size))) s) : wpAny (model prog w) A (richCompare .NotEq (.ref l) (.ref b)) Q E s := by
  obtain ⟨⟨cls, dd, data, sl⟩, ho, hc, n, hd⟩ := id hl
  obtain ⟨⟨cls2, dd2, data2, sl2⟩, ho2, hc2, n2, hd2⟩ := id hb
  simp only at hc hd hc2 hd2
  subst hc hd hc2 hd2
  have ta : s.TypeIs (.ref l) "tuple" := ⟨_, ho, rfl⟩
  have tb : s.TypeIs (.ref b) "tuple" := ⟨_, ho2, rfl⟩
  exact wpAny_richCompare_same_room (op := .NotEq) ta tb F.slot_tuple_ne (call_meetsIn F.slot_tuple_ne ta F.entry_tuple_ne (F.args_tuple_ne_2 _ _) (tuple_neIn l b items items2 n n2 dd dd2 sl sl2 e)
    ⟨ho, ho2, he, show Value.bool (!((List.range (min items.size items2.size)).all e && items.size == items2.size)) ≠ Value.notImplemented ∧ Q (.bool (!((List.range (min items.size items2.size)).all e && items.size == items2.size))) s from ⟨(fun x => nomatch x), h⟩⟩) hu
end
end L2

set_option Elab.async false
set_option maxRecDepth 100000
set_option maxHeartbeats 4000000
namespace L2
open PySem PySem.Spec PyProof.Rows PySem.SeqAt PySem.Calls PyProof.V PySem.W
set_option linter.unusedVariables false
/-! == of nested data in which dicts with tuple keys stand -/
def RcX (K : PySem.W.Frag) (H : Hp) (F : V → V → Bool → Prop) (x y : V) (r : Bool) : Prop :=
  (∃ a b xs ys e, x = .ref a ∧ y = .ref b ∧ SqL K H a xs ∧ SqL K H b ys ∧ xs.length = ys.length ∧ (∀ (j : Nat) u v, xs[j]? = some u → ys[j]? = some v → F u v (e j)) ∧ r = (List.range xs.length).all e) ∨
  (∃ a b xs ys e, x = .ref a ∧ y = .ref b ∧ SqT K H a xs ∧ SqT K H b ys ∧ (∀ (j : Nat) u v, xs[j]? = some u → ys[j]? = some v → F u v (e j)) ∧ r = ((List.range (min xs.length ys.length)).all e && xs.length == ys.length)) ∨
  ∃ a b ks ls f, x = .ref a ∧ y = .ref b ∧ H a = some (.dT ks) ∧ H b = some (.dT ls) ∧ (ks.length = ls.length → ∀ p ∈ ks, (valV ls p.1 = none ∧ f p = false) ∨ ∃ u, valV ls p.1 = some u ∧ F p.2 u (f p)) ∧ r = (ks.length == ls.length && ks.all f)
def EqX (K : PySem.W.Frag) (H : Hp) : Nat → V → V → Bool → Prop
  | 0 => fun _ _ _ => False
  | n + 1 => fun x y r => (∃ d e, Dp K H x d ∧ Dp K H y e ∧ SeqAt.shaped d = true ∧ SeqAt.shaped e = true ∧ r = PyData.eqv d e) ∨ (∃ a, x = .ref a ∧ y = .ref a ∧ r = true) ∨ (RcX K H (EqX K H n) x y r ∧ (x = y → r = true))
theorem atKey_idx {xs : List (List Key × Addr × Value)} {k : List Key} {p : Addr × Value} (h : atKey xs k = some p) : ∃ j : Nat, xs[j]? = some (k, p) := by
  unfold atKey at h
  obtain ⟨q, hq, rfl⟩ := Option.map_eq_some_iff.mp h
  obtain ⟨j, hj⟩ := List.getElem?_of_mem (List.mem_of_find?_eq_some hq)
  have : q.1 = k := by simpa using List.find?_some hq
  exact ⟨j, by rw [hj, ← this]⟩
theorem atKey_no {xs : List (List Key × Addr × Value)} {k : List Key} (h : atKey xs k = none) : ∀ (j : Nat) (p : Addr × Value), xs[j]? ≠ some (k, p) := fun j p e => by
  unfold atKey at h
  have h := Option.map_eq_none_iff.mp h
  have := List.find?_eq_none.mp h (k, p) (List.mem_of_getElem? e)
  simp at this
theorem hitsH_run {P : Program} {w : World} {A : Around} {s : Shared} {H : Hp} {F : V → V → Bool → Prop} (ih : ∀ x y r v u, F x y r → RelV x v → RelV y u → SeqAt.EqP P w A s v u r) {ls : List (List Key × V)} {vb : List (List Key × Addr × Value)} (rb : KT H ls vb) {f : List Key × V → Bool} {ks : List (List Key × V)} {va : List (List Key × Addr × Value)}
    (ra : KT H ks va) : (∀ p ∈ ks, (valV ls p.1 = none ∧ f p = false) ∨ ∃ u, valV ls p.1 = some u ∧ F p.2 u (f p)) → HitsH P w A s vb va (ks.all f) := by
  induction ra with
  | nil => intro _; exact .nil
  | @cons p q ps qs h t k =>
    intro hp
    obtain ⟨h1, h2, h3⟩ := h
    obtain ⟨key, v⟩ := q
    have h1 : p.1 = key := h1
    have rv := rb.val p.1
    rw [List.all_cons]
    rcases hp p List.mem_cons_self with ⟨e, ef⟩ | ⟨u, e, fu⟩
    · rw [ef, Bool.false_and]
      rw [e] at rv
      have : atKey vb p.1 = none := by
        cases c : atKey vb p.1 with
        | none => rfl
        | some z => rw [c] at rv; exact False.elim rv
      rw [h1] at this
      exact .miss (atKey_no this)
    · rw [e] at rv
      obtain ⟨y, hy, ry⟩ := rv.some_of
      obtain ⟨z, hz, rfl⟩ := Option.map_eq_some_iff.mp hy
      rw [h1] at hz
      obtain ⟨j, hj⟩ := atKey_idx hz
      exact .hit hj (ih _ _ _ _ _ fu h3 ry) (k fun p' hm => hp p' (List.mem_cons_of_mem _ hm))
section
variable {X : Cx} {pins : List (Addr × Obj)} {σ : St} {H : Hp} {s : Shared}
theorem vals_at {xs : List V} {us : List Value} (r : Vals xs us) {j : Nat} (h : j < us.length) : ∃ x, xs[j]? = some x ∧ RelV x us[j] := by
  have hx : j < xs.length := by rw [r.length]; exact h
  obtain ⟨u, hu, ru⟩ := r.get (List.getElem?_eq_getElem hx)
  rw [List.getElem?_eq_getElem h] at hu
  cases hu
  exact ⟨_, List.getElem?_eq_getElem hx, ru⟩
section
open AutoSeq1 (wpAny_loadPart')
open MeetsSeq MeetsSeq2 MeetsSeq3 SeqRoads2
theorem ne_loopIn {prog : Program} {w : World} (l b : Addr) (items items2 : Array Value) (n n2 : Nat) (dd dd2 : Option Addr) (sl sl2 : Array (Option Value)) (hsz : items.size = items2.size) (e : Nat → Bool) (k : Nat) :
    ∀ i : Nat, items.size - i = k → MeetsIn prog w (Builtin.«list.__eq__.loop» ⟨[.ref l, .ref b, rawInt i, rawInt 3], []⟩)
      (fun A R s => s.heap.get? l = some { cls := .type "list", dict := dd, data := .seq items n, slots := sl } ∧ s.heap.get? b = some { cls := .type "list", dict := dd2, data := .seq items2 n2, slots := sl2 } ∧
        (∀ j (h1 : j < items.size) (h2 : j < items2.size), SeqAt.EqP prog w A.in1 s items[j] items2[j] (e j)) ∧
        R (.ok (.ret (.bool (!((List.range items.size).drop i).all e)))) s) := by
  induction k with
  | zero =>
    intro i hk A R s h
    obtain ⟨hp, g, d, tk, os⟩ := s; obtain ⟨hl, hb, he, h⟩ := h
    wp_walk using wpAny_loadPart' hl, wpAny_loadPart' hb
    have hi1 : items[((i : Nat) : Int).toNat]? = none := by simp; omega
    have hi2 : items2[((i : Nat) : Int).toNat]? = none := by simp; omega
    have hd : (List.range items.size).drop i = [] := by simp; omega
    rw [hd] at h
    rw [hi1, hi2]
    wp_walk using wpAny_loadPart' hl, wpAny_loadPart' hb
    show R (.ok (.ret (.bool (items.size != items2.size)))) _
    rw [hsz]
    simpa using h
  | succ k ih =>
    intro i hk A R s h
    obtain ⟨hp, g, d, tk, os⟩ := s; obtain ⟨hl, hb, he, h⟩ := h
    wp_walk using wpAny_loadPart' hl, wpAny_loadPart' hb
    have hlt : i < items.size := by omega
    have hlt2 : i < items2.size := by omega
    have hi1 : items[((i : Nat) : Int).toNat]? = some items[i] := by simp [hlt]
    have hi2 : items2[((i : Nat) : Int).toNat]? = some items2[i] := by simp [hlt2]
    have hd : (List.range items.size).drop i = i :: (List.range items.size).drop (i + 1) := by simp [List.drop_eq_getElem_cons, hlt]
    have hc : ((i : Int) + 1) = ((i + 1 : Nat) : Int) := by push_cast; rfl
    rw [hd, List.all_cons] at h
    rw [hi1, hi2]
    refine wpAny_bind (he i hlt hlt2 _ _ ?_)
    cases hb' : e i with
    | true =>
      rw [hb'] at h
      wp_walk
      rw [hc]
      exact ⟨plainId_quiet plain_eq_loop _, codeAny_builtin entry_eq_loop (by
        rw [Around.under_plainId plain_eq_loop _]
        exact ih (i + 1) (by omega) A R _ ⟨hl, hb, he, by simpa using h⟩)⟩
    | false =>
      rw [hb'] at h
      wp_walk using wpAny_loadPart' hl, wpAny_loadPart' hb
      rw [hi1, hi2]
      wp_walk
      simpa using h

theorem list_neIn {prog : Program} {w : World} (l b : Addr) (items items2 : Array Value) (n n2 : Nat) (dd dd2 : Option Addr) (sl sl2 : Array (Option Value)) (hsz : items.size = items2.size) (e : Nat → Bool) :
    MeetsIn prog w (Builtin.«list.__ne__» ⟨[.ref l, .ref b], []⟩)
      (fun A R s => s.heap.get? l = some { cls := .type "list", dict := dd, data := .seq items n, slots := sl } ∧ s.heap.get? b = some { cls := .type "list", dict := dd2, data := .seq items2 n2, slots := sl2 } ∧
        (∀ j (h1 : j < items.size) (h2 : j < items2.size), SeqAt.EqP prog w A.in1 s items[j] items2[j] (e j)) ∧
        R (.ok (.ret (.bool (!(List.range items.size).all e)))) s) := by
  intro A R s h
  obtain ⟨hp, g, d, tk, os⟩ := s; obtain ⟨hl, hb, he, h⟩ := h
  have f3 := AutoSeq1.sub_list_list
  have hne : ¬ (items.size != items2.size) = true := by simp [hsz]
  wp_walk using wpAny_loadPart' hl, wpAny_loadPart' hb
  exact ⟨plainId_quiet plain_eq_loop _, codeAny_builtin entry_eq_loop (by
    rw [Around.under_plainId plain_eq_loop _]
    exact ne_loopIn l b items items2 n n2 dd dd2 sl sl2 hsz e _ 0 rfl A R _ ⟨hl, hb, he, by simpa using h⟩)⟩

theorem rcN_lists {prog : Program} {w : World} {A : Around} {s : Shared} {l b : Addr} {items items2 : Array Value} {e : Nat → Bool} (hl : s.heap.IsList l items) (hb : s.heap.IsList b items2) (hsz : items.size = items2.size) (hu : A.units < cLine)
    (he : ∀ j (h1 : j < items.size) (h2 : j < items2.size), SeqAt.EqP prog w A.in1 s items[j] items2[j] (e j)) (E Q : Value → Shared → Prop) (h : Q (.bool (!(List.range items.size).all e)) s) : wpAny (model prog w) A (richCompare .NotEq (.ref l) (.ref b)) Q E s := by
  obtain ⟨⟨cls, dd, data, sl⟩, ho, hc, n, hd⟩ := id hl
  obtain ⟨⟨cls2, dd2, data2, sl2⟩, ho2, hc2, n2, hd2⟩ := id hb
  simp only at hc hd hc2 hd2
  subst hc hd hc2 hd2
  have ta : s.TypeIs (.ref l) "list" := ⟨_, ho, rfl⟩
  have tb : s.TypeIs (.ref b) "list" := ⟨_, ho2, rfl⟩
  exact wpAny_richCompare_same_room (op := .NotEq) ta tb F.slot_list_ne (call_meetsIn F.slot_list_ne ta F.entry_list_ne (F.args_list_ne_2 _ _) (list_neIn l b items items2 n n2 dd dd2 sl sl2 hsz e)
    ⟨ho, ho2, he, show Value.bool (!(List.range items.size).all e) ≠ Value.notImplemented ∧ Q (.bool (!(List.range items.size).all e)) s from ⟨(fun x => nomatch x), h⟩⟩) hu
end
theorem rcX_run (I : Inv X pins σ H s) {A : Around} {F : V → V → Bool → Prop} (hu : A.units + 4 < cLine) (ih : ∀ x y r v u, F x y r → RelV x v → RelV y u → SeqAt.EqP X.prog X.w A.in1 s v u r) {x y : V} {r : Bool} {v u : Value} (h : RcX X.K H F x y r) (rx : RelV x v) (ry : RelV y u)
    (E Q : Value → Shared → Prop) (q : Q (.bool r) s) : wpAny (model X.prog X.w) A (richCompare .Eq v u) Q E s := by
  rcases h with ⟨a, b, xs, ys, e, rfl, rfl, ha, hb, hl, he, rfl⟩ | ⟨a, b, xs, ys, e, rfl, rfl, ha, hb, he, rfl⟩ | ⟨a, b, ks, ls, f, rfl, rfl, ha, hb, hp, rfl⟩
  · cases (show v = Value.ref a from rx)
    cases (show u = Value.ref b from ry)
    obtain ⟨us, r1, p1, _⟩ := I.list ha
    obtain ⟨ws, r2, p2, _⟩ := I.list hb
    have hsz : us.toArray.size = ws.toArray.size := by
      rw [List.size_toArray, List.size_toArray, ← r1.length, ← r2.length]
      exact hl
    refine SeqAt.rcP_lists (e := e) p1.isList p2.isList hsz (by omega) (fun j h1 h2 => ?_) E Q ?_
    · obtain ⟨x1, g1, q1⟩ := vals_at r1 (j := j) (by simpa using h1)
      obtain ⟨x2, g2, q2⟩ := vals_at r2 (j := j) (by simpa using h2)
      have k := ih _ _ _ _ _ (he j _ _ g1 g2) q1 q2
      simpa using k
    · rw [List.size_toArray, ← r1.length]
      exact q
  · cases (show v = Value.ref a from rx)
    cases (show u = Value.ref b from ry)
    obtain ⟨us, r1, p1, _⟩ := I.tuple ha
    obtain ⟨ws, r2, p2, _⟩ := I.tuple hb
    refine rcP_tups (e := e) p1 p2 (by omega) (fun j h1 h2 => ?_) E Q ?_
    · obtain ⟨x1, g1, q1⟩ := vals_at r1 (j := j) (by simpa using h1)
      obtain ⟨x2, g2, q2⟩ := vals_at r2 (j := j) (by simpa using h2)
      have k := ih _ _ _ _ _ (he j _ _ g1 g2) q1 q2
      simpa using k
    · rw [List.size_toArray, List.size_toArray, ← r1.length, ← r2.length]
      exact q
  · cases (show v = Value.ref a from rx)
    cases (show u = Value.ref b from ry)
    obtain ⟨_, ya, va, ra, da⟩ := dt_of I.hok ha
    obtain ⟨_, yb, vb, rb, db⟩ := dt_of I.hok hb
    refine rcH_dicts (knd := tupleKind (mixKind X.prog X.w)) (tupleKind_room_in1 (by omega)) ya yb da db (by omega) (fun hl => hitsH_run ih rb ra (hp (by rw [ra.length, rb.length]; exact hl))) E Q ?_
    rw [← ra.length, ← rb.length]
    exact q
theorem rcXN_run (I : Inv X pins σ H s) {A : Around} {F : V → V → Bool → Prop} (hu : A.units + 4 < cLine) (ih : ∀ x y r v u, F x y r → RelV x v → RelV y u → SeqAt.EqP X.prog X.w A.in1 s v u r) {x y : V} {r : Bool} {v u : Value} (h : RcX X.K H F x y r) (rx : RelV x v) (ry : RelV y u)
    (E Q : Value → Shared → Prop) (q : Q (.bool (!r)) s) : wpAny (model X.prog X.w) A (richCompare .NotEq v u) Q E s := by
  rcases h with ⟨a, b, xs, ys, e, rfl, rfl, ha, hb, hl, he, rfl⟩ | ⟨a, b, xs, ys, e, rfl, rfl, ha, hb, he, rfl⟩ | ⟨a, b, ks, ls, f, rfl, rfl, ha, hb, hp, rfl⟩
  · cases (show v = Value.ref a from rx)
    cases (show u = Value.ref b from ry)
    obtain ⟨us, r1, p1, _⟩ := I.list ha
    obtain ⟨ws, r2, p2, _⟩ := I.list hb
    have hsz : us.toArray.size = ws.toArray.size := by
      rw [List.size_toArray, List.size_toArray, ← r1.length, ← r2.length]
      exact hl
    refine rcN_lists (e := e) p1.isList p2.isList hsz (by omega) (fun j h1 h2 => ?_) E Q ?_
    · obtain ⟨x1, g1, q1⟩ := vals_at r1 (j := j) (by simpa using h1)
      obtain ⟨x2, g2, q2⟩ := vals_at r2 (j := j) (by simpa using h2)
      have k := ih _ _ _ _ _ (he j _ _ g1 g2) q1 q2
      simpa using k
    · rw [List.size_toArray, ← r1.length]
      exact q
  · cases (show v = Value.ref a from rx)
    cases (show u = Value.ref b from ry)
    obtain ⟨us, r1, p1, _⟩ := I.tuple ha
    obtain ⟨ws, r2, p2, _⟩ := I.tuple hb
    refine rcN_tups (e := e) p1 p2 (by omega) (fun j h1 h2 => ?_) E Q ?_
    · obtain ⟨x1, g1, q1⟩ := vals_at r1 (j := j) (by simpa using h1)
      obtain ⟨x2, g2, q2⟩ := vals_at r2 (j := j) (by simpa using h2)
      have k := ih _ _ _ _ _ (he j _ _ g1 g2) q1 q2
      simpa using k
    · rw [List.size_toArray, List.size_toArray, ← r1.length, ← r2.length]
      exact q
  · cases (show v = Value.ref a from rx)
    cases (show u = Value.ref b from ry)
    obtain ⟨_, ya, va, ra, da⟩ := dt_of I.hok ha
    obtain ⟨_, yb, vb, rb, db⟩ := dt_of I.hok hb
    refine rcHN_dicts (knd := tupleKind (mixKind X.prog X.w)) (tupleKind_room_in1 (by omega)) ya yb da db (by omega) (fun hl => hitsH_run ih rb ra (hp (by rw [ra.length, rb.length]; exact hl))) E Q ?_
    rw [← ra.length, ← rb.length]
    exact q

theorem eqX_run (I : Inv X pins σ H s) : ∀ (n : Nat) (A : Around), A.units + n + 64 < cLine → ∀ (x y : V) (r : Bool) (v u : Value), EqX X.K H n x y r → RelV x v → RelV y u → SeqAt.EqP X.prog X.w A s v u r
  | 0, _, _, _, _, _, _, _, h, _, _ => (show False from h).elim
  | n + 1, A, hu, x, y, r, v, u, h, rx, ry => by
    rcases h with ⟨d, e, hd, he, sd, se, rfl⟩ | ⟨a, rfl, rfl, rfl⟩ | ⟨h, hs⟩
    · obtain ⟨as, r1⟩ := Dp.reads I d x v hd rx
      obtain ⟨bs, r2⟩ := Dp.reads I e y u he ry
      exact (SeqAt.eqAt_reads d e A s v u as bs r1 r2 (SeqAt.canLay_of_shaped sd) (SeqAt.canLay_of_shaped se) (SeqAt.room_of_shaped sd (by omega))).eqP
    · cases (show v = Value.ref a from rx)
      cases (show u = Value.ref a from ry)
      exact (SeqAt.EqAt.same _).eqP
    · have step := rcX_run I (A := A) (by omega) (eqX_run I n A.in1 (by show A.units + 1 + n + 64 < cLine; omega)) h rx ry
      obtain ⟨a, b, rfl, rfl⟩ : ∃ a b, x = .ref a ∧ y = .ref b := by
        rcases h with ⟨a, b, _, _, _, e1, e2, _⟩ | ⟨a, b, _, _, _, e1, e2, _⟩ | ⟨a, b, _, _, _, e1, e2, _⟩
        · exact ⟨a, b, e1, e2⟩
        · exact ⟨a, b, e1, e2⟩
        · exact ⟨a, b, e1, e2⟩
      cases (show v = Value.ref a from rx)
      cases (show u = Value.ref b from ry)
      by_cases e : a = b
      · subst e
        rw [hs rfl]
        exact (SeqAt.EqAt.same _).eqP
      · exact SeqAt.eqP_refs e step
end
section
variable {X : Cx}
/-- a == b of such data -/
def rEqX (K : PySem.W.Frag) : R2 := fun x y H Q => ∃ n r, n ≤ 60 ∧ RcX K H (EqX K H n) x y r ∧ Q (.bl r) H
def rNeX (K : PySem.W.Frag) : R2 := fun x y H Q => ∃ n r, n ≤ 60 ∧ RcX K H (EqX K H n) x y r ∧ Q (.bl (!r)) H
theorem op_eqX (hu : X.A.units + 140 < cLine) : OpR X (compareOp .Eq) (rEqX X.K) := by
  intro pins s σ H x y v u Q I rx ry h
  obtain ⟨n, r, hn, h, q⟩ := h
  exact rcX_run I (A := X.A) (by omega) (eqX_run I n X.A.in1 (by show X.A.units + 1 + n + 64 < cLine; omega)) h rx ry _ _ ⟨.bl r, H, I, rfl, q⟩
theorem op_neX (hu : X.A.units + 140 < cLine) : OpR X (compareOp .NotEq) (rNeX X.K) := by
  intro pins s σ H x y v u Q I rx ry h
  obtain ⟨n, r, hn, h, q⟩ := h
  exact rcXN_run I (A := X.A) (by omega) (eqX_run I n X.A.in1 (by show X.A.units + 1 + n + 64 < cLine; omega)) h rx ry _ _ ⟨.bl (!r), H, I, rfl, q⟩
end
end L2

set_option Elab.async false
set_option maxRecDepth 100000
set_option maxHeartbeats 4000000
namespace PySem.W
open PySem PySem.Calls PyProof.Rows PyProof.V PySem.Spec
set_option linter.unusedVariables false
section
variable {prog : Program} {w : World} {A : Around} {E : Value → Shared → Prop} {s : Shared} {K : Frag} {x C L f : Addr} {h₀ : Heap} {m : Str → Option Value} {ox : Obj} {od : Option Obj} {name : Str} {b tb : Value}
theorem ifBound_KB {M : Model} {id : String} {args : List Value} {Q : Option Value → Shared → Prop} (X : K.In s.heap) (I : InstAt s.heap x ox C od) (hs : findIn K (.ref C) name = some (some (.builtin id))) (S : Slot "object" name id)
    (h : wpAny M A (call (.builtin id) (.ref x :: args)) (fun v => Q (some v)) E s) : wpAny M A (callSpecialIfBound? (.ref x) name args) Q E s := by
  simp only [callSpecialIfBound?, bindSpecialIfBound?]
  refine wpAny_holding (wpAny_bind (wpAny_bind (wpAny_bind (I.type.here ((looks_findIn X hs).here ?_)))))
  simp only [S.bind]
  refine wpAny_bind (wpAny_askSetting (wpAny_ite ?_))
  have fin : wpAny M A (call (.builtin id) ([.ref x] ++ args) >>= fun v => pure (some v)) Q E s := wpAny_bind (wpAny_mono h (fun v s' h' => wpAny_pure h') fun _ _ h' => h')
  split
  · exact wpAny_bind (wpAny_pure (wpAny_pure fin))
  · exact wpAny_tryCatch (wpAny_bind (wpAny_pure (wpAny_pure fin)))
theorem check_ne_K {M : Model} {rest : List Value} {Q : Unit → Shared → Prop} (X : K.In s.heap) (I : InstAt s.heap x ox C od) (hob : subIn K (.ref C) (.type "object") = some true) (ha : argsOk "object.__ne__" ⟨.ref x :: rest, []⟩) (hq : Q () s) :
    wpAny M A (checkBuiltinCall "object.__ne__" ⟨.ref x :: rest, []⟩) Q E s := by
  simp only [checkBuiltinCall, PySem.F.cmpKind_ne, PySem.F.cmpSplit_ne]
  refine wpAny_bind (wpAny_bind (I.type.here ((looks_subIn X hob).here ?_)))
  simp only [Bool.not_true, Bool.false_eq_true, if_false]
  cases hsig : Manifest.signature? "object.__ne__" with
  | none => exact wpAny_pure hq
  | some sig =>
    have ha' := ha
    unfold argsOk at ha'
    rw [hsig] at ha'
    have h2 : Bind.checkArgs "object.__ne__" sig ⟨.ref x :: rest, []⟩ = pure () := ha'
    show wpAny M A (Bind.checkArgs "object.__ne__" sig ⟨.ref x :: rest, []⟩) Q E s
    rw [h2]
    exact wpAny_pure hq
/-- x != y by the class's own == -/
theorem cmp_neK {Q : Value → Shared → Prop} (hu : A.units + 1 < cLine) (F : Fr h₀ L s.heap m) (X₀ : K.In h₀) (I : InstAt s.heap x ox C od) (hb : Looks (model prog w) s.heap (typeOf b) tb) (hn : notFirst K C tb = true)
    (hs : findIn K (.ref C) "__ne__" = some (some (.builtin "object.__ne__"))) (hob : subIn K (.ref C) (.type "object") = some true) (he : findIn K (.ref C) "__eq__" = some (some (.ref f))) (hf : isFn K (.ref f) = true)
    (h : wpAny (model prog w) A.in1 (call (.ref f) [.ref x, b]) (fun v s' => ∃ r, v = .bool r ∧ Q (.bool (!r)) s') E s) : wpAny (model prog w) A (richCompare .NotEq (.ref x) b) Q E s := by
  have X := X₀.keeps F.keep
  have body : ∀ {Q2 : Fin → Shared → Prop}, (∀ r s', Q (.bool (!r)) s' → Q2 (.done (.ret (.bool (!r)))) s') → wpAny (model prog w) A.in1 (Builtin.«object.__ne__» ⟨[.ref x, b], []⟩) Q2 E s := fun {Q2} k => by
    unfold Builtin.«object.__ne__»
    repeat (first
      | with_reducible refine wpAny_cRoomFor (show A.in1.units < cLine from hu) ?_
      | (refine wpAny_bind (m := callSpecialIfBound? (.ref x) (Str.ofString "__eq__") [b]) (ifBound_K X I he hf (wpAny_mono h (fun r s' hr => by
          obtain ⟨b, rfl, hq⟩ := hr
          have hq := k b s' hq
          repeat (first | exact hq | exact wpAny_pure hq | exact wpAny_truthy_bool hq | (refine wpAny_bind (m := truthy (.bool _)) (wpAny_truthy_bool ?_)) | wp_step)) fun _ _ e => e)))
      | wp_step)
  have one : wpAny (model prog w) A (tryCompare (.ref x) "__ne__" b) (fun r s' => ∃ v, r = some v ∧ Q v s') E s := by
    unfold tryCompare
    refine wpAny_bind (ifBound_KB X I hs PySem.F.cmp_object.ne (wpAny_call (codeAny_call_builtin PySem.F.cmp_object.ne.plain PySem.F.cmpEntry_ne (check_ne_K X I hob (PySem.F.cmpArgs_ne _ _) (body fun r s' hq => ?_)))))
    first | exact ⟨.bool (!r), rfl, hq⟩ | exact wpAny_pure ⟨_, rfl, hq⟩ | exact wpAny_pure (wpAny_pure ⟨_, rfl, hq⟩)
  unfold richCompare
  simp only [oneThing_ref]
  refine wpAny_holding (wpAny_bind (wpAny_cRoomFor (Nat.lt_of_succ_lt hu) ?_))
  refine wpAny_bind (I.type.here (wpAny_bind (hb.here ?_)))
  split
  · rename_i q
    have e : subIn K tb (.ref C) = some false := by
      rcases Bool.or_eq_true_iff.mp hn with e | e
      · rw [beq_iff_eq.mp e] at q; simp at q
      · exact beq_iff_eq.mp e
    refine wpAny_bind ((looks_subIn X e).here ?_)
    simp only [Bool.false_eq_true, if_false]
    refine wpAny_bind (wpAny_mono one (fun r s' z => ?_) fun _ _ e => e)
    obtain ⟨v, rfl, hq⟩ := z
    exact wpAny_pure hq
  · refine wpAny_bind (wpAny_pure ?_)
    simp only [Bool.false_eq_true, if_false]
    refine wpAny_bind (wpAny_mono one (fun r s' z => ?_) fun _ _ e => e)
    obtain ⟨v, rfl, hq⟩ := z
    exact wpAny_pure hq
end
end PySem.W
namespace L2
open PySem PySem.Spec PyProof.Rows
set_option linter.unusedVariables false
section
variable {X : Cx} {CX : CXT} {k n : Nat} {f C : Addr} {fd : FuncData} {ps ks : List Str} {sp : Sp} {E : XK} {x : Str} {p pos : Pos} {kws : List Keyword} {tk : TA} {g : List Value → List Value → List Value} {gV : List V → List V → List V}
/-- f(k = v, ..) -/
theorem pe_callN0 (F : FnOk X.prog X.w X.K X.mg X.base CX k f fd ps sp) (hr : Room k X.A) (hg : Gl X x) (hm : X.mg x = some (.ref f)) (hk : PySem.W.keepIn X.K (.ref f) = true) (hb : KBn X.K fd ps 0 ks g gV) (hx : Passes CX X E) (hkw : PK X kws tk)
    (hall : (backToKw pos (keywordEach kws X.env)).all (·.1.isSome) = true := by rfl) (hks : (backToKw pos (keywordEach kws X.env)).filterMap (·.1) = ks := by rfl) (hdb : (x == ("__debug__" : Str)) = false := by decide)
    (hpl : ((backTo pos (starEach [] X.env)).any (·.1) || (backToKw pos (keywordEach kws X.env)).any (·.1.isNone)) = false := by rfl) :
    PE X (.Call (.Name x p) [] kws pos) (tCallN 0 ks.length sp gV E tNil tk) := by
  refine ⟨fun pins s σ H Q I h => ?_⟩
  refine wpAny_Call_Name_kw (ld_glob I hg hm ?_ hdb)
  refine PySem.W.callWith_KW0 (h₀ := X.base) I.ok.mod.kin hk hall ?_ hpl
  refine thn (hkw.run pos pins s σ H _ I h) fun ws s2 ⟨zs, H2, I2, rz, l1, l2, q2⟩ => ⟨I2.kIn, ?_⟩
  rw [hks]
  exact run_fnN (us := []) (vs := []) F hr hb hx I2 .nil rz rfl l2 q2
/-- x == y by the own == of x's class: what it tells -/
def rEqO (C : Addr) (sp : Sp) (E : XK) : R2 := fun x y H Q => ∃ a dx fs b dy gs, x = .ref a ∧ y = .ref b ∧ H a = some (.ins C dx fs) ∧ H b = some (.ins C dy gs) ∧ sp [x, y] H (fun v H' => ∃ r, v = .bl r ∧ Q (.bl r) H') E
def rNeO (C : Addr) (sp : Sp) (E : XK) : R2 := fun x y H Q => ∃ a dx fs b dy gs, x = .ref a ∧ y = .ref b ∧ H a = some (.ins C dx fs) ∧ H b = some (.ins C dy gs) ∧ sp [x, y] H (fun v H' => ∃ r, v = .bl r ∧ Q (.bl (!r)) H') E
theorem op_eqO (F : FnOk X.prog X.w X.K X.mg X.base CX n f fd ps sp) (hs : PySem.W.findIn X.K (.ref C) "__eq__" = some (some (.ref f))) (hf : PySem.W.isFn X.K (.ref f) = true) (hb : Binds X.K fd ps []) (hr : Room n X.A) (hx : Passes CX X E) : OpR X (compareOp .Eq) (rEqO C sp E) := by
  intro pins s σ H x y v u Q I rx ry h
  obtain ⟨a, dx, fs, b, dy, gs, rfl, rfl, ha, hb', hsp⟩ := h
  cases (show v = Value.ref a from rx)
  cases (show u = Value.ref b from ry)
  obtain ⟨mA, J, _⟩ := ins_get I.hok ha
  obtain ⟨mB, J', _⟩ := ins_get I.hok hb'
  obtain ⟨od, J, _⟩ := J.look
  obtain ⟨od', J', _⟩ := J'.look
  obtain ⟨m, hF⟩ := I.fr
  show wpAny (model X.prog X.w) X.A (richCompare .Eq (.ref a) (.ref b)) (EP X pins σ Q) X.xe s
  refine PySem.W.cmp_K (op := .Eq) (tb := .ref C) hr.units0 hF I.ok.mod.kin J J'.type (by simp [PySem.W.notFirst]) hs hf ?_
  have hl := F.len _ _ _ _ hsp
  have r2 : Vals [V.ref a, V.ref b] [Value.ref a, Value.ref b] := .cons rfl (.cons rfl .nil)
  refine wpAny_call (codeAny_mono (F.run X.A X.stack s H ⟨[.ref a, .ref b], []⟩ [.ref a, .ref b] [.ref a, .ref b] _ E hr I.env0 (by
    have := hb s [.ref a, .ref b] I.kIn (by simpa using hl)
    simpa using this) r2 hsp) fun r s' hq => ?_)
  cases r with
  | error e => exact hx pins σ H s e s' I hq
  | ok fl =>
    cases fl with
    | ret w =>
      obtain ⟨z, H', I', rz, r, ez, q⟩ := I.after hq
      subst ez
      cases rz
      exact ⟨.bl r, H', I', rfl, q⟩
    | next => exact False.elim hq
    | brk => exact False.elim hq
    | cont => exact False.elim hq
theorem op_neO (F : FnOk X.prog X.w X.K X.mg X.base CX n f fd ps sp) (hs : PySem.W.findIn X.K (.ref C) "__eq__" = some (some (.ref f))) (hne : PySem.W.findIn X.K (.ref C) "__ne__" = some (some (.builtin "object.__ne__"))) (hob : PySem.W.subIn X.K (.ref C) (.type "object") = some true)
    (hf : PySem.W.isFn X.K (.ref f) = true) (hb : Binds X.K fd ps []) (hr : Room (n + 1) X.A) (hx : Passes CX X E) : OpR X (compareOp .NotEq) (rNeO C sp E) := by
  intro pins s σ H x y v u Q I rx ry h
  obtain ⟨a, dx, fs, b, dy, gs, rfl, rfl, ha, hb', hsp⟩ := h
  cases (show v = Value.ref a from rx)
  cases (show u = Value.ref b from ry)
  obtain ⟨mA, J, _⟩ := ins_get I.hok ha
  obtain ⟨mB, J', _⟩ := ins_get I.hok hb'
  obtain ⟨od, J, _⟩ := J.look
  obtain ⟨od', J', _⟩ := J'.look
  obtain ⟨m, hF⟩ := I.fr
  show wpAny (model X.prog X.w) X.A (richCompare .NotEq (.ref a) (.ref b)) (EP X pins σ Q) X.xe s
  refine PySem.W.cmp_neK (tb := .ref C) (by have := hr.un; omega) hF I.ok.mod.kin J J'.type (by simp [PySem.W.notFirst]) hne hob hs hf ?_
  have hl := F.len _ _ _ _ hsp
  have r2 : Vals [V.ref a, V.ref b] [Value.ref a, Value.ref b] := .cons rfl (.cons rfl .nil)
  have e0 : Env0 X.prog X.w X.K X.mg X.base X.A.in1 X.stack s H := I.env0.in1
  refine wpAny_call (codeAny_mono (F.run X.A.in1 X.stack s H ⟨[.ref a, .ref b], []⟩ [.ref a, .ref b] [.ref a, .ref b] _ E hr.in1 e0 (by
    have := hb s [.ref a, .ref b] I.kIn (by simpa using hl)
    simpa using this) r2 hsp) fun r s' hq => ?_)
  cases r with
  | error e => exact hx pins σ H s e s' I hq
  | ok fl =>
    cases fl with
    | ret w =>
      obtain ⟨z, H', I', rz, r, ez, q⟩ := I.after hq
      subst ez
      cases rz
      exact ⟨r, rfl, .bl (!r), H', I', rfl, q⟩
    | next => exact False.elim hq
    | brk => exact False.elim hq
    | cont => exact False.elim hq
end
end L2

set_option Elab.async false
set_option maxRecDepth 100000
set_option maxHeartbeats 4000000
namespace L2
open PySem PySem.Spec PyProof.Rows
set_option linter.unusedVariables false
/-! dict(xs) of a list of pairs whose keys are tuples -/
def rDictPT (K : PySem.W.Frag) : List V → Hp → VK → Prop := fun xs H Q => ∃ (a : Addr) (ps : List Addr) (kvs : List (List Key × V)), xs = [.ref a] ∧ SqL K H a (ps.map V.ref) ∧ Paired (fun p kv => ∃ b, SqT K H p [.ref b, kv.2] ∧ H b = some (.tup (kv.1.map kV))) ps kvs ∧
    ∀ p, H p = none → Q (.ref p) (upd H p (.dT (mergeT [] kvs)))
section
variable {X : Cx} {pins : List (Addr × Obj)} {σ : St} {H : Hp} {s : Shared}
theorem pairsT_of (I : Inv X pins σ H s) : ∀ {ps : List Addr} {kvs : List (List Key × V)}, Paired (fun p kv => ∃ b, SqT X.K H p [.ref b, kv.2] ∧ H b = some (.tup (kv.1.map kV))) ps kvs →
    ∃ rs : List (List Key × Addr × Value), KT H kvs rs ∧ rs.length = ps.length ∧ ∀ (j : Nat) (q : List Key × Addr × Value), rs[j]? = some q → ∃ p, ps[j]? = some p ∧ s.heap.IsTuple p #[.ref q.2.1, q.2.2]
  | _, _, .nil => ⟨[], .nil, rfl, fun j q e => by simp at e⟩
  | _, _, .cons (a := p) (b := kv) h t => by
    obtain ⟨rs, r, hl, hp⟩ := pairsT_of I t
    obtain ⟨b, h, hb⟩ := h
    obtain ⟨its, rv, ht, _⟩ := I.tuple h
    obtain ⟨u, y, ei, ru, ry⟩ := vals2 rv
    subst ei
    cases (show u = Value.ref b from ru)
    refine ⟨(kv.1, b, y) :: rs, .cons ⟨rfl, hb, ry⟩ r, by rw [List.length_cons, List.length_cons, hl], fun j q e => ?_⟩
    cases j with
    | zero =>
      have e' : (kv.1, b, y) = q := Option.some.inj e
      subst e'
      exact ⟨p, rfl, ht⟩
    | succ j =>
      obtain ⟨c, e1, e2⟩ := hp j q (by simpa using e)
      exact ⟨c, by simpa using e1, e2⟩
end
theorem KT.len {H : Hp} {kvs : List (List Key × V)} {rs : List (List Key × Addr × Value)} (r : KT H kvs rs) : kvs.length = rs.length := Paired.length r
theorem KT.at {H : Hp} : ∀ {kvs : List (List Key × V)} {rs : List (List Key × Addr × Value)}, KT H kvs rs → ∀ x ∈ rs, H x.2.1 = some (.tup (x.1.map kV))
  | _, _, .nil, _, m => (nomatch m)
  | _, _, .cons h t, x, m => by
    rcases List.mem_cons.mp m with rfl | m
    · rw [← h.1]; exact h.2.1
    · exact KT.at t x m
theorem call_dictPT {X : Cx} (hcalm : X.calm = true) (hu : X.A.units + 2 < cLine) : CallR X (.type "dict") (rDictPT X.K) := by
  intro pins s σ H xs us Q I r q
  obtain ⟨a, ps, kvs, ex, hq, hp, q⟩ := q
  subst ex
  obtain ⟨u, eu, rx⟩ := vals1 r
  subst eu
  cases rx
  obtain ⟨its, rv, pl, hz⟩ := I.list hq
  have ei := refs_at rv
  subst ei
  rw [List.length_map] at hz
  obtain ⟨rs, rel, hl, hpr⟩ := pairsT_of I hp
  obtain ⟨o, n, ho, hc, hd, hdat⟩ := pl
  have hlr : (rs.map fun q => (Value.ref q.2.1, q.2.2)).length = ps.length := by rw [List.length_map, hl]
  have hitem : PairItems s.heap (ps.map Value.ref).toArray (fun j => ps.getD j 0) (rs.map fun q => (Value.ref q.2.1, q.2.2)) := by
    refine ⟨by simp [hl], fun j k v e => ?_⟩
    rw [List.getElem?_map] at e
    obtain ⟨x, hx, ex⟩ := Option.map_eq_some_iff.mp e
    injection ex with e1 e2
    subst e1 e2
    obtain ⟨p, e1, e2⟩ := hpr j x hx
    have eg : ps.getD j 0 = p := by rw [List.getD_eq_getElem?_getD, e1]; rfl
    refine ⟨?_, .inl ?_⟩
    · show _ = some (Value.ref (ps.getD j 0))
      rw [List.getElem?_toArray, List.getElem?_map, e1, eg]
      rfl
    · show s.heap.IsTuple (ps.getD j 0) _
      rw [eg]
      exact e2
  refine call_dict_pairsH (knd := tupleKind (mixKind X.prog X.w)) (ps := rs) (PairArg.list a (ps.map Value.ref).toArray (fun j => ps.getD j 0) (rs.map fun q => (Value.ref q.2.1, q.2.2))) (I.ok.hd hcalm) (show X.A.units + 2 < cLine from hu) ⟨⟨o, n, ho, hc, hd, hdat⟩, hitem⟩ ⟨by rw [hlr, hl], fun i key v e => ?_⟩ (fun h' hk x hx => ?_) (by rw [hlr]; exact hz) fun h' tk hd' hk => ?_
  · have e : (rs.map fun q => (Value.ref q.2.1, q.2.2))[i]? = some (key, v) := e
    rw [List.getElem?_map] at e
    obtain ⟨x, hx, ex⟩ := Option.map_eq_some_iff.mp e
    injection ex with e1 e2
    exact ⟨x.1, x.2.1, by rw [hx, ← e2], e1.symm⟩
  · obtain ⟨o1, its, m, h1, h2, h3, h4⟩ := (show IsTupleKey (mixKind X.prog X.w) s.heap x.1 x.2.1 from key_of I.hok (rel.at x hx))
    exact ⟨o1, its, m, hk _ _ (Nat.ne_of_lt (Heap.lt_size h1)) (fun c => nomatch c) h1, h2, h3, h4⟩
  · have hm : (s.heap.objs.size == sysModules) = false := beq_eq_false_iff_ne.mpr (Nat.ne_of_gt I.big)
    have hf := I.hok.fresh (Nat.le_refl s.heap.objs.size)
    have hlen : (mergeT [] kvs).length ≤ sizeLine := by
      have h1 := length_mergeT kvs []
      rw [List.length_nil, Nat.zero_add] at h1
      have := rel.len
      omega
    obtain ⟨o1, es, ep, h1, h2, h3, h4, _, h6⟩ := hd'
    exact ⟨.ref s.heap.objs.size, upd H s.heap.objs.size (.dT (mergeT [] kvs)), I.laid (t' := tk) (fun b u e => hk b u (fun c => nomatch c) e) (Nat.le_refl _)
      (show ObjOk X.prog X.w _ _ _ (.dT (mergeT [] kvs)) from ⟨hlen, hm, _, (rel.merge .nil).keeps (fun c ys ec => (by rw [upd_ne (ne_of_none ec hf)]; exact ec)), o1, es, ep, h1, h2, h3, h4, h6⟩), rfl, q _ hf⟩
end L2

set_option Elab.async false
set_option maxRecDepth 100000
set_option maxHeartbeats 4000000
/-! t[::-1], t a tuple of two -/
namespace HT
open PySem PySem.Calls PyProof.Rows
section
variable {prog : Program} {w : World} {A : Around} {E : Value → Shared → Prop} {s : Shared}
theorem turned_two {sl : Addr} {vl vu vs : Value} {R : Int × Int × Nat → Shared → Prop} (sh : s.heap.IsSliceOf sl vl vu vs) (pl : IsPart vl none) (pu : IsPart vu none) (ps : IsPart vs (some (-1))) (fin : R (1, -1, 2) s) :
    wpAny (model prog w) A (Builtin.Slice.sliceApplied (.ref sl) (pure ((2 : Nat) : Int))) R E s := by
  obtain ⟨o, ho, hc, hd⟩ := id sh
  unfold Builtin.Slice.sliceApplied Builtin.Slice.sliceFields
  refine wpAny_bind (wpAny_bind (wpAny_field ho hd (x := vl) rfl (wpAny_bind (wpAny_field ho hd (x := vu) rfl (wpAny_bind (wpAny_field ho hd (x := vs) rfl (wpAny_pure ?_)))))))
  refine wpAny_bind (slicePart_ ps ?_)
  show wpAny _ _ (if ((-1 : Int) == 0) = true then _ else _) _ _ s
  rw [if_neg (show ¬ ((-1 : Int) == 0) = true by decide)]
  refine wpAny_bind (slicePart_ pl (wpAny_bind (slicePart_ pu (wpAny_bind (wpAny_pure (wpAny_pure ?_))))))
  exact fin
theorem pair_turned {t sl : Addr} {v0 v1 vl vu vs : Value} {R : Value → Shared → Prop} (ht : IsTup s.heap t #[v0, v1]) (sh : s.heap.IsSliceOf sl vl vu vs) (pl : IsPart vl none) (pu : IsPart vu none) (ps : IsPart vs (some (-1)))
    (fin : R (.ref s.heap.objs.size) { s with heap := s.heap.push { cls := .type "tuple", data := .seq #[v1, v0] } }) : wpAny (model prog w) A (getItem (.ref t) (.ref sl)) R E s := by
  have fits : sizeOk (.seq #[v1, v0]) := by
    show 2 ≤ sizeLine
    decide
  obtain ⟨o, ho, hc, hd⟩ := id sh
  have isSl : s.TypeIs (.ref sl) "slice" := ⟨o, ho, hc⟩
  unfold getItem
  try with_reducible refine wpAny_holding ?_
  first | refine wpAny_bind (wpAny_pure ?_) | skip
  refine wpAny_bind (wpAny_sequenceKey ht.typeIs (by decide) ?_)
  refine wpAny_bind (wpAny_callSpecial?_slot (name := Str.ofString "__getitem__") ht.typeIs PyProof.Rows.slot_tuple_getitem (wpAny_call_entry PyProof.Rows.slot_tuple_getitem ht.typeIs entry_tuple_getitem ?_ (args_tuple_getitem _ _)))
  show wpAny _ _ (Builtin.Tuple.tupleItemsOf (.ref t) >>= _) _ _ s
  refine wpAny_bind (tupleItemsOf_ ht (wpAny_bind (wpAny_typeOf isSl ?_)))
  rw [if_pos (by decide)]
  refine wpAny_bind (turned_two sh pl pu ps ?_)
  show wpAny _ _ (if ((1 : Int) == 0 && (-1 : Int) == 1 && (2 : Nat) == 2) = true then _ else _) _ _ s
  rw [if_neg (by decide)]
  first
    | exact wpAny_bind (m := Builtin.Tuple.tupleExact _) (wpAny_newObj_type (wpAny_pure ⟨_, rfl, wpAny_pure fin⟩) fits)
    | exact wpAny_bind (m := Builtin.Tuple.tupleExact _) (wpAny_newObj_type (wpAny_bind (wpAny_pure (wpAny_pure ⟨_, rfl, wpAny_pure fin⟩))) fits)
    | exact wpAny_bind (wpAny_bind (m := Builtin.Tuple.tupleExact _) (wpAny_newObj_type (wpAny_pure (wpAny_pure ⟨_, rfl, wpAny_pure fin⟩)) fits))
    | exact wpAny_bind (wpAny_bind (m := Builtin.Tuple.tupleExact _) (wpAny_newObj_type (wpAny_pure ⟨_, rfl, wpAny_pure fin⟩) fits))
end
end HT
namespace L2
open PySem PySem.Spec PyProof.Rows
variable {X : Cx}
def tRevT (K : PySem.W.Frag) (te : TE) : TE := fun σ H Q => te σ H fun x H1 => ∃ a y z, x = .ref a ∧ SqT K H1 a [y, z] ∧ ∀ p, H1 p = none → Q (.ref p) (upd H1 p (.tup [z, y]))
theorem pe_revT {e : Expr} {te : TE} {k : Nat} {p1 p2 p3 pos : Pos} (he : PE X e te) : PE X (.Subscript e (.Slice none none (some (.UnaryOp .USub (.Constant (.int 1) k p1) p2)) p3) pos) (tRevT X.K te) := by
  refine ⟨fun pins s σ H Q I h => ?_⟩
  refine Subscript_ (thn (he.run pins s σ H _ I h) fun v s1 ⟨x, H1, I1, r1, q1⟩ => ?_)
  obtain ⟨a, y, z, rfl, hx, q⟩ := q1
  cases r1
  have back : PO X (some (.UnaryOp .USub (.Constant (.int 1) k p1) p2)) (tPart (tUn (rU fun i => .int (-i)) (tC (.int 1)))) := po_some (pe_un un_neg pe_int)
  refine wpAny_Slice (thn (po_none.run pins s1 σ H1 (fun o H2 => o = none ∧ H2 = H1) I1 ⟨rfl, rfl⟩) fun vl s2 ⟨l, H2, I2, pl, el, e2⟩ => ?_)
  subst el e2
  refine thn (po_none.run pins s2 σ H2 (fun o H3 => o = none ∧ H3 = H2) I2 ⟨rfl, rfl⟩) fun vu s3 ⟨u, H3, I3, pu, eu, e3⟩ => ?_
  subst eu e3
  refine thn (back.run pins s3 σ H3 (fun o H4 => o = some (-1) ∧ H4 = H3) I3 ⟨1, rfl, -1, rfl, rfl, rfl⟩) fun vs s4 ⟨o, H4, I4, ps, eo, e4⟩ => ?_
  subst eo e4
  have I5 : Inv X pins σ H4 { s4 with heap := s4.heap.push { cls := .type "slice", data := .fields #[vl, vu, vs] } } := I4.kept (t' := s4.toks) fun _ _ q => Heap.get?_push_of_some _ q
  obtain ⟨its, r, ht, hz⟩ := I5.tuple hx
  obtain ⟨v0, v1, rfl, r0, r1⟩ : ∃ v0 v1, its = [v0, v1] ∧ RelV y v0 ∧ RelV z v1 := by
    cases r with
    | cons a0 r => cases r with
      | cons a1 r => cases r; exact ⟨_, _, rfl, a0, a1⟩
  show wpAny (model X.prog X.w) X.A (subscriptTail e (.Slice none none (some (.UnaryOp .USub (.Constant (.int 1) k p1) p2)) p3) (.ref a) (.ref s4.heap.objs.size)) (EP X pins σ Q) X.xe { s4 with heap := s4.heap.push { cls := .type "slice", data := .fields #[vl, vu, vs] } }
  refine tail_any (ops := [.ref a, .ref s4.heap.objs.size]) ht.typeIs (PyProof.Rows.slot_tuple_getitem.lookup) ?_ (by with_unfolding_all rfl)
  refine HT.pair_turned ht (Heap.IsSliceOf.new _ vl vu vs) pl pu ps ?_
  refine ⟨.ref _, _, I5.laid (t' := s4.toks) (o := .tup [z, y]) (fun _ _ q => Heap.get?_push_of_some _ q) (Nat.le_refl _) ?_, rfl, q _ (I5.hok.fresh (Nat.le_refl _))⟩
  exact ⟨(by show 2 ≤ sizeLine; decide), _, .cons r1 (.cons r0 .nil), IsTup.new _ _⟩
end L2

set_option Elab.async false
set_option maxRecDepth 100000
set_option maxHeartbeats 4000000
namespace L2
open PySem PySem.Spec PyProof.Rows
set_option linter.unusedVariables false
/-! name = {k: e for ..} on one line, the name a local -/
theorem sw_trueD {kx vx : Expr} {gs : List Comprehension} {scope : Scope} {pos py : Pos} {y : PySem.Str} {l : Nat} {env : Env} (hk : env.scope.kind = .function) (hy : env.scope.names.lookup y = some .local) (hl : (py.line == pos.line) = true)
    (ha : (scope.names.any fun (n, k) => n == y && (k == .local || k == .cell)) = false) : swapsWith (.DictComp kx vx gs scope pos) (some (.Name y py)) l env = pure true := by
  have ky : env.kindOf y = some .local := hy
  have hb : env.blockKind = .function := by unfold Env.blockKind; rw [hk]; rfl
  unfold swapsWith
  simp only [hb, ky, ha, Expr.pos, hl]
  rfl
section
variable {X : Cx}
theorem ps_setDcT {i : Nat} {y : PySem.Str} {py : Pos} {kx vx tg iter : Expr} {ifs : List Expr} {scope : Scope} {own : List (PySem.Str × Nat)} {pos spos : Pos} {wi : TI} {g : TG} {tt : TT} {tk tv : TE} (hu : X.A.units + 1 < cLine) (hc : X.calm = true) (hN : X.N.Nodup) (hy : X.N[i]? = some y) (hyl : X.env.scope.names.lookup y = some .local)
    (hsw : swapsWith (.DictComp kx vx [⟨tg, iter, ifs, 0⟩] scope pos) (some (.Name y py)) spos.line X.env = pure true) (hi : PI X tg iter wi) (ok : BlkOk X.N X.env.scope scope own)
    (hg : ∀ (s : Shared) (H : Hp) (C : Addr) (cl : List (PySem.Str × Addr)) (fp : List Addr), PG (X.blk s H scope (compEnvC scope cl C X.env) fp) tg g)
    (ht : ∀ (s : Shared) (H : Hp) (C : Addr) (cl : List (PySem.Str × Addr)) (fp : List Addr), PTs (X.blk s H scope (compEnvC scope cl C X.env) fp) ifs tt)
    (hk : ∀ (s : Shared) (H : Hp) (C : Addr) (cl : List (PySem.Str × Addr)) (fp : List Addr), PE (X.blk s H scope (compEnvC scope cl C X.env) fp) kx tk)
    (he : ∀ (s : Shared) (H : Hp) (C : Addr) (cl : List (PySem.Str × Addr)) (fp : List Addr), PE (X.blk s H scope (compEnvC scope cl C X.env) fp) vx tv)
    (hs : ∀ x, foldedSetIterable iter X.env x = pure x := by intro _; rfl) :
    PS X (.Assign [.Name y py] (.DictComp kx vx [⟨tg, iter, ifs, 0⟩] scope pos) spos) (tAsg (tGather (fun _ => .dT []) wi g tt (addT tk tv) (own.map (·.2))) (gName i)) := by
  refine ⟨fun pins s σ H D I h => ?_⟩
  rw [exec_Assign_Name_used _ _ _ _ hsw]
  refine wpAny_bind (wpAny_standAt (wpAny_bind ?_))
  show wpAny _ X.A (do let _ ← comprehension (.DictComp kx vx [⟨tg, iter, ifs, 0⟩] scope pos) scope X.env (firstIterPos [⟨tg, iter, ifs, 0⟩] pos) newDict false (eval iter X.env) (some (assign (.Name y py) X.env))) _ _ s
  have h : tGather (fun _ => .dT []) wi g tt (addT tk tv) (own.map (·.2)) σ H (fun x H1 => gName i x σ H1 D.nx) := h
  refine wpAny_bind (thn (gather_core (Qf := fun _ s' => SP X pins D .next s') (use := some (assign (.Name y py) X.env)) (ob := { cls := .type "dict", data := .dict #[] }) (mk := newDict) (o0 := fun _ => .dT []) (add := addT tk tv)
    (Body := fun acc env R back s => match acc with
      | .ref D => wpAny (model X.prog X.w) X.A (eval kx env) (fun kv s4 => wpAny (model X.prog X.w) X.A (eval vx env) (fun vv s5 => wpAny (model X.prog X.w) X.A (dictSet D kv vv) (fun _ s6 => back s6) (notedBy (model X.prog X.w) X.A env fun e s' => R (.error e) s') s5)
          (notedBy (model X.prog X.w) X.A env fun e s' => R (.error e) s') s4) (notedBy (model X.prog X.w) X.A env fun e s' => R (.error e) s') s
      | _ => False)
    hc hN I hi ok rfl (fun A E s Q q => wpAny_newObj_type q) (fun h H hb => dt_empty h hb) (fun it D env R I turn n s => compLoop_anyD I turn n) (fun it acc env R s a b => codeAny_compStart_dict a b) hg ht ?_ hs h ?_) fun _ s' hq => wpAny_pure (wpAny_pure hq))
  · intro s H C cl fp D R Nx back pins' σ2 H3 s3 I3 q3 k
    refine thnF ((hk s H C cl fp).run _ s3 σ2 H3 _ I3 q3) fun z s4 ⟨yk, H4, I4, r4, q4⟩ => ?_
    refine thnF ((he s H C cl fp).run _ s4 σ2 H4 _ I4 q4) fun z2 s5 ⟨yv, H5, I5, r5, kvs, ks, b, ey, hb, hD, hz, nx⟩ => ?_
    subst ey
    cases (show z = Value.ref b from r4)
    obtain ⟨hl, hd, xs, rel, dd⟩ := dt_of I5.hok hD
    have hz' : xs.length ≤ sizeLine := by rw [← Paired.length rel]; exact hl
    have grown : (putK kvs ks yv).length ≤ sizeLine := by have := length_putK kvs ks yv; omega
    refine wpAny_dictSet_heap (hsz := hz') (show X.A.units < cLine by omega) (key_of I5.hok hb) dd fun h' dd' same => k _ _ ?_ nx
    obtain ⟨q, es, ep, hq, h2, h3, h4, _, h5⟩ := dd'
    refine d_write I5 (by rw [hD]; exact True.intro) same ⟨q, hq⟩ ⟨grown, hd, _, (rel.put ks hb r5).keeps fun c ys ec => ?_, q, es, ep, hq, h2, h3, h4, h5⟩
    rw [upd_ne (ne_of ec hD (fun z => nomatch z))]
    exact ec
  · intro L C s' m H' I' q hn f
    show wpAny _ _ (assign (.Name y py) X.env (.ref L)) _ _ _
    refine wpAny_assign_Name (store_ok2 (v := V.ref L) I' hN hy (.inl hyl) rfl (fun s2 I2 ⟨a, sb, ha⟩ => ?_) (.inr hyl))
    obtain ⟨f0, f1, f2, f3, f4, f5⟩ := f
    have haC : C ≠ a := by
      rcases ha with z | z
      · rw [z]; exact f1
      · exact fun e => f4 y a z e.symm
    refine ⟨m, hn.sameBut sb haC, fun h3 sb3 => ?_⟩
    exact ⟨_, H', I2.turned (t' := s2.toks) (fun b o hb e => (sb3.2 b hb).trans e) f0 f1 f3 f4 f5, q⟩
end
end L2

set_option Elab.async false
set_option maxRecDepth 100000
set_option maxHeartbeats 4000000
namespace DT
open PySem PySem.W PySem.Calls PyProof.Rows PyProof.V PySem.Spec
set_option linter.unusedVariables false
/-! sorted(d.items()), the keys pairs of two ints, no two alike, the values of any kind -/
abbrev P2 := Int × Int
abbrev nsP (y : P2) : List Int := [y.1, y.2]
theorem nsP_inj {y z : P2} (h : nsP y = nsP z) : y = z := by
  injection h with h1 h2
  injection h2 with h2 _
  exact Prod.ext h1 h2
theorem lex_code {y z : P2} (hy : TS.Bd 64 (nsP y)) (hz : TS.Bd 64 (nsP z)) : HT.lexLt (nsP y) (nsP z) = decide (TS.code 64 (nsP y) < TS.code 64 (nsP z)) := by
  obtain ⟨a, b⟩ := y
  obtain ⟨c, d⟩ := z
  rw [HT.lexLt_cons]
  split
  · rename_i e
    have e : a = c := e
    subst e
    rw [HT.lexLt_cons]
    split
    · rename_i e2
      have e2 : b = d := e2
      subst e2
      rw [HT.lexLt_nil_nil]
      exact (decide_eq_false (Int.lt_irrefl _)).symm
    · rename_i e2
      have e2 : ¬ b = d := e2
      refine decide_eq_decide.mpr ?_
      rw [TS.code_same (d := a) (r := [b]) (q := [d]) rfl]
      refine ⟨fun h => TS.code_lt (r := []) (q := []) rfl (fun _ hm => nomatch hm) (fun _ hm => nomatch hm) h, fun h => ?_⟩
      rcases Int.lt_trichotomy b d with k | k | k
      · exact k
      · exact absurd k e2
      · have := TS.code_lt (B := 64) (r := []) (q := []) rfl (fun _ hm => nomatch hm) (fun _ hm => nomatch hm) k
        omega
  · rename_i e
    have e : ¬ a = c := e
    refine decide_eq_decide.mpr ⟨fun h => TS.code_lt (r := [b]) (q := [d]) rfl hy.tail hz.tail h, fun h => ?_⟩
    rcases Int.lt_trichotomy a c with k | k | k
    · exact k
    · exact absurd k e
    · exact absurd h (Int.lt_asymm (TS.code_lt (B := 64) (r := [d]) (q := [b]) rfl hz.tail hy.tail k))
/-- the ints of a pair's key, read off the heap -/
def keyNs (h : Heap) (v : Value) : List Int := TS.intsOf h (.ref (refOf (seqAt0 h (refOf (some v)))))
/-- v is a tuple of a pair of ints, y, and the value u -/
def PairV (h : Heap) (v : Value) (y : P2) (u : Value) : Prop := ∃ (a k : Addr) (t t' : Tok), v = .ref a ∧ IsTup h a #[.ref k, u] ∧ IsTup h k #[.int y.1 t, .int y.2 t']
theorem tup_ints {h : Heap} {k : Addr} {y : P2} {t t' : Tok} (x : IsTup h k #[.int y.1 t, .int y.2 t']) : TS.TupInts h (.ref k) (nsP y) := ⟨k, _, rfl, x, .cons _ _ (.cons _ _ .nil)⟩
theorem PairV.ns {h : Heap} {v : Value} {y : P2} {u : Value} (x : PairV h v y u) : keyNs h v = nsP y := by
  obtain ⟨a, k, t, t', rfl, h1, h2⟩ := x
  show TS.intsOf h (.ref (refOf (seqAt0 h a))) = nsP y
  rw [seqAt0_of h1]
  show TS.intsOf h (.ref k) = nsP y
  exact (tup_ints h2).ints
theorem firsts_ofV {h : Heap} {M : P2 → Value} : ∀ vs : List Value, (∀ v ∈ vs, ∃ y, PairV h v y (M y)) → ∃ fs : List Value, KatTups h vs fs ∧ fs.length = vs.length ∧ ∀ f ∈ fs, ∃ (q : Addr) (o : Obj), f = Value.ref q ∧ h.get? q = some o ∧ o.cls = .type "tuple"
  | [], _ => ⟨[], KatTups.nil, rfl, fun f hf => nomatch hf⟩
  | v :: vs, x => by
    obtain ⟨fs, k, hl, hi⟩ := firsts_ofV vs fun u hu => x u (List.mem_cons_of_mem _ hu)
    obtain ⟨y, a, q, t, t', rfl, ⟨o, ho, hc, n, hd⟩, ⟨o2, ho2, hc2, _⟩⟩ := x v (List.mem_cons_self ..)
    refine ⟨.ref q :: fs, KatTups.cons ho hc hd rfl k, by rw [List.length_cons, List.length_cons, hl], fun f hf => ?_⟩
    rcases List.mem_cons.mp hf with rfl | hf
    · exact ⟨q, o2, rfl, ho2, hc2⟩
    · exact hi f hf
section
variable {prog : Program} {w : World} {A : Around} {E : Value → Shared → Prop} {s : Shared}
theorem key_ints {k : Addr} {y : P2} {t t' : Tok} (x : IsTup s.heap k #[.int y.1 t, .int y.2 t']) : IsTupleKey (L2.mixKind prog w) s.heap [Sum.inl y.1, Sum.inl y.2] k := by
  obtain ⟨o, ho, hc, n, hd⟩ := x
  exact ⟨o, _, n, ho, hc, hd, .cons (L2.mixKind_int prog w _ _) (.cons (L2.mixKind_int prog w _ _) .nil)⟩
theorem kind_tv {vs : List Value} {M : P2 → Value} (h2 : 2 ≤ vs.length) (hu : A.units < cLine) (x : ∀ v ∈ vs, ∃ y, PairV s.heap v y (M y) ∧ TS.Bd 64 (nsP y)) (Q : SortKind → Shared → Prop)
    (h : ∀ κ, TS.Cmp prog w A s κ (pairsOf vs) (fun v => TS.code 64 (keyNs s.heap v)) → Q κ s) : wpAny (model prog w) A (keyKind' vs.toArray) Q E s := by
  obtain ⟨fs, k, hl, hi⟩ := firsts_ofV (M := M) vs fun v hv => let ⟨y, p, _⟩ := x v hv; ⟨y, p⟩
  refine kat_kind (T := Value.type "tuple") k (by omega) (fun f hf => ?_) rfl (h _ ?_)
  · obtain ⟨q, o, rfl, ho, hc⟩ := hi f hf
    have z : PySem.W.Looks (model prog w) s.heap (typeOf (.ref q)) o.cls := (PySem.W.Looks.ld ho).andThen .now
    rw [hc] at z
    exact z
  · have hb : (Value.type "tuple" != Value.type "tuple") = false := by simp
    rw [hb]
    intro p q hp hq Q' E' hQ
    rw [pairsOf_toList] at hp hq
    have mp := (mem_zip_self hp).2
    have mq := (mem_zip_self hq).2
    obtain ⟨y, py, by_⟩ := x _ mp
    obtain ⟨z, pz, bz⟩ := x _ mq
    have hQ' : Q' (HT.lexLt (nsP y) (nsP z)) s := by
      rw [lex_code by_ bz]
      have hQ2 : Q' (decide (TS.code 64 (keyNs s.heap p.1) < TS.code 64 (keyNs s.heap q.1))) s := hQ
      rw [py.ns, pz.ns] at hQ2
      exact hQ2
    obtain ⟨a, ka, t, t2, e1, ⟨o, ho, hc, n, hd⟩, g⟩ := py
    obtain ⟨a', kb, u, u2, e2, ⟨o', ho', hc', n', hd'⟩, g'⟩ := pz
    rw [e1, e2]
    refine kat_lt ho hd ho' hd' ?_
    show KatLex prog w A false false Q' [(Value.ref ka, Value.ref kb), (M y, M z)] 0 s
    by_cases e : y = z
    · subst e
      have irr : HT.lexLt (nsP y) (nsP y) = false := by rw [lex_code by_ by_]; exact decide_eq_false (Int.lt_irrefl _)
      rw [irr] at hQ'
      refine kat_cons (wpAny_eqBool_tuple hu (key_ints g) (key_ints g') ?_)
      refine kat_go (fun _ => ?_) (fun e0 => absurd rfl (of_decide_eq_false e0))
      refine kat_yes (kat_cons (SeqAt.EqAt.same (A := A) (s := s) (M y) prog w _ _ ?_))
      exact kat_yes (kat_nil hQ')
    · refine kat_cons (wpAny_eqBool_tuple hu (key_ints g) (key_ints g') ?_)
      refine kat_go (fun e0 => ?_) (fun _ => ?_)
      · exfalso
        have z0 := of_decide_eq_true e0
        injection z0 with z1 z2
        injection z1 with z1
        injection z2 with z2 _
        injection z2 with z2
        exact e (Prod.ext z1 z2)
      · refine kat_no ?_
        show wpAny _ _ (oneLt' false _ _) _ _ _
        obtain ⟨_, _, r1, r2, r3⟩ := tup_ints g
        obtain ⟨_, _, r1', r2', r3'⟩ := tup_ints g'
        injection r1 with r1
        injection r1' with r1'
        subst r1 r1'
        exact kat_one _ _ (HT.lt_tupInts r2 r2' r3 r3' hu hQ')
end
end DT
namespace L2
open PySem PySem.Spec PyProof.Rows L2.DX
set_option linter.unusedVariables false
abbrev entI (e : DT.P2 × V) : List L2.Key × V := ([Sum.inl e.1.1, Sum.inl e.1.2], e.2)
/-- sorted(d.items()) by keys of two ints; the values refs -/
def rSortIV : List V → Hp → VK → Prop := fun vs H Q => ∃ (p a : Addr) (ks : List (DT.P2 × Addr)), vs = [.ref p] ∧ H p = some (itemsO p a) ∧ H a = some (.dT (ks.map fun e => entI (e.1, .ref e.2))) ∧ ks.length < 64 ∧
  (ks.map (·.1)).Nodup ∧ (∀ e ∈ ks, TS.Bd 64 (DT.nsP e.1)) ∧
  ∀ (H' : Hp) (l : Addr) (ps : List (Addr × DT.P2 × Addr)), (∀ b o, H b = some o → H' b = some o) → H l = none → (ps.map (·.2)).Perm ks → (ps.map (·.2)).Pairwise (fun e f => TS.code 64 (DT.nsP e.1) ≤ TS.code 64 (DT.nsP f.1)) → H' l = some (.lst (ps.map fun z => V.ref z.1)) →
    (∀ z ∈ ps, ∃ q, H' z.1 = some (.tup [.ref q, .ref z.2.2]) ∧ H' q = some (.tup [.int z.2.1.1, .int z.2.1.2])) → Q (.ref l) H'
def look (ks : List (DT.P2 × Addr)) (y : DT.P2) : Addr := (ks.lookup y).getD 0
theorem look_at : ∀ {ks : List (DT.P2 × Addr)}, (ks.map (·.1)).Nodup → ∀ e ∈ ks, look ks e.1 = e.2
  | [], _, _, h => nomatch h
  | x :: ks, hn, e, h => by
    rw [List.map_cons, List.nodup_cons] at hn
    unfold look
    rcases List.mem_cons.mp h with rfl | h
    · simp [List.lookup]
    · have ne : (e.1 == x.1) = false := beq_eq_false_iff_ne.mpr fun z => hn.1 (by rw [← z]; exact List.mem_map.mpr ⟨e, h, rfl⟩)
      rw [List.lookup_cons, ne]
      exact look_at hn.2 e h
theorem cr_sortedIV {X : Cx} (hc : X.calm = true) (hu : X.A.units + 64 < cLine) : CallR X (.builtin "sorted") rSortIV := by
  intro pins s σ H xs us Q I r h
  obtain ⟨p, a, ks, rfl, hp, ha, h64, hnd, hbd, q⟩ := h
  obtain rfl := Vals.ref1 r
  have view : s.heap.IsItemsView p a := (show ObjOk X.prog X.w H s.heap p (itemsO p a) from I.hok p _ hp).1
  obtain ⟨z, hd, xs', rel, o, es, ep, ho, hx, hdat, hes, his, hn⟩ := dt_of I.hok ha
  have l1 : (ks.map fun e => entI (e.1, V.ref e.2)).length = xs'.length := Paired.length rel
  rw [List.length_map] at l1
  have l2 : es.size = xs'.length := size_of_entries hes
  have hh : X.A.handled = none := I.ok.hd hc
  refine DT.sortedI (es := es) (ep := ep) hh view ⟨o, ho, hx, hdat⟩ (by rw [sizeLine_eq]; omega) fun h' tk as hk hlt hl hG => ?_
  have lak : as.length = ks.length := by omega
  have nd : as.Nodup := List.Pairwise.imp (fun h => Nat.ne_of_lt h) hG.rise
  have pr : ∀ (j : Nat) (b : Addr), as[j]? = some b → ∃ (e : DT.P2 × Addr) (kq : Addr), ks[j]? = some e ∧ H kq = some (.tup [.int e.1.1, .int e.1.2]) ∧ h'.get? b = some { cls := .type "tuple", data := .seq #[Value.ref kq, Value.ref e.2] } := by
    intro j b hj
    obtain ⟨en, he, hg⟩ := hG.pairs j b hj
    rw [entry_at hes j] at he
    cases hxj : xs'[j]? with
    | none =>
      rw [hxj] at he
      exact nomatch (show (none : Option DictEntry) = some en from he)
    | some x =>
      rw [hxj] at he
      have een : entryOfKey (tupleKind (mixKind X.prog X.w)) x = en := Option.some.inj he
      obtain ⟨e0, he0, r1, r2, r3⟩ := pget rel hxj
      rw [List.getElem?_map] at he0
      cases hkj : ks[j]? with
      | none =>
        rw [hkj] at he0
        exact nomatch (show (none : Option (List L2.Key × V)) = some e0 from he0)
      | some e =>
        rw [hkj] at he0
        have ee : entI (e.1, V.ref e.2) = e0 := Option.some.inj he0
        rw [← ee] at r2 r3
        have r3' : x.2.2 = Value.ref e.2 := r3
        refine ⟨e, x.2.1, rfl, r2, ?_⟩
        rw [hg, ← een, ← r3']
        all_goals rfl
  have hob : (h'.push { cls := .type "list", data := .seq (as.map Value.ref).toArray }).get? h'.objs.size = some (seqObj "list" (as.map Value.ref).toArray 0) := Heap.get?_push_size _ rfl
  have kb : ∀ b o, s.heap.get? b = some o → (h'.push { cls := .type "list", data := .seq (as.map Value.ref).toArray }).get? b = some o := fun b o e => Heap.get?_push_of_some _ (hk b o e)
  have ne0 : ∀ b o, h'.get? b = some o → b ≠ h'.objs.size := fun b o e => Nat.ne_of_lt (Heap.lt_size e)
  generalize hh2 : h'.push { cls := .type "list", data := .seq (as.map Value.ref).toArray } = h2 at hob kb ⊢
  have ka : ∀ b o, h'.get? b = some o → h2.get? b = some o := fun b o e => by rw [← hh2]; exact Heap.get?_push_of_some _ e
  have pin : ∀ (j : Nat) (b : Addr), as[j]? = some b → ∃ e : DT.P2 × Addr, ks[j]? = some e ∧ DT.PairV (TS.midHeap h2 h'.objs.size (as.map Value.ref)) (.ref b) e.1 (.ref (look ks e.1)) := by
    intro j b hj
    obtain ⟨e, kq, he, hkq, hg⟩ := pr j b hj
    obtain ⟨_, its, rv, ot, hot, hct, nt, hdt⟩ := (show ObjOk X.prog X.w H s.heap kq (.tup [.int e.1.1, .int e.1.2]) from I.hok kq _ hkq)
    obtain ⟨t, t', rfl⟩ : ∃ t t', its = [Value.int e.1.1 t, Value.int e.1.2 t'] := by
      cases rv with
      | cons r1 r2 =>
        cases r2 with
        | cons r2 r3 =>
          cases r3
          obtain ⟨t, rfl⟩ := r1
          obtain ⟨t', rfl⟩ := r2
          exact ⟨t, t', rfl⟩
    refine ⟨e, he, ?_⟩
    rw [look_at hnd e (List.mem_of_getElem? he)]
    exact ⟨b, kq, t, t', rfl, ⟨_, TS.midHeap_old (ne0 _ _ hg) (ka _ _ hg), rfl, 0, rfl⟩, ⟨ot, TS.midHeap_old (ne0 _ _ (hk _ _ hot)) (kb _ _ hot), hct, nt, hdt⟩⟩
  have tx : ∀ (j : Nat) (b : Addr) (e : DT.P2 × Addr), as[j]? = some b → ks[j]? = some e → DT.keyNs (TS.midHeap h2 h'.objs.size (as.map Value.ref)) (.ref b) = DT.nsP e.1 := by
    intro j b e hj he
    obtain ⟨e', he', hp'⟩ := pin j b hj
    have ee : e' = e := Option.some.inj (he'.symm.trans he)
    rw [← ee]
    exact hp'.ns
  have at_ : ∀ v ∈ as.map Value.ref, ∃ (j : Nat) (b : Addr) (e : DT.P2 × Addr), v = .ref b ∧ as[j]? = some b ∧ ks[j]? = some e := by
    intro v hv'
    obtain ⟨b, hb, rfl⟩ := List.mem_map.mp hv'
    obtain ⟨j, hj⟩ := List.mem_iff_getElem?.mp hb
    obtain ⟨e, _, he, _⟩ := pr j b hj
    exact ⟨j, b, e, rfl, hj, he⟩
  refine wpAny_call_entry PyProof.Rows.slot_list_sort ⟨_, hob, rfl⟩ PyProof.Rows.entry_list_sort
    (SK.plain_sort (s := { s with heap := h2, toks := tk }) (r := fun v => TS.code 64 (DT.keyNs (TS.midHeap h2 h'.objs.size (as.map Value.ref)) v)) hob (by rw [List.length_map]; omega) (fun h2' Qk hQk => ?_) fun ps out o1 o2 o3 => ⟨.none, rfl, ?_⟩) (PyProof.Rows.args_list_sort _)
  · refine DT.kind_tv (s := { s with heap := TS.midHeap h2 h'.objs.size (as.map Value.ref), toks := tk }) (M := fun y => .ref (look ks y)) h2' (by show X.A.units + 1 + 1 < cLine; omega) (fun v hv' => ?_) Qk hQk
    obtain ⟨j, b, e, rfl, hj, he⟩ := at_ v hv'
    obtain ⟨e', he', hp'⟩ := pin j b hj
    exact ⟨e'.1, hp', hbd e' (List.mem_of_getElem? he')⟩
  · show EP X pins σ Q (.ref h'.objs.size) { s with heap := sortedHeap h2 h'.objs.size (as.map Value.ref) out, toks := tk }
    obtain ⟨zs, pz, ez⟩ := perm_lift (fun z : Addr × DT.P2 × Addr => (Value.ref z.1, Value.ref z.1)) o2 (as.zip ks) (zip_self Value.ref as ks lak)
    have idx : ∀ z ∈ zs, ∃ j : Nat, as[j]? = some z.1 ∧ ks[j]? = some z.2 := by
      intro z' hz'
      obtain ⟨j, hj⟩ := List.mem_iff_getElem?.mp (pz.mem_iff.mp hz')
      exact ⟨j, List.getElem?_zip_eq_some.mp hj⟩
    have hout : out.toList = zs.map fun z => Value.ref z.1 := by
      rw [o1, ← ez, List.map_map]
      all_goals rfl
    have hperm : (zs.map (·.2)).Perm ks := by
      have e := pz.map (·.2)
      have m2 : (as.zip ks).map (·.2) = ks := List.map_snd_zip (by rw [lak]; exact Nat.le_refl _)
      rw [m2] at e
      exact e
    have hsort : (zs.map (·.2)).Pairwise (fun e f => TS.code 64 (DT.nsP e.1) ≤ TS.code 64 (DT.nsP f.1)) := by
      rw [← ez, List.pairwise_map] at o3
      rw [List.pairwise_map]
      refine List.Pairwise.imp_of_mem (fun {x y} hx hy h => ?_) o3
      obtain ⟨j, j1, j2⟩ := idx x hx
      obtain ⟨i, i1, i2⟩ := idx y hy
      have h' : TS.code 64 (DT.keyNs (TS.midHeap h2 h'.objs.size (as.map Value.ref)) (.ref x.1)) ≤ TS.code 64 (DT.keyNs (TS.midHeap h2 h'.objs.size (as.map Value.ref)) (.ref y.1)) := h
      rw [tx j _ _ j1 j2, tx i _ _ i1 i2] at h'
      exact h'
    have kF : ∀ b o, b ≠ h'.objs.size → h2.get? b = some o → (sortedHeap h2 h'.objs.size (as.map Value.ref) out).get? b = some o := fun b o hb e => (PyProof.Rows.sortedHeap_old hb (Heap.lt_size e)).trans e
    have kS : ∀ b o, s.heap.get? b = some o → (sortedHeap h2 h'.objs.size (as.map Value.ref) out).get? b = some o := fun b o e => kF b o (ne0 _ _ (hk b o e)) (kb b o e)
    obtain ⟨eF, heF⟩ := PyProof.Rows.sortedHeap_at (vs := as.map Value.ref) (out := out) hob
    have I1 : Inv X pins σ H { s with heap := sortedHeap h2 h'.objs.size (as.map Value.ref) out, toks := tk } := I.kept (t' := tk) kS
    have hn0 : H h'.objs.size = none := I.hok.fresh (Nat.le_of_lt hlt)
    have hlen : (zs.map fun z => V.ref z.1).length ≤ sizeLine := by
      have e := hperm.length_eq
      rw [List.length_map] at e
      rw [List.length_map, sizeLine_eq]
      omega
    have rv : Vals (zs.map fun z => V.ref z.1) out.toList := by
      rw [hout]
      exact vals_maps (fun z : Addr × DT.P2 × Addr => V.ref z.1) (fun z => Value.ref z.1) zs fun _ _ => rfl
    have I2 : Inv X pins σ (upd H h'.objs.size (.lst (zs.map fun z => V.ref z.1))) { s with heap := sortedHeap h2 h'.objs.size (as.map Value.ref) out, toks := tk } :=
      I1.take (h' := sortedHeap h2 h'.objs.size (as.map Value.ref) out) (t' := tk) (fun b ob _ e => e) (I.fpOk (Nat.le_of_lt hlt) hn0) ⟨hlen, out.toList, eF, rv, heF⟩
    obtain ⟨H2, I3, g, qt⟩ := takeT (P := fun b vs => ∃ (j : Nat) (e : DT.P2 × Addr) (kq : Addr), as[j]? = some b ∧ ks[j]? = some e ∧ vs = [.ref kq, .ref e.2] ∧ H kq = some (.tup [.int e.1.1, .int e.1.2])) I as _ I2 nd fun b hb => by
      obtain ⟨j, hj⟩ := List.mem_iff_getElem?.mp hb
      obtain ⟨e, kq, he, hkq, hg⟩ := pr j b hj
      have hbl : s.heap.objs.size ≤ b := Nat.le_of_lt (hG.above b hb)
      refine ⟨hbl, ?_, [.ref kq, .ref e.2], ⟨j, e, kq, hj, he, rfl, hkq⟩, fun H3 => ⟨(by rw [sizeLine_eq]; show 2 ≤ 16777216; omega), [Value.ref kq, Value.ref e.2], .cons rfl (.cons rfl .nil), ⟨_, kF _ _ (ne0 _ _ hg) (ka _ _ hg), rfl, 0, rfl⟩⟩⟩
      rw [upd_ne (ne0 _ _ hg)]
      exact I.hok.fresh hbl
    have gr : ∀ b o, H b = some o → H2 b = some o := fun b o e => g b o (by rw [upd_ne (ne_of_none e hn0)]; exact e)
    refine ⟨.ref h'.objs.size, H2, I3, rfl, q H2 h'.objs.size zs gr hn0 hperm hsort (g _ _ upd_same) fun z' hz' => ?_⟩
    obtain ⟨i, i1, i2⟩ := idx z' hz'
    obtain ⟨vs, ⟨j, e, kq, j1, j2, ev, hkq⟩, hH⟩ := qt z'.1 (List.mem_of_getElem? i1)
    have eij : i = j := (List.getElem?_inj (List.getElem?_eq_some_iff.mp i1).1 nd).mp (i1.trans j1.symm)
    subst eij
    have ee : e = z'.2 := Option.some.inj (j2.symm.trans i2)
    rw [ev, ee] at hH
    rw [ee] at hkq
    exact ⟨kq, hH, gr _ _ hkq⟩
end L2

set_option Elab.async false
set_option maxRecDepth 100000
set_option maxHeartbeats 4000000
/-! x in [..], x of a class with its own ==, no item equal to it -/
namespace PySem.W
open PySem PySem.Calls PyProof.Rows PyProof.V PySem.Spec
set_option linter.unusedVariables false
section
variable {prog : Program} {w : World} {A : Around} {E : Value → Shared → Prop} {s : Shared} {K : Frag} {x C L f : Addr} {h₀ : Heap} {m : Str → Option Value} {ox : Obj} {od : Option Obj}
theorem rc_back {T id : String} {y : Value} {Q : Value → Shared → Prop} (hu : A.units < cLine) (F : Fr h₀ L s.heap m) (X₀ : K.In h₀) (I : InstAt s.heap x ox C od) (hT : s.TypeIs y T) (hsub : subIn K (.ref C) (.type T) = some false) (slot : Slot T "__eq__" id)
    (hc : wpAny (model prog w) A (call (.builtin id) [y, .ref x]) (fun v s1 => v = .notImplemented ∧ s1 = s) E s)
    (hs : findIn K (.ref C) "__eq__" = some (some (.ref f))) (hf : isFn K (.ref f) = true)
    (h : wpAny (model prog w) A (call (.ref f) [.ref x, y]) (CmpBack Q) E s) : wpAny (model prog w) A (richCompare .Eq y (.ref x)) Q E s := by
  have X := X₀.keeps F.keep
  have one : wpAny (model prog w) A (tryCompare (.ref x) "__eq__" y) (fun r s' => ∃ v, r = some v ∧ Q v s') E s := by
    unfold tryCompare
    refine wpAny_bind (ifBound_K X I hs hf (wpAny_mono h (fun v s' hv => ?_) fun _ _ e => e))
    cases v <;> first | exact hv.elim | exact wpAny_pure ⟨_, rfl, hv⟩
  have hne : (Value.type T != Value.ref C) = true := by simp
  unfold richCompare
  simp only [hT.oneThing_none, cmpInfo]
  refine wpAny_holding (wpAny_bind (wpAny_cRoomFor hu ?_))
  refine wpAny_bind (wpAny_typeOf hT (wpAny_bind (I.type.here ?_)))
  simp only [hne, if_true]
  refine wpAny_bind ((looks_subIn X hsub).here ?_)
  simp only [Bool.false_eq_true, if_false, Bool.not_false, if_true]
  refine wpAny_bind (m := tryCompare y _ (.ref x)) (wpAny_tryCompare_declines hT slot (wpAny_mono hc (fun v s1 h1 => ⟨h1.1, ?_⟩) fun _ _ e => e))
  obtain ⟨_, rfl⟩ := h1
  refine wpAny_bind (wpAny_mono one (fun r s' z => ?_) fun _ _ e => e)
  obtain ⟨v, rfl, hq⟩ := z
  exact wpAny_pure hq
end
end PySem.W
namespace GQ
open PySem PySem.SeqAt
open AutoSeq1 (wpAny_loadPart')
open MeetsSeq MeetsSeq2 MeetsSeq3 SeqRoads2
set_option linter.unusedVariables false
section
variable {prog : Program} {w : World} {A : Around} {R : Result → Shared → Prop} {s : Shared}
theorem list_decl {l : Addr} {x : Value} (hi : PySem.W.Looks (model prog w) s.heap (isInstance x (.type "list")) false) (h : R (.ok (.ret .notImplemented)) s) :
    wpAny (model prog w) A.in1 (Builtin.«list.__eq__» ⟨[.ref l, x], []⟩) (FinOf prog w A R) (fun e s' => R (.error e) s') s := by
  have hi' := @PySem.W.Looks.here
  unfold Builtin.«list.__eq__»
  repeat (first
    | exact h
    | (refine wpAny_bind (m := isInstance x (.type "list")) (hi.here ?_))
    | wp_step)
theorem tuple_decl {l : Addr} {x : Value} (hi : PySem.W.Looks (model prog w) s.heap (isInstance x (.type "tuple")) false) (h : R (.ok (.ret .notImplemented)) s) :
    wpAny (model prog w) A.in1 (Builtin.«tuple.__eq__» ⟨[.ref l, x], []⟩) (FinOf prog w A R) (fun e s' => R (.error e) s') s := by
  unfold Builtin.«tuple.__eq__»
  repeat (first
    | exact h
    | (refine wpAny_bind (m := isInstance x (.type "tuple")) (hi.here ?_))
    | wp_step)
theorem dict_decl {l : Addr} {x : Value} (hT : s.TypeIs (.ref l) "dict") (hi : PySem.W.Looks (model prog w) s.heap (isInstance x (.type "dict")) false) (h : R (.ok (.ret .notImplemented)) s) :
    wpAny (model prog w) A.in1 (Builtin.«dict.__eq__» ⟨[.ref l, x], []⟩) (FinOf prog w A R) (fun e s' => R (.error e) s') s := by
  unfold Builtin.«dict.__eq__»
  repeat (first
    | exact h
    | (refine wpAny_bind (m := isInstance x (.type "dict")) (hi.here ?_))
    | wp_step)
theorem none_decl {x : Addr} (h : R (.ok (.ret .notImplemented)) s) :
    wpAny (model prog w) A.in1 (Builtin.«NoneType.__eq__» ⟨[.none, .ref x], []⟩) (FinOf prog w A R) (fun e s' => R (.error e) s') s := by
  unfold Builtin.«NoneType.__eq__»
  repeat (first
    | exact h
    | wp_step)
/-- no item equal: the loop ends with False -/
theorem contains_loopF (l : Addr) (x : Value) (N : Nat) (I : Shared → Prop)
    (hl : ∀ s, I s → ∃ (items : Array Value) (n : Nat), s.heap.get? l = some { cls := .type "list", data := .seq items n } ∧ items.size = N ∧ ∀ (i : Nat) (h1 : i < items.size), wpAny (model prog w) A.in1 (eqBool items[i] x) (fun r s' => r = false ∧ I s') (fun e s' => R (.error e) s') s)
    (fin : ∀ s, I s → R (.ok (.ret (.bool false))) s) (k : Nat) :
    ∀ i : Nat, N - i = k → i ≤ N → ∀ s, I s → wpAny (model prog w) A.in1 (Builtin.«list.__contains__.loop» ⟨[.ref l, x, rawInt i], []⟩) (FinOf prog w A R) (fun e s' => R (.error e) s') s := by
  induction k with
  | zero =>
    intro i hk hi s h
    obtain ⟨items, n, hl1, hs1, _⟩ := hl _ h
    have hR : R (.ok (.ret (.bool false))) s := fin s h
    obtain ⟨hp, g, d, tk, os⟩ := s
    wp_walk using wpAny_loadPart' hl1
    have hi1 : items[((i : Nat) : Int).toNat]? = none := by simp; omega
    rw [hi1]
    wp_walk using wpAny_loadPart' hl1
    exact hR
  | succ k ih =>
    intro i hk hi s h
    obtain ⟨items, n, hl1, hs1, turn⟩ := hl _ h
    have hlt : i < items.size := by omega
    have ht := turn i hlt
    obtain ⟨hp, g, d, tk, os⟩ := s
    wp_walk using wpAny_loadPart' hl1
    have hi1 : items[((i : Nat) : Int).toNat]? = some items[i] := by simp [hlt]
    have hc : ((i : Int) + 1) = ((i + 1 : Nat) : Int) := by omega
    rw [hi1]
    refine wpAny_bind (wpAny_mono ht (fun r s2 h2 => ?_) fun _ _ x => x)
    obtain ⟨hr, h2⟩ := h2
    subst hr
    have hrec := ih (i + 1) (by omega) (by omega) s2 h2
    obtain ⟨hp2, g2, d2, tk2, os2⟩ := s2
    wp_walk
    rw [hc]
    exact ⟨plainId_quiet plain_contains_loop _, codeAny_builtin entry_contains_loop (by
      rw [Around.under_plainId plain_contains_loop _]
      exact hrec)⟩
theorem list_containsF (l : Addr) (x : Value) (N : Nat) (I : Shared → Prop)
    (hl : ∀ s, I s → ∃ (items : Array Value) (n : Nat), s.heap.get? l = some { cls := .type "list", data := .seq items n } ∧ items.size = N ∧ ∀ (i : Nat) (h1 : i < items.size), wpAny (model prog w) A.in1 (eqBool items[i] x) (fun r s' => r = false ∧ I s') (fun e s' => R (.error e) s') s)
    (fin : ∀ s, I s → R (.ok (.ret (.bool false))) s) (h : I s) :
    wpAny (model prog w) A.in1 (Builtin.«list.__contains__» ⟨[.ref l, x], []⟩) (FinOf prog w A R) (fun e s' => R (.error e) s') s := by
  obtain ⟨items, n, hl1, hs1, _⟩ := hl _ h
  have hrec := contains_loopF (A := A) (R := R) l x N I hl fin _ 0 rfl (Nat.zero_le _) s h
  obtain ⟨hp, g, d, tk, os⟩ := s
  wp_walk using wpAny_loadPart' hl1
  exact ⟨plainId_quiet plain_contains_loop _, codeAny_builtin entry_contains_loop (by
    rw [Around.under_plainId plain_contains_loop _]
    exact hrec)⟩
end
end GQ

set_option Elab.async false
set_option maxRecDepth 100000
set_option maxHeartbeats 4000000
namespace L2
open PySem PySem.Spec PyProof.Rows
set_option linter.unusedVariables false
/-- None, a list, a tuple or a dict with tuple keys -/
def NoTk (H : Hp) (v : V) : Prop := v = .non ∨ ∃ a, v = .ref a ∧ ((∃ xs, H a = some (.lst xs)) ∨ (∃ xs, H a = some (.tup xs)) ∨ ∃ kvs, H a = some (.dT kvs))
/-- the own class lies below none of the four -/
structure Beside (K : PySem.W.Frag) (C : Addr) : Prop where
  n : PySem.W.subIn K (.ref C) (.type "NoneType") = some false
  l : PySem.W.subIn K (.ref C) (.type "list") = some false
  t : PySem.W.subIn K (.ref C) (.type "tuple") = some false
  d : PySem.W.subIn K (.ref C) (.type "dict") = some false
def rInOwn (C : Addr) (sp : Sp) (E : XK) : R2 := fun x y H Q => ∃ a dx fs l ys, x = .ref a ∧ y = .ref l ∧ H a = some (.ins C dx fs) ∧ H l = some (.lst ys) ∧ (∀ v ∈ ys, NoTk H v ∧ sp [.ref a, v] H (fun r H' => r = .bl false ∧ H' = H) E) ∧ Q (.bl false) H
section
variable {X : Cx} {CX : CXT} {n : Nat} {f C : Addr} {fd : FuncData} {ps : List Str} {sp : Sp} {E : XK}
theorem eqBool_back {prog : Program} {w : World} {A : Around} {E : Value → Shared → Prop} {s : Shared} {y : Value} {x : Addr} {Q : Bool → Shared → Prop} (hy : y = .none ∨ ∃ b, y = .ref b ∧ b ≠ x)
    (h : wpAny (model prog w) A (richCompare .Eq y (.ref x)) (fun v s' => ∃ r, v = .bool r ∧ Q r s') E s) : wpAny (model prog w) A (eqBool y (.ref x)) Q E s := by
  rcases hy with rfl | ⟨b, rfl, hne⟩
  · unfold eqBool
    refine wpAny_holding ?_
    refine wpAny_ite_split (fun hab => absurd (eq_of_beq hab) (fun z => nomatch z)) (fun _ => ?_)
    refine wpAny_bind (wpAny_mono h (fun v s' hv => ?_) fun _ _ x => x)
    obtain ⟨r, rfl, q⟩ := hv
    exact wpAny_truthy_bool q
  · exact GQ.eqBool_refG hne h
theorem op_inOwn (G : FnOk X.prog X.w X.K X.mg X.base CX n f fd ps sp) (hs : PySem.W.findIn X.K (.ref C) "__eq__" = some (some (.ref f))) (hf : PySem.W.isFn X.K (.ref f) = true) (hb : Binds X.K fd ps []) (hB : Beside X.K C) (hr : Room (n + 1) X.A) (hx : Passes CX X E) : OpR X (compareOp .In) (rInOwn C sp E) := by
  intro pins s σ H x y v u Q I rx ry h
  obtain ⟨a, dx, fs, l, ys, rfl, rfl, ha, hl, hall, q⟩ := h
  cases (show v = Value.ref a from rx)
  cases (show u = Value.ref l from ry)
  have hu1 : X.A.in1.units < cLine := hr.in1.units0
  show wpAny (model X.prog X.w) X.A (do return .bool (← contains (.ref l) (.ref a))) (EP X pins σ Q) X.xe s
  obtain ⟨z0, its0, k0, r0, e0⟩ := I.hok l _ hl
  refine wpAny_bind (wpAny_contains_slot (T := "list") ⟨_, e0, rfl⟩ F.slot_list_contains (wpAny_mono (Q := fun v s' => v = .bool false ∧ Inv X pins σ H s') (GQ.call_here F.slot_list_contains ⟨_, e0, rfl⟩ F.entry_list_contains (F.args_list_contains_2 _ _) ?_) (fun v s' hv => ?_) fun _ _ e => e))
  case refine_2 =>
    obtain ⟨rfl, I'⟩ := hv
    exact wpAny_truthy_bool (wpAny_pure ⟨.bl false, H, I', rfl, q⟩)
  refine GQ.list_containsF l (.ref a) ys.length (fun s' => Inv X pins σ H s') (fun s' I' => ?_) (fun s' I' => ⟨rfl, I'⟩) I
  obtain ⟨z, its, k, r, e⟩ := I'.hok l _ hl
  refine ⟨its.toArray, k, e, by rw [List.size_toArray, ← r.length], fun i h1 => ?_⟩
  have h1' : i < its.length := by simpa using h1
  have k1 : i < ys.length := by rw [r.length]; exact h1'
  obtain ⟨u, hu, ru⟩ := r.get (List.getElem?_eq_getElem k1)
  have eu : its.toArray[i] = u := by
    have g1 : its[i]? = some its.toArray[i] := by
      rw [List.getElem?_eq_getElem h1'] <;> simp
    exact Option.some.inj (g1.symm.trans hu)
  rw [eu]
  obtain ⟨hn, hsp⟩ := hall _ (List.getElem_mem k1)
  generalize ys[i] = y at hn hsp ru
  obtain ⟨mA, J, _⟩ := ins_get I'.hok ha
  obtain ⟨od, J, _⟩ := J.look
  obtain ⟨m, hF⟩ := I'.fr
  have XK := I'.ok.mod.kin.keeps hF.keep
  -- the own ==
  have own : wpAny (model X.prog X.w) X.A.in1 (call (.ref f) [.ref a, u]) (PySem.W.CmpBack fun v s' => ∃ r, v = .bool r ∧ (r = false ∧ Inv X pins σ H s')) X.xe s' := by
    have hl := G.len _ _ _ _ hsp
    have r2 : Vals [V.ref a, y] [Value.ref a, u] := .cons rfl (.cons ru .nil)
    have e0 : Env0 X.prog X.w X.K X.mg X.base X.A.in1 X.stack s' H := I'.env0.in1
    refine wpAny_call (codeAny_mono (G.run X.A.in1 X.stack s' H ⟨[.ref a, u], []⟩ [.ref a, u] [.ref a, y] _ E hr.in1 e0 (by
      have := hb s' [.ref a, u] I'.kIn (by simpa using hl)
      simpa using this) r2 hsp) fun r s2 hq => ?_)
    cases r with
    | error e => exact hx pins σ H s' e s2 I' hq
    | ok fl =>
      cases fl with
      | ret w =>
        obtain ⟨z, H', I2, rz, ez, eh⟩ := I'.after hq
        subst ez
        subst eh
        cases rz
        exact ⟨false, rfl, rfl, I2⟩
      | next => exact False.elim hq
      | brk => exact False.elim hq
      | cont => exact False.elim hq
  rcases hn with rfl | ⟨b, rfl, ⟨xs, hb'⟩ | ⟨xs, hb'⟩ | ⟨kvs, hb'⟩⟩
  · cases ru
    exact eqBool_back (.inl rfl) (PySem.W.rc_back (T := "NoneType") hu1 hF I'.ok.mod.kin J rfl hB.n F.slot_NoneType_eq (GQ.call_here F.slot_NoneType_eq rfl F.entry_NoneType_eq (F.args_NoneType_eq_2 _ _) (GQ.none_decl ⟨rfl, rfl⟩)) hs hf own)
  all_goals
    cases ru
    have nba : Value.ref b = .none ∨ ∃ b', Value.ref b = .ref b' ∧ b' ≠ a := .inr ⟨b, rfl, ne_of hb' ha (fun z => by cases z)⟩
  · obtain ⟨_, its2, k2, _, e2⟩ := I'.hok b _ hb'
    exact eqBool_back nba (PySem.W.rc_back (T := "list") hu1 hF I'.ok.mod.kin J ⟨_, e2, rfl⟩ hB.l F.slot_list_eq (GQ.call_here F.slot_list_eq ⟨_, e2, rfl⟩ F.entry_list_eq (F.args_list_eq_2 _ _) (GQ.list_decl (J.type.andThen (PySem.W.looks_subIn XK hB.l)) ⟨rfl, rfl⟩)) hs hf own)
  · obtain ⟨_, _, _, o, e2, c2, _⟩ := (show ObjOk X.prog X.w H s'.heap b (.tup xs) from I'.hok b _ hb')
    exact eqBool_back nba (PySem.W.rc_back (T := "tuple") hu1 hF I'.ok.mod.kin J ⟨_, e2, c2⟩ hB.t F.slot_tuple_eq (GQ.call_here F.slot_tuple_eq ⟨_, e2, c2⟩ F.entry_tuple_eq (F.args_tuple_eq_2 _ _) (GQ.tuple_decl (J.type.andThen (PySem.W.looks_subIn XK hB.t)) ⟨rfl, rfl⟩)) hs hf own)
  · obtain ⟨_, _, _, _, o, es, ep, e2, c2, _⟩ := (show ObjOk X.prog X.w H s'.heap b (.dT kvs) from I'.hok b _ hb')
    exact eqBool_back nba (PySem.W.rc_back (T := "dict") hu1 hF I'.ok.mod.kin J ⟨_, e2, c2.1⟩ hB.d F.slot_dict_eq (GQ.call_here F.slot_dict_eq ⟨_, e2, c2.1⟩ F.entry_dict_eq (F.args_dict_eq_2 _ _) (GQ.dict_decl ⟨_, e2, c2.1⟩ (J.type.andThen (PySem.W.looks_subIn XK hB.d)) ⟨rfl, rfl⟩)) hs hf own)
end
end L2

set_option Elab.async false
set_option maxRecDepth 100000
set_option maxHeartbeats 4000000
namespace L2
open PySem PySem.Spec PyProof.Rows
set_option linter.unusedVariables false
/-! comprehensions with several clauses: a core for the first, one for each behind it -/
section
variable {prog : Program} {w : World} {A : Around} {R : Result → Shared → Prop} {s : Shared}
/-- such a node's loops and starts run where they stand -/
structure Runs (prog : Program) (w : World) (A : Around) (node : Expr) : Prop where
  lu : ∀ k it acc env, A.under (.compLoop node k it acc env) = A
  ld : ∀ k it acc env, (model prog w).den (.compLoop node k it acc env) = (compTurn node k it acc env).onRaise (fun x => do noteFrame x env; theTreesLotGoes x)
  su : ∀ k it acc env, A.under (.compStart node k it acc env) = A
  sd : ∀ k it acc env, (model prog w).den (.compStart node k it acc env) = (compStart node k it acc env).onRaise (fun x => do noteFrame x env; standAt theWindowsPlace)
theorem runs_list {elt : Expr} {cs : List Comprehension} {scope : Scope} {pos : Pos} : Runs prog w A (.ListComp elt cs scope pos) := ⟨fun _ _ _ _ => rfl, fun _ _ _ _ => rfl, fun _ _ _ _ => rfl, fun _ _ _ _ => rfl⟩
theorem runs_dict {kx vx : Expr} {cs : List Comprehension} {scope : Scope} {pos : Pos} : Runs prog w A (.DictComp kx vx cs scope pos) := ⟨fun _ _ _ _ => rfl, fun _ _ _ _ => rfl, fun _ _ _ _ => rfl, fun _ _ _ _ => rfl⟩
/-- how a clause goes over to the next -/
abbrev BodyTo (prog : Program) (w : World) (A : Around) (env : Env) (node i1 : Expr) (k1 : Nat) (acc : Value) (R : Result → Shared → Prop) : (Shared → Prop) → Shared → Prop := fun back s =>
  wpAny (model prog w) A (eval i1 env) (fun x s4 => wpAny (model prog w) A (pyIter x) (fun it1 s5 => codeAny (model prog w) A (.compStart node k1 it1 acc env) (fun r s' => match r with
    | .ok _ => back s'
    | .error _ => False) s5) (notedBy (model prog w) A env fun e s' => R (.error e) s') s4) (notedBy (model prog w) A env fun e s' => R (.error e) s') s
/-- what a turn of such a clause is -/
abbrev OutEq (node : Expr) (k : Nat) (t0 i0 : Expr) (ifs0 : List Expr) (i1 : Expr) : Prop := ∀ (it acc : Value) (env : Env), compTurn node k it acc env = (do
      standAt i0.pos
      match ← pyNext it with
      | none => pure (.done .next)
      | some v =>
        letOwnedTupleGo t0 it v
        assign t0 env v
        let mut ok := true
        for c in ifs0 do
          if ok then ok ← isTrue c env (eval c env)
        if ok then
          let x ← eval i1 env
          standAt i1.pos
          let x ← foldedSetIterable i1 env x
          let _ ← runOwn (.compStart node (k + 1) (← holding [x] (pyIter x)) acc env) env
        again (.compLoop node k it acc env))
theorem loop_out {node t0 i0 i1 : Expr} {k : Nat} {ifs0 : List Expr} (hr : Runs prog w A node) (eq : OutEq node k t0 i0 ifs0 i1) {it acc : Value} {env : Env} (hs : ∀ x, foldedSetIterable i1 env x = pure x) (I : Nat → Shared → Prop)
    (turn : ∀ n s, I n s → TurnIs prog w A t0 i0 ifs0 it env R (BodyTo prog w A env node i1 (k + 1) acc R) (fun s' => ∃ m, m < n ∧ I m s') s) (n : Nat) (s : Shared) (h : I n s) :
    codeAny (model prog w) A (.compLoop node k it acc env) R s := by
  refine codeAny_loop rfl I (fun n s hI => ?_) n h
  rw [hr.lu, hr.ld]
  refine wpAny_noted ?_
  rw [eq]
  refine wpAny_bind (wpAny_standAt (wpAny_bind (wpAny_mono (turn n s hI) (fun r s₁ h₁ => ?_) fun _ _ h' => h')))
  cases r with
  | none => exact wpAny_pure h₁
  | some v =>
    refine wpAny_bind (wpAny_mono h₁ (fun _ s₁' h₁' => ?_) fun _ _ h' => h')
    refine wpAny_bind (wpAny_mono h₁' (fun _ s₂ h₂ => wpAny_bind (wpAny_mono h₂ (fun ok s₃ h₃ => ?_) fun _ _ h' => h')) fun _ _ h' => h')
    cases ok with
    | false => exact wpAny_pure ⟨rfl, h₃⟩
    | true =>
      refine wpAny_bind (wpAny_mono h₃ (fun x s₄ h₄ => ?_) fun _ _ h' => h')
      refine wpAny_bind (wpAny_standAt (wpAny_bind (wpAny_of_eq (hs x) (wpAny_bind (wpAny_holding (wpAny_mono h₄ (fun it1 s₅ h₅ => ?_) fun _ _ h' => h'))))))
      refine wpAny_bind (wpAny_runOwn ?_)
      rw [Around.mark_none]
      refine codeAny_mono h₅ fun r s' hr => ?_
      cases r with
      | ok f =>
        first
          | exact wpAny_pure ⟨rfl, hr⟩
          | exact wpAny_bind (wpAny_pure (wpAny_pure ⟨rfl, hr⟩))
      | error e => exact hr.elim
/-- the last clause's turn, what it does with its element being elt -/
abbrev InEq (node : Expr) (k : Nat) (t0 i0 : Expr) (ifs0 : List Expr) (acc : Value) (env : Env) (elt : Sem Unit) : Prop := ∀ (it : Value), compTurn node k it acc env = (do
      standAt i0.pos
      match ← pyNext it with
      | none => pure (.done .next)
      | some v =>
        letOwnedTupleGo t0 it v
        assign t0 env v
        let mut ok := true
        for c in ifs0 do
          if ok then ok ← isTrue c env (eval c env)
        if ok then elt
        again (.compLoop node k it acc env))
theorem loop_in {node t0 i0 : Expr} {k : Nat} {ifs0 : List Expr} {it acc : Value} {env : Env} {elt : Sem Unit} (hr : Runs prog w A node) (eq : InEq node k t0 i0 ifs0 acc env elt) (I : Nat → Shared → Prop)
    (turn : ∀ n s, I n s → TurnIs prog w A t0 i0 ifs0 it env R (fun back s => wpAny (model prog w) A elt (fun _ s' => back s') (notedBy (model prog w) A env fun e s' => R (.error e) s') s) (fun s' => ∃ m, m < n ∧ I m s') s) (n : Nat) (s : Shared) (h : I n s) :
    codeAny (model prog w) A (.compLoop node k it acc env) R s := by
  refine codeAny_loop rfl I (fun n s hI => ?_) n h
  rw [hr.lu, hr.ld]
  refine wpAny_noted ?_
  rw [eq]
  refine wpAny_bind (wpAny_standAt (wpAny_bind (wpAny_mono (turn n s hI) (fun r s₁ h₁ => ?_) fun _ _ h' => h')))
  cases r with
  | none => exact wpAny_pure h₁
  | some v =>
    refine wpAny_bind (wpAny_mono h₁ (fun _ s₁' h₁' => ?_) fun _ _ h' => h')
    refine wpAny_bind (wpAny_mono h₁' (fun _ s₂ h₂ => wpAny_bind (wpAny_mono h₂ (fun ok s₃ h₃ => ?_) fun _ _ h' => h')) fun _ _ h' => h')
    cases ok with
    | false => exact wpAny_pure ⟨rfl, h₃⟩
    | true => exact wpAny_bind (wpAny_mono h₃ (fun _ s₄ h₄ => wpAny_pure ⟨rfl, h₄⟩) fun _ _ h' => h')
/-- a clause's start behind the first -/
theorem start_ok {node i1 : Expr} {k : Nat} {it acc : Value} {env : Env} (hr : Runs prog w A node) (hpos : ∃ t ifs, (clausesOf node)[k]? = some ⟨t, i1, ifs, 0⟩)
    (h0 : codeAny (model prog w) A (.compLoop node k it acc env) R s)
    (h : wpAny (model prog w) A (pyIter it) (fun it' s' => codeAny (model prog w) A (.compLoop node k it' acc env) R s') (notedBy (model prog w) A env fun x s' => R (.error x) s') s) :
    codeAny (model prog w) A (.compStart node k it acc env) R s := by
  obtain ⟨t, ifs, hc⟩ := hpos
  refine codeAny_of_tree ?_
  rw [hr.su, hr.sd]
  refine wpAny_notedAt ?_
  unfold compStart
  simp only [hc]
  refine wpAny_bind (wpAny_askSetting (wpAny_ite ?_))
  split
  · first
      | exact wpAny_bind (wpAny_pure (wpAny_pure (And.intro rfl h0)))
      | exact wpAny_pure (And.intro rfl h0)
  · first
      | exact wpAny_bind (wpAny_rule (wpAny_bind (wpAny_standAt (wpAny_bind (wpAny_mono h (fun it' s' h' => wpAny_pure (And.intro rfl h')) fun _ _ x => x)))))
      | (refine wpAny_bind (wpAny_rule ?_); show wpAny _ _ (standAt i1.pos >>= _) _ _ s; exact wpAny_bind (wpAny_standAt (wpAny_bind (wpAny_mono h (fun it' s' h' => wpAny_pure (And.intro rfl h')) fun _ _ x => x))))
end
end L2

set_option Elab.async false
set_option maxRecDepth 100000
set_option maxHeartbeats 4000000
namespace L2
open PySem PySem.Spec PyProof.Rows
set_option linter.unusedVariables false
/-- σ' knows what σ knows -/
def Knows (σ σ' : L2.St) : Prop := σ.length = σ'.length ∧ ∀ (j : Nat) v, σ[j]? = some (some v) → σ'[j]? = some (some v)
/-- what a clause behind the first does: its source's own loop, from whose end Nx is reached; vs1: the names of this target and of those behind it -/
def tIn (wi1 : TI) (g1 : TG) (tt1 : TT) (add1 : Addr → L2.St → Hp → (Hp → Prop) → Prop) (vs1 : List Nat) : Addr → L2.St → Hp → (Hp → Prop) → Prop := fun D σ2 H3 Nx => wi1 σ2 H3 fun J1 H4 => ∃ W1 : Nat → Nat → Hp → Prop, (∃ m, W1 0 m H4) ∧ ∀ j k H, W1 j k H →
  (J1.stop j H ∧ Nx H) ∨ (J1.go j H ∧ ∃ Nx1 : Hp → Prop, (∀ H', Nx1 H' → ∃ k', k' < k ∧ W1 (j + 1) k' H') ∧ ∀ x H', J1.yld j H x H' → g1 x (wipe σ2 vs1) H' fun σ3 H5 => wipe σ3 vs1 = wipe σ2 vs1 ∧ tt1 σ3 H5 fun b H6 => if b = true then add1 D σ3 H6 Nx1 else Nx1 H6)
section
variable {X : Cx}
variable {pins : List (Addr × Obj)} {s : Shared} {σ : L2.St} {H : Hp} {Q : VK} {node tg iter : Expr} {ifs : List Expr} {scope : Scope} {own : List (PySem.Str × Nat)} {pos' : Pos} {wi : TI} {g : TG} {tt : TT}
  {add : Addr → L2.St → Hp → (Hp → Prop) → Prop} {o0 : Addr → HO} {ob : Obj} {mk : Sem Value} {use : Option (Value → Sem Unit)} {Qf : Value → Shared → Prop} {Body : Value → Env → (Result → Shared → Prop) → (Shared → Prop) → Shared → Prop}
theorem gatherN {rest : List Comprehension} {vsI : List Nat} (hvI : ∀ i ∈ vsI, i ∈ own.map (·.2)) (hc : X.calm = true) (hN : X.N.Nodup) (I : Inv X pins σ H s) (hi : PI X tg iter wi) (ok : BlkOk X.N X.env.scope scope own) (hcl : clausesOf node = ⟨tg, iter, ifs, 0⟩ :: rest)
    (hmk : ∀ (A : Around) (E : Value → Shared → Prop) (s : Shared) (Q : Value → Shared → Prop), Q (.ref s.heap.objs.size) { s with heap := s.heap.push ob } → wpAny (model X.prog X.w) A mk Q E s)
    (hob : ∀ (h : Heap) (H : Hp), sysModules < h.objs.size → ObjOk X.prog X.w H (h.push ob) h.objs.size (o0 h.objs.size))
    (hloop : ∀ (it : Value) (D : Addr) (env : Env) (R : Result → Shared → Prop) (I : Nat → Shared → Prop), (∀ n s, I n s → TurnIs X.prog X.w X.A tg iter ifs it env R (Body (.ref D) env R) (fun s' => ∃ m, m < n ∧ I m s') s) →
      ∀ n s, I n s → codeAny (model X.prog X.w) X.A (.compLoop node 0 it (.ref D) env) R s)
    (hstart : ∀ (it acc : Value) (env : Env) (R : Result → Shared → Prop) (s : Shared), codeAny (model X.prog X.w) X.A (.compLoop node 0 it acc env) R s →
      wpAny (model X.prog X.w) X.A (pyIter it) (fun it' s' => codeAny (model X.prog X.w) X.A (.compLoop node 0 it' acc env) R s') (notedBy (model X.prog X.w) X.A env fun x s' => R (.error x) s') s →
      codeAny (model X.prog X.w) X.A (.compStart node 0 it acc env) R s)
    (hg : ∀ (s : Shared) (H : Hp) (C : Addr) (cl : List (PySem.Str × Addr)) (fp : List Addr), PG (X.blk s H scope (compEnvC scope cl C X.env) fp) tg g)
    (ht : ∀ (s : Shared) (H : Hp) (C : Addr) (cl : List (PySem.Str × Addr)) (fp : List Addr), PTs (X.blk s H scope (compEnvC scope cl C X.env) fp) ifs tt)
    (hadd : ∀ (s : Shared) (H : Hp) (C : Addr) (cl : List (PySem.Str × Addr)) (fp : List Addr) (D : Addr) (R : Result → Shared → Prop) (Nx : Hp → Prop) (back : Shared → Prop) (pins' : List (Addr × Obj)) (σ2 : L2.St) (H3 : Hp) (s3 : Shared),
      Inv (X.blk s H scope (compEnvC scope cl C X.env) fp) pins' σ2 H3 s3 → add D σ2 H3 Nx → (∀ s' σ' H', Inv (X.blk s H scope (compEnvC scope cl C X.env) fp) pins' σ' H' s' → Knows (wipe σ2 vsI) σ' → Nx H' → back s') → Body (.ref D) (compEnvC scope cl C X.env) R back s3)
    (hs : ∀ x, foldedSetIterable iter X.env x = pure x) (h : tGather o0 wi g tt add (own.map (·.2)) σ H Q)
    (hRR : ∀ D C s' m H', Inv X pins σ H' s' → Q (.ref D) H' → s'.heap.Ns C m → FpOk X pins H' C → compPost (model X.prog X.w) X.A X.xe use Qf (.ref D) C (.ok .next) s') :
    wpAny (model X.prog X.w) X.A (comprehension node scope X.env pos' mk false (eval iter X.env) use) Qf X.xe s := by
  have free : ∀ y ∈ scope.names, y.2 = .free → ∃ c, X.env.cells.lookup y.1 = some c := fun y hy e => (ok.free y hy e).elim (fun k => I.ok.has _ (.inl k)) (fun k => I.ok.has _ (.inr k))
  refine wpAny_comprehension_free (use := use) hcl hs (closure_ok free) ok.kind (fun y hy e => by rw [ok.uniq y hy, e]) (thn (hi.run pins s σ H _ I h) fun xv s1 hx => thn hx fun itv s2 h2 => ?_)
  obtain ⟨it, fp, tn, J, H2, e, I2, T, st2, f2, q⟩ := h2
  subst e
  refine hmk _ _ _ _ (newEnv_comp ?_)
  obtain ⟨W, ⟨m0, w0⟩, turn⟩ := q s2.heap.objs.size (I2.hok.fresh (Nat.le_refl _))
  have I3 : Inv X pins σ (upd H2 s2.heap.objs.size (o0 s2.heap.objs.size)) ({ s2 with heap := s2.heap.push ob } : Shared) :=
    I2.laid (t' := s2.toks) (fun b o e => Heap.get?_push_of_some _ e) (Nat.le_refl _) (hob _ _ I2.big)
  have f3 : ∀ b ∈ fp, FpOk X pins (upd H2 s2.heap.objs.size (o0 s2.heap.objs.size)) b ∧ b < (s2.heap.push ob).objs.size := fun b hb => by
    obtain ⟨o, e, _⟩ := T.obj _ _ st2 b hb
    have lt := Heap.lt_size e
    exact ⟨⟨by rw [upd_ne (Nat.ne_of_lt lt)]; exact (f2 b hb).1, (f2 b hb).2⟩, by rw [Heap.size_push]; exact Nat.lt_succ_of_lt lt⟩
  have st3 : tn 0 (s2.heap.push ob) := T.keep _ _ _ st2 fun b _ o e => Heap.get?_push_of_some _ e
  generalize hD : s2.heap.objs.size = D at I3 w0 turn f3 ⊢
  generalize hs3 : ({ s2 with heap := s2.heap.push ob } : Shared) = s3 at I3 ⊢
  have h3 : s3.heap = s2.heap.push ob := by rw [← hs3]
  rw [← h3] at f3 st3
  generalize upd H2 D (o0 D) = H3 at I3 w0 f3
  have I4 := block_start I3 ok hN f3
  have pg := hg s3 H3 s3.heap.objs.size (cellsFrom (s3.heap.objs.size + 1) scope.names (cloFrom X.env.cells scope.names [])) fp
  have pt := ht s3 H3 s3.heap.objs.size (cellsFrom (s3.heap.objs.size + 1) scope.names (cloFrom X.env.cells scope.names [])) fp
  have pa := hadd s3 H3 s3.heap.objs.size (cellsFrom (s3.heap.objs.size + 1) scope.names (cloFrom X.env.cells scope.names [])) fp
  show codeAny _ _ (.compStart node 0 (.ref it) (.ref D) (compEnvC scope (cellsFrom (s3.heap.objs.size + 1) scope.names (cloFrom X.env.cells scope.names [])) s3.heap.objs.size X.env)) (compPost (model X.prog X.w) X.A X.xe use Qf (.ref D) s3.heap.objs.size) { s3 with heap := pushCells (s3.heap.push { cls := .type "dict", data := .dict #[] }) scope.names }
  generalize hce : compEnvC scope (cellsFrom (s3.heap.objs.size + 1) scope.names (cloFrom X.env.cells scope.names [])) s3.heap.objs.size X.env = ce at I4 pg pt pa ⊢
  have cL : ce.locals = s3.heap.objs.size := by subst hce; rfl
  generalize hs4 : ({ s3 with heap := pushCells (s3.heap.push { cls := .type "dict", data := .dict #[] }) scope.names } : Shared) = s4 at I4 ⊢
  have st4 : tn 0 s4.heap := T.keep _ _ _ st3 fun b _ o e => by rw [← hs4]; exact pushCells_keeps _ _ _ _ (Heap.get?_push_of_some _ e)
  have still : ∀ {σ' : L2.St} {H' : Hp} {s' : Shared}, Inv (X.blk s3 H3 scope ce fp) [] σ' H' s' → (∀ b ∈ fp, H' b = none) → ∀ b ∈ fp, FpOk (X.blk s3 H3 scope ce fp) [] H' b := fun I' hn b hb =>
    ⟨hn b hb, (I'.ok.exf b hb).1, I'.ok.exfs b hb, .inl hb, fun x c e => (I'.ok.exf b hb).2 x c e, fun p hp => absurd (show p ∈ ([] : List (Addr × Obj)) ++ [] from hp) (by simp)⟩
  have loop := hloop (.ref it) D ce (compPost (model X.prog X.w) X.A X.xe use Qf (.ref D) s3.heap.objs.size)
    (fun n s' => ∃ i H', Inv (X.blk s3 H3 scope ce fp) [] (wipe σ (own.map (·.2))) H' s' ∧ tn i s'.heap ∧ (∀ b ∈ fp, H' b = none) ∧ W i n H') ?_ m0 s4 ⟨0, H3, I4, st4, fun b hb => (f3 b hb).1.1, w0⟩
  · exact hstart _ _ _ _ _ loop (T.self X.A 0 _ _ _ st4 loop)
  rintro n s5 ⟨i, H5, I5, st5, n5, w5⟩
  rcases turn i n H5 w5 with ⟨stop, qq⟩ | ⟨go, Nx, hNx, step⟩
  · refine thnF (T.done (X.blk s3 H3 scope ce fp) rfl rfl rfl hc i [] s5 _ H5 (fun _ _ => False) I5 (still I5 n5) st5 stop) fun r s6 ⟨hr, I6⟩ => ?_
    subst hr
    have I7 : Inv X pins σ H5 s6 := I3.call' (ch := fp) I6.os I6.base I6.hok I6.bare fun b hb => ⟨(f3 b hb).1.2.2.2.1, (f3 b hb).1.2.1, (f3 b hb).1.2.2.2.2.1, (f3 b hb).1.2.2.2.2.2⟩
    have nC : H5 s3.heap.objs.size = none := by
      have z : H5 ce.locals = none := I6.free
      rwa [cL] at z
    obtain ⟨m, hn, _⟩ := I6.loc
    have hn : s6.heap.Ns ce.locals m := hn
    rw [cL] at hn
    exact hRR D s3.heap.objs.size s6 m H5 I7 qq hn (I3.fpOk (Nat.le_refl _) nC)
  · refine thnF (T.item (X.blk s3 H3 scope ce fp) rfl rfl rfl hc i [] s5 _ H5 (fun _ _ => False) I5 (still I5 n5) st5 go) fun r s6 ⟨u, hr, h6⟩ => ?_
    subst hr
    refine thnF h6 fun _ s7 ⟨x, H7, I7, r7, y7, st7, n7⟩ => ?_
    refine thnF (pg.run _ s7 _ H7 x u _ (I7.pinned (still I7 n7) (T.obj _ _ st7)) r7 (step x H7 y7)) fun _ s8 ⟨σ8, H8, I8, hw8, q8⟩ => ?_
    refine thnF (pt.run _ s8 σ8 H8 _ I8 q8) fun b s9 ⟨H9, I9, q9⟩ => ?_
    have again : ∀ (s' : Shared) (σ' : L2.St) (H' : Hp), Inv (X.blk s3 H3 scope ce fp) ([] ++ pinsAt fp s7.heap) σ' H' s' → Knows (wipe σ8 vsI) σ' → Nx H' → ∃ m, m < n ∧ ∃ i H', Inv (X.blk s3 H3 scope ce fp) [] (wipe σ (own.map (·.2))) H' s' ∧ tn i s'.heap ∧ (∀ b ∈ fp, H' b = none) ∧ W i m H' := fun s' σ' H' I' kn nx => by
      obtain ⟨m', hm, w'⟩ := hNx H' nx
      have stands : ∀ b ∈ fp, ∀ o, s7.heap.get? b = some o → s'.heap.get? b = some o ∧ H' b = none := fun b hb o e =>
        let z := I'.pin (b, o) (List.mem_append_right _ (List.mem_append_right _ (mem_pinsAt hb e)))
        ⟨z.1, z.2.1⟩
      refine ⟨m', hm, i + 1, H', (I'.unpinned (pins := [])).weak ((congrArg List.length hw8).symm.trans ((wipe_length _ _).trans ((wipe_length _ vsI).symm.trans kn.1))) (fun j v e => ?_), T.keep _ _ _ st7 fun b hb o e => (stands b hb o e).1, fun b hb => ?_, w'⟩
      · rw [← hw8] at e
        obtain ⟨e1, e2⟩ := wipe_some e
        exact kn.2 j v (by rw [wipe_out fun z => e2 (hvI j z)]; exact e1)
      · obtain ⟨o, e, _⟩ := T.obj _ _ st7 b hb
        exact (stands b hb o e).2
    cases b with
    | false => exact again s9 σ8 H9 I9 ⟨wipe_length _ _, fun j v e => (wipe_some e).1⟩ q9
    | true => exact pa D _ Nx _ _ σ8 H9 s9 I9 q9 again

theorem inner_core {s3 : Shared} {H3 : Hp} {ce : Env} {fp : List Addr} {k : Nat} {acc : Value} {D : Addr} {vs1 vsI : List Nat} {Body1 : (Result → Shared → Prop) → (Shared → Prop) → Shared → Prop} {R : Result → Shared → Prop} (hc : X.calm = true) (hvI : ∀ i ∈ vsI, i ∈ vs1)
    (pi1 : PI (X.blk s3 H3 scope ce fp) tg iter wi) (pg1 : PG (X.blk s3 H3 scope ce fp) tg g) (pt1 : PTs (X.blk s3 H3 scope ce fp) ifs tt)
    (hloop : ∀ (it : Value) (R : Result → Shared → Prop) (I : Nat → Shared → Prop), (∀ n s, I n s → TurnIs X.prog X.w X.A tg iter ifs it ce R (Body1 R) (fun s' => ∃ m, m < n ∧ I m s') s) → ∀ n s, I n s → codeAny (model X.prog X.w) X.A (.compLoop node k it acc ce) R s)
    (hstart : ∀ (it : Value) (R : Result → Shared → Prop) (s : Shared), codeAny (model X.prog X.w) X.A (.compLoop node k it acc ce) R s →
      wpAny (model X.prog X.w) X.A (pyIter it) (fun it' s' => codeAny (model X.prog X.w) X.A (.compLoop node k it' acc ce) R s') (notedBy (model X.prog X.w) X.A ce fun x s' => R (.error x) s') s → codeAny (model X.prog X.w) X.A (.compStart node k it acc ce) R s)
    (hadd : ∀ (R : Result → Shared → Prop) (Nx : Hp → Prop) (back : Shared → Prop) (pins' : List (Addr × Obj)) (σ2 : L2.St) (H6 : Hp) (s6 : Shared), Inv (X.blk s3 H3 scope ce fp) pins' σ2 H6 s6 → add D σ2 H6 Nx →
      (∀ s' σ' H', Inv (X.blk s3 H3 scope ce fp) pins' σ' H' s' → Knows (wipe σ2 vsI) σ' → Nx H' → back s') → Body1 R back s6)
    (I : Inv (X.blk s3 H3 scope ce fp) pins σ H s) {Nx : Hp → Prop} (q : tIn wi g tt add vs1 D σ H Nx) {back : Shared → Prop}
    (hb : ∀ s' σ' H', Inv (X.blk s3 H3 scope ce fp) pins σ' H' s' → Knows (wipe σ vs1) σ' → Nx H' → back s') : BodyTo X.prog X.w X.A ce node iter k acc R back s := by
  refine thnF (pi1.run pins s σ H _ I q) fun xv s10 hx => thnF hx fun itv s11 h11 => ?_
  obtain ⟨it1, fp1, tn1, J1, H11, e1, I11, T1, st11, f11, W1, ⟨m1, w1⟩, turn1⟩ := h11
  subst e1
  have stat1 : ∀ {H' : Hp}, (∀ b ∈ fp1, H' b = none) → ∀ b ∈ fp1, FpOk (X.blk s3 H3 scope ce fp) pins H' b := fun hn b hb => ⟨hn b hb, (f11 b hb).2⟩
  have loop1 : codeAny (model X.prog X.w) X.A (.compLoop node k (.ref it1) acc ce) (fun r s' => match r with
      | .ok _ => back s'
      | .error _ => False) s11 := by
    refine hloop _ _ (fun k s' => ∃ j H', Inv (X.blk s3 H3 scope ce fp) pins (wipe σ vs1) H' s' ∧ tn1 j s'.heap ∧ (∀ b ∈ fp1, H' b = none) ∧ W1 j k H') ?_ m1 s11 ⟨0, H11, I11.weak (wipe_length _ _) (fun j v e => (wipe_some e).1), st11, fun b hb => (f11 b hb).1, w1⟩
    rintro k s12 ⟨j, H12, I12, st12, n12, w12⟩
    rcases turn1 j k H12 w12 with ⟨stop1, nx1⟩ | ⟨go1, Nx1, hNx1, step1⟩
    · refine thnF (T1.done (X.blk s3 H3 scope ce fp) rfl rfl rfl hc j _ s12 (wipe σ vs1) H12 (fun _ _ => False) I12 (stat1 n12) st12 stop1) fun r s13 ⟨hr, I13⟩ => ?_
      subst hr
      exact hb _ _ _ I13 ⟨rfl, fun _ _ e => e⟩ nx1
    · refine thnF (T1.item (X.blk s3 H3 scope ce fp) rfl rfl rfl hc j _ s12 (wipe σ vs1) H12 (fun _ _ => False) I12 (stat1 n12) st12 go1) fun r s13 ⟨u1, hr, h13⟩ => ?_
      subst hr
      refine thnF h13 fun _ s14 ⟨x1, H14, I14, r14, y14, st14, n14⟩ => ?_
      have I14' := I14.pinned (stat1 n14) (T1.obj _ _ st14)
      refine thnF (pg1.run _ s14 (wipe σ vs1) H14 x1 u1 _ I14' r14 (step1 x1 H14 y14)) fun _ s15 ⟨σ15, H15, I15, hw15, q15⟩ => ?_
      refine thnF (pt1.run _ s15 σ15 H15 _ I15 q15) fun b1 s16 ⟨H16, I16, q16⟩ => ?_
      have fin1 : ∀ (s' : Shared) (σ' : L2.St) (H' : Hp), Inv (X.blk s3 H3 scope ce fp) (pins ++ pinsAt fp1 s14.heap) σ' H' s' → Knows (wipe σ15 vsI) σ' → Nx1 H' → ∃ m, m < k ∧ ∃ j H', Inv (X.blk s3 H3 scope ce fp) pins (wipe σ vs1) H' s' ∧ tn1 j s'.heap ∧ (∀ b ∈ fp1, H' b = none) ∧ W1 j m H' := fun s' σ' H' I' kn nx => by
        obtain ⟨m', hm, w'⟩ := hNx1 H' nx
        have pin' : ∀ b ∈ fp1, ∀ o, s14.heap.get? b = some o → s'.heap.get? b = some o ∧ H' b = none := fun b hb o e =>
          let z := I'.pin (b, o) (List.mem_append_right _ (List.mem_append_right _ (mem_pinsAt hb e)))
          ⟨z.1, z.2.1⟩
        refine ⟨m', hm, j + 1, H', I'.unpinned.weak ((congrArg List.length hw15).symm.trans ((wipe_length _ _).trans ((wipe_length _ vsI).symm.trans kn.1))) (fun j v e => ?_), T1.keep _ _ _ st14 fun b hb o e => (pin' b hb o e).1, fun b hb => ?_, w'⟩
        · rw [← hw15] at e
          obtain ⟨e1, e2⟩ := wipe_some e
          exact kn.2 j v (by rw [wipe_out fun z => e2 (hvI j z)]; exact e1)
        · obtain ⟨o, e, _⟩ := T1.obj _ _ st14 b hb
          exact (pin' b hb o e).2
      cases b1 with
      | false => exact fin1 s16 σ15 H16 I16 ⟨wipe_length _ _, fun j v e => (wipe_some e).1⟩ q16
      | true => exact hadd _ Nx1 _ _ σ15 H16 s16 I16 q16 fin1
  exact hstart _ _ _ loop1 (T1.self X.A 0 _ _ _ st11 loop1)
end
end L2

set_option Elab.async false
set_option maxRecDepth 100000
set_option maxHeartbeats 4000000
namespace L2
open PySem PySem.Spec PyProof.Rows
set_option linter.unusedVariables false
/-! [e for .. for .. for ..] and {k: v for .. for ..} -/
/-- a turn of [e for ..] -/
def addL (te : TE) : Addr → L2.St → Hp → (Hp → Prop) → Prop := fun D σ H Nx => te σ H fun y H1 => ∃ acc, H1 D = some (.lst acc) ∧ acc.length < sizeLine ∧ Nx (upd H1 D (.lst (acc ++ [y])))
section
variable {X : Cx}
theorem pe_lc3 {elt tg iter tg1 iter1 tg2 iter2 : Expr} {ifs ifs1 ifs2 : List Expr} {scope : Scope} {own : List (PySem.Str × Nat)} {pos : Pos} {vs1 vs2 : List Nat} {wi wi1 wi2 : TI} {g g1 g2 : TG} {tt tt1 tt2 : TT} {te : TE} (hc : X.calm = true) (hN : X.N.Nodup) (hv1 : ∀ i ∈ vs1, i ∈ own.map (·.2)) (hv2 : ∀ i ∈ vs2, i ∈ vs1) (hi : PI X tg iter wi) (ok : BlkOk X.N X.env.scope scope own)
    (hg : ∀ (s : Shared) (H : Hp) (C : Addr) (cl : List (PySem.Str × Addr)) (fp : List Addr), PG (X.blk s H scope (compEnvC scope cl C X.env) fp) tg g)
    (ht : ∀ (s : Shared) (H : Hp) (C : Addr) (cl : List (PySem.Str × Addr)) (fp : List Addr), PTs (X.blk s H scope (compEnvC scope cl C X.env) fp) ifs tt)
    (hi1 : ∀ (s : Shared) (H : Hp) (C : Addr) (cl : List (PySem.Str × Addr)) (fp : List Addr), PI (X.blk s H scope (compEnvC scope cl C X.env) fp) tg1 iter1 wi1)
    (hg1 : ∀ (s : Shared) (H : Hp) (C : Addr) (cl : List (PySem.Str × Addr)) (fp : List Addr), PG (X.blk s H scope (compEnvC scope cl C X.env) fp) tg1 g1)
    (ht1 : ∀ (s : Shared) (H : Hp) (C : Addr) (cl : List (PySem.Str × Addr)) (fp : List Addr), PTs (X.blk s H scope (compEnvC scope cl C X.env) fp) ifs1 tt1)
    (hi2 : ∀ (s : Shared) (H : Hp) (C : Addr) (cl : List (PySem.Str × Addr)) (fp : List Addr), PI (X.blk s H scope (compEnvC scope cl C X.env) fp) tg2 iter2 wi2)
    (hg2 : ∀ (s : Shared) (H : Hp) (C : Addr) (cl : List (PySem.Str × Addr)) (fp : List Addr), PG (X.blk s H scope (compEnvC scope cl C X.env) fp) tg2 g2)
    (ht2 : ∀ (s : Shared) (H : Hp) (C : Addr) (cl : List (PySem.Str × Addr)) (fp : List Addr), PTs (X.blk s H scope (compEnvC scope cl C X.env) fp) ifs2 tt2)
    (he : ∀ (s : Shared) (H : Hp) (C : Addr) (cl : List (PySem.Str × Addr)) (fp : List Addr), PE (X.blk s H scope (compEnvC scope cl C X.env) fp) elt te)
    (hs : ∀ x, foldedSetIterable iter X.env x = pure x := by intro _; rfl) (hs1 : ∀ env x, foldedSetIterable iter1 env x = pure x := by intro _ _; rfl) (hs2 : ∀ env x, foldedSetIterable iter2 env x = pure x := by intro _ _; rfl) :
    PE X (.ListComp elt [⟨tg, iter, ifs, 0⟩, ⟨tg1, iter1, ifs1, 0⟩, ⟨tg2, iter2, ifs2, 0⟩] scope pos) (tGather (fun _ => .lst []) wi g tt (tIn wi1 g1 tt1 (tIn wi2 g2 tt2 (addL te) vs2) vs1) (own.map (·.2))) := by
  refine ⟨fun pins s σ H Q I h => ?_⟩
  rw [eval_ListComp]
  refine gatherN (rest := [⟨tg1, iter1, ifs1, 0⟩, ⟨tg2, iter2, ifs2, 0⟩]) (vsI := vs1) (ob := { cls := .type "list", data := .seq ([] : List Value).toArray }) (mk := newList []) (o0 := fun _ => .lst []) (add := tIn wi1 g1 tt1 (tIn wi2 g2 tt2 (addL te) vs2) vs1)
    (Body := fun acc env R => BodyTo X.prog X.w X.A env (.ListComp elt [⟨tg, iter, ifs, 0⟩, ⟨tg1, iter1, ifs1, 0⟩, ⟨tg2, iter2, ifs2, 0⟩] scope pos) iter1 1 acc R)
    hv1 hc hN I hi ok rfl (fun A E s Q q => wpAny_newObj_type q (by show 0 ≤ sizeLine; decide)) (fun h H hb => ⟨Nat.zero_le _, [], 0, .nil, Heap.get?_push_size _ rfl⟩) (fun it D env R I turn n s => loop_out runs_list (fun _ _ _ => rfl) (hs1 env) I turn n s) (fun it acc env R s a b => codeAny_compStart_list a b) hg ht ?_ hs h ?_
  · intro s H C cl fp D R Nx back pins' σ2 H3 s3 I3 q3 k
    refine inner_core (vsI := vs2) (Body1 := fun R => BodyTo X.prog X.w X.A (compEnvC scope cl C X.env) (.ListComp elt [⟨tg, iter, ifs, 0⟩, ⟨tg1, iter1, ifs1, 0⟩, ⟨tg2, iter2, ifs2, 0⟩] scope pos) iter2 2 (.ref D) R) hc hv2 (hi1 s H C cl fp) (hg1 s H C cl fp) (ht1 s H C cl fp) (fun it R I turn n s => loop_out runs_list (fun _ _ _ => rfl) (hs2 _) I turn n s) (fun it R s a b => start_ok runs_list ⟨_, _, rfl⟩ a b) ?_ I3 q3 k
    intro R Nx back pins' σ3 H6 s6 I6 q6 k6
    refine inner_core (vsI := []) (Body1 := fun R back s => wpAny (model X.prog X.w) X.A (do let _ ← call (.builtin "list.append") [.ref D, ← eval elt (compEnvC scope cl C X.env)]) (fun _ s' => back s') (notedBy (model X.prog X.w) X.A (compEnvC scope cl C X.env) fun e s' => R (.error e) s') s) hc (fun _ h => nomatch h) (hi2 s H C cl fp) (hg2 s H C cl fp) (ht2 s H C cl fp) (fun it R I turn n s => loop_in runs_list (fun _ => rfl) I turn n s) (fun it R s a b => start_ok runs_list ⟨_, _, rfl⟩ a b) ?_ I6 q6 k6
    intro R Nx back pins' σ4 H9 s9 I9 q9 k9
    refine wpAny_bind (thnF ((he s H C cl fp).run _ s9 σ4 H9 _ I9 q9) fun z s10 ⟨yv, H10, I10, r10, acc, hD, hz, nx⟩ => ?_)
    refine wpAny_bind (app_ok (X := X.blk s H scope (compEnvC scope cl C X.env) fp) I10 hD hz r10 fun s11 I11 => ?_)
    exact wpAny_pure (k9 _ _ _ I11 ⟨rfl, fun _ _ e => e⟩ nx)
  · intro D C s' m H' I' q hn ⟨f0, f1, f2, f3, f4, f5⟩
    exact ⟨m, hn, fun h'' sb => ⟨.ref D, H', I'.turned (t' := s'.toks) (fun b o hb e => (sb.2 b hb).trans e) f0 f1 f3 f4 f5, rfl, q⟩⟩
theorem ps_setLc3 {i : Nat} {y : PySem.Str} {py : Pos} {spos : Pos} {elt tg iter tg1 iter1 tg2 iter2 : Expr} {ifs ifs1 ifs2 : List Expr} {scope : Scope} {own : List (PySem.Str × Nat)} {pos : Pos} {vs1 vs2 : List Nat} {wi wi1 wi2 : TI} {g g1 g2 : TG} {tt tt1 tt2 : TT} {te : TE} (hc : X.calm = true) (hN : X.N.Nodup) (hy : X.N[i]? = some y) (hyl : X.env.scope.names.lookup y = some .local)
    (hsw : swapsWith (.ListComp elt [⟨tg, iter, ifs, 0⟩, ⟨tg1, iter1, ifs1, 0⟩, ⟨tg2, iter2, ifs2, 0⟩] scope pos) (some (.Name y py)) spos.line X.env = pure true) (hv1 : ∀ i ∈ vs1, i ∈ own.map (·.2)) (hv2 : ∀ i ∈ vs2, i ∈ vs1) (hi : PI X tg iter wi) (ok : BlkOk X.N X.env.scope scope own)
    (hg : ∀ (s : Shared) (H : Hp) (C : Addr) (cl : List (PySem.Str × Addr)) (fp : List Addr), PG (X.blk s H scope (compEnvC scope cl C X.env) fp) tg g)
    (ht : ∀ (s : Shared) (H : Hp) (C : Addr) (cl : List (PySem.Str × Addr)) (fp : List Addr), PTs (X.blk s H scope (compEnvC scope cl C X.env) fp) ifs tt)
    (hi1 : ∀ (s : Shared) (H : Hp) (C : Addr) (cl : List (PySem.Str × Addr)) (fp : List Addr), PI (X.blk s H scope (compEnvC scope cl C X.env) fp) tg1 iter1 wi1)
    (hg1 : ∀ (s : Shared) (H : Hp) (C : Addr) (cl : List (PySem.Str × Addr)) (fp : List Addr), PG (X.blk s H scope (compEnvC scope cl C X.env) fp) tg1 g1)
    (ht1 : ∀ (s : Shared) (H : Hp) (C : Addr) (cl : List (PySem.Str × Addr)) (fp : List Addr), PTs (X.blk s H scope (compEnvC scope cl C X.env) fp) ifs1 tt1)
    (hi2 : ∀ (s : Shared) (H : Hp) (C : Addr) (cl : List (PySem.Str × Addr)) (fp : List Addr), PI (X.blk s H scope (compEnvC scope cl C X.env) fp) tg2 iter2 wi2)
    (hg2 : ∀ (s : Shared) (H : Hp) (C : Addr) (cl : List (PySem.Str × Addr)) (fp : List Addr), PG (X.blk s H scope (compEnvC scope cl C X.env) fp) tg2 g2)
    (ht2 : ∀ (s : Shared) (H : Hp) (C : Addr) (cl : List (PySem.Str × Addr)) (fp : List Addr), PTs (X.blk s H scope (compEnvC scope cl C X.env) fp) ifs2 tt2)
    (he : ∀ (s : Shared) (H : Hp) (C : Addr) (cl : List (PySem.Str × Addr)) (fp : List Addr), PE (X.blk s H scope (compEnvC scope cl C X.env) fp) elt te)
    (hs : ∀ x, foldedSetIterable iter X.env x = pure x := by intro _; rfl) (hs1 : ∀ env x, foldedSetIterable iter1 env x = pure x := by intro _ _; rfl) (hs2 : ∀ env x, foldedSetIterable iter2 env x = pure x := by intro _ _; rfl) :
    PS X (.Assign [.Name y py] (.ListComp elt [⟨tg, iter, ifs, 0⟩, ⟨tg1, iter1, ifs1, 0⟩, ⟨tg2, iter2, ifs2, 0⟩] scope pos) spos) (tAsg (tGather (fun _ => .lst []) wi g tt (tIn wi1 g1 tt1 (tIn wi2 g2 tt2 (addL te) vs2) vs1) (own.map (·.2))) (gName i)) := by
  refine ⟨fun pins s σ H D I h => ?_⟩
  rw [exec_Assign_Name_used _ _ _ _ hsw]
  refine wpAny_bind (wpAny_standAt (wpAny_bind ?_))
  show wpAny _ X.A (do let _ ← comprehension (.ListComp elt [⟨tg, iter, ifs, 0⟩, ⟨tg1, iter1, ifs1, 0⟩, ⟨tg2, iter2, ifs2, 0⟩] scope pos) scope X.env (firstIterPos [⟨tg, iter, ifs, 0⟩, ⟨tg1, iter1, ifs1, 0⟩, ⟨tg2, iter2, ifs2, 0⟩] pos) (newList []) false (eval iter X.env) (some (assign (.Name y py) X.env))) _ _ s
  have h : tGather (fun _ => .lst []) wi g tt (tIn wi1 g1 tt1 (tIn wi2 g2 tt2 (addL te) vs2) vs1) (own.map (·.2)) σ H (fun x H1 => gName i x σ H1 D.nx) := h
  refine wpAny_bind (thn (gatherN (rest := [⟨tg1, iter1, ifs1, 0⟩, ⟨tg2, iter2, ifs2, 0⟩]) (vsI := vs1) (Qf := fun _ s1 => SP X pins D .next s1) (use := some (assign (.Name y py) X.env)) (ob := { cls := .type "list", data := .seq ([] : List Value).toArray }) (mk := newList []) (o0 := fun _ => .lst []) (add := tIn wi1 g1 tt1 (tIn wi2 g2 tt2 (addL te) vs2) vs1)
    (Body := fun acc env R => BodyTo X.prog X.w X.A env (.ListComp elt [⟨tg, iter, ifs, 0⟩, ⟨tg1, iter1, ifs1, 0⟩, ⟨tg2, iter2, ifs2, 0⟩] scope pos) iter1 1 acc R)
    hv1 hc hN I hi ok rfl (fun A E s Q q => wpAny_newObj_type q (by show 0 ≤ sizeLine; decide)) (fun h H hb => ⟨Nat.zero_le _, [], 0, .nil, Heap.get?_push_size _ rfl⟩) (fun it D env R I turn n s => loop_out runs_list (fun _ _ _ => rfl) (hs1 env) I turn n s) (fun it acc env R s a b => codeAny_compStart_list a b) hg ht ?_ hs h ?_) fun _ s' hq => wpAny_pure (wpAny_pure hq))
  · intro s H C cl fp D R Nx back pins' σ2 H3 s3 I3 q3 k
    refine inner_core (vsI := vs2) (Body1 := fun R => BodyTo X.prog X.w X.A (compEnvC scope cl C X.env) (.ListComp elt [⟨tg, iter, ifs, 0⟩, ⟨tg1, iter1, ifs1, 0⟩, ⟨tg2, iter2, ifs2, 0⟩] scope pos) iter2 2 (.ref D) R) hc hv2 (hi1 s H C cl fp) (hg1 s H C cl fp) (ht1 s H C cl fp) (fun it R I turn n s => loop_out runs_list (fun _ _ _ => rfl) (hs2 _) I turn n s) (fun it R s a b => start_ok runs_list ⟨_, _, rfl⟩ a b) ?_ I3 q3 k
    intro R Nx back pins' σ3 H6 s6 I6 q6 k6
    refine inner_core (vsI := []) (Body1 := fun R back s => wpAny (model X.prog X.w) X.A (do let _ ← call (.builtin "list.append") [.ref D, ← eval elt (compEnvC scope cl C X.env)]) (fun _ s' => back s') (notedBy (model X.prog X.w) X.A (compEnvC scope cl C X.env) fun e s' => R (.error e) s') s) hc (fun _ h => nomatch h) (hi2 s H C cl fp) (hg2 s H C cl fp) (ht2 s H C cl fp) (fun it R I turn n s => loop_in runs_list (fun _ => rfl) I turn n s) (fun it R s a b => start_ok runs_list ⟨_, _, rfl⟩ a b) ?_ I6 q6 k6
    intro R Nx back pins' σ4 H9 s9 I9 q9 k9
    refine wpAny_bind (thnF ((he s H C cl fp).run _ s9 σ4 H9 _ I9 q9) fun z s10 ⟨yv, H10, I10, r10, acc, hD, hz, nx⟩ => ?_)
    refine wpAny_bind (app_ok (X := X.blk s H scope (compEnvC scope cl C X.env) fp) I10 hD hz r10 fun s11 I11 => ?_)
    exact wpAny_pure (k9 _ _ _ I11 ⟨rfl, fun _ _ e => e⟩ nx)
  · intro L C s' m H' I' q hn f
    show wpAny _ _ (assign (.Name y py) X.env (.ref L)) _ _ _
    refine wpAny_assign_Name (store_ok2 (v := V.ref L) I' hN hy (.inl hyl) rfl (fun s2 I2 ⟨a, sb, ha⟩ => ?_) (.inr hyl))
    obtain ⟨f0, f1, f2, f3, f4, f5⟩ := f
    have haC : C ≠ a := by
      rcases ha with z | z
      · rw [z]; exact f1
      · exact fun e => f4 y a z e.symm
    refine ⟨m, hn.sameBut sb haC, fun h3 sb3 => ?_⟩
    exact ⟨_, H', I2.turned (t' := s2.toks) (fun b o hb e => (sb3.2 b hb).trans e) f0 f1 f3 f4 f5, q⟩
theorem pe_dcT2 {kx vx tg iter tg1 iter1 : Expr} {ifs ifs1 : List Expr} {scope : Scope} {own : List (PySem.Str × Nat)} {pos : Pos} {vs1 : List Nat} {wi wi1 : TI} {g g1 : TG} {tt tt1 : TT} {tk tv : TE} (hu : X.A.units + 1 < cLine) (hc : X.calm = true) (hN : X.N.Nodup) (hv1 : ∀ i ∈ vs1, i ∈ own.map (·.2)) (hi : PI X tg iter wi) (ok : BlkOk X.N X.env.scope scope own)
    (hg : ∀ (s : Shared) (H : Hp) (C : Addr) (cl : List (PySem.Str × Addr)) (fp : List Addr), PG (X.blk s H scope (compEnvC scope cl C X.env) fp) tg g)
    (ht : ∀ (s : Shared) (H : Hp) (C : Addr) (cl : List (PySem.Str × Addr)) (fp : List Addr), PTs (X.blk s H scope (compEnvC scope cl C X.env) fp) ifs tt)
    (hi1 : ∀ (s : Shared) (H : Hp) (C : Addr) (cl : List (PySem.Str × Addr)) (fp : List Addr), PI (X.blk s H scope (compEnvC scope cl C X.env) fp) tg1 iter1 wi1)
    (hg1 : ∀ (s : Shared) (H : Hp) (C : Addr) (cl : List (PySem.Str × Addr)) (fp : List Addr), PG (X.blk s H scope (compEnvC scope cl C X.env) fp) tg1 g1)
    (ht1 : ∀ (s : Shared) (H : Hp) (C : Addr) (cl : List (PySem.Str × Addr)) (fp : List Addr), PTs (X.blk s H scope (compEnvC scope cl C X.env) fp) ifs1 tt1)
    (hk : ∀ (s : Shared) (H : Hp) (C : Addr) (cl : List (PySem.Str × Addr)) (fp : List Addr), PE (X.blk s H scope (compEnvC scope cl C X.env) fp) kx tk)
    (he : ∀ (s : Shared) (H : Hp) (C : Addr) (cl : List (PySem.Str × Addr)) (fp : List Addr), PE (X.blk s H scope (compEnvC scope cl C X.env) fp) vx tv)
    (hs : ∀ x, foldedSetIterable iter X.env x = pure x := by intro _; rfl) (hs1 : ∀ env x, foldedSetIterable iter1 env x = pure x := by intro _ _; rfl) :
    PE X (.DictComp kx vx [⟨tg, iter, ifs, 0⟩, ⟨tg1, iter1, ifs1, 0⟩] scope pos) (tGather (fun _ => .dT []) wi g tt (tIn wi1 g1 tt1 (addT tk tv) vs1) (own.map (·.2))) := by
  refine ⟨fun pins s σ H Q I h => ?_⟩
  rw [arm_eval_DictComp]
  refine gatherN (rest := [⟨tg1, iter1, ifs1, 0⟩]) (vsI := vs1) (ob := { cls := .type "dict", data := .dict #[] }) (mk := newDict) (o0 := fun _ => .dT []) (add := tIn wi1 g1 tt1 (addT tk tv) vs1)
    (Body := fun acc env R => BodyTo X.prog X.w X.A env (.DictComp kx vx [⟨tg, iter, ifs, 0⟩, ⟨tg1, iter1, ifs1, 0⟩] scope pos) iter1 1 acc R)
    hv1 hc hN I hi ok rfl (fun A E s Q q => wpAny_newObj_type q) (fun h H hb => dt_empty h hb) (fun it D env R I turn n s => loop_out runs_dict (fun _ _ _ => rfl) (hs1 env) I turn n s) (fun it acc env R s a b => codeAny_compStart_dict a b) hg ht ?_ hs h ?_
  · intro s H C cl fp D R Nx back pins' σ2 H3 s3 I3 q3 k
    refine inner_core (vsI := []) (Body1 := fun R back s => wpAny (model X.prog X.w) X.A (do
            let kv ← eval kx (compEnvC scope cl C X.env)
            let vv ← holding [kv] (eval vx (compEnvC scope cl C X.env))
            standAt { kx.pos with endLine := vx.pos.endLine, endCol := vx.pos.endCol }
            holding [kv, vv] (dictSet D kv vv)) (fun _ s' => back s') (notedBy (model X.prog X.w) X.A (compEnvC scope cl C X.env) fun e s' => R (.error e) s') s) hc (fun _ h => nomatch h) (hi1 s H C cl fp) (hg1 s H C cl fp) (ht1 s H C cl fp) (fun it R I turn n s => loop_in runs_dict (fun _ => rfl) I turn n s) (fun it R s a b => start_ok runs_dict ⟨_, _, rfl⟩ a b) ?_ I3 q3 k
    intro R Nx back pins' σ4 H9 s9 I9 q9 k9
    refine wpAny_bind (thnF ((hk s H C cl fp).run _ s9 σ4 H9 _ I9 q9) fun z s10 ⟨yk, H10, I10, r10, q10⟩ => ?_)
    refine wpAny_bind (wpAny_holding (thnF ((he s H C cl fp).run _ s10 σ4 H10 _ I10 q10) fun z2 s11 ⟨yv, H11, I11, r11, kvs, ks, b, ey, hb, hD, hz, nx⟩ => ?_))
    refine wpAny_bind (wpAny_standAt (wpAny_holding ?_))
    subst ey
    cases (show z = Value.ref b from r10)
    obtain ⟨hl, hd, xs, rel, dd⟩ := dt_of I11.hok hD
    have hz' : xs.length ≤ sizeLine := by rw [← Paired.length rel]; exact hl
    have grown : (putK kvs ks yv).length ≤ sizeLine := by have := length_putK kvs ks yv; omega
    refine wpAny_dictSet_heap (hsz := hz') (show X.A.units < cLine by omega) (key_of I11.hok hb) dd fun h' dd' same => k9 _ _ _ ?_ ⟨rfl, fun _ _ e => e⟩ nx
    obtain ⟨q, es, ep, hq, h2, h3, h4, _, h5⟩ := dd'
    refine d_write I11 (by rw [hD]; exact True.intro) same ⟨q, hq⟩ ⟨grown, hd, _, (rel.put ks hb r11).keeps fun c ys ec => ?_, q, es, ep, hq, h2, h3, h4, h5⟩
    rw [upd_ne (ne_of ec hD (fun z => nomatch z))]
    exact ec
  · intro D C s' m H' I' q hn ⟨f0, f1, f2, f3, f4, f5⟩
    exact ⟨m, hn, fun h'' sb => ⟨.ref D, H', I'.turned (t' := s'.toks) (fun b o hb e => (sb.2 b hb).trans e) f0 f1 f3 f4 f5, rfl, q⟩⟩
theorem ps_setDcT2 {i : Nat} {y : PySem.Str} {py : Pos} {spos : Pos} {kx vx tg iter tg1 iter1 : Expr} {ifs ifs1 : List Expr} {scope : Scope} {own : List (PySem.Str × Nat)} {pos : Pos} {vs1 : List Nat} {wi wi1 : TI} {g g1 : TG} {tt tt1 : TT} {tk tv : TE} (hu : X.A.units + 1 < cLine) (hc : X.calm = true) (hN : X.N.Nodup) (hy : X.N[i]? = some y) (hyl : X.env.scope.names.lookup y = some .local)
    (hsw : swapsWith (.DictComp kx vx [⟨tg, iter, ifs, 0⟩, ⟨tg1, iter1, ifs1, 0⟩] scope pos) (some (.Name y py)) spos.line X.env = pure true) (hv1 : ∀ i ∈ vs1, i ∈ own.map (·.2)) (hi : PI X tg iter wi) (ok : BlkOk X.N X.env.scope scope own)
    (hg : ∀ (s : Shared) (H : Hp) (C : Addr) (cl : List (PySem.Str × Addr)) (fp : List Addr), PG (X.blk s H scope (compEnvC scope cl C X.env) fp) tg g)
    (ht : ∀ (s : Shared) (H : Hp) (C : Addr) (cl : List (PySem.Str × Addr)) (fp : List Addr), PTs (X.blk s H scope (compEnvC scope cl C X.env) fp) ifs tt)
    (hi1 : ∀ (s : Shared) (H : Hp) (C : Addr) (cl : List (PySem.Str × Addr)) (fp : List Addr), PI (X.blk s H scope (compEnvC scope cl C X.env) fp) tg1 iter1 wi1)
    (hg1 : ∀ (s : Shared) (H : Hp) (C : Addr) (cl : List (PySem.Str × Addr)) (fp : List Addr), PG (X.blk s H scope (compEnvC scope cl C X.env) fp) tg1 g1)
    (ht1 : ∀ (s : Shared) (H : Hp) (C : Addr) (cl : List (PySem.Str × Addr)) (fp : List Addr), PTs (X.blk s H scope (compEnvC scope cl C X.env) fp) ifs1 tt1)
    (hk : ∀ (s : Shared) (H : Hp) (C : Addr) (cl : List (PySem.Str × Addr)) (fp : List Addr), PE (X.blk s H scope (compEnvC scope cl C X.env) fp) kx tk)
    (he : ∀ (s : Shared) (H : Hp) (C : Addr) (cl : List (PySem.Str × Addr)) (fp : List Addr), PE (X.blk s H scope (compEnvC scope cl C X.env) fp) vx tv)
    (hs : ∀ x, foldedSetIterable iter X.env x = pure x := by intro _; rfl) (hs1 : ∀ env x, foldedSetIterable iter1 env x = pure x := by intro _ _; rfl) :
    PS X (.Assign [.Name y py] (.DictComp kx vx [⟨tg, iter, ifs, 0⟩, ⟨tg1, iter1, ifs1, 0⟩] scope pos) spos) (tAsg (tGather (fun _ => .dT []) wi g tt (tIn wi1 g1 tt1 (addT tk tv) vs1) (own.map (·.2))) (gName i)) := by
  refine ⟨fun pins s σ H D I h => ?_⟩
  rw [exec_Assign_Name_used _ _ _ _ hsw]
  refine wpAny_bind (wpAny_standAt (wpAny_bind ?_))
  show wpAny _ X.A (do let _ ← comprehension (.DictComp kx vx [⟨tg, iter, ifs, 0⟩, ⟨tg1, iter1, ifs1, 0⟩] scope pos) scope X.env (firstIterPos [⟨tg, iter, ifs, 0⟩, ⟨tg1, iter1, ifs1, 0⟩] pos) newDict false (eval iter X.env) (some (assign (.Name y py) X.env))) _ _ s
  have h : tGather (fun _ => .dT []) wi g tt (tIn wi1 g1 tt1 (addT tk tv) vs1) (own.map (·.2)) σ H (fun x H1 => gName i x σ H1 D.nx) := h
  refine wpAny_bind (thn (gatherN (rest := [⟨tg1, iter1, ifs1, 0⟩]) (vsI := vs1) (Qf := fun _ s1 => SP X pins D .next s1) (use := some (assign (.Name y py) X.env)) (ob := { cls := .type "dict", data := .dict #[] }) (mk := newDict) (o0 := fun _ => .dT []) (add := tIn wi1 g1 tt1 (addT tk tv) vs1)
    (Body := fun acc env R => BodyTo X.prog X.w X.A env (.DictComp kx vx [⟨tg, iter, ifs, 0⟩, ⟨tg1, iter1, ifs1, 0⟩] scope pos) iter1 1 acc R)
    hv1 hc hN I hi ok rfl (fun A E s Q q => wpAny_newObj_type q) (fun h H hb => dt_empty h hb) (fun it D env R I turn n s => loop_out runs_dict (fun _ _ _ => rfl) (hs1 env) I turn n s) (fun it acc env R s a b => codeAny_compStart_dict a b) hg ht ?_ hs h ?_) fun _ s' hq => wpAny_pure (wpAny_pure hq))
  · intro s H C cl fp D R Nx back pins' σ2 H3 s3 I3 q3 k
    refine inner_core (vsI := []) (Body1 := fun R back s => wpAny (model X.prog X.w) X.A (do
            let kv ← eval kx (compEnvC scope cl C X.env)
            let vv ← holding [kv] (eval vx (compEnvC scope cl C X.env))
            standAt { kx.pos with endLine := vx.pos.endLine, endCol := vx.pos.endCol }
            holding [kv, vv] (dictSet D kv vv)) (fun _ s' => back s') (notedBy (model X.prog X.w) X.A (compEnvC scope cl C X.env) fun e s' => R (.error e) s') s) hc (fun _ h => nomatch h) (hi1 s H C cl fp) (hg1 s H C cl fp) (ht1 s H C cl fp) (fun it R I turn n s => loop_in runs_dict (fun _ => rfl) I turn n s) (fun it R s a b => start_ok runs_dict ⟨_, _, rfl⟩ a b) ?_ I3 q3 k
    intro R Nx back pins' σ4 H9 s9 I9 q9 k9
    refine wpAny_bind (thnF ((hk s H C cl fp).run _ s9 σ4 H9 _ I9 q9) fun z s10 ⟨yk, H10, I10, r10, q10⟩ => ?_)
    refine wpAny_bind (wpAny_holding (thnF ((he s H C cl fp).run _ s10 σ4 H10 _ I10 q10) fun z2 s11 ⟨yv, H11, I11, r11, kvs, ks, b, ey, hb, hD, hz, nx⟩ => ?_))
    refine wpAny_bind (wpAny_standAt (wpAny_holding ?_))
    subst ey
    cases (show z = Value.ref b from r10)
    obtain ⟨hl, hd, xs, rel, dd⟩ := dt_of I11.hok hD
    have hz' : xs.length ≤ sizeLine := by rw [← Paired.length rel]; exact hl
    have grown : (putK kvs ks yv).length ≤ sizeLine := by have := length_putK kvs ks yv; omega
    refine wpAny_dictSet_heap (hsz := hz') (show X.A.units < cLine by omega) (key_of I11.hok hb) dd fun h' dd' same => k9 _ _ _ ?_ ⟨rfl, fun _ _ e => e⟩ nx
    obtain ⟨q, es, ep, hq, h2, h3, h4, _, h5⟩ := dd'
    refine d_write I11 (by rw [hD]; exact True.intro) same ⟨q, hq⟩ ⟨grown, hd, _, (rel.put ks hb r11).keeps fun c ys ec => ?_, q, es, ep, hq, h2, h3, h4, h5⟩
    rw [upd_ne (ne_of ec hD (fun z => nomatch z))]
    exact ec
  · intro L C s' m H' I' q hn f
    show wpAny _ _ (assign (.Name y py) X.env (.ref L)) _ _ _
    refine wpAny_assign_Name (store_ok2 (v := V.ref L) I' hN hy (.inl hyl) rfl (fun s2 I2 ⟨a, sb, ha⟩ => ?_) (.inr hyl))
    obtain ⟨f0, f1, f2, f3, f4, f5⟩ := f
    have haC : C ≠ a := by
      rcases ha with z | z
      · rw [z]; exact f1
      · exact fun e => f4 y a z e.symm
    refine ⟨m, hn.sameBut sb haC, fun h3 sb3 => ?_⟩
    exact ⟨_, H', I2.turned (t' := s2.toks) (fun b o hb e => (sb3.2 b hb).trans e) f0 f1 f3 f4 f5, q⟩
end
end L2

set_option Elab.async false
set_option maxRecDepth 100000
set_option maxHeartbeats 4000000
namespace L2
open PySem PySem.Spec PyProof.Rows PySem.W
set_option linter.unusedVariables false
/-! for x in d.values(), d a locked dict of tuple keys -/
def Itvt (d : Addr) (o : Obj) (kvs : List (List Key × V)) : It :=
  ⟨fun i H => H d = some (.frz o (.dT kvs)) ∧ i < kvs.length, fun i H x H' => H' = H ∧ ∃ k, kvs[i]? = some (k, x), fun i H => H d = some (.frz o (.dT kvs)) ∧ kvs.length ≤ i⟩
theorem turn_valsT {P : Program} {w : World} {K : PySem.W.Frag} {tg : Expr} {d : Addr} {o : Obj} {es : Array DictEntry} {ep : Nat} {kvs : List (List Key × V)} (it : Addr) (hod : o.data = .dict es ep) :
    Turn P w K tg (Itvt d o kvs) [it] it (fun i h => h.IsValIter it d i kvs.length ep) where
  mem := by simp
  obj := fun i h st b hb => by
    have e : b = it := by simpa using hb
    subst e
    obtain ⟨oi, e, c, dd⟩ := st
    exact ⟨oi, e, fun v z => by rw [dd] at z; cases z⟩
  keep := fun i h h' st k => st.at fun oi e => k it (by simp) oi e
  item := by
    rintro X rfl rfl rfl hc i pins s σ H E I hf st ⟨hd, hi⟩
    obtain ⟨f0, f1, f2, f3, f4, f5⟩ := hf it (by simp)
    obtain ⟨_, es', ep', hdt, raw, hsz, ent⟩ := I.entriesT hd
    obtain ⟨rfl, rfl⟩ := dict_ep hod hdt
    obtain ⟨⟨k, v⟩, hkv⟩ : ∃ p, kvs[i]? = some p := ⟨kvs[i], List.getElem?_eq_getElem hi⟩
    obtain ⟨hi', q, hkey, hq, rv⟩ := ent i k v hkv
    rw [← hsz] at st
    refine wpAny_pyNext_values_item_raw st raw hi' fun h' st' sb => ?_
    have I1 : Inv X pins σ H { s with heap := h' } := I.turned (t' := s.toks) (fun b ob hb e => (sb.2 b hb).trans e) f0 f1 f3 f4 f5
    obtain ⟨oi, e, c, dd⟩ := id st'
    refine ⟨_, rfl, go_of (s := { s with heap := h' }) e c dd (by decide) ⟨v, H, I1, rv, ⟨rfl, k, hkv⟩, ?_, fun b hb => (hf b hb).1⟩⟩
    show h'.IsValIter it d (i + 1) kvs.length _
    rw [← hsz]
    exact st'
  done := by
    rintro X rfl rfl rfl hc i pins s σ H E I hf st ⟨hd, hi⟩
    obtain ⟨f0, f1, f2, f3, f4, f5⟩ := hf it (by simp)
    obtain ⟨_, es', ep', hdt, raw, hsz, ent⟩ := I.entriesT hd
    obtain ⟨rfl, rfl⟩ := dict_ep hod hdt
    rw [← hsz] at st
    exact wpAny_pyNext_values_end_raw (I.ok.hd hc) st raw (by omega) fun h' eb => ⟨rfl, I.turned (t' := s.toks) (fun b ob hb e => eb b ob hb e) f0 f1 f3 f4 f5⟩
  self := fun A i s Q E st h => wpAny_pyIter_valiter st h
def iValsT (td : TE) : TI := fun σ H R => td σ H fun x H1 => ∃ d o kvs, x = .ref d ∧ H1 d = some (.frz o (.dT kvs)) ∧ R (Itvt d o kvs) H1
theorem pi_valuesT {X : Cx} {tg e : Expr} {td : TE} {apos cpos : Pos} (he : PE X e td) (hbase : attributeBase e "values" X.env (eval e X.env) = eval e X.env := by rfl) (hline : (apos.endLine == cpos.line) = true := by rfl) : PI X tg (.Call (.Attribute e "values" apos) [] [] cpos) (iValsT td) := by
  refine ⟨fun pins s σ H R I h => ?_⟩
  refine wpAny_Call_method (T := "dict") (id := "dict.values") hbase rfl hline F.plainAttrs_dict F.slot_dict_values F.type_dict_values (thn (he.run pins s σ H _ I h) fun u s1 ⟨x, H1, I1, rx, d, o, kvs, ex, hd, q⟩ => ?_)
  subst ex
  obtain rfl : u = Value.ref d := rx
  obtain ⟨notSys, es, ep, hdt, raw, hsz, ent⟩ := I1.entriesT hd
  refine ⟨raw.typeIs, fun b z => ?_, ?_⟩
  · cases z
    obtain ⟨ob, h1, h2, h3⟩ := raw
    exact ⟨ob, h1, h2.2.1⟩
  have I2 : Inv X pins σ H1 { s1 with heap := s1.heap.push { cls := .type "dict_values", data := .fields #[.ref d] } } := I1.kept (t' := s1.toks) fun b ob q => Heap.get?_push_of_some _ q
  have fin : wpAny (model X.prog X.w) X.A (pyIter (.ref s1.heap.objs.size)) (PIE X pins σ tg R) X.xe { s1 with heap := s1.heap.push { cls := .type "dict_values", data := .fields #[.ref d] } } := by
    refine wpAny_pyIter_values_raw (d := d) (es := es) (ep := ep) ⟨_, Heap.get?_push_size _ rfl, rfl, rfl⟩ (raw.push _) (pi_one (tk := s1.toks) I2 _ (turn_valsT _ hdt) ⟨_, Heap.get?_push_size _ rfl, rfl, ?_⟩ q)
    rw [hsz] <;> rfl
  show wpAny _ _ (callWith cpos (.builtin "dict.values") [.ref d] [] []) _ X.xe s1
  exact method_meetsIn F.slot_dict_values F.entry_dict_values rfl (PySem.evalArgs_none ⟨rfl, raw.typeIs, F.args_dict_values_1 _, _, meets_dict_values_raw d notSys, ⟨es, ep, raw⟩, fin⟩)
end L2

set_option Elab.async false
set_option maxRecDepth 100000
set_option maxHeartbeats 4000000
namespace L2
open PySem PySem.Spec PyProof.Rows
set_option linter.unusedVariables false
/-! sorted(d), d a dict whose keys are pairs of ints, any number of them -/
/-- what the key at b is -/
def pairAt (H : Hp) (v : Value) : Int × Int := match v with
  | .ref b => (match H b with
    | some (.tup [.int x, .int y]) => (x, y)
    | _ => (0, 0))
  | _ => (0, 0)
theorem pairAt_of {H : Hp} {b : Addr} {x y : Int} (h : H b = some (.tup [.int x, .int y])) : pairAt H (.ref b) = (x, y) := by
  unfold pairAt
  dsimp only
  rw [h]
theorem vals_of_refs2 : ∀ (ks : List (Addr × (Int × Int))), Vals (ks.map fun p => V.ref p.1) (ks.map fun p => Value.ref p.1)
  | [] => .nil
  | p :: ks => .cons rfl (vals_of_refs2 ks)
def rSortDTO : List V → Hp → VK → Prop := fun vs H Q => ∃ (a : Addr) (kvs : List (List Key × V)) (ips : List (Int × Int)), vs = [V.ref a] ∧ Rd H a (.dT kvs) ∧ kvs.map (·.1) = ips.map (fun p => [Sum.inl p.1, Sum.inl p.2]) ∧ ips.length ≤ 100000 ∧
  ∀ (L : List (Addr × (Int × Int))) (p : Addr), (L.map (·.2)).Perm ips → L.Pairwise (fun q r => SrtO.lexB r.2 q.2 = false) → (∀ q ∈ L, H q.1 = some (.tup [.int q.2.1, .int q.2.2])) → H p = none → Q (.ref p) (upd H p (.lst (L.map fun q => V.ref q.1)))
section
variable {X : Cx}
theorem cr_sortedDTO (hc : X.calm = true) : CallR X (.builtin "sorted") rSortDTO := by
  intro pins s σ H vs us Q I r h
  obtain ⟨a, kvs, ips, rfl, hR, hkeys, few, q⟩ := h
  rw [Vals.ref1 r]
  obtain ⟨hz, notSys, ks, pairs, o, es, ep, ho, hx, hdt, rows, nd⟩ := (show ObjOk X.prog X.w H s.heap a (.dT kvs) from hR.ok I.hok)
  have l1 : es.size = ks.length := size_of_entries rows
  have l2 : kvs.length = ks.length := Paired.length pairs
  have l3 : kvs.length = ips.length := by have e := congrArg List.length hkeys; rwa [List.length_map, List.length_map] at e
  -- each row: its tuple, by number
  have row : ∀ (j : Nat) (x : List Key × Addr × Value), ks[j]? = some x → ∃ ns, ips[j]? = some ns ∧ H x.2.1 = some (.tup [.int ns.1, .int ns.2]) := fun j x hj => by
    have lt : j < kvs.length := by have := (List.getElem?_eq_some_iff.mp hj).1; omega
    obtain ⟨b, hb, e1, e2, _⟩ := paired_get pairs (List.getElem?_eq_getElem lt)
    rw [hj] at hb
    cases hb
    have e3 : (kvs.map (·.1))[j]? = some kvs[j].1 := by rw [List.getElem?_map, List.getElem?_eq_getElem lt]; rfl
    rw [hkeys, List.getElem?_map] at e3
    obtain ⟨ns, hns, e4⟩ := Option.map_eq_some_iff.mp e3
    refine ⟨ns, hns, ?_⟩
    rw [e2, ← e4]
    rfl
  refine Calls.call_function_entry kind_sorted plain_sorted entry_sorted (args_sorted1 _) ?_
  unfold Builtin.«sorted»
  refine wpAny_bind (m := checkCount "sorted" 1 1 _) (wpAny_pure ?_)
  refine wpAny_bind (PySem.W.kdu_collect (A := X.A.in1) (kdl_raw notSys hx hdt) (I.ok.hd hc) ho (by rw [sizeLine_eq]; omega) fun h' tk acc kept its => ?_)
  have eq : acc.toList = ks.map fun x => Value.ref x.2.1 := by
    apply List.ext_getElem?
    intro j
    rw [List.getElem?_map]
    rcases Nat.lt_or_ge j ks.length with lt | ge
    · have hacc : j < acc.toList.length := by rw [Array.length_toList, its.1, l1]; exact lt
      obtain ⟨en, hen, hv⟩ := its.2 j acc.toList[j] (by rw [← Array.getElem?_toList]; exact List.getElem?_eq_getElem hacc)
      have qe := entry_at rows j
      rw [hen, List.getElem?_eq_getElem lt] at qe
      have e2 : en = entryOfKey (tupleKind (mixKind X.prog X.w)) ks[j] := Option.some.inj qe
      rw [List.getElem?_eq_getElem hacc, List.getElem?_eq_getElem lt, hv, e2]
      rfl
    · rw [List.getElem?_eq_none (by rw [Array.length_toList, its.1, l1]; exact ge), List.getElem?_eq_none ge]
      rfl
  have I1 : Inv X pins σ H { s with heap := h', toks := tk } := I.kept kept
  have zs : ks.length ≤ sizeLine := by rw [sizeLine_eq]; omega
  refine wpAny_bind (wpAny_newList ?_ (by rw [eq, List.length_map]; exact zs))
  have made : (h'.push (seqObj "list" acc.toList.toArray 0)).get? h'.objs.size = some (seqObj "list" acc.toList.toArray 0) := Heap.get?_push_size _ rfl
  generalize hvs : acc.toList = vs at made eq ⊢
  have I2 : Inv X pins σ H { s with heap := h'.push (seqObj "list" vs.toArray 0), toks := tk } := I1.kept (t' := tk) fun b o e => Heap.get?_push_of_some _ e
  have tups : ∀ v ∈ vs, ∃ (b : Addr) (ns : Int × Int), v = .ref b ∧ ns ∈ ips ∧ H b = some (.tup [.int ns.1, .int ns.2]) := fun v hv => by
    rw [eq] at hv
    obtain ⟨x, hx, rfl⟩ := List.mem_map.mp hv
    obtain ⟨j, hj⟩ := List.getElem?_of_mem hx
    obtain ⟨ns, h1, h2⟩ := row j x hj
    exact ⟨_, ns, rfl, List.mem_of_getElem? h1, h2⟩
  show wpAny _ _ _ _ _ { s with heap := h'.push (seqObj "list" vs.toArray 0), toks := tk }
  refine wpAny_bind (wpAny_holding (wpAny_call_entry slot_list_sort ⟨_, made, rfl⟩ entry_list_sort (SrtO.list_sort_ord (s := { s with heap := h'.push (seqObj "list" vs.toArray 0), toks := tk }) (SrtO.swo_lex (pairAt H)) made (by rw [eq, List.length_map]; exact zs) (fun h2 => SrtO.pairs_sortableO (by omega) (fun v hv => ?_) fun o e => ?_) fun out a2 a1 => ⟨_, rfl, ?_⟩) (args_list_sort _)))
  · obtain ⟨b, ns, rfl, _, ht⟩ := tups v hv
    rw [pairAt_of ht]
    obtain ⟨_, its2, r2, o, ho, hc, n, hd⟩ := I2.hok _ _ ht
    obtain ⟨u1, u2, rfl, ri, rj⟩ := vals2 r2
    obtain ⟨t1, rfl⟩ := ri
    obtain ⟨t2, rfl⟩ := rj
    exact ⟨b, o, t1, t2, n, rfl, ho, hc, hd⟩
  · have e' : some o = some (seqObj "list" vs.toArray 0) := e.symm.trans made
    cases e'
    intro c
    exact absurd (Value.type.inj c) (by decide)
  obtain ⟨e', he'⟩ := sortedHeap_at (vs := vs) (out := out.toArray) made
  have kept2 : ∀ b u, h'.get? b = some u → (sortedHeap (h'.push (seqObj "list" vs.toArray 0)) h'.objs.size vs out.toArray).get? b = some u := fun b u e => by
    have hb : b < h'.objs.size := Heap.lt_size e
    rw [sortedHeap_old (Nat.ne_of_lt hb) (by rw [size_push']; exact Nat.lt_succ_of_lt hb)]
    exact Heap.get?_push_of_some _ e
  -- the rows that come out
  have L0 : ∀ ws : List Value, (∀ v ∈ ws, v ∈ vs) → ∃ L : List (Addr × (Int × Int)), ws = L.map (fun q => Value.ref q.1) ∧ L.map (·.2) = ws.map (pairAt H) ∧ ∀ q ∈ L, H q.1 = some (.tup [.int q.2.1, .int q.2.2]) := by
    intro ws
    induction ws with
    | nil => intro _; exact ⟨[], rfl, rfl, fun q hq => by cases hq⟩
    | cons v ws ih =>
      intro hv
      obtain ⟨b, ns, e, _, h2⟩ := tups v (hv v List.mem_cons_self)
      obtain ⟨L, e1, e2, e3⟩ := ih fun u hu => hv u (List.mem_cons_of_mem _ hu)
      refine ⟨(b, ns) :: L, by rw [List.map_cons, e, e1], by rw [List.map_cons, List.map_cons, e2, e, pairAt_of h2], fun q hq => ?_⟩
      rcases List.mem_cons.mp hq with rfl | z
      · exact h2
      · exact e3 q z
  obtain ⟨L, e1, e2, e3⟩ := L0 out fun v hv => a1.perm.mem_iff.mp hv
  have lenL : (L.map fun q => V.ref q.1).length ≤ sizeLine := by
    have e4 := a1.perm.length_eq
    rw [e1, eq, List.length_map, List.length_map] at e4
    rw [List.length_map, e4]
    exact zs
  refine wpAny_pure ⟨_, rfl, .ref h'.objs.size, upd H h'.objs.size (.lst (L.map fun q => V.ref q.1)), I1.laid (t' := tk) kept2 (Nat.le_refl _)
    (show ObjOk X.prog X.w _ _ _ (.lst (L.map fun q => V.ref q.1)) from ⟨lenL, out, e', by rw [e1]; exact vals_of_refs2 L, he'⟩), rfl, q L _ ?_ ?_ e3 (I1.hok.fresh (Nat.le_refl _))⟩
  · rw [e2]
    refine (a1.perm.map _).trans (List.Perm.of_eq ?_)
    rw [eq, List.map_map]
    apply List.ext_getElem?
    intro j
    rw [List.getElem?_map]
    cases hj : ks[j]? with
    | none => rw [List.getElem?_eq_none (by have := List.getElem?_eq_none_iff.mp hj; omega)]; rfl
    | some x =>
      obtain ⟨ns, h1, h2⟩ := row j x hj
      rw [h1]
      exact congrArg some (pairAt_of h2)
  · have a3 : (out.map (pairAt H)).Pairwise fun x y => SrtO.lexB y x = false := List.pairwise_map.mpr a2
    rw [← e2] at a3
    exact List.pairwise_map.mp a3
end
/-- the same, told as rSortDT tells it, keys of two small ints -/
def rSortDTB (B : Int) : List V → Hp → VK → Prop := fun vs H Q => ∃ (a : Addr) (kvs : List (List Key × V)) (nss : List (List Int)), vs = [V.ref a] ∧ Rd H a (.dT kvs) ∧ kvs.map (·.1) = nss.map (fun ns => ns.map Sum.inl) ∧ nss.length ≤ 100000 ∧
  (∀ ns ∈ nss, ns.length = 2 ∧ TS.Bd B ns) ∧
  ∀ (L : List (Addr × List Int)) (p : Addr), (L.map (·.2)).Perm nss → L.Pairwise (fun q r => TS.code B q.2 ≤ TS.code B r.2) → (∀ q ∈ L, H q.1 = some (.tup (q.2.map V.int))) → H p = none → Q (.ref p) (upd H p (.lst (L.map fun q => V.ref q.1)))
section
variable {X : Cx}
theorem cr_sortedDTB {B : Int} (hc : X.calm = true) : CallR X (.builtin "sorted") (rSortDTB B) := by
  intro pins s σ H vs us Q I r h
  obtain ⟨a, kvs, nss, rfl, hR, hkeys, few, hB, q⟩ := h
  refine cr_sortedDTO hc pins s σ H [V.ref a] us Q I r ⟨a, kvs, nss.map fun ns => (ns.getD 0 0, ns.getD 1 0), rfl, hR, ?_, by rw [List.length_map]; exact few, fun L p pm pw hL hp => ?_⟩
  · rw [hkeys, List.map_map]
    refine List.map_congr_left fun ns hns => ?_
    obtain ⟨e, _⟩ := hB ns hns
    match ns, e with
    | [x, y], _ => rfl
  · have qq := q (L.map fun e => (e.1, [e.2.1, e.2.2])) p ?_ ?_ ?_ hp
    · rw [List.map_map] at qq
      exact qq
    · rw [List.map_map]
      have e1 := pm.map fun e : Int × Int => [e.1, e.2]
      rw [List.map_map, List.map_map] at e1
      refine e1.trans (List.Perm.of_eq ?_)
      conv => rhs; rw [← List.map_id nss]
      refine List.map_congr_left fun ns hns => ?_
      obtain ⟨e, _⟩ := hB ns hns
      match ns, e with
      | [x, y], _ => rfl
    · refine List.pairwise_map.mpr (pw.imp_of_mem fun {x y} hx hy hl => ?_)
      have bd : ∀ z ∈ L, TS.Bd B [z.2.1, z.2.2] := fun z hz => by
        obtain ⟨ns, hns, e⟩ := List.mem_map.mp (pm.mem_iff.mp (List.mem_map_of_mem (f := (·.2)) hz))
        obtain ⟨e1, e2⟩ := hB ns hns
        match ns, e1, e2, e with
        | [u, v], _, e2, e =>
          rw [← e]
          exact e2
      show TS.code B [x.2.1, x.2.2] ≤ TS.code B [y.2.1, y.2.2]
      have hl := SrtO.lexB_no.mp hl
      rcases Int.lt_or_le (TS.code B [y.2.1, y.2.2]) (TS.code B [x.2.1, x.2.2]) with c | c
      · rcases code_lex (bd y hy) (bd x hx) (Int.le_of_lt c) with k | ⟨k1, k2⟩
        · exact absurd (.inl k) hl
        · by_cases k3 : y.2.2 < x.2.2
          · exact absurd (.inr ⟨k1, k3⟩) hl
          · have k4 : y.2.2 = x.2.2 := by omega
            rw [k1, k4] at c
            exact absurd c (Int.lt_irrefl _)
      · exact c
    · intro e he
      obtain ⟨z, hz, rfl⟩ := List.mem_map.mp he
      exact hL z hz
end
end L2

set_option Elab.async false
set_option maxRecDepth 100000
set_option maxHeartbeats 4000000
namespace L2
open PySem PySem.Spec PyProof.Rows
set_option linter.unusedVariables false
/-! o.m(k = v, ..), m a method of o's own class -/
def tMethK (C : Addr) (m : Str) (n : Nat) (sp : Sp) (gV : List V → List V → List V) (E : XK) (ta : TE) (tk : TA) : TE := fun σ H Q => ta σ H fun x H1 => ∃ a dx fs, x = .ref a ∧ H1 a = some (.ins C dx fs) ∧ fs.lookup m = none ∧ tk σ H1 fun zs H2 => zs.length = n ∧ sp (gV [x] zs) H2 Q E
section
variable {X : Cx} {CX : CXT} {k : Nat} {f C : Addr} {fd : FuncData} {ps ks : List Str} {sp : Sp} {E : XK} {m : Str} {o : Expr} {apos pos : Pos} {kws : List Keyword} {ta : TE} {tk : TA} {g : List Value → List Value → List Value} {gV : List V → List V → List V}
theorem pe_methK0 {pl : Sem Bool} (he : PE X o ta) (c : Cls X.K C) (hm : Meth X.K C m f) (F : FnOk X.prog X.w X.K X.mg X.base CX k f fd ps sp) (hr : Room k X.A) (hb : KBn X.K fd ps 1 ks g gV) (hx : Passes CX X E) (hkw : PK X kws tk)
    (ht : eval (.Call (.Attribute o m apos) [] kws pos) X.env = (do
      let ov ← eval o X.env
      standAt apos.atName
      let (f, first) ← holding [ov] (getMethod ov m pl)
      callWith pos f first (backTo pos (starEach [] X.env)) (backToKw pos (keywordEach kws X.env))) := by rfl)
    (hall : (backToKw pos (keywordEach kws X.env)).all (·.1.isSome) = true := by rfl) (hks : (backToKw pos (keywordEach kws X.env)).filterMap (·.1) = ks := by rfl)
    (hpl : ((backTo pos (starEach [] X.env)).any (·.1) || (backToKw pos (keywordEach kws X.env)).any (·.1.isNone)) = false := by rfl) :
    PE X (.Call (.Attribute o m apos) [] kws pos) (tMethK C m ks.length sp gV E ta tk) := by
  refine ⟨fun pins s σ H Q I h => ?_⟩
  refine PySem.W.methodCall_KW (pl := pl) (thn (he.run pins s σ H _ I h) fun u s1 ⟨x, H1, I1, rx, a, dx, fs, ex, ea, l, q⟩ => ?_) ht
  subst ex
  obtain rfl : u = Value.ref a := rx
  refine getmeth_ok I1 ea c hm l ?_
  refine PySem.W.callWith_KW0 (first := [.ref a]) (h₀ := X.base) I.ok.mod.kin hm.kp hall ?_ hpl
  refine thn (hkw.run pos pins s1 σ H1 _ I1 q) fun ws s2 ⟨zs, H2, I2, rz, l2, q2⟩ => ⟨I2.kIn, ?_⟩
  rw [hks]
  exact run_fnN (us := [.ref a]) (vs := [.ref a]) F hr hb hx I2 (.cons rfl .nil) rz rfl l2 q2
end
end L2

set_option Elab.async false
set_option maxRecDepth 100000
set_option maxHeartbeats 4000000
namespace TA
open PySem L2 PyProof.Rows
set_option linter.unusedVariables false
def top (i : Nat) : Stmt := PySem.Challenge.pw_twoalone_k41_lots_and_far.main.body.getD i (.Pass ⟨0, 0, 0, 0⟩)
abbrev sWhole : Stmt := top 2
abbrev sWithin : Stmt := top 3
abbrev sHand : Stmt := top 4
abbrev s_is_rising : Stmt := top 5
abbrev s_AloneError : Stmt := top 7
abbrev s_NoTask : Stmt := top 8
abbrev s_NoHand : Stmt := top 9
abbrev s_NoInputs : Stmt := top 10
abbrev s_is_output : Stmt := top 13
abbrev s_is_outputs : Stmt := top 14
abbrev s_is_rows : Stmt := top 15
abbrev s_is_alone : Stmt := top 16
abbrev s_is_output_pair : Stmt := top 17
abbrev s_is_let : Stmt := top 18
abbrev s_is_input_pair : Stmt := top 19
abbrev s_each_comes : Stmt := top 20
abbrev s_is_both : Stmt := top 21
abbrev s_Task : Stmt := top 22
abbrev s_is_pair : Stmt := top 23
abbrev s_ties_of : Stmt := top 25
abbrev s_distances : Stmt := top 26
abbrev s_ties_for : Stmt := top 27
abbrev s_lots : Stmt := top 28
abbrev s_far : Stmt := top 29
abbrev sWell : Stmt := top 31
abbrev sDraw : Stmt := top 32
abbrev s__law_pairs : Stmt := top 33
abbrev s__law_outs : Stmt := top 34
abbrev s__law_chain : Stmt := top 35
abbrev s__law_parts : Stmt := top 36
abbrev sLaw : Stmt := top 39
abbrev s__law_far : Stmt := top 37
abbrev s__law_lots : Stmt := top 38
structure Def (P : Program) (w : World) (K : PySem.W.Frag) (mg : Str → Option Value) (base : Heap) (x : Str) (ps : List Str) (k : Nat) (sp : Sp) (f : Addr) (fd : FuncData) : Prop where
  G : FnOk P w K mg base CX0 k f fd ps sp
  b : Binds K fd ps []
  k : PySem.W.keepIn K (.ref f) = true
  m : mg x = some (.ref f)
def isN : PyData → Bool
  | .none => true
  | _ => false
structure Txt (K : PySem.W.Frag) (mg : Str → Option Value) : Prop where
  isi : mg "isinstance" = none
  int : mg "int" = none
  bool : mg "bool" = none
  len : mg "len" = none
  range : mg "range" = none
  list : mg "list" = none
  tuple : mg "tuple" = none
  all : mg "all" = none
  sum : mg "sum" = none
  min : mg "min" = none
theorem same_new {H : Hp} {p : Addr} (h : H p = none) (o : HO) : Same H (upd H p o) := fun b u q => by rw [upd_ne (ne_of_none q h)]; exact q

theorem iteT' {c : Bool} {A B : Prop} (e : c = true) (a : A) : if c = true then A else B := by rw [if_pos e]; exact a
theorem iteF' {c : Bool} {A B : Prop} (e : c = false) (b : B) : if c = true then A else B := by rw [e]; exact b
theorem join2 {b : Bool} {X : Prop} {R : L2.St → Hp → Prop} {σ : L2.St} {H : Hp} (Iv : L2.St → Hp → Prop) (h0 : Iv σ H) (k : ∀ σ Hc, Iv σ Hc → R σ Hc) (h1 : b = true → (∀ σ Hc, Iv σ Hc → R σ Hc) → X) : if b = true then X else R σ H := by
  cases b with
  | false => exact iteF (k σ H h0)
  | true => exact iteT (h1 rfl k)
/-! things of any kind, by their data -/
def tyN : PyData → String
  | .none => "NoneType"
  | .bool _ => "bool"
  | .int _ => "int"
  | .str _ => "str"
  | .list _ => "list"
  | .tuple _ => "tuple"
  | .dict _ => "dict"
theorem sqT_ty {K : PySem.W.Frag} {H : Hp} {a : Addr} {xs : List V} (h : SqT K H a xs) : TyX K H (.ref a) (.type "tuple") := by
  rcases h with h | ⟨o, its, n, h1, h2, _⟩
  · rcases h with h | ⟨o, h⟩
    · exact .base (.tup h)
    · exact .fTuple h
  · exact .kTuple h1 h2
theorem sqL_ty {K : PySem.W.Frag} {H : Hp} {a : Addr} {xs : List V} (h : SqL K H a xs) : TyX K H (.ref a) (.type "list") := by
  rcases h with h | ⟨o, its, n, h1, h2, _⟩
  · rcases h with h | ⟨o, h⟩
    · exact .base (.lst h)
    · exact .base (.frz h)
  · exact .kList h1 h2
theorem dp_ty {K : PySem.W.Frag} {H : Hp} {v : V} {d : PyData} (h : Dp K H v d) : TyX K H v (.type (tyN d)) := by
  cases h with
  | non => exact .base .non
  | bl b => exact .base (.bl b)
  | int i => exact .base (.int i)
  | str x => exact .base (.str x)
  | lst h _ => exact sqL_ty h
  | tup h _ => exact sqT_ty h
theorem dp_non {K : PySem.W.Frag} {H : Hp} {v : V} {d : PyData} (h : Dp K H v d) : decide (v = .non) = isN d := by
  cases h <;> rfl
def isWholeD : PyData → Bool
  | .int _ => true
  | _ => false
def isTupD : PyData → Bool
  | .tuple _ => true
  | _ => false
def within : PyData → Int → Int → Bool
  | .int n, lo, hi => decide (lo ≤ n ∧ n ≤ hi)
  | _, _, _ => false
theorem kit_int (d : PyData) {K : PySem.W.Frag} : ∃ b1 b2, PySem.W.kitOne K (.type (tyN d)) (.type "int") = some b1 ∧ PySem.W.kitOne K (.type (tyN d)) (.type "bool") = some b2 ∧ isWholeD d = (b1 && !b2) := by
  cases d with
  | none => exact ⟨false, false, kit_ty (a := "NoneType") (b := "int") (by decide +kernel), kit_ty (a := "NoneType") (b := "bool") (by decide +kernel), rfl⟩
  | bool b => exact ⟨true, true, kit_ty (a := "bool") (b := "int") (by decide +kernel), kit_ty (a := "bool") (b := "bool") (by decide +kernel), rfl⟩
  | int i => exact ⟨true, false, kit_ty (a := "int") (b := "int") (by decide +kernel), kit_ty (a := "int") (b := "bool") (by decide +kernel), rfl⟩
  | str s => exact ⟨false, false, kit_ty (a := "str") (b := "int") (by decide +kernel), kit_ty (a := "str") (b := "bool") (by decide +kernel), rfl⟩
  | list l => exact ⟨false, false, kit_ty (a := "list") (b := "int") (by decide +kernel), kit_ty (a := "list") (b := "bool") (by decide +kernel), rfl⟩
  | tuple l => exact ⟨false, false, kit_ty (a := "tuple") (b := "int") (by decide +kernel), kit_ty (a := "tuple") (b := "bool") (by decide +kernel), rfl⟩
  | dict l => exact ⟨false, false, kit_ty (a := "dict") (b := "int") (by decide +kernel), kit_ty (a := "dict") (b := "bool") (by decide +kernel), rfl⟩
theorem kit_tup (d : PyData) {K : PySem.W.Frag} : PySem.W.kitOne K (.type (tyN d)) (.type "tuple") = some (isTupD d) := by
  cases d with
  | none => exact (show PySem.W.kitOne K (.type "NoneType") (.type "tuple") = some false from kit_ty (a := "NoneType") (b := "tuple") (by decide +kernel))
  | bool b => exact (show PySem.W.kitOne K (.type "bool") (.type "tuple") = some false from kit_ty (a := "bool") (b := "tuple") (by decide +kernel))
  | int i => exact (show PySem.W.kitOne K (.type "int") (.type "tuple") = some false from kit_ty (a := "int") (b := "tuple") (by decide +kernel))
  | str s => exact (show PySem.W.kitOne K (.type "str") (.type "tuple") = some false from kit_ty (a := "str") (b := "tuple") (by decide +kernel))
  | list l => exact (show PySem.W.kitOne K (.type "list") (.type "tuple") = some false from kit_ty (a := "list") (b := "tuple") (by decide +kernel))
  | tuple l => exact (show PySem.W.kitOne K (.type "tuple") (.type "tuple") = some true from kit_ty (a := "tuple") (b := "tuple") (by decide +kernel))
  | dict l => exact (show PySem.W.kitOne K (.type "dict") (.type "tuple") = some false from kit_ty (a := "dict") (b := "tuple") (by decide +kernel))
theorem dp_tup {K : PySem.W.Frag} {H : Hp} {v : V} {ds : List PyData} (h : Dp K H v (.tuple ds)) : ∃ a xs, v = .ref a ∧ SqT K H a xs ∧ DpAll K H xs ds := by
  cases h with
  | tup h1 h2 => exact ⟨_, _, rfl, h1, h2⟩
theorem dpAll_len {K : PySem.W.Frag} {H : Hp} : ∀ {vs : List V} {ds : List PyData}, DpAll K H vs ds → vs.length = ds.length
  | _, _, .nil => rfl
  | _, _, .cons _ b => congrArg (· + 1) (dpAll_len b)
theorem rd_mono {H H' : Hp} (s : Same H H') {a : Addr} {o : HO} (h : Rd H a o) : Rd H' a o := by
  rcases h with h | ⟨ob, h⟩
  · exact .inl (s _ _ h)
  · exact .inr ⟨ob, s _ _ h⟩
theorem seqT_mono {K : PySem.W.Frag} {H H' : Hp} (s : Same H H') {a : Addr} {xs : List V} (h : SqT K H a xs) : SqT K H' a xs := by
  rcases h with h | h
  · exact .inl (rd_mono s h)
  · exact .inr h
mutual
theorem dp_mono {K : PySem.W.Frag} {H H' : Hp} (s : Same H H') : ∀ (d : PyData) (v : V), Dp K H v d → Dp K H' v d
  | .none, _, h => by cases h; exact .non
  | .bool b, _, h => by cases h; exact .bl b
  | .int i, _, h => by cases h; exact .int i
  | .str x, _, h => by cases h; exact .str x
  | .list ds, _, h => by
    cases h with
    | lst a b => exact .lst (s.seq a) (dpAll_mono s ds _ b)
  | .tuple ds, _, h => by
    cases h with
    | tup a b => exact .tup (seqT_mono s a) (dpAll_mono s ds _ b)
  | .dict _, _, h => by cases h
theorem dpAll_mono {K : PySem.W.Frag} {H H' : Hp} (s : Same H H') : ∀ (ds : List PyData) (vs : List V), DpAll K H vs ds → DpAll K H' vs ds
  | [], _, h => by cases h; exact .nil
  | d :: ds, _, h => by
    cases h with
    | cons a b => exact .cons (dp_mono s d _ a) (dpAll_mono s ds _ b)
end
def spWholeG (K : PySem.W.Frag) : Sp := fun vs H Q _ => ∃ (v : V) (d : PyData), vs = [v] ∧ Dp K H v d ∧ Q (.bl (isWholeD d)) H
def spWithinG (K : PySem.W.Frag) : Sp := fun vs H Q _ => ∃ (v : V) (d : PyData) (lo hi : Int), vs = [v, .int lo, .int hi] ∧ Dp K H v d ∧ Q (.bl (within d lo hi)) H
def spHandG (K : PySem.W.Frag) : Sp := fun vs H Q _ => ∃ (v : V) (d : PyData), vs = [v] ∧ Dp K H v d ∧ Q (.bl (within d 0 1)) H
/-! a walk of n turns, whatever is walked: the word Pv is kept from turn to turn -/
theorem turns {J : It} (n : Nat) {H0 : Hp} {Qd : Hp → Prop} {B : (Hp → Prop) → V → Hp → Prop} (Pv : Nat → Hp → Prop) (start : Pv 0 H0) (last : ∀ H, Pv n H → J.stop n H ∧ Qd H)
    (turn : ∀ i H, i < n → Pv i H → J.go i H ∧ ∀ x H', J.yld i H x H' → B (Pv (i + 1)) x H') :
    ∃ W : Nat → Nat → Hp → Prop, (∃ m, W 0 m H0) ∧ ∀ i m H, W i m H →
      (J.stop i H ∧ Qd H) ∨ (J.go i H ∧ ∃ Nx : Hp → Prop, (∀ H', Nx H' → ∃ m', m' < m ∧ W (i + 1) m' H') ∧ ∀ x H', J.yld i H x H' → B Nx x H') := by
  refine ⟨fun i m H => i + m = n ∧ Pv i H, ⟨n, by omega, start⟩, fun i m H h => ?_⟩
  obtain ⟨hm, word⟩ := h
  cases m with
  | zero =>
    have hin : i = n := by omega
    rw [hin] at word ⊢
    exact Or.inl (last H word)
  | succ m =>
    obtain ⟨go, step⟩ := turn i H (by omega) word
    exact Or.inr ⟨go, Pv (i + 1), fun H' w' => ⟨m, by omega, by omega, w'⟩, step⟩
theorem list_turns {K : PySem.W.Frag} {a : Addr} {xs : List V} {H0 : Hp} {Qd : Hp → Prop} {B : (Hp → Prop) → V → Hp → Prop} (Pv : Nat → Hp → Prop) (start : Pv 0 H0) (still : ∀ i H, i ≤ xs.length → Pv i H → SqL K H a xs)
    (turn : ∀ i x H, xs[i]? = some x → Pv i H → B (Pv (i + 1)) x H) (last : ∀ H, Pv xs.length H → Qd H) :
    ∃ W : Nat → Nat → Hp → Prop, (∃ m, W 0 m H0) ∧ ∀ i m H, W i m H →
      ((Itl K a).stop i H ∧ Qd H) ∨ ((Itl K a).go i H ∧ ∃ Nx : Hp → Prop, (∀ H', Nx H' → ∃ m', m' < m ∧ W (i + 1) m' H') ∧ ∀ x H', (Itl K a).yld i H x H' → B Nx x H') :=
  turns xs.length Pv start (fun H w => ⟨⟨xs, still _ H (Nat.le_refl _) w, Nat.le_refl _⟩, last H w⟩) fun i H hi w =>
    have there := still i H (Nat.le_of_lt hi) w
    ⟨⟨xs, xs[i], there, List.getElem?_eq_getElem hi⟩, fun x H' ⟨same, given⟩ => by rw [same]; exact turn i x H (given xs there) w⟩
theorem tup_turns {K : PySem.W.Frag} {a : Addr} {xs : List V} {H0 : Hp} {Qd : Hp → Prop} {B : (Hp → Prop) → V → Hp → Prop} (Pv : Nat → Hp → Prop) (start : Pv 0 H0) (still : ∀ i H, i ≤ xs.length → Pv i H → SqT K H a xs)
    (turn : ∀ i x H, xs[i]? = some x → Pv i H → B (Pv (i + 1)) x H) (last : ∀ H, Pv xs.length H → Qd H) :
    ∃ W : Nat → Nat → Hp → Prop, (∃ m, W 0 m H0) ∧ ∀ i m H, W i m H →
      ((Itt K a).stop i H ∧ Qd H) ∨ ((Itt K a).go i H ∧ ∃ Nx : Hp → Prop, (∀ H', Nx H' → ∃ m', m' < m ∧ W (i + 1) m' H') ∧ ∀ x H', (Itt K a).yld i H x H' → B Nx x H') :=
  turns xs.length Pv start (fun H w => ⟨⟨xs, still _ H (Nat.le_refl _) w, Nat.le_refl _⟩, last H w⟩) fun i H hi w =>
    have there := still i H (Nat.le_of_lt hi) w
    ⟨⟨xs, xs[i], there, List.getElem?_eq_getElem hi⟩, fun x H' ⟨same, given⟩ => by rw [same]; exact turn i x H (given xs there) w⟩
theorem range_turns {lo : Int} {n : Nat} {H0 : Hp} {Qd : Hp → Prop} {B : (Hp → Prop) → V → Hp → Prop} (Pv : Nat → Hp → Prop) (start : Pv 0 H0)
    (turn : ∀ i H, i < n → Pv i H → B (Pv (i + 1)) (.int (lo + i)) H) (last : ∀ H, Pv n H → Qd H) :
    ∃ W : Nat → Nat → Hp → Prop, (∃ m, W 0 m H0) ∧ ∀ i m H, W i m H →
      ((Itr lo n).stop i H ∧ Qd H) ∨ ((Itr lo n).go i H ∧ ∃ Nx : Hp → Prop, (∀ H', Nx H' → ∃ m', m' < m ∧ W (i + 1) m' H') ∧ ∀ x H', (Itr lo n).yld i H x H' → B Nx x H') :=
  turns n Pv start (fun H w => ⟨Nat.le_refl _, last H w⟩) fun i H hi w => ⟨hi, fun x H' ⟨same, given⟩ => by rw [same, given]; exact turn i H hi w⟩
theorem small13 {n : Nat} (h : n ≤ 100000) : n ≤ sizeLine := Nat.le_trans h (by decide)

section
variable {P : Program} {w : World} {K : PySem.W.Frag} {mg : Str → Option Value} {base : Heap}
theorem scWhole : FnScope ["thing"] ["thing"] (defScope sWhole) := ⟨rfl, rfl, rfl, by decide +kernel, rfl, by decide +kernel, by decide +kernel⟩
theorem scWithin : FnScope ["thing", "least", "most"] ["thing", "least", "most"] (defScope sWithin) := ⟨rfl, rfl, rfl, by decide +kernel, rfl, by decide +kernel, by decide +kernel⟩
theorem scHand : FnScope ["thing"] ["thing"] (defScope sHand) := ⟨rfl, rfl, rfl, by decide +kernel, rfl, by decide +kernel, by decide +kernel⟩
theorem ok_wholeG {f : Addr} {fd : FuncData} (F : Fun K "is_whole" "is_whole" sWhole f fd) (T : Txt K mg) : FnOk P w K mg base CX0 1 f fd ["thing"] (spWholeG K) := by
  refine F.ok scWhole (fun vs H Q E h => ?_) (fun cdv A outer s H vs Q E hr h => ?_)
  · obtain ⟨v, d, rfl, _⟩ := h
    rfl
  obtain ⟨v, d, rfl, hk, q⟩ := h
  refine ⟨_, pss_one (ps_ret (pe_and (pe_callB call_isi (by rfl) T.isi boot_isinstance (pa_cons (pv 0) (pa_cons (pe_bltn (v := .ty "int") (by rfl) T.int boot_int rfl) pa_nil)))
    (pe_one (pe_not (pe_callB call_isi (by rfl) T.isi boot_isinstance (pa_cons (pv 0) (pa_cons (pe_bltn (v := .ty "bool") (by rfl) T.bool boot_bool rfl) pa_nil))))))), ?_⟩
  obtain ⟨b1, b2, e1, e2, e3⟩ := kit_int d (K := K)
  rw [e3] at q
  refine ⟨_, rfl, v, V.ty "int", _, _, b1, rfl, .ty "int", (dp_ty hk), e1, b1, rfl, ?_⟩
  cases b1 with
  | false => exact iteF q
  | true => exact iteT ⟨_, rfl, v, V.ty "bool", _, _, b2, rfl, .ty "bool", (dp_ty hk), e2, b2, rfl, q⟩
theorem ok_withinG {f g : Addr} {fd gd : FuncData} (F : Fun K "is_whole_within" "is_whole_within" sWithin f fd) (W : Def P w K mg base "is_whole" ["thing"] 1 (spWholeG K) g gd) : FnOk P w K mg base CX0 2 f fd ["thing", "least", "most"] (spWithinG K) := by
  refine F.ok scWithin (fun vs H Q E h => ?_) (fun cdv A outer s H vs Q E hr h => ?_)
  · obtain ⟨v, d, lo, hi, rfl, _⟩ := h
    rfl
  obtain ⟨v, d, lo, hi, rfl, hk, q⟩ := h
  refine ⟨_, pss_one (ps_ret (pe_and (pe_call W.G hr rfl W.m W.k W.b .nil pass0 (pa_cons (pv 0) pa_nil)) (pe_one (pe_chain op_le op_le (pv 1) (pv 0) (pv 2))))), ?_⟩
  refine ⟨_, rfl, v, d, rfl, hk, isWholeD d, rfl, ?_⟩
  by_cases hw : ∃ n, d = .int n
  · obtain ⟨n, rfl⟩ := hw
    have ev : v = .int n := by
      cases hk; rfl
    subst ev
    refine iteT ⟨_, rfl, _, rfl, _, _, rfl, rfl, _, rfl, ?_⟩
    by_cases h1 : lo ≤ n
    · rw [decide_eq_true h1]
      refine iteT ⟨_, rfl, _, _, rfl, rfl, ?_⟩
      have e : within (.int n) lo hi = decide (n ≤ hi) := by unfold within; simp [h1]
      rw [e] at q
      exact q
    · rw [decide_eq_false h1]
      refine iteF ?_
      have e : within (.int n) lo hi = false := by unfold within; simp [h1]
      rw [e] at q
      exact q
  · have e1 : isWholeD d = false := by
      cases d with
      | int n => exact absurd ⟨n, rfl⟩ hw
      | _ => rfl
    have e2 : within d lo hi = false := by
      cases d with
      | int n => exact absurd ⟨n, rfl⟩ hw
      | _ => rfl
    rw [e1]
    rw [e2] at q
    exact iteF q
theorem ok_handG {f g : Addr} {fd gd : FuncData} (F : Fun K "is_hand" "is_hand" sHand f fd) (W : Def P w K mg base "is_whole_within" ["thing", "least", "most"] 2 (spWithinG K) g gd) : FnOk P w K mg base CX0 3 f fd ["thing"] (spHandG K) := by
  refine F.ok scHand (fun vs H Q E h => ?_) (fun cdv A outer s H vs Q E hr h => ?_)
  · obtain ⟨v, d, rfl, _⟩ := h
    rfl
  obtain ⟨v, d, rfl, hk, q⟩ := h
  refine ⟨_, pss_one (ps_ret (pe_call W.G hr rfl W.m W.k W.b .nil pass0 (pa_cons (pv 0) (pa_cons pe_int (pa_cons pe_int pa_nil))))), ?_⟩
  exact ⟨_, rfl, v, d, 0, 1, rfl, hk, q⟩
end
end TA

set_option Elab.async false
set_option maxRecDepth 100000
set_option maxHeartbeats 4000000
namespace TA
open PySem L2 PyProof.Rows
set_option linter.unusedVariables false
/-! a task's parts, of any data -/
theorem dpAll_get {K : PySem.W.Frag} {H : Hp} : ∀ {vs : List V} {ds : List PyData} {i : Nat} {x : V}, DpAll K H vs ds → vs[i]? = some x → ∃ d, ds[i]? = some d ∧ Dp K H x d
  | _, _, _, _, .nil, e => by simp at e
  | _, _, 0, _, .cons a b, e => ⟨_, rfl, by simp at e; rw [← e]; exact a⟩
  | _, _, i + 1, x, .cons a b, e => by
    obtain ⟨d, h1, h2⟩ := dpAll_get (i := i) (x := x) b (by simpa using e)
    exact ⟨d, by simpa using h1, h2⟩
theorem same_upd {H0 H : Hp} {p : Addr} {o : HO} (s : Same H0 H) (f : H0 p = none) : Same H0 (upd H p o) := fun b u e => by
  rw [upd_ne (ne_of_none e f)]
  exact s _ _ e
theorem take_bl (bs : List Bool) {i : Nat} {b : Bool} (h : bs[i]? = some b) : (bs.take i).map V.bl ++ [V.bl b] = (bs.take (i + 1)).map V.bl := by
  rw [List.take_add_one, h, List.map_append]
  rfl
def isLstD : PyData → Bool
  | .list _ => true
  | _ => false
theorem kit_lst (d : PyData) {K : PySem.W.Frag} : PySem.W.kitOne K (.type (tyN d)) (.type "list") = some (isLstD d) := by
  cases d with
  | none => exact (show PySem.W.kitOne K (.type "NoneType") (.type "list") = some false from kit_ty (by decide +kernel))
  | bool b => exact (show PySem.W.kitOne K (.type "bool") (.type "list") = some false from kit_ty (by decide +kernel))
  | int b => exact (show PySem.W.kitOne K (.type "int") (.type "list") = some false from kit_ty (by decide +kernel))
  | str b => exact (show PySem.W.kitOne K (.type "str") (.type "list") = some false from kit_ty (by decide +kernel))
  | list b => exact (show PySem.W.kitOne K (.type "list") (.type "list") = some true from kit_ty (by decide +kernel))
  | tuple b => exact (show PySem.W.kitOne K (.type "tuple") (.type "list") = some false from kit_ty (by decide +kernel))
  | dict b => exact (show PySem.W.kitOne K (.type "dict") (.type "list") = some false from kit_ty (by decide +kernel))
/-- what stands in a list of ints, one behind the other -/
def risI (ns : List Int) : Bool := ((List.range (ns.length - 1)).map fun i => decide (ns.getD i 0 < ns.getD (i + 1) 0)).all id
def intsOf : List PyData → List Int := List.map fun d => match d with
  | .int i => i
  | _ => 0
def outB (d : PyData) : Bool := within d 0 63
def outsB : PyData → Bool
  | .list ds => decide (0 < ds.length) && ((ds.map outB).all id && risI (intsOf ds))
  | _ => false
def rowsB : PyData → Bool
  | .list ds => decide (0 < ds.length) && (ds.map outsB).all id
  | _ => false
def aloneB : PyData → Bool
  | .list ds => decide (ds.length = 2) && (ds.map rowsB).all id
  | _ => false
theorem outs_ints {K : PySem.W.Frag} {H : Hp} : ∀ {ds : List PyData} {vs : List V}, DpAll K H vs ds → (ds.map outB).all id = true → vs = (intsOf ds).map V.int
  | [], _, h, _ => by cases h; rfl
  | d :: ds, _, h, a => by
    rw [List.map_cons, List.all_cons] at a
    obtain ⟨a1, a2⟩ := Bool.and_eq_true_iff.mp a
    cases h with
    | cons h1 h2 =>
      cases d with
      | int i =>
        cases h1
        rw [outs_ints h2 a2]
        rfl
      | _ => exact Bool.noConfusion (show false = true from a1)
def spOut (K : PySem.W.Frag) : Sp := fun vs H Q _ => ∃ (v : V) (d : PyData), vs = [v] ∧ Dp K H v d ∧ Q (.bl (outB d)) H
def spRisI (K : PySem.W.Frag) : Sp := fun vs H Q _ => ∃ (p : Addr) (ns : List Int), vs = [.ref p] ∧ SqL K H p (ns.map V.int) ∧ 1 ≤ ns.length ∧ ns.length ≤ 1000 ∧ ∀ H', Same H H' → Q (.bl (risI ns)) H'
def small (d : PyData) : Prop := ∀ ds, d = .list ds → ds.length ≤ 1000
def spOuts (K : PySem.W.Frag) : Sp := fun vs H Q _ => ∃ (v : V) (d : PyData), vs = [v] ∧ Dp K H v d ∧ small d ∧ ∀ H', Same H H' → Q (.bl (outsB d)) H'
def spRows (K : PySem.W.Frag) : Sp := fun vs H Q _ => ∃ (v : V) (d : PyData), vs = [v] ∧ Dp K H v d ∧ small d ∧ (∀ ds, d = .list ds → ∀ e ∈ ds, small e) ∧ ∀ H', Same H H' → Q (.bl (rowsB d)) H'
def spAlone (K : PySem.W.Frag) : Sp := fun vs H Q _ => ∃ (v : V) (d : PyData), vs = [v] ∧ Dp K H v d ∧ small d ∧ (∀ ds, d = .list ds → ∀ e ∈ ds, small e ∧ ∀ es, e = .list es → ∀ g ∈ es, small g) ∧ ∀ H', Same H H' → Q (.bl (aloneB d)) H'
section
variable {P : Program} {w : World} {K : PySem.W.Frag} {mg : Str → Option Value} {base : Heap}
theorem scOut : FnScope ["thing"] ["thing"] (defScope s_is_output) := ⟨rfl, rfl, rfl, by decide +kernel, rfl, by decide +kernel, by decide +kernel⟩
theorem ok_out {f g : Addr} {fd gd : FuncData} {t63 : Tok} (F : Fun K "is_output" "is_output" s_is_output f fd) (m63 : mg "MOST_OUTPUT" = some (.int 63 t63)) (W : Def P w K mg base "is_whole_within" ["thing", "least", "most"] 2 (spWithinG K) g gd) : FnOk P w K mg base CX0 3 f fd ["thing"] (spOut K) := by
  refine F.ok scOut (fun vs H Q E h => ?_) (fun cdv A outer s H vs Q E hr h => ?_)
  · obtain ⟨v, d, rfl, _⟩ := h
    rfl
  obtain ⟨v, d, rfl, hk, q⟩ := h
  refine ⟨_, pss_one (ps_ret (pe_call W.G hr rfl W.m W.k W.b .nil pass0 (pa_cons (pv 0) (pa_cons pe_int (pa_cons (pe_glob (v := .int 63) rfl m63 ⟨_, rfl⟩) pa_nil))))), ?_⟩
  exact ⟨_, rfl, v, d, 0, 63, rfl, hk, q⟩
theorem scRis : FnScope ["things", "at"] ["things"] (defScope s_is_rising) := ⟨rfl, rfl, rfl, by decide +kernel, rfl, by decide +kernel, by decide +kernel⟩
theorem ok_risI {f : Addr} {fd : FuncData} (F : Fun K "is_rising" "is_rising" s_is_rising f fd) (T : Txt K mg) : FnOk P w K mg base CX0 1 f fd ["things"] (spRisI K) := by
  refine F.ok scRis (fun vs H Q E h => ?_) (fun cdv A outer s H vs Q E hr h => ?_)
  · obtain ⟨p, ns, rfl, _⟩ := h
    rfl
  obtain ⟨p, ns, rfl, hS, n1, n2, q⟩ := h
  have nd := scRis.nd
  refine ⟨_, pss_one (ps_ret (pe_callB (cr_all rfl) (by rfl) T.all (by decide +kernel) (pa_cons
      (pe_lc (own := [("at", 1)]) (g := gName 1) (tt := tYes) (te := tOp (rI0 fun i j => .bl (decide (i < j))) (tOp (rIxL K) (tVar 0) (tVar 1)) (tOp (rIxL K) (tVar 0) (tOp (rI0 fun i j => .int (i + j)) (tVar 1) (tC (.int 1))))) rfl nd
        (pi_range1 (by rfl) T.range (pa_cons (pe_op op_sub (pe_callB call_len_seq (by rfl) T.len PySem.boot_len (pa_cons (pv 0) pa_nil)) pe_int) pa_nil))
        (blkOk_by (N := ["things", "at"]) (sc := defScope s_is_rising) (by decide +kernel)) (fun _ _ _ _ _ => pg_name (i := 1) nd rfl (Or.inl rfl)) (fun _ _ _ _ _ => pts_nil)
        (fun _ _ _ _ _ => (by refine pe_cmpR op_lt ?_ ?_ (nomark _); (exact pe_ix ix_list (pv 0) (pv 1) (fun _ _ => rfl)); (exact pe_ix ix_list (pv 0) (pe_op op_add (pv 1) pe_int) (fun _ _ => rfl))))) pa_nil))), ?_⟩
  refine ⟨_, rfl, p, _, rfl, .inl hS, _, _, rfl, rfl, ?_⟩
  rw [List.length_map]
  have e1 : ((ns.length : Nat) : Int) - 1 = ((ns.length - 1 : Nat) : Int) := by omega
  refine ⟨((ns.length - 1 : Nat) : Int), congrArg (fun z => [V.int z]) e1, by omega, by omega, fun D hD => ?_⟩
  refine range_turns (n := ns.length - 1) (fun i H' => Same H H' ∧ H' D = some (.lst ((((List.range (ns.length - 1)).map fun i => decide (ns.getD i 0 < ns.getD (i + 1) 0)).take i).map V.bl))) ⟨same_new hD _, upd_same⟩ ?_ ?_
  · rintro i H' hi ⟨s1, h1⟩
    have ei : (0 : Int) + (i : Int) = (i : Int) := by omega
    rw [ei]
    have g0 : ns[i]? = some (ns.getD i 0) := by rw [List.getD_eq_getElem?_getD, List.getElem?_eq_getElem (by omega)]; rfl
    have g1 : ns[i + 1]? = some (ns.getD (i + 1) 0) := by rw [List.getD_eq_getElem?_getD, List.getElem?_eq_getElem (by omega)]; rfl
    have hb : ((List.range (ns.length - 1)).map fun i => decide (ns.getD i 0 < ns.getD (i + 1) 0))[i]? = some (decide (ns.getD i 0 < ns.getD (i + 1) 0)) := by
      rw [List.getElem?_map, List.getElem?_range hi]; rfl
    refine ⟨rfl, _, rfl, _, rfl, p, _, _, _, rfl, rfl, s1.seq hS, atI_nat (by rw [List.getElem?_map, g0]; rfl), _, rfl, _, rfl, _, _, rfl, rfl, p, _, _, _, rfl, rfl, s1.seq hS, (by rw [show (i : Int) + 1 = ((i + 1 : Nat) : Int) by omega]; exact atI_nat (by rw [List.getElem?_map, g1]; rfl)), _, _, rfl, rfl, _, h1, ?_, same_upd s1 hD, by rw [upd_same, take_bl _ hb]⟩
    rw [List.length_map]
    exact Nat.lt_of_le_of_lt (List.length_take_le _ _) (Nat.lt_of_lt_of_le hi (Nat.le_trans (by omega) (show 1000 ≤ sizeLine by decide)))
  · rintro H' ⟨s1, h1⟩
    rw [List.take_of_length_le (by rw [List.length_map, List.length_range]; exact Nat.le_refl _)] at h1
    exact ⟨D, _, rfl, SqL.of h1, q _ s1⟩
theorem scOuts : FnScope ["thing", "x"] ["thing"] (defScope s_is_outputs) := ⟨rfl, rfl, rfl, by decide +kernel, rfl, by decide +kernel, by decide +kernel⟩
theorem ok_outs {f g1 g2 : Addr} {fd d1 d2 : FuncData} (F : Fun K "is_outputs" "is_outputs" s_is_outputs f fd) (T : Txt K mg) (W : Def P w K mg base "is_output" ["thing"] 3 (spOut K) g1 d1) (R : Def P w K mg base "is_rising" ["things"] 1 (spRisI K) g2 d2) : FnOk P w K mg base CX0 4 f fd ["thing"] (spOuts K) := by
  refine F.ok scOuts (fun vs H Q E h => ?_) (fun cdv A outer s H vs Q E hr h => ?_)
  · obtain ⟨v, d, rfl, _⟩ := h
    rfl
  obtain ⟨v, d, rfl, hk, hz, q⟩ := h
  have nd := scOuts.nd
  refine ⟨_, pss_one (ps_ret (pe_and (pe_callB call_isi (by rfl) T.isi boot_isinstance (pa_cons (pv 0) (pa_cons (pe_bltn (v := .ty "list") (by rfl) T.list boot_list rfl) pa_nil)))
    (pe_and (pe_cmpR op_gt (pe_callB call_len_seq (by rfl) T.len PySem.boot_len (pa_cons (pv 0) pa_nil)) pe_int (nomark _))
    (pe_and (pe_callB (cr_all rfl) (by rfl) T.all (by decide +kernel) (pa_cons
      (pe_lc (own := [("x", 1)]) (g := gName 1) (tt := tYes) (te := tCall (spOut K) [] E0 (tCons (tVar 1) tNil)) rfl nd (pi_list (pv 0)) (blkOk_by (N := ["thing", "x"]) (sc := defScope s_is_outputs) (by decide +kernel)) (fun _ _ _ _ _ => pg_name (i := 1) nd rfl (Or.inl rfl)) (fun _ _ _ _ _ => pts_nil)
        (fun _ _ _ _ _ => (by exact pe_call W.G hr rfl W.m W.k W.b .nil pass0 (pa_cons (pv 1) pa_nil)))) pa_nil))
    (pe_one (pe_call R.G (hr.mono (by decide)) rfl R.m R.k R.b .nil pass0 (pa_cons (pv 0) pa_nil))))))), ?_⟩
  refine ⟨_, rfl, v, .ty "list", _, _, isLstD d, rfl, .ty "list", dp_ty hk, kit_lst d, _, rfl, ?_⟩
  cases cl : isLstD d with
  | false =>
    have : outsB d = false := by cases d <;> first | rfl | cases cl
    rw [this] at q
    exact iteF (q _ (Same.refl H))
  | true =>
    obtain ⟨ds, rfl⟩ : ∃ ds, d = .list ds := by cases d <;> first | exact ⟨_, rfl⟩ | cases cl
    obtain ⟨p, vs, rfl, hS, hD⟩ : ∃ t vs, v = .ref t ∧ SqL K H t vs ∧ DpAll K H vs ds := by
      cases hk with
      | lst a b => exact ⟨_, _, rfl, a, b⟩
    have hl := dpAll_len hD
    have hds := hz ds rfl
    have eO : outsB (.list ds) = (decide (0 < ds.length) && ((ds.map outB).all id && risI (intsOf ds))) := rfl
    refine iteT ⟨_, rfl, p, _, rfl, .inl hS, _, _, rfl, rfl, ?_⟩
    by_cases c : 0 < ds.length
    case neg =>
      rw [eO, decide_eq_false c, Bool.false_and] at q
      refine ⟨_, rfl, iteF' (decide_eq_false (by omega)) ?_⟩
      exact q _ (Same.refl H)
    rw [eO, decide_eq_true c, Bool.true_and] at q
    refine ⟨_, rfl, iteT' (decide_eq_true (by omega)) ?_⟩
    refine ⟨_, rfl, p, rfl, ⟨_, hS⟩, fun D hD' => ?_⟩
    refine list_turns (xs := vs) (fun i H' => Same H H' ∧ H' D = some (.lst (((ds.map outB).take i).map V.bl))) ⟨same_new hD' _, upd_same⟩ (fun i H' _ h => h.1.seq hS) ?_ ?_
    · rintro i x H' hx ⟨s1, h1⟩
      obtain ⟨di, hdi, hxi⟩ := dpAll_get hD hx
      have hi : i < ds.length := (List.getElem?_eq_some_iff.mp hdi).1
      have hb : (ds.map outB)[i]? = some (outB di) := by rw [List.getElem?_map, hdi]; rfl
      refine ⟨rfl, _, rfl, x, di, rfl, dp_mono s1 _ _ hxi, _, h1, ?_, same_upd s1 hD', by rw [upd_same, take_bl _ hb]⟩
      rw [List.length_map]
      exact Nat.lt_of_le_of_lt (List.length_take_le _ _) (Nat.lt_of_lt_of_le hi (Nat.le_trans hds (by decide)))
    · rintro H1 ⟨s1, h1⟩
      rw [hl, ← List.length_map (f := outB), List.take_length] at h1
      refine ⟨D, _, rfl, SqL.of h1, _, rfl, ?_⟩
      cases ca : (ds.map outB).all id with
      | false =>
        rw [ca, Bool.false_and] at q
        exact iteF (q _ s1)
      | true =>
        rw [ca, Bool.true_and] at q
        have ev := outs_ints hD ca
        have hS' : SqL K H1 p ((intsOf ds).map V.int) := by rw [← ev]; exact s1.seq hS
        have li : (intsOf ds).length = ds.length := List.length_map _
        exact iteT ⟨_, rfl, p, intsOf ds, rfl, hS', by omega, by omega, fun H2 s2 => q _ (s1.trans s2)⟩
theorem sc_rows : FnScope ["thing", "outputs"] ["thing"] (defScope s_is_rows) := ⟨rfl, rfl, rfl, by decide +kernel, rfl, by decide +kernel, by decide +kernel⟩
theorem ok_rows {f g1 : Addr} {fd d1 : FuncData} (F : Fun K "is_rows" "is_rows" s_is_rows f fd) (T : Txt K mg) (W : Def P w K mg base "is_outputs" ["thing"] 4 (spOuts K) g1 d1) : FnOk P w K mg base CX0 5 f fd ["thing"] (spRows K) := by
  refine F.ok sc_rows (fun vs H Q E h => ?_) (fun cdv A outer s H vs Q E hr h => ?_)
  · obtain ⟨v, d, rfl, _⟩ := h
    rfl
  obtain ⟨v, d, rfl, hk, hz, hin, q⟩ := h
  have nd := sc_rows.nd
  refine ⟨_, pss_one (ps_ret (pe_and (pe_callB call_isi (by rfl) T.isi boot_isinstance (pa_cons (pv 0) (pa_cons (pe_bltn (v := .ty "list") (by rfl) T.list boot_list rfl) pa_nil)))
    (pe_and (pe_cmpR op_gt (pe_callB call_len_seq (by rfl) T.len PySem.boot_len (pa_cons (pv 0) pa_nil)) pe_int (nomark _))
    (pe_one (pe_callB (cr_all rfl) (by rfl) T.all (by decide +kernel) (pa_cons
      (pe_lc (own := [("outputs", 1)]) (g := gName 1) (tt := tYes) (te := tCall (spOuts K) [] E0 (tCons (tVar 1) tNil)) rfl nd (pi_list (pv 0)) (blkOk_by (N := ["thing", "outputs"]) (sc := defScope s_is_rows) (by decide +kernel)) (fun _ _ _ _ _ => pg_name (i := 1) nd rfl (Or.inl rfl)) (fun _ _ _ _ _ => pts_nil)
        (fun _ _ _ _ _ => (by exact pe_call W.G hr rfl W.m W.k W.b .nil pass0 (pa_cons (pv 1) pa_nil)))) pa_nil)))))), ?_⟩
  refine ⟨_, rfl, v, .ty "list", _, _, isLstD d, rfl, .ty "list", dp_ty hk, kit_lst d, _, rfl, ?_⟩
  cases cl : isLstD d with
  | false =>
    have : rowsB d = false := by cases d <;> first | rfl | cases cl
    rw [this] at q
    exact iteF (q _ (Same.refl H))
  | true =>
    obtain ⟨ds, rfl⟩ : ∃ ds, d = .list ds := by cases d <;> first | exact ⟨_, rfl⟩ | cases cl
    obtain ⟨p, vs, rfl, hS, hD⟩ : ∃ t vs, v = .ref t ∧ SqL K H t vs ∧ DpAll K H vs ds := by
      cases hk with
      | lst a b => exact ⟨_, _, rfl, a, b⟩
    have hl := dpAll_len hD
    have hds := hz ds rfl
    have eO : rowsB (.list ds) = (decide (0 < ds.length) && (ds.map outsB).all id) := rfl
    refine iteT ⟨_, rfl, p, _, rfl, .inl hS, _, _, rfl, rfl, ?_⟩
    by_cases c : 0 < ds.length
    case neg =>
      rw [eO, decide_eq_false c, Bool.false_and] at q
      refine ⟨_, rfl, iteF' (decide_eq_false (by omega)) ?_⟩
      exact q _ (Same.refl H)
    rw [eO, decide_eq_true c, Bool.true_and] at q
    refine ⟨_, rfl, iteT' (decide_eq_true (by omega)) ?_⟩
    refine ⟨_, rfl, p, rfl, ⟨_, hS⟩, fun D hD' => ?_⟩
    refine list_turns (xs := vs) (fun i H' => Same H H' ∧ H' D = some (.lst (((ds.map outsB).take i).map V.bl))) ⟨same_new hD' _, upd_same⟩ (fun i H' _ h => h.1.seq hS) ?_ ?_
    · rintro i x H' hx ⟨s1, h1⟩
      obtain ⟨di, hdi, hxi⟩ := dpAll_get hD hx
      have hi : i < ds.length := (List.getElem?_eq_some_iff.mp hdi).1
      have hb : (ds.map outsB)[i]? = some (outsB di) := by rw [List.getElem?_map, hdi]; rfl
      refine ⟨rfl, _, rfl, x, di, rfl, dp_mono s1 _ _ hxi, hin ds rfl di (List.mem_of_getElem? hdi), fun H2 s2 => ⟨_, s2 _ _ h1, ?_, same_upd (s1.trans s2) hD', by rw [upd_same, take_bl _ hb]⟩⟩
      rw [List.length_map]
      exact Nat.lt_of_le_of_lt (List.length_take_le _ _) (Nat.lt_of_lt_of_le hi (Nat.le_trans hds (by decide)))
    · rintro H1 ⟨s1, h1⟩
      rw [hl, ← List.length_map (f := outsB), List.take_length] at h1
      exact ⟨D, _, rfl, SqL.of h1, q _ s1⟩
theorem sc_alone : FnScope ["thing", "rows"] ["thing"] (defScope s_is_alone) := ⟨rfl, rfl, rfl, by decide +kernel, rfl, by decide +kernel, by decide +kernel⟩
theorem ok_alone {f g1 : Addr} {fd d1 : FuncData} (F : Fun K "is_alone" "is_alone" s_is_alone f fd) (T : Txt K mg) (W : Def P w K mg base "is_rows" ["thing"] 5 (spRows K) g1 d1) : FnOk P w K mg base CX0 6 f fd ["thing"] (spAlone K) := by
  refine F.ok sc_alone (fun vs H Q E h => ?_) (fun cdv A outer s H vs Q E hr h => ?_)
  · obtain ⟨v, d, rfl, _⟩ := h
    rfl
  obtain ⟨v, d, rfl, hk, hz, hin, q⟩ := h
  have nd := sc_alone.nd
  refine ⟨_, pss_one (ps_ret (pe_and (pe_callB call_isi (by rfl) T.isi boot_isinstance (pa_cons (pv 0) (pa_cons (pe_bltn (v := .ty "list") (by rfl) T.list boot_list rfl) pa_nil)))
    (pe_and (pe_cmpR op_eq (pe_callB call_len_seq (by rfl) T.len PySem.boot_len (pa_cons (pv 0) pa_nil)) pe_int (nomark _))
    (pe_one (pe_callB (cr_all rfl) (by rfl) T.all (by decide +kernel) (pa_cons
      (pe_lc (own := [("rows", 1)]) (g := gName 1) (tt := tYes) (te := tCall (spRows K) [] E0 (tCons (tVar 1) tNil)) rfl nd (pi_list (pv 0)) (blkOk_by (N := ["thing", "rows"]) (sc := defScope s_is_alone) (by decide +kernel)) (fun _ _ _ _ _ => pg_name (i := 1) nd rfl (Or.inl rfl)) (fun _ _ _ _ _ => pts_nil)
        (fun _ _ _ _ _ => (by exact pe_call W.G hr rfl W.m W.k W.b .nil pass0 (pa_cons (pv 1) pa_nil)))) pa_nil)))))), ?_⟩
  refine ⟨_, rfl, v, .ty "list", _, _, isLstD d, rfl, .ty "list", dp_ty hk, kit_lst d, _, rfl, ?_⟩
  cases cl : isLstD d with
  | false =>
    have : aloneB d = false := by cases d <;> first | rfl | cases cl
    rw [this] at q
    exact iteF (q _ (Same.refl H))
  | true =>
    obtain ⟨ds, rfl⟩ : ∃ ds, d = .list ds := by cases d <;> first | exact ⟨_, rfl⟩ | cases cl
    obtain ⟨p, vs, rfl, hS, hD⟩ : ∃ t vs, v = .ref t ∧ SqL K H t vs ∧ DpAll K H vs ds := by
      cases hk with
      | lst a b => exact ⟨_, _, rfl, a, b⟩
    have hl := dpAll_len hD
    have hds := hz ds rfl
    have eO : aloneB (.list ds) = (decide (ds.length = 2) && (ds.map rowsB).all id) := rfl
    refine iteT ⟨_, rfl, p, _, rfl, .inl hS, rfl, _, rfl, ?_⟩
    by_cases c : ds.length = 2
    case neg =>
      rw [eO, decide_eq_false c, Bool.false_and] at q
      refine iteF' (decide_eq_false fun e => by injection e with e; omega) ?_
      exact q _ (Same.refl H)
    rw [eO, decide_eq_true c, Bool.true_and] at q
    refine iteT' (decide_eq_true (by rw [hl, c]; rfl)) ?_
    refine ⟨_, rfl, p, rfl, ⟨_, hS⟩, fun D hD' => ?_⟩
    refine list_turns (xs := vs) (fun i H' => Same H H' ∧ H' D = some (.lst (((ds.map rowsB).take i).map V.bl))) ⟨same_new hD' _, upd_same⟩ (fun i H' _ h => h.1.seq hS) ?_ ?_
    · rintro i x H' hx ⟨s1, h1⟩
      obtain ⟨di, hdi, hxi⟩ := dpAll_get hD hx
      have hi : i < ds.length := (List.getElem?_eq_some_iff.mp hdi).1
      have hb : (ds.map rowsB)[i]? = some (rowsB di) := by rw [List.getElem?_map, hdi]; rfl
      refine ⟨rfl, _, rfl, x, di, rfl, dp_mono s1 _ _ hxi, (hin ds rfl di (List.mem_of_getElem? hdi)).1, (hin ds rfl di (List.mem_of_getElem? hdi)).2, fun H2 s2 => ⟨_, s2 _ _ h1, ?_, same_upd (s1.trans s2) hD', by rw [upd_same, take_bl _ hb]⟩⟩
      rw [List.length_map]
      exact Nat.lt_of_le_of_lt (List.length_take_le _ _) (Nat.lt_of_lt_of_le hi (Nat.le_trans hds (by decide)))
    · rintro H1 ⟨s1, h1⟩
      rw [hl, ← List.length_map (f := rowsB), List.take_length] at h1
      exact ⟨D, _, rfl, SqL.of h1, q _ s1⟩
end
end TA

set_option Elab.async false
set_option maxRecDepth 100000
set_option maxHeartbeats 4000000
namespace TA
open PySem L2 PyProof.Rows
set_option linter.unusedVariables false
def pairB : PyData → Bool
  | .tuple ds => decide (ds.length = 2) && (ds.map outB).all id
  | _ => false
def pairOf : PyData → List Int
  | .tuple ds => intsOf ds
  | _ => []
def risP (ps : List (List Int)) : Bool := ((List.range (ps.length - 1)).map fun i => HT.lexLt (ps.getD i []) (ps.getD (i + 1) [])).all id
def letB : PyData → Bool
  | .list ds => decide (0 < ds.length) && ((ds.map pairB).all id && risP (ds.map pairOf))
  | _ => false
def spPairB (K : PySem.W.Frag) : Sp := fun vs H Q _ => ∃ (v : V) (d : PyData), vs = [v] ∧ Dp K H v d ∧ ∀ H', Same H H' → Q (.bl (pairB d)) H'
/-- pairs of ints stand at these places -/
def PairsAt (K : PySem.W.Frag) (H : Hp) (xs : List V) (ps : List (List Int)) : Prop := xs.length = ps.length ∧ ∀ i : Nat, i < ps.length → ∃ a, xs[i]? = some (.ref a) ∧ SqT K H a ((ps.getD i []).map V.int)
def spRisP (K : PySem.W.Frag) : Sp := fun vs H Q _ => ∃ (p : Addr) (xs : List V) (ps : List (List Int)), vs = [.ref p] ∧ SqL K H p xs ∧ PairsAt K H xs ps ∧ 1 ≤ ps.length ∧ ps.length ≤ 1000 ∧ ∀ H', Same H H' → Q (.bl (risP ps)) H'
def spLetB (K : PySem.W.Frag) : Sp := fun vs H Q _ => ∃ (v : V) (d : PyData), vs = [v] ∧ Dp K H v d ∧ small d ∧ ∀ H', Same H H' → Q (.bl (letB d)) H'
theorem pairs_at {K : PySem.W.Frag} {H : Hp} {ds : List PyData} {vs : List V} (h : DpAll K H vs ds) (a : (ds.map pairB).all id = true) : PairsAt K H vs (ds.map pairOf) := by
  refine ⟨by rw [List.length_map]; exact dpAll_len h, fun i hi => ?_⟩
  rw [List.length_map] at hi
  have hl := dpAll_len h
  obtain ⟨d, hd, hx⟩ := dpAll_get h (List.getElem?_eq_getElem (show i < vs.length by omega))
  have hb : pairB d = true := by
    have := List.all_eq_true.mp a (pairB d) (List.mem_map.mpr ⟨d, List.mem_of_getElem? hd, rfl⟩)
    exact this
  cases d with
  | tuple es =>
    obtain ⟨_, b2⟩ := Bool.and_eq_true_iff.mp (show (decide (es.length = 2) && (es.map outB).all id) = true from hb)
    obtain ⟨t, xs, ex, ht, hes⟩ := dp_tup hx
    refine ⟨t, by rw [List.getElem?_eq_getElem (show i < vs.length by omega), ex], ?_⟩
    have e : (ds.map pairOf).getD i [] = intsOf es := by
      rw [List.getD_eq_getElem?_getD, List.getElem?_map, hd]; rfl
    rw [e, ← outs_ints hes b2]
    exact ht
  | _ => cases hb
section
variable {P : Program} {w : World} {K : PySem.W.Frag} {mg : Str → Option Value} {base : Heap}
theorem sc_outpair : FnScope ["thing", "x"] ["thing"] (defScope s_is_output_pair) := ⟨rfl, rfl, rfl, by decide +kernel, rfl, by decide +kernel, by decide +kernel⟩
theorem ok_outpair {f g1 : Addr} {fd d1 : FuncData} (F : Fun K "is_output_pair" "is_output_pair" s_is_output_pair f fd) (T : Txt K mg) (W : Def P w K mg base "is_output" ["thing"] 3 (spOut K) g1 d1) : FnOk P w K mg base CX0 4 f fd ["thing"] (spPairB K) := by
  refine F.ok sc_outpair (fun vs H Q E h => ?_) (fun cdv A outer s H vs Q E hr h => ?_)
  · obtain ⟨v, d, rfl, _⟩ := h
    rfl
  obtain ⟨v, d, rfl, hk, q⟩ := h
  have nd := sc_outpair.nd
  refine ⟨_, pss_one (ps_ret (pe_and (pe_callB call_isi (by rfl) T.isi boot_isinstance (pa_cons (pv 0) (pa_cons (pe_bltn (v := .ty "tuple") (by rfl) T.tuple boot_tuple rfl) pa_nil)))
    (pe_and (pe_cmpR op_eq (pe_callB call_len_seq (by rfl) T.len PySem.boot_len (pa_cons (pv 0) pa_nil)) pe_int (nomark _))
    (pe_one (pe_callB (cr_all rfl) (by rfl) T.all (by decide +kernel) (pa_cons
      (pe_lc (own := [("x", 1)]) (g := gName 1) (tt := tYes) (te := tCall (spOut K) [] E0 (tCons (tVar 1) tNil)) rfl nd (pi_tup (pv 0)) (blkOk_by (N := ["thing", "x"]) (sc := defScope s_is_output_pair) (by decide +kernel)) (fun _ _ _ _ _ => pg_name (i := 1) nd rfl (Or.inl rfl)) (fun _ _ _ _ _ => pts_nil)
        (fun _ _ _ _ _ => (by exact pe_call W.G hr rfl W.m W.k W.b .nil pass0 (pa_cons (pv 1) pa_nil)))) pa_nil)))))), ?_⟩
  refine ⟨_, rfl, v, .ty "tuple", _, _, isTupD d, rfl, .ty "tuple", dp_ty hk, kit_tup d, _, rfl, ?_⟩
  cases cl : isTupD d with
  | false =>
    have : pairB d = false := by cases d <;> first | rfl | cases cl
    rw [this] at q
    exact iteF (q _ (Same.refl H))
  | true =>
    obtain ⟨ds, rfl⟩ : ∃ ds, d = .tuple ds := by cases d <;> first | exact ⟨_, rfl⟩ | cases cl
    obtain ⟨p, vs, rfl, hS, hD⟩ := dp_tup hk
    have hl := dpAll_len hD
    have eO : pairB (.tuple ds) = (decide (ds.length = 2) && (ds.map outB).all id) := rfl
    refine iteT ⟨_, rfl, p, _, rfl, .inr hS, rfl, _, rfl, ?_⟩
    by_cases c : ds.length = 2
    case neg =>
      rw [eO, decide_eq_false c, Bool.false_and] at q
      refine iteF' (decide_eq_false fun e => by injection e with e; omega) ?_
      exact q _ (Same.refl H)
    rw [eO, decide_eq_true c, Bool.true_and] at q
    refine iteT' (decide_eq_true (by rw [hl, c]; rfl)) ?_
    refine ⟨_, rfl, p, rfl, ⟨_, hS⟩, fun D hD' => ?_⟩
    refine tup_turns (xs := vs) (fun i H' => Same H H' ∧ H' D = some (.lst (((ds.map outB).take i).map V.bl))) ⟨same_new hD' _, upd_same⟩ (fun i H' _ h => seqT_mono h.1 hS) ?_ ?_
    · rintro i x H' hx ⟨s1, h1⟩
      obtain ⟨di, hdi, hxi⟩ := dpAll_get hD hx
      have hi : i < ds.length := (List.getElem?_eq_some_iff.mp hdi).1
      have hb : (ds.map outB)[i]? = some (outB di) := by rw [List.getElem?_map, hdi]; rfl
      refine ⟨rfl, _, rfl, x, di, rfl, dp_mono s1 _ _ hxi, _, h1, ?_, same_upd s1 hD', by rw [upd_same, take_bl _ hb]⟩
      rw [List.length_map]
      exact Nat.lt_of_le_of_lt (List.length_take_le _ _) (Nat.lt_of_lt_of_le hi (by rw [c]; decide))
    · rintro H1 ⟨s1, h1⟩
      rw [hl, ← List.length_map (f := outB), List.take_length] at h1
      exact ⟨D, _, rfl, SqL.of h1, q _ s1⟩
theorem ok_risP {f : Addr} {fd : FuncData} (F : Fun K "is_rising" "is_rising" s_is_rising f fd) (T : Txt K mg) : FnOk P w K mg base CX0 1 f fd ["things"] (spRisP K) := by
  refine F.ok scRis (fun vs H Q E h => ?_) (fun cdv A outer s H vs Q E hr h => ?_)
  · obtain ⟨p, xs, ps, rfl, _⟩ := h
    rfl
  obtain ⟨p, xs, ps, rfl, hS, ⟨hl, hp⟩, n1, n2, q⟩ := h
  have nd := scRis.nd
  refine ⟨_, pss_one (ps_ret (pe_callB (cr_all rfl) (by rfl) T.all (by decide +kernel) (pa_cons
      (pe_lc (own := [("at", 1)]) (g := gName 1) (tt := tYes) (te := tOp (rLtT K) (tOp (rIxL K) (tVar 0) (tVar 1)) (tOp (rIxL K) (tVar 0) (tOp (rI0 fun i j => .int (i + j)) (tVar 1) (tC (.int 1))))) rfl nd
        (pi_range1 (by rfl) T.range (pa_cons (pe_op op_sub (pe_callB call_len_seq (by rfl) T.len PySem.boot_len (pa_cons (pv 0) pa_nil)) pe_int) pa_nil))
        (blkOk_by (N := ["things", "at"]) (sc := defScope s_is_rising) (by decide +kernel)) (fun _ _ _ _ _ => pg_name (i := 1) nd rfl (Or.inl rfl)) (fun _ _ _ _ _ => pts_nil)
        (fun _ _ _ _ _ => (by refine pe_cmpR (op_ltT ?_) ?_ ?_ (nomark _); (have := hr.un; show (A.deeper (envOfC "is_rising" (defScope s_is_rising) s.heap.objs.size f cdv)).units < cLine; omega); (exact pe_ix ix_list (pv 0) (pv 1) (fun _ _ => rfl)); (exact pe_ix ix_list (pv 0) (pe_op op_add (pv 1) pe_int) (fun _ _ => rfl))))) pa_nil))), ?_⟩
  refine ⟨_, rfl, p, _, rfl, .inl hS, _, _, rfl, rfl, ?_⟩
  rw [hl]
  have e1 : ((ps.length : Nat) : Int) - 1 = ((ps.length - 1 : Nat) : Int) := by omega
  refine ⟨((ps.length - 1 : Nat) : Int), congrArg (fun z => [V.int z]) e1, by omega, by omega, fun D hD => ?_⟩
  refine range_turns (n := ps.length - 1) (fun i H' => Same H H' ∧ H' D = some (.lst ((((List.range (ps.length - 1)).map fun i => HT.lexLt (ps.getD i []) (ps.getD (i + 1) [])).take i).map V.bl))) ⟨same_new hD _, upd_same⟩ ?_ ?_
  · rintro i H' hi ⟨s1, h1⟩
    have ei : (0 : Int) + (i : Int) = (i : Int) := by omega
    rw [ei]
    obtain ⟨a0, g0, t0⟩ := hp i (by omega)
    obtain ⟨a1, g1, t1⟩ := hp (i + 1) (by omega)
    have hb : ((List.range (ps.length - 1)).map fun i => HT.lexLt (ps.getD i []) (ps.getD (i + 1) []))[i]? = some (HT.lexLt (ps.getD i []) (ps.getD (i + 1) [])) := by
      rw [List.getElem?_map, List.getElem?_range hi]; rfl
    refine ⟨rfl, _, rfl, _, rfl, p, _, _, _, rfl, rfl, s1.seq hS, atI_nat g0, _, rfl, _, rfl, _, _, rfl, rfl, p, _, _, _, rfl, rfl, s1.seq hS, (by rw [show (i : Int) + 1 = ((i + 1 : Nat) : Int) by omega]; exact atI_nat g1), a0, a1, _, _, rfl, rfl, seqT_mono s1 t0, seqT_mono s1 t1, _, h1, ?_, same_upd s1 hD, by rw [upd_same, take_bl _ hb]⟩
    rw [List.length_map]
    exact Nat.lt_of_le_of_lt (List.length_take_le _ _) (Nat.lt_of_lt_of_le hi (Nat.le_trans (by omega) (show 1000 ≤ sizeLine by decide)))
  · rintro H' ⟨s1, h1⟩
    rw [List.take_of_length_le (by rw [List.length_map, List.length_range]; exact Nat.le_refl _)] at h1
    exact ⟨D, _, rfl, SqL.of h1, q _ s1⟩
end
end TA

set_option Elab.async false
set_option maxRecDepth 100000
set_option maxHeartbeats 4000000
namespace TA
open PySem L2 PyProof.Rows
set_option linter.unusedVariables false
section
variable {P : Program} {w : World} {K : PySem.W.Frag} {mg : Str → Option Value} {base : Heap}
theorem sc_let : FnScope ["thing", "x"] ["thing"] (defScope s_is_let) := ⟨rfl, rfl, rfl, by decide +kernel, rfl, by decide +kernel, by decide +kernel⟩
theorem ok_let {f g1 g2 : Addr} {fd d1 d2 : FuncData} (F : Fun K "is_let" "is_let" s_is_let f fd) (T : Txt K mg) (W : Def P w K mg base "is_output_pair" ["thing"] 4 (spPairB K) g1 d1) (R : Def P w K mg base "is_rising" ["things"] 1 (spRisP K) g2 d2) : FnOk P w K mg base CX0 5 f fd ["thing"] (spLetB K) := by
  refine F.ok sc_let (fun vs H Q E h => ?_) (fun cdv A outer s H vs Q E hr h => ?_)
  · obtain ⟨v, d, rfl, _⟩ := h
    rfl
  obtain ⟨v, d, rfl, hk, hz, q⟩ := h
  have nd := sc_let.nd
  refine ⟨_, pss_one (ps_ret (pe_and (pe_callB call_isi (by rfl) T.isi boot_isinstance (pa_cons (pv 0) (pa_cons (pe_bltn (v := .ty "list") (by rfl) T.list boot_list rfl) pa_nil)))
    (pe_and (pe_cmpR op_gt (pe_callB call_len_seq (by rfl) T.len PySem.boot_len (pa_cons (pv 0) pa_nil)) pe_int (nomark _))
    (pe_and (pe_callB (cr_all rfl) (by rfl) T.all (by decide +kernel) (pa_cons
      (pe_lc (own := [("x", 1)]) (g := gName 1) (tt := tYes) (te := tCall (spPairB K) [] E0 (tCons (tVar 1) tNil)) rfl nd (pi_list (pv 0)) (blkOk_by (N := ["thing", "x"]) (sc := defScope s_is_let) (by decide +kernel)) (fun _ _ _ _ _ => pg_name (i := 1) nd rfl (Or.inl rfl)) (fun _ _ _ _ _ => pts_nil)
        (fun _ _ _ _ _ => (by exact pe_call W.G hr rfl W.m W.k W.b .nil pass0 (pa_cons (pv 1) pa_nil)))) pa_nil))
    (pe_one (pe_call R.G (hr.mono (by decide)) rfl R.m R.k R.b .nil pass0 (pa_cons (pv 0) pa_nil))))))), ?_⟩
  refine ⟨_, rfl, v, .ty "list", _, _, isLstD d, rfl, .ty "list", dp_ty hk, kit_lst d, _, rfl, ?_⟩
  cases cl : isLstD d with
  | false =>
    have : letB d = false := by cases d <;> first | rfl | cases cl
    rw [this] at q
    exact iteF (q _ (Same.refl H))
  | true =>
    obtain ⟨ds, rfl⟩ : ∃ ds, d = .list ds := by cases d <;> first | exact ⟨_, rfl⟩ | cases cl
    obtain ⟨p, vs, rfl, hS, hD⟩ : ∃ t vs, v = .ref t ∧ SqL K H t vs ∧ DpAll K H vs ds := by
      cases hk with
      | lst a b => exact ⟨_, _, rfl, a, b⟩
    have hl := dpAll_len hD
    have hds := hz ds rfl
    have eO : letB (.list ds) = (decide (0 < ds.length) && ((ds.map pairB).all id && risP (ds.map pairOf))) := rfl
    refine iteT ⟨_, rfl, p, _, rfl, .inl hS, _, _, rfl, rfl, ?_⟩
    by_cases c : 0 < ds.length
    case neg =>
      rw [eO, decide_eq_false c, Bool.false_and] at q
      refine ⟨_, rfl, iteF' (decide_eq_false (by omega)) ?_⟩
      exact q _ (Same.refl H)
    rw [eO, decide_eq_true c, Bool.true_and] at q
    refine ⟨_, rfl, iteT' (decide_eq_true (by omega)) ?_⟩
    refine ⟨_, rfl, p, rfl, ⟨_, hS⟩, fun D hD' => ?_⟩
    refine list_turns (xs := vs) (fun i H' => Same H H' ∧ H' D = some (.lst (((ds.map pairB).take i).map V.bl))) ⟨same_new hD' _, upd_same⟩ (fun i H' _ h => h.1.seq hS) ?_ ?_
    · rintro i x H' hx ⟨s1, h1⟩
      obtain ⟨di, hdi, hxi⟩ := dpAll_get hD hx
      have hi : i < ds.length := (List.getElem?_eq_some_iff.mp hdi).1
      have hb : (ds.map pairB)[i]? = some (pairB di) := by rw [List.getElem?_map, hdi]; rfl
      refine ⟨rfl, _, rfl, x, di, rfl, dp_mono s1 _ _ hxi, fun H2 s2 => ⟨_, s2 _ _ h1, ?_, same_upd (s1.trans s2) hD', by rw [upd_same, take_bl _ hb]⟩⟩
      rw [List.length_map]
      exact Nat.lt_of_le_of_lt (List.length_take_le _ _) (Nat.lt_of_lt_of_le hi (Nat.le_trans hds (by decide)))
    · rintro H1 ⟨s1, h1⟩
      rw [hl, ← List.length_map (f := pairB), List.take_length] at h1
      refine ⟨D, _, rfl, SqL.of h1, _, rfl, ?_⟩
      cases ca : (ds.map pairB).all id with
      | false =>
        rw [ca, Bool.false_and] at q
        exact iteF (q _ s1)
      | true =>
        rw [ca, Bool.true_and] at q
        have hp := pairs_at (dpAll_mono s1 _ _ hD) ca
        have li : (ds.map pairOf).length = ds.length := List.length_map _
        exact iteT ⟨_, rfl, p, vs, ds.map pairOf, rfl, s1.seq hS, hp, by omega, by omega, fun H2 s2 => q _ (s1.trans s2)⟩
end
end TA

set_option Elab.async false
set_option maxRecDepth 100000
set_option maxHeartbeats 4000000
namespace TA
open PySem L2 PyProof.Rows
set_option linter.unusedVariables false
/-- a pair of inputs, so many of each hand -/
def inB (n0 n1 : Nat) : PyData → Bool
  | .tuple [x, y] => within x 0 ((n0 : Int) - 1) && within y 0 ((n1 : Int) - 1)
  | _ => false
theorem inB_no {n0 n1 : Nat} {d : PyData} (h : ∀ x y, d ≠ .tuple [x, y]) : inB n0 n1 d = false := by
  match d, h with
  | .tuple [x, y], h => exact absurd rfl (h x y)
  | .tuple [], _ | .tuple [_], _ | .tuple (_ :: _ :: _ :: _), _ | .none, _ | .bool _, _ | .int _, _ | .str _, _ | .list _, _ | .dict _, _ => rfl
theorem tup_cases (d : PyData) : (∃ x y, d = .tuple [x, y]) ∨ (∀ x y, d ≠ .tuple [x, y]) := by
  match d with
  | .tuple [x, y] => exact .inl ⟨x, y, rfl⟩
  | .tuple [] | .tuple [_] | .tuple (_ :: _ :: _ :: _) | .none | .bool _ | .int _ | .str _ | .list _ | .dict _ => exact .inr (fun x y e => by cases e)
theorem dp_pair {K : PySem.W.Frag} {H : Hp} {v : V} {d : PyData} (h : Dp K H v d) : (∃ a x y e f, v = .ref a ∧ d = .tuple [e, f] ∧ SqT K H a [x, y] ∧ Dp K H x e ∧ Dp K H y f) ∨ ((∀ x y, d ≠ .tuple [x, y]) ∧ (isTupD d = false ∨ (isTupD d = true ∧ ∃ a xs, v = .ref a ∧ SqT K H a xs ∧ xs.length ≠ 2))) := by
  rcases tup_cases d with ⟨e, f, rfl⟩ | hn
  · left
    obtain ⟨a, xs, rfl, hs, ha⟩ := dp_tup h
    cases ha with
    | cons h1 h2 =>
      cases h2 with
      | cons h2 h3 =>
        cases h3
        exact ⟨_, _, _, _, _, rfl, rfl, hs, h1, h2⟩
  · right
    refine ⟨hn, ?_⟩
    cases h with
    | @tup a xs ds h1 h2 =>
      refine .inr ⟨rfl, a, xs, rfl, h1, fun e => ?_⟩
      have el := dpAll_len h2
      rw [e] at el
      match ds, el, hn with
      | [x, y], _, hn => exact hn x y rfl
    | _ => exact .inl rfl
/-- the outputs let alone, as two lists of rows -/
structure AloneAt (K : PySem.W.Frag) (H : Hp) (al : Addr) (n0 n1 : Nat) : Prop where
  ex : ∃ (r0 r1 : Addr) (xs0 xs1 : List V), SqL K H al [.ref r0, .ref r1] ∧ SqL K H r0 xs0 ∧ SqL K H r1 xs1 ∧ xs0.length = n0 ∧ xs1.length = n1
theorem AloneAt.mono {K : PySem.W.Frag} {H H' : Hp} {al : Addr} {n0 n1 : Nat} (s : Same H H') (h : AloneAt K H al n0 n1) : AloneAt K H' al n0 n1 := by
  obtain ⟨r0, r1, xs0, xs1, a, b, c, d⟩ := h.ex
  exact ⟨r0, r1, xs0, xs1, s.seq a, s.seq b, s.seq c, d⟩
def spInp (K : PySem.W.Frag) : Sp := fun vs H Q _ => ∃ (v : V) (d : PyData) (al : Addr) (n0 n1 : Nat), vs = [v, .ref al] ∧ Dp K H v d ∧ AloneAt K H al n0 n1 ∧ ∀ H', Same H H' → Q (.bl (inB n0 n1 d)) H'
structure TxtH (K : PySem.W.Frag) (mg : Str → Option Value) : Prop where
  hands : ∃ hA, mg "HANDS" = some (.ref hA) ∧ ∀ H, SqT K H hA [.int 0, .int 1]
section
variable {P : Program} {w : World} {K : PySem.W.Frag} {mg : Str → Option Value} {base : Heap}
abbrev nInp : List Str := ["thing", "alone", "hand"]
theorem sc_inp : FnScope nInp ["thing", "alone"] (defScope s_is_input_pair) := ⟨rfl, rfl, rfl, by decide +kernel, rfl, by decide +kernel, by decide +kernel⟩
theorem ok_inp {f g1 : Addr} {fd d1 : FuncData} (F : Fun K "is_input_pair" "is_input_pair" s_is_input_pair f fd) (T : Txt K mg) (U : TxtH K mg) (W : Def P w K mg base "is_whole_within" ["thing", "least", "most"] 2 (spWithinG K) g1 d1) : FnOk P w K mg base CX0 3 f fd ["thing", "alone"] (spInp K) := by
  refine F.ok sc_inp (fun vs H Q E h => ?_) (fun cdv A outer s H vs Q E hr h => ?_)
  · obtain ⟨v, d, al, n0, n1, rfl, _⟩ := h
    rfl
  obtain ⟨v, d, al, n0, n1, rfl, hk, hA, q⟩ := h
  obtain ⟨hT, mH, hH⟩ := U.hands
  have nd := sc_inp.nd
  refine ⟨_, pss_one (ps_ret (pe_and (pe_callB call_isi (by rfl) T.isi boot_isinstance (pa_cons (pv 0) (pa_cons (pe_bltn (v := .ty "tuple") (by rfl) T.tuple boot_tuple rfl) pa_nil)))
    (pe_and (pe_cmpR op_eq (pe_callB call_len_seq (by rfl) T.len PySem.boot_len (pa_cons (pv 0) pa_nil)) pe_int (nomark _))
    (pe_one (pe_callB (cr_all rfl) (by rfl) T.all (by decide +kernel) (pa_cons
      (pe_lc (own := [("hand", 2)]) (g := gName 2) (tt := tYes) (te := tCall (spWithinG K) [] E0 (tCons (tOp (rIxT K) (tVar 0) (tVar 2)) (tCons (tC (.int 0)) (tCons (tOp (rI0 fun i j => .int (i - j)) (tCB (fun xs H Q => ∃ p ys, xs = [.ref p] ∧ (SqL K H p ys ∨ SqT K H p ys) ∧ Q (.int ys.length) H) (tCons (tOp (rIxL K) (tVar 1) (tVar 2)) tNil)) (tC (.int 1))) tNil)))) rfl nd
        (pi_tup (pe_glob (v := .ref hT) rfl mH rfl)) (blkOk_by (N := nInp) (sc := defScope s_is_input_pair) (by decide +kernel)) (fun _ _ _ _ _ => pg_name (i := 2) nd rfl (Or.inl rfl)) (fun _ _ _ _ _ => pts_nil)
        (fun _ _ _ _ _ => (by refine pe_call W.G hr rfl W.m W.k W.b .nil pass0 (pa_cons ?_ (pa_cons pe_int (pa_cons (pe_op op_sub ?_ pe_int) pa_nil))); (exact pe_ix ix_tup (pv 0) (pv 2) (fun _ _ => rfl)); (refine pe_callB call_len_seq (by rfl) T.len PySem.boot_len (pa_cons ?_ pa_nil); (exact pe_ix ix_list (pv 1) (pv 2) (fun _ _ => rfl)))))) pa_nil)))))), ?_⟩
  rcases dp_pair hk with ⟨a, x, y, e, g, rfl, rfl, ha, hx, hy⟩ | ⟨hn, c2 | ⟨c2, a, xs, rfl, ha, hl⟩⟩
  case inr.inl =>
    rw [inB_no hn] at q
    exact ⟨_, rfl, v, V.ty "tuple", _, _, false, rfl, .ty "tuple", dp_ty hk, (by rw [kit_tup, c2]), _, rfl, iteF (q _ (Same.refl H))⟩
  case inr.inr =>
    rw [inB_no hn] at q
    refine ⟨_, rfl, V.ref a, V.ty "tuple", _, _, true, rfl, .ty "tuple", dp_ty hk, (by rw [kit_tup, c2]), _, rfl, iteT ?_⟩
    refine ⟨_, rfl, a, _, rfl, .inr ha, rfl, _, rfl, iteF' (decide_eq_false fun e => hl (by injection e with e; omega)) ?_⟩
    exact q _ (Same.refl H)
  refine ⟨_, rfl, V.ref a, V.ty "tuple", _, _, true, rfl, .ty "tuple", dp_ty hk, kit_tup _, _, rfl, iteT ?_⟩
  refine ⟨_, rfl, a, _, rfl, .inr ha, rfl, _, rfl, iteT ?_⟩
  obtain ⟨r0, r1, xs0, xs1, k1, k2, k3, rfl, rfl⟩ := hA.ex
  refine ⟨hT, rfl, ⟨_, hH H⟩, fun D hD => ?_⟩
  refine tup_turns (xs := [V.int 0, V.int 1]) (fun i H' => Same H H' ∧ H' D = some (.lst (([within e 0 ((xs0.length : Int) - 1), within g 0 ((xs1.length : Int) - 1)].take i).map V.bl))) ⟨same_new hD _, upd_same⟩ (fun i H' _ _ => hH H') ?_ ?_
  · rintro i z H' hz ⟨s1, h1⟩
    rcases i with _ | _ | i
    · obtain rfl : z = .int 0 := by simpa using hz.symm
      exact ⟨rfl, _, rfl, _, rfl, a, _, _, _, rfl, rfl, seqT_mono s1 ha, (by rfl), _, rfl, _, rfl, al, _, _, _, rfl, rfl, s1.seq k1, (by rfl), r0, _, rfl, .inl (s1.seq k2), _, _, rfl, rfl, x, e, 0, _, rfl, dp_mono s1 _ _ hx, _, h1, (by show 0 < sizeLine; decide), same_upd s1 hD, by rw [upd_same]; rfl⟩
    · obtain rfl : z = .int 1 := by simpa using hz.symm
      exact ⟨rfl, _, rfl, _, rfl, a, _, _, _, rfl, rfl, seqT_mono s1 ha, (by rfl), _, rfl, _, rfl, al, _, _, _, rfl, rfl, s1.seq k1, (by rfl), r1, _, rfl, .inl (s1.seq k3), _, _, rfl, rfl, y, g, 0, _, rfl, dp_mono s1 _ _ hy, _, h1, (by show 1 < sizeLine; decide), same_upd s1 hD, by rw [upd_same]; rfl⟩
    · simp at hz
  · rintro H' ⟨s1, h1⟩
    refine ⟨D, _, rfl, SqL.of h1, ?_⟩
    have z := q _ s1
    have e2 : inB xs0.length xs1.length (.tuple [e, g]) = (within e 0 ((xs0.length : Int) - 1) && within g 0 ((xs1.length : Int) - 1)) := rfl
    rw [e2] at z
    show Q (.bl (_ && (_ && true))) H'
    rw [Bool.and_true]
    exact z
end
end TA

set_option Elab.async false
set_option maxRecDepth 100000
set_option maxHeartbeats 4000000
namespace TA
open PySem L2 PyProof.Rows
set_option linter.unusedVariables false
/-! a task's things in the heap -/
inductive A2 {α β : Type} (R : α → β → Prop) : List α → List β → Prop
  | nil : A2 R [] []
  | cons {x y xs ys} : R x y → A2 R xs ys → A2 R (x :: xs) (y :: ys)
theorem A2.len {α β : Type} {R : α → β → Prop} : ∀ {xs : List α} {ys : List β}, A2 R xs ys → xs.length = ys.length
  | _, _, .nil => rfl
  | _, _, .cons _ b => congrArg (· + 1) b.len
theorem A2.imp {α β : Type} {R S : α → β → Prop} (f : ∀ x y, R x y → S x y) : ∀ {xs : List α} {ys : List β}, A2 R xs ys → A2 S xs ys
  | _, _, .nil => .nil
  | _, _, .cons a b => .cons (f _ _ a) (b.imp f)
theorem A2.get {α β : Type} {R : α → β → Prop} : ∀ {xs : List α} {ys : List β} {i : Nat} {x : α}, A2 R xs ys → xs[i]? = some x → ∃ y, ys[i]? = some y ∧ R x y
  | _, _, i, _, .nil, e => by simp at e
  | _, _, 0, _, .cons a _, e => ⟨_, rfl, by simp at e; rw [← e]; exact a⟩
  | _, _, i + 1, x, .cons _ b, e => by
    obtain ⟨y, h1, h2⟩ := A2.get (i := i) (x := x) b (by simpa using e)
    exact ⟨y, by simpa using h1, h2⟩
theorem A2.at {α β : Type} {R : α → β → Prop} {xs : List α} {ys : List β} {i : Nat} {y : β} (h : A2 R xs ys) (e : ys[i]? = some y) : ∃ x, xs[i]? = some x ∧ R x y := by
  have hi : i < xs.length := by rw [h.len]; exact (List.getElem?_eq_some_iff.mp e).1
  obtain ⟨y', h1, h2⟩ := h.get (List.getElem?_eq_getElem hi)
  rw [e] at h1
  cases h1
  exact ⟨_, List.getElem?_eq_getElem hi, h2⟩
theorem A2.snoc {α β : Type} {R : α → β → Prop} : ∀ {xs : List α} {ys : List β} {x : α} {y : β}, A2 R xs ys → R x y → A2 R (xs ++ [x]) (ys ++ [y])
  | _, _, _, _, .nil, h => .cons h .nil
  | _, _, _, _, .cons a b, h => .cons a (b.snoc h)
theorem A2.mem {α β : Type} {R : α → β → Prop} {xs : List α} {ys : List β} {x : α} (h : A2 R xs ys) (m : x ∈ xs) : ∃ y, y ∈ ys ∧ R x y := by
  obtain ⟨i, e⟩ := List.getElem?_of_mem m
  obtain ⟨y, e2, r⟩ := h.get e
  exact ⟨y, List.mem_of_getElem? e2, r⟩
theorem A2.ofMap {α β γ : Type} {R : α → β → Prop} (f : γ → α) (g : γ → β) : ∀ (zs : List γ), (∀ z ∈ zs, R (f z) (g z)) → A2 R (zs.map f) (zs.map g)
  | [], _ => .nil
  | z :: zs, h => .cons (h z List.mem_cons_self) (A2.ofMap f g zs fun x m => h x (List.mem_cons_of_mem _ m))
/-- a pair of ints, a list of ints, rows of these, what is let alone, pairs let -/
def TpAt (H : Hp) (v : V) (p : Int × Int) : Prop := ∃ t, v = .ref t ∧ H t = some (.tup [.int p.1, .int p.2])
def RowAt (H : Hp) (v : V) (row : List Int) : Prop := ∃ t, v = .ref t ∧ H t = some (.lst (row.map .int))
def RowsAt (H : Hp) (v : V) (rows : List (List Int)) : Prop := ∃ t xs, v = .ref t ∧ H t = some (.lst xs) ∧ A2 (RowAt H) xs rows
def AlAt (H : Hp) (v : V) (al : Nat → List (List Int)) : Prop := ∃ t x0 x1, v = .ref t ∧ H t = some (.lst [x0, x1]) ∧ RowsAt H x0 (al 0) ∧ RowsAt H x1 (al 1)
def LetAt (H : Hp) (v : V) (l : List (Int × Int)) : Prop := ∃ t xs, v = .ref t ∧ H t = some (.lst xs) ∧ A2 (TpAt H) xs l
/-- pairs of inputs -/
abbrev IP := Nat × Nat
def kI (p : IP) : List Key := [.inl (p.1 : Int), .inl (p.2 : Int)]
def iI (p : IP) : Int × Int := ((p.1 : Int), (p.2 : Int))
abbrev BD := List (IP × List (Int × Int))
def EnAt (H : Hp) (e : List Key × V) (b : IP × List (Int × Int)) : Prop := e.1 = kI b.1 ∧ LetAt H e.2 b.2
def BoAt (H : Hp) (d : Addr) (bo : BD) : Prop := ∃ kvs, H d = some (.dT kvs) ∧ A2 (EnAt H) kvs bo
/-- what is no dict stands as it stood -/
def flatO (o : HO) : Prop := (∃ xs, o = .lst xs) ∨ (∃ xs, o = .tup xs)
def Kp (H H' : Hp) : Prop := ∀ b o, flatO o → H b = some o → H' b = some o
theorem Kp.lst {H H' : Hp} (s : Kp H H') {b xs} (e : H b = some (.lst xs)) : H' b = some (.lst xs) := s _ _ (.inl ⟨_, rfl⟩) e
theorem Kp.tup {H H' : Hp} (s : Kp H H') {b xs} (e : H b = some (.tup xs)) : H' b = some (.tup xs) := s _ _ (.inr ⟨_, rfl⟩) e
theorem Kp.refl (H : Hp) : Kp H H := fun _ _ _ e => e
theorem Kp.trans {H H1 H2 : Hp} (s : Kp H H1) (t : Kp H1 H2) : Kp H H2 := fun b o f e => t b o f (s b o f e)
theorem Kp.same {H H' : Hp} (s : Same H H') : Kp H H' := fun b o _ e => s b o e
theorem Kp.put {H : Hp} {d : Addr} {u : HO} {o : HO} (e : H d = some u) (n : ¬ flatO u) : Kp H (upd H d o) := fun b x f h => by
  by_cases c : b = d
  · subst c
    rw [e] at h
    cases h
    exact absurd f n
  · rw [upd_ne c]; exact h
theorem nf_dT {k : List (List Key × V)} : ¬ flatO (.dT k) := by rintro (⟨_, h⟩ | ⟨_, h⟩) <;> cases h
theorem nf_frz {o u} : ¬ flatO (.frz o u) := by rintro (⟨_, h⟩ | ⟨_, h⟩) <;> cases h
theorem TpAt.mono {H H' : Hp} (s : Kp H H') {v : V} {p : Int × Int} (h : TpAt H v p) : TpAt H' v p := by
  obtain ⟨t, e, h⟩ := h
  exact ⟨t, e, s.tup h⟩
theorem RowAt.mono {H H' : Hp} (s : Kp H H') {v : V} {p} (h : RowAt H v p) : RowAt H' v p := by
  obtain ⟨t, e, h⟩ := h
  exact ⟨t, e, s.lst h⟩
theorem RowsAt.mono {H H' : Hp} (s : Kp H H') {v : V} {p} (h : RowsAt H v p) : RowsAt H' v p := by
  obtain ⟨t, xs, e, h, a⟩ := h
  exact ⟨t, xs, e, s.lst h, a.imp fun _ _ r => r.mono s⟩
theorem AlAt.mono {H H' : Hp} (s : Kp H H') {v : V} {p} (h : AlAt H v p) : AlAt H' v p := by
  obtain ⟨t, x0, x1, e, h, a, b⟩ := h
  exact ⟨t, x0, x1, e, s.lst h, a.mono s, b.mono s⟩
theorem LetAt.mono {H H' : Hp} (s : Kp H H') {v : V} {p} (h : LetAt H v p) : LetAt H' v p := by
  obtain ⟨t, xs, e, h, a⟩ := h
  exact ⟨t, xs, e, s.lst h, a.imp fun _ _ r => r.mono s⟩
theorem EnAt.mono {H H' : Hp} (s : Kp H H') {v} {p} (h : EnAt H v p) : EnAt H' v p := ⟨h.1, h.2.mono s⟩
theorem BoAt.mono {H H' : Hp} (s : Same H H') {v} {p} (h : BoAt H v p) : BoAt H' v p := by
  obtain ⟨kvs, h, a⟩ := h
  exact ⟨kvs, s _ _ h, a.imp fun _ _ r => r.mono (.same s)⟩
def But (a : Addr) (H H' : Hp) : Prop := ∀ b o, b ≠ a → H b = some o → H' b = some o
theorem But.trans {a : Addr} {H H1 H2 : Hp} (h : But a H H1) (g : But a H1 H2) : But a H H2 := fun b o e q => g b o e (h b o e q)
theorem But.same {a : Addr} {H H' : Hp} (s : Same H H') : But a H H' := fun b o _ q => s b o q
theorem But.at {a : Addr} {H : Hp} {o : HO} : But a H (upd H a o) := fun b u nb e => by rw [upd_ne nb]; exact e
theorem But.kp {d : Addr} {H H' : Hp} {u : HO} (e : H d = some u) (n : ¬ flatO u) (s : But d H H') : Kp H H' := fun b x f h => s b x (fun c => by subst c; rw [e] at h; cases h; exact n f) h
/-- a dict that was locked and is unlocked again -/
theorem But.unlock {d : Addr} {H H' : Hp} {u : HO} (e : H d = some u) (s : But d H H') : Same H (upd H' d u) := fun b x h => by
  by_cases c : b = d
  · subst c
    rw [e] at h
    cases h
    exact upd_same
  · rw [upd_ne c]; exact s b x c h
theorem But.new {d p : Addr} {H0 H : Hp} {o : HO} (s : But d H0 H) (f : H0 p = none) : But d H0 (upd H p o) := fun b u nb e => by
  rw [upd_ne (ne_of_none e f)]
  exact s b u nb e
/-! the same as data -/
def pairD (p : Int × Int) : PyData := .tuple [.int p.1, .int p.2]
def rowD (row : List Int) : PyData := .list (row.map .int)
def rowsD (rows : List (List Int)) : PyData := .list (rows.map rowD)
def alD (al : Nat → List (List Int)) : PyData := .list [rowsD (al 0), rowsD (al 1)]
def letD (l : List (Int × Int)) : PyData := .list (l.map pairD)
theorem dp_ints {K : PySem.W.Frag} {H : Hp} : ∀ (row : List Int), DpAll K H (row.map V.int) (row.map PyData.int)
  | [] => .nil
  | i :: r => .cons (.int i) (dp_ints r)
theorem A2.dp {K : PySem.W.Frag} {H : Hp} {α : Type} {R : V → α → Prop} (f : α → PyData) (g : ∀ x y, R x y → Dp K H x (f y)) : ∀ {xs : List V} {ys : List α}, A2 R xs ys → DpAll K H xs (ys.map f)
  | _, _, .nil => .nil
  | _, _, .cons a b => .cons (g _ _ a) (b.dp f g)
theorem TpAt.dp {K : PySem.W.Frag} {H : Hp} {v : V} {p} (h : TpAt H v p) : Dp K H v (pairD p) := by
  obtain ⟨t, rfl, h⟩ := h
  exact .tup (SqT.of h) (.cons (.int _) (.cons (.int _) .nil))
theorem RowAt.dp {K : PySem.W.Frag} {H : Hp} {v : V} {p} (h : RowAt H v p) : Dp K H v (rowD p) := by
  obtain ⟨t, rfl, h⟩ := h
  exact .lst (SqL.of h) (dp_ints p)
theorem RowsAt.dp {K : PySem.W.Frag} {H : Hp} {v : V} {p} (h : RowsAt H v p) : Dp K H v (rowsD p) := by
  obtain ⟨t, xs, rfl, h, a⟩ := h
  exact .lst (SqL.of h) (a.dp rowD fun _ _ r => r.dp)
theorem AlAt.dp {K : PySem.W.Frag} {H : Hp} {v : V} {p} (h : AlAt H v p) : Dp K H v (alD p) := by
  obtain ⟨t, x0, x1, rfl, h, a, b⟩ := h
  exact .lst (SqL.of h) (.cons a.dp (.cons b.dp .nil))
theorem LetAt.dp {K : PySem.W.Frag} {H : Hp} {v : V} {p} (h : LetAt H v p) : Dp K H v (letD p) := by
  obtain ⟨t, xs, rfl, h, a⟩ := h
  exact .lst (SqL.of h) (a.dp pairD fun _ _ r => r.dp)
/-! what is drawn -/
def ltP (p q : Int × Int) : Prop := p.1 < q.1 ∨ (p.1 = q.1 ∧ p.2 < q.2)
def ltN (p q : IP) : Prop := p.1 < q.1 ∨ (p.1 = q.1 ∧ p.2 < q.2)
def okOut (x : Int) : Prop := 0 ≤ x ∧ x ≤ 63
def okRow (row : List Int) : Prop := 1 ≤ row.length ∧ row.length ≤ 60 ∧ row.Pairwise (· < ·) ∧ ∀ x ∈ row, okOut x
def okLet (l : List (Int × Int)) : Prop := 1 ≤ l.length ∧ l.length ≤ 200 ∧ l.Pairwise ltP ∧ ∀ p ∈ l, okOut p.1 ∧ okOut p.2
structure TD where
  al : Nat → List (List Int)
  bo : BD
structure WF (T : TD) : Prop where
  n0 : ∀ h, h < 2 → 1 ≤ (T.al h).length ∧ (T.al h).length ≤ 20
  row : ∀ h, h < 2 → ∀ r ∈ T.al h, okRow r
  srt : (T.bo.map (·.1)).Pairwise (· ≠ ·)
  rng : ∀ e ∈ T.bo, e.1.1 < (T.al 0).length ∧ e.1.2 < (T.al 1).length
  lets : ∀ e ∈ T.bo, okLet e.2
  com0 : ∀ a, a < (T.al 0).length → ∃ e ∈ T.bo, e.1.1 = a
  com1 : ∀ a, a < (T.al 1).length → ∃ e ∈ T.bo, e.1.2 = a
  many : T.bo.length ≤ 60
/-! the checks say yes to what is drawn -/
theorem risI_yes {ns : List Int} (h : ns.Pairwise (· < ·)) : risI ns = true := by
  unfold risI
  rw [List.all_eq_true]
  intro b hb
  obtain ⟨i, hi, rfl⟩ := List.mem_map.mp hb
  have hi := List.mem_range.mp hi
  have h1 : i < ns.length := by omega
  have h2 : i + 1 < ns.length := by omega
  show decide _ = true
  rw [decide_eq_true_eq, List.getD_eq_getElem?_getD, List.getD_eq_getElem?_getD, List.getElem?_eq_getElem h1, List.getElem?_eq_getElem h2]
  exact List.pairwise_iff_getElem.mp h i (i + 1) h1 h2 (by omega)
theorem out_yes {x : Int} (h : okOut x) : outB (.int x) = true := by
  unfold outB within
  exact decide_eq_true h
theorem intsOf_ints : ∀ row : List Int, intsOf (row.map PyData.int) = row
  | [] => rfl
  | x :: r => by
    have := intsOf_ints r
    unfold intsOf at this ⊢
    rw [List.map_cons, List.map_cons, this]
theorem outs_yes {row : List Int} (h : okRow row) : outsB (rowD row) = true := by
  show (decide (0 < (row.map PyData.int).length) && (((row.map PyData.int).map outB).all id && risI (intsOf (row.map PyData.int)))) = true
  rw [intsOf_ints, risI_yes h.2.2.1, List.length_map, decide_eq_true (show 0 < row.length by have := h.1; omega), Bool.and_true, Bool.true_and, List.all_eq_true]
  intro b hb
  obtain ⟨d, hd, rfl⟩ := List.mem_map.mp hb
  obtain ⟨x, hx, rfl⟩ := List.mem_map.mp hd
  exact out_yes (h.2.2.2 x hx)
theorem rows_yes {rows : List (List Int)} (h0 : 1 ≤ rows.length) (h : ∀ r ∈ rows, okRow r) : rowsB (rowsD rows) = true := by
  show (decide (0 < (rows.map rowD).length) && ((rows.map rowD).map outsB).all id) = true
  rw [List.length_map, decide_eq_true (show 0 < rows.length by omega), Bool.true_and, List.all_eq_true]
  intro b hb
  obtain ⟨d, hd, rfl⟩ := List.mem_map.mp hb
  obtain ⟨x, hx, rfl⟩ := List.mem_map.mp hd
  exact outs_yes (h x hx)
theorem alone_yes {T : TD} (W : WF T) : aloneB (alD T.al) = true := by
  show (decide (2 = 2) && [rowsB (rowsD (T.al 0)), rowsB (rowsD (T.al 1))].all id) = true
  rw [rows_yes (W.n0 0 (by decide)).1 (W.row 0 (by decide)), rows_yes (W.n0 1 (by decide)).1 (W.row 1 (by decide))]
  rfl
theorem lex_yes {p q : Int × Int} (h : ltP p q) : HT.lexLt [p.1, p.2] [q.1, q.2] = true := by
  rcases h with h | ⟨h1, h2⟩
  · have : ¬ p.1 = q.1 := by omega
    simp [HT.lexLt, h, this]
  · have : ¬ p.2 = q.2 := by omega
    simp [HT.lexLt, h1, h2, this]
theorem risP_yes {l : List (Int × Int)} (h : l.Pairwise ltP) : risP ((l.map pairD).map pairOf) = true := by
  unfold risP
  rw [List.all_eq_true]
  intro b hb
  obtain ⟨i, hi, rfl⟩ := List.mem_map.mp hb
  have hi := List.mem_range.mp hi
  rw [List.length_map, List.length_map] at hi
  have h1 : i < l.length := by omega
  have h2 : i + 1 < l.length := by omega
  have e : ∀ j (hj : j < l.length), ((l.map pairD).map pairOf).getD j [] = [l[j].1, l[j].2] := fun j hj => by
    rw [List.getD_eq_getElem?_getD, List.getElem?_map, List.getElem?_map, List.getElem?_eq_getElem hj]
    rfl
  show HT.lexLt _ _ = true
  rw [e i h1, e (i + 1) h2]
  exact lex_yes (List.pairwise_iff_getElem.mp h i (i + 1) h1 h2 (by omega))
theorem pair_yes {p : Int × Int} (h : okOut p.1 ∧ okOut p.2) : pairB (pairD p) = true := by
  show (decide (2 = 2) && [outB (.int p.1), outB (.int p.2)].all id) = true
  rw [out_yes h.1, out_yes h.2]
  rfl
theorem let_yes {l : List (Int × Int)} (h : okLet l) : letB (letD l) = true := by
  show (decide (0 < (l.map pairD).length) && (((l.map pairD).map pairB).all id && risP ((l.map pairD).map pairOf))) = true
  rw [risP_yes h.2.2.1, List.length_map, decide_eq_true (show 0 < l.length by have := h.1; omega), Bool.and_true, Bool.true_and, List.all_eq_true]
  intro b hb
  obtain ⟨d, hd, rfl⟩ := List.mem_map.mp hb
  obtain ⟨x, hx, rfl⟩ := List.mem_map.mp hd
  exact pair_yes (h.2.2.2 x hx)
theorem in_yes {n0 n1 : Nat} {p : IP} (h : p.1 < n0 ∧ p.2 < n1) : inB n0 n1 (pairD (iI p)) = true := by
  show (decide ((0 : Int) ≤ (p.1 : Int) ∧ (p.1 : Int) ≤ (n0 : Int) - 1) && decide ((0 : Int) ≤ (p.2 : Int) ∧ (p.2 : Int) ≤ (n1 : Int) - 1)) = true
  rw [decide_eq_true (show (0 : Int) ≤ (p.1 : Int) ∧ (p.1 : Int) ≤ (n0 : Int) - 1 by omega), decide_eq_true (show (0 : Int) ≤ (p.2 : Int) ∧ (p.2 : Int) ≤ (n1 : Int) - 1 by omega)]
  rfl
theorem small_row {row : List Int} (h : okRow row) : small (rowD row) := fun ds e => by
  cases e
  rw [List.length_map]
  have := h.2.1
  omega
end TA

set_option Elab.async false
set_option maxRecDepth 100000
set_option maxHeartbeats 4000000
namespace TA
open PySem L2 PyProof.Rows
set_option linter.unusedVariables false
structure Txt2 (K : PySem.W.Frag) (mg : Str → Option Value) : Prop where
  sorted : mg "sorted" = none
  set : mg "set" = none
  max : mg "max" = none
  zip : mg "zip" = none
  dict : mg "dict" = none
theorem hu65_of {A : Around} {k : Nat} (hr : Room k A) : A.units + 65 < cLine := by have := hr.un; omega
theorem keyT_turns {d : Addr} {o : Obj} {kvs : List (List Key × V)} {H0 : Hp} {Qd : Hp → Prop} {B : (Hp → Prop) → V → Hp → Prop} (Pv : Nat → Hp → Prop) (start : Pv 0 H0) (still : ∀ i H, Pv i H → H d = some (.frz o (.dT kvs)))
    (turn : ∀ i k v q H, kvs[i]? = some (k, v) → H q = some (.tup (k.map kV)) → Pv i H → B (Pv (i + 1)) (.ref q) H) (last : ∀ H, Pv kvs.length H → Qd H) :
    ∃ W : Nat → Nat → Hp → Prop, (∃ m, W 0 m H0) ∧ ∀ i m H, W i m H →
      ((Itkt d o kvs).stop i H ∧ Qd H) ∨ ((Itkt d o kvs).go i H ∧ ∃ Nx : Hp → Prop, (∀ H', Nx H' → ∃ m', m' < m ∧ W (i + 1) m' H') ∧ ∀ x H', (Itkt d o kvs).yld i H x H' → B Nx x H') :=
  turns kvs.length Pv start (fun H w => ⟨⟨still _ H w, Nat.le_refl _⟩, last H w⟩) fun i H hi w => ⟨⟨still i H w, hi⟩, fun x H' ⟨e, k, v, q, e1, e2, e3⟩ => by rw [e, e2]; exact turn i k v q H e1 e3 w⟩
theorem itemT_turns {d : Addr} {o : Obj} {kvs : List (List Key × V)} {H0 : Hp} {Qd : Hp → Prop} {B : (Hp → Prop) → V → Hp → Prop} (Pv : Nat → Hp → Prop) (start : Pv 0 H0) (still : ∀ i H, Pv i H → H d = some (.frz o (.dT kvs)))
    (turn : ∀ i k v q T H, kvs[i]? = some (k, v) → H q = some (.tup (k.map kV)) → H T = none → Pv i H → B (Pv (i + 1)) (.ref T) (upd H T (.tup [.ref q, v]))) (last : ∀ H, Pv kvs.length H → Qd H) :
    ∃ W : Nat → Nat → Hp → Prop, (∃ m, W 0 m H0) ∧ ∀ i m H, W i m H →
      ((Itit d o kvs).stop i H ∧ Qd H) ∨ ((Itit d o kvs).go i H ∧ ∃ Nx : Hp → Prop, (∀ H', Nx H' → ∃ m', m' < m ∧ W (i + 1) m' H') ∧ ∀ x H', (Itit d o kvs).yld i H x H' → B Nx x H') :=
  turns kvs.length Pv start (fun H w => ⟨⟨still _ H w, Nat.le_refl _⟩, last H w⟩) fun i H hi w => ⟨⟨still i H w, hi⟩, fun x H' ⟨T, q, k, v, e1, e2, e3, e4, e5⟩ => by rw [e3, e5]; exact turn i k v q T H e1 e2 e4 w⟩
/-! what comes, each once -/
def sel (h : Nat) (p : IP) : Nat := if h = 0 then p.1 else p.2
def distStep (acc : List Int) (x : Int) : List Int := if x ∈ acc then acc else acc ++ [x]
def dist (l : List Int) : List Int := l.foldl distStep []
theorem dist_snoc (l : List Int) (x : Int) : dist (l ++ [x]) = distStep (dist l) x := by
  unfold dist
  rw [List.foldl_append]
  rfl
theorem dist_mem_aux (x : Int) : ∀ (l acc : List Int), x ∈ l.foldl distStep acc ↔ x ∈ acc ∨ x ∈ l
  | [], acc => by simp
  | y :: l, acc => by
    rw [List.foldl_cons, dist_mem_aux x l]
    unfold distStep
    split
    · rename_i h
      constructor
      · rintro (a | a)
        · exact .inl a
        · exact .inr (List.mem_cons_of_mem _ a)
      · rintro (a | a)
        · exact .inl a
        · rcases List.mem_cons.mp a with rfl | a
          · exact .inl h
          · exact .inr a
    · rw [List.mem_append, List.mem_singleton, List.mem_cons]
      constructor
      · rintro ((a | a) | a)
        · exact .inl a
        · exact .inr (.inl a)
        · exact .inr (.inr a)
      · rintro (a | a | a)
        · exact .inl (.inl a)
        · exact .inl (.inr a)
        · exact .inr a
theorem dist_mem {l : List Int} {x : Int} : x ∈ dist l ↔ x ∈ l := by
  unfold dist
  rw [dist_mem_aux]
  simp
theorem dist_nd_aux : ∀ (l acc : List Int), acc.Nodup → (l.foldl distStep acc).Nodup
  | [], _, h => h
  | y :: l, acc, h => by
    rw [List.foldl_cons]
    refine dist_nd_aux l _ ?_
    unfold distStep
    split
    · exact h
    · rename_i c
      exact List.nodup_append.mpr ⟨h, by simp, fun a ha b hb e => by rw [List.mem_singleton] at hb; subst hb; subst e; exact c ha⟩
theorem dist_nd (l : List Int) : (dist l).Nodup := dist_nd_aux l [] List.nodup_nil
theorem nodup_sub : ∀ {xs ys : List Int}, xs.Nodup → (∀ x ∈ xs, x ∈ ys) → xs.length ≤ ys.length
  | [], _, _, _ => Nat.zero_le _
  | x :: xs, ys, h, s => by
    have hx := s x List.mem_cons_self
    obtain ⟨h1, h2⟩ := List.nodup_cons.mp h
    have r := nodup_sub (xs := xs) (ys := ys.erase x) h2 fun y hy => by
      have ne : y ≠ x := fun e => h1 (e ▸ hy)
      exact (List.mem_erase_of_ne ne).mpr (s y (List.mem_cons_of_mem _ hy))
    rw [List.length_erase_of_mem hx] at r
    have : 0 < ys.length := List.length_pos_of_mem hx
    rw [List.length_cons]
    omega
/-- all below n come, nothing else does -/
theorem dist_all {l : List Int} {n : Nat} (h1 : ∀ x ∈ l, ∃ a : Nat, a < n ∧ x = (a : Int)) (h2 : ∀ a : Nat, a < n → (a : Int) ∈ l) : (dist l).length = n := by
  have e : ((List.range n).map fun (a : Nat) => (a : Int)).length = n := by rw [List.length_map, List.length_range]
  have nd : ((List.range n).map fun (a : Nat) => (a : Int)).Nodup := List.Pairwise.map _ (fun a b (h : a ≠ b) => by show (a : Int) ≠ (b : Int); omega) List.nodup_range
  refine Nat.le_antisymm ?_ ?_
  · rw [← e]
    refine nodup_sub (dist_nd l) fun x hx => ?_
    obtain ⟨a, ha, rfl⟩ := h1 x (dist_mem.mp hx)
    exact List.mem_map.mpr ⟨a, List.mem_range.mpr ha, rfl⟩
  · have r := nodup_sub (xs := (List.range n).map fun (a : Nat) => (a : Int)) (ys := dist l) nd fun x hx => by
      obtain ⟨a, ha, rfl⟩ := List.mem_map.mp hx
      exact dist_mem.mpr (h2 a (List.mem_range.mp ha))
    rw [e] at r
    exact r
theorem dist_len_le (l : List Int) : (dist l).length ≤ l.length := nodup_sub (dist_nd l) fun x hx => dist_mem.mp hx
/-- row h of what is let alone -/
theorem AlAt.row {H : Hp} {v : V} {al : Nat → List (List Int)} (h : AlAt H v al) : ∃ t x0 x1, v = .ref t ∧ H t = some (.lst [x0, x1]) ∧ ∀ k, k < 2 → ∃ x, ([x0, x1] : List V)[k]? = some x ∧ RowsAt H x (al k) := by
  obtain ⟨t, x0, x1, e, h, a, b⟩ := h
  refine ⟨t, x0, x1, e, h, fun k hk => ?_⟩
  obtain rfl | rfl : k = 0 ∨ k = 1 := by omega
  · exact ⟨x0, rfl, a⟩
  · exact ⟨x1, rfl, b⟩
theorem kI_at {p : IP} {h : Nat} (hh : h < 2) : ((kI p).map kV)[h]? = some (.int (sel h p : Int)) := by
  obtain rfl | rfl : h = 0 ∨ h = 1 := by omega
  · rfl
  · rfl
theorem dec_nat {a b : Nat} : decide (V.int (a : Int) = V.int (b : Int)) = decide (a = b) := by
  by_cases c : a = b
  · rw [decide_eq_true c, c]; exact decide_eq_true rfl
  · rw [decide_eq_false c]; exact decide_eq_false fun e => by injection e with e; omega
def spEach (K : PySem.W.Frag) : Sp := fun vs H Q _ => ∃ (d : Addr) (v : V) (h : Nat) (kvs : List (List Key × V)) (ips : List IP) (al : Nat → List (List Int)), vs = [.ref d, v, .int (h : Int)] ∧ h < 2 ∧ H d = some (.dT kvs) ∧ kvs.map (·.1) = ips.map kI ∧ AlAt H v al ∧ ips.length ≤ 60 ∧
  ∀ H', Same H H' → Q (.bl (decide ((dist (ips.map fun p => ((sel h p : Nat) : Int))).length = (al h).length))) H'
section
variable {P : Program} {w : World} {K : PySem.W.Frag} {mg : Str → Option Value} {base : Heap}
abbrev nEach : List Str := ["both", "alone", "hand", "pair"]
theorem sc_each : FnScope nEach ["both", "alone", "hand"] (defScope s_each_comes) := ⟨rfl, rfl, rfl, by decide +kernel, rfl, by decide +kernel, by decide +kernel⟩
theorem ok_each {f : Addr} {fd : FuncData} (F : Fun K "each_comes" "each_comes" s_each_comes f fd) (T : Txt K mg) (T2 : Txt2 K mg) : FnOk P w K mg base CX0 1 f fd ["both", "alone", "hand"] (spEach K) := by
  refine F.ok sc_each (fun vs H Q E h => ?_) (fun cdv A outer s H vs Q E hr h => ?_)
  · obtain ⟨d, v, h, kvs, ips, al, rfl, _⟩ := h
    rfl
  obtain ⟨d, v, h, kvs, ips, al, rfl, hh, hd, hk, hA, hn, q⟩ := h
  have nd := sc_each.nd
  refine ⟨_, (pss_one (ps_ret (pe_cmpR op_eq (pe_callB call_len_SI (by rfl) T.len PySem.boot_len (pa_cons (pe_lock (pe_scI (own := [("pair", 3)]) (g := (gName 3)) (tt := tYes) (te := (tOp (rIxT K) (tVar 3) (tVar 2))) rfl nd (pi_keys (pv 0)) (blkOk_by (N := nEach) (sc := defScope s_each_comes) (by decide +kernel)) (fun _ _ _ _ _ => (by exact (pg_name (i := 3) nd rfl (Or.inl rfl)))) (fun _ _ _ _ _ => pts_nil) (fun _ _ _ _ _ => (by exact (pe_ix ix_tup (pv 3) (pv 2) (fun _ _ => rfl)))))) pa_nil)) (pe_callB call_len_seq (by rfl) T.len PySem.boot_len (pa_cons (pe_ix ix_list (pv 1) (pv 2) (fun _ _ => rfl)) pa_nil)) (nomark _)))), ?_⟩
  have hkl : kvs.length = ips.length := by
    have := congrArg List.length hk
    rwa [List.length_map, List.length_map] at this
  refine ⟨d, _, hd, trivial, fun od => ?_⟩
  have hd1 : (upd H d (.frz od (.dT kvs))) d = some (.frz od (.dT kvs)) := upd_same
  refine ⟨_, rfl, d, od, rfl, .inr ⟨kvs, hd1, fun D hD => ?_⟩⟩
  have nD : d ≠ D := ne_of_none hd1 hD
  refine keyT_turns (fun i H' => But d H H' ∧ H' d = some (.frz od (.dT kvs)) ∧ H' D = some (SetO w D (fun j => decide (j ∈ dist ((ips.take i).map fun p => ((sel h p : Nat) : Int)))) (dist ((ips.take i).map fun p => ((sel h p : Nat) : Int))).length)) ?_ (fun i H' h => h.2.1) ?_ ?_
  · refine ⟨But.at.trans (.same (same_new hD _)), by rw [upd_ne nD]; exact hd1, ?_⟩
    rw [upd_same]
    exact congrArg (fun z => some (SetO w D z 0)) (funext fun j => by simp [dist])
  · rintro i k v' qa H' hi hq ⟨b1, e1, e2⟩
    have hi2 : i < ips.length := by rw [← hkl]; exact (List.getElem?_eq_some_iff.mp hi).1
    have ek : k = kI ips[i] := by
      have z : (kvs.map (·.1))[i]? = some k := by rw [List.getElem?_map, hi]; rfl
      rw [hk, List.getElem?_map, List.getElem?_eq_getElem hi2] at z
      exact (Option.some.inj z).symm
    subst ek
    refine ⟨rfl, _, rfl, _, rfl, qa, _, _, _, rfl, rfl, SqT.of hq, atI_nat (kI_at hh), _, _, _, rfl, e2, ?_, ?_⟩
    · have := dist_len_le ((ips.take i).map fun p => ((sel h p : Nat) : Int))
      rw [List.length_map, List.length_take] at this
      unfold scanBound
      omega
    · have hDn : H D = none := by
        cases e : H D with
        | none => rfl
        | some o =>
          have z := But.at (H := H) (o := .frz od (.dT kvs)) D o (Ne.symm nD) e
          rw [z] at hD
          cases hD
      refine ⟨b1.new hDn, by rw [upd_ne nD]; exact e1, ?_⟩
      have et : (ips.take (i + 1)).map (fun p => ((sel h p : Nat) : Int)) = (ips.take i).map (fun p => ((sel h p : Nat) : Int)) ++ [((sel h ips[i] : Nat) : Int)] := by
        rw [List.take_add_one, List.getElem?_eq_getElem hi2, List.map_append]
        rfl
      rw [upd_same, et, dist_snoc]
      generalize dist ((ips.take i).map fun p => ((sel h p : Nat) : Int)) = L
      generalize ((sel h ips[i] : Nat) : Int) = x
      unfold distStep
      by_cases c : x ∈ L
      · rw [if_pos c, if_pos (decide_eq_true c)]
        refine congrArg (fun z => some (SetO w D z L.length)) (funext fun j => ?_)
        by_cases cj : j = x
        · subst cj; simp [c]
        · simp [cj]
      · rw [if_neg c, if_neg (by simp [c])]
        rw [List.length_append]
        refine congrArg (fun z => some (SetO w D z (L.length + 1))) (funext fun j => ?_)
        by_cases cj : j = x
        · subst cj; simp
        · simp [cj]
  · rintro H1 ⟨b1, e1, e2⟩
    rw [hkl, List.take_length] at e2
    have s1 : Same H (upd H1 d (.dT kvs)) := b1.unlock hd
    refine ⟨e1, D, _, _, rfl, (by rw [upd_ne (Ne.symm nD)]; exact e2), ?_⟩
    obtain ⟨t, x0, x1, rfl, ht, hrow⟩ := hA.row
    obtain ⟨x, hx, r, xs, rfl, hr2, ha2⟩ := hrow h hh
    refine ⟨_, rfl, _, rfl, t, _, _, _, rfl, rfl, SqL.of (s1 _ _ ht), atI_nat hx, r, xs, rfl, .inl (SqL.of (s1 _ _ hr2)), rfl, ?_⟩
    rw [dec_nat, ha2.len]
    exact q _ s1
end
end TA

set_option Elab.async false
set_option maxRecDepth 100000
set_option maxHeartbeats 4000000
namespace TA
open PySem L2 PyProof.Rows
set_option linter.unusedVariables false
theorem AlAt.at2 {K : PySem.W.Frag} {H : Hp} {v : V} {al : Nat → List (List Int)} (h : AlAt H v al) : ∃ t, v = .ref t ∧ AloneAt K H t (al 0).length (al 1).length := by
  obtain ⟨t, x0, x1, e, h, ⟨r0, xs0, rfl, h0, a0⟩, ⟨r1, xs1, rfl, h1, a1⟩⟩ := h
  exact ⟨t, e, ⟨r0, r1, xs0, xs1, SqL.of h, SqL.of h0, SqL.of h1, a0.len, a1.len⟩⟩
theorem all_true (n : Nat) : (List.replicate n true).all id = true := by
  rw [List.all_eq_true]
  intro b hb
  exact (List.mem_replicate.mp hb).2
theorem rep_snoc {n : Nat} : (List.replicate n true).map V.bl ++ [V.bl true] = (List.replicate (n + 1) true).map V.bl := by
  rw [List.replicate_succ', List.map_append]
  rfl
theorem comes_all {T : TD} (W : WF T) {h : Nat} (hh : h < 2) : (dist ((T.bo.map (·.1)).map fun p => ((sel h p : Nat) : Int))).length = (T.al h).length := by
  refine dist_all (fun x hx => ?_) (fun a ha => ?_)
  · obtain ⟨p, hp, rfl⟩ := List.mem_map.mp hx
    obtain ⟨e, he, rfl⟩ := List.mem_map.mp hp
    refine ⟨_, ?_, rfl⟩
    obtain ⟨r1, r2⟩ := W.rng e he
    obtain rfl | rfl : h = 0 ∨ h = 1 := by omega
    · exact r1
    · exact r2
  · obtain rfl | rfl : h = 0 ∨ h = 1 := by omega
    · obtain ⟨e, he, rfl⟩ := W.com0 a ha
      exact List.mem_map.mpr ⟨e.1, List.mem_map.mpr ⟨e, he, rfl⟩, rfl⟩
    · obtain ⟨e, he, rfl⟩ := W.com1 a ha
      exact List.mem_map.mpr ⟨e.1, List.mem_map.mpr ⟨e, he, rfl⟩, rfl⟩
theorem small_let {l : List (Int × Int)} (h : okLet l) : small (letD l) := fun ds e => by
  cases e
  rw [List.length_map]
  have := h.2.1
  omega
theorem keys_of {H : Hp} : ∀ {kvs : List (List Key × V)} {bo : BD}, A2 (EnAt H) kvs bo → kvs.map (·.1) = (bo.map (·.1)).map kI
  | _, _, .nil => rfl
  | _, _, .cons a b => by rw [List.map_cons, List.map_cons, List.map_cons, keys_of b, a.1]
theorem kI_tp {H : Hp} {q : Addr} {p : IP} (h : H q = some (.tup ((kI p).map kV))) : TpAt H (.ref q) (iI p) := ⟨q, rfl, h⟩
def spBoth (K : PySem.W.Frag) : Sp := fun vs H Q _ => ∃ (d : Addr) (v : V) (T : TD), vs = [.ref d, v] ∧ BoAt H d T.bo ∧ AlAt H v T.al ∧ WF T ∧ ∀ H', Same H H' → Q (.bl true) H'
section
variable {P : Program} {w : World} {K : PySem.W.Frag} {mg : Str → Option Value} {base : Heap}
abbrev nBoth : List Str := ["thing", "alone", "pair", "let", "hand"]
theorem sc_both : FnScope nBoth ["thing", "alone"] (defScope s_is_both) := ⟨rfl, rfl, rfl, by decide +kernel, rfl, by decide +kernel, by decide +kernel⟩
theorem ok_both {f g1 g2 g3 : Addr} {fd d1 d2 d3 : FuncData} (F : Fun K "is_both" "is_both" s_is_both f fd) (T : Txt K mg) (T2 : Txt2 K mg) (U : TxtH K mg) (W1 : Def P w K mg base "is_input_pair" ["thing", "alone"] 3 (spInp K) g1 d1)
    (W2 : Def P w K mg base "is_let" ["thing"] 5 (spLetB K) g2 d2) (W3 : Def P w K mg base "each_comes" ["both", "alone", "hand"] 1 (spEach K) g3 d3) : FnOk P w K mg base CX0 6 f fd ["thing", "alone"] (spBoth K) := by
  refine F.ok sc_both (fun vs H Q E h => ?_) (fun cdv A outer s H vs Q E hr h => ?_)
  · obtain ⟨d, v, D, rfl, _⟩ := h
    rfl
  obtain ⟨d, v, D, rfl, ⟨kvs, hd, ha⟩, hA, hW, q⟩ := h
  obtain ⟨hT, mH, hH⟩ := U.hands
  have nd := sc_both.nd
  refine ⟨_, (pss_one (ps_ret (pe_and (pe_callB call_isi (by rfl) T.isi boot_isinstance (pa_cons (pv 0) (pa_cons (pe_bltn (v := .ty "dict") (by rfl) T2.dict boot_dict rfl) pa_nil))) (pe_and (pe_callB (cr_all rfl) (by rfl) T.all (by decide +kernel) (pa_cons (pe_lock (pe_lc (own := [("pair", 2), ("let", 3)]) (g := (gTup K 2 (gCons (gName 2) (gCons (gName 3) gNil)))) (tt := tYes) (te := (tAndV (tCall (spInp K) [] E0 (tCons (tVar 2) (tCons (tVar 1) tNil))) (tCall (spLetB K) [] E0 (tCons (tVar 3) tNil)))) rfl nd (pi_itemsT (pv 0)) (blkOk_by (N := nBoth) (sc := defScope s_is_both) (by decide +kernel)) (fun _ _ _ _ _ => (by exact (pg_tup (by rfl) (pgs_cons (pg_name (i := 2) nd rfl (Or.inl rfl)) (pgs_cons (pg_name (i := 3) nd rfl (Or.inl rfl)) pgs_nil))))) (fun _ _ _ _ _ => pts_nil) (fun _ _ _ _ _ => (by exact (pe_and (pe_call W1.G (hr.mono (by decide)) rfl W1.m W1.k W1.b .nil pass0 (pa_cons (pv 2) (pa_cons (pv 1) pa_nil))) (pe_one (pe_call W2.G (hr.mono (by decide)) rfl W2.m W2.k W2.b .nil pass0 (pa_cons (pv 3) pa_nil)))))))) pa_nil)) (pe_one (pe_callB (cr_all rfl) (by rfl) T.all (by decide +kernel) (pa_cons (pe_lc (own := [("hand", 4)]) (g := (gName 4)) (tt := tYes) (te := (tCall (spEach K) [] E0 (tCons (tVar 0) (tCons (tVar 1) (tCons (tVar 4) tNil))))) rfl nd (pi_tup (pe_glob (v := .ref hT) rfl mH rfl)) (blkOk_by (N := nBoth) (sc := defScope s_is_both) (by decide +kernel)) (fun _ _ _ _ _ => (by exact (pg_name (i := 4) nd rfl (Or.inl rfl)))) (fun _ _ _ _ _ => pts_nil) (fun _ _ _ _ _ => (by exact (pe_call W3.G (hr.mono (by decide)) rfl W3.m W3.k W3.b .nil pass0 (pa_cons (pv 0) (pa_cons (pv 1) (pa_cons (pv 4) pa_nil))))))) pa_nil))))))), ?_⟩
  have hkl := ha.len
  refine ⟨_, rfl, V.ref d, .ty "dict", .type "dict", .type "dict", true, rfl, .ty "dict", .base (.dT hd), kit_ty (by decide +kernel), _, rfl, iteT ?_⟩
  refine ⟨d, _, hd, trivial, fun od => ?_⟩
  have hd1 : (upd H d (.frz od (.dT kvs))) d = some (.frz od (.dT kvs)) := upd_same
  refine ⟨_, rfl, d, od, kvs, rfl, hd1, fun L hL => ?_⟩
  have nL : d ≠ L := ne_of_none hd1 hL
  have hLn : H L = none := by
    cases e : H L with
    | none => rfl
    | some o =>
      have z := But.at (H := H) (o := .frz od (.dT kvs)) L o (Ne.symm nL) e
      rw [z] at hL
      cases hL
  refine itemT_turns (fun i H' => But d H H' ∧ H' d = some (.frz od (.dT kvs)) ∧ H' L = some (.lst ((List.replicate i true).map V.bl))) ⟨But.at.trans (.same (same_new hL _)), by rw [upd_ne nL]; exact hd1, upd_same⟩ (fun i H' h => h.2.1) ?_ ?_
  · rintro i k x qa Tt H' hi hq hTn ⟨b1, e1, e2⟩
    obtain ⟨eb, hbi, ek, hx⟩ := ha.get hi
    have hm := List.mem_of_getElem? hbi
    dsimp only at ek hx
    subst ek
    have s1 := same_new hTn (.tup [V.ref qa, x])
    have kp : Kp H (upd H' Tt (.tup [V.ref qa, x])) := (b1.kp hd nf_dT).trans (.same s1)
    obtain ⟨al, rfl, hAl⟩ := (hA.mono kp).at2 (K := K)
    have hi2 : i < kvs.length := (List.getElem?_eq_some_iff.mp hi).1
    refine ⟨Tt, _, rfl, SqT.of upd_same, rfl, _, _, rfl, _, _, rfl, rfl, rfl, _, rfl, _, rfl, _, _, al, _, _, rfl, (kI_tp (s1 _ _ hq)).dp, hAl, fun H2 s2 => ?_⟩
    rw [in_yes (hW.rng eb hm)]
    refine ⟨_, rfl, iteT ⟨_, rfl, _, _, rfl, ((hx.mono kp).mono (.same s2)).dp, small_let (hW.lets eb hm), fun H3 s3 => ?_⟩⟩
    rw [let_yes (hW.lets eb hm)]
    have s13 := (s1.trans s2).trans s3
    refine ⟨_, s13 _ _ e2, ?_, (b1.trans (.same s13)).new hLn, by rw [upd_ne nL]; exact s13 _ _ e1, by rw [upd_same, rep_snoc]⟩
    rw [List.length_map, List.length_replicate]
    have := hW.many
    exact Nat.lt_of_lt_of_le (show i < 100 by omega) (by decide)
  · rintro H1 ⟨b1, e1, e2⟩
    have s1 : Same H (upd H1 d (.dT kvs)) := b1.unlock hd
    refine ⟨e1, L, _, rfl, SqL.of (by rw [upd_ne (Ne.symm nL)]; exact e2), ?_⟩
    rw [all_true]
    refine ⟨_, rfl, iteT ⟨hT, rfl, ⟨_, hH _⟩, fun L2 hL2 => ?_⟩⟩
    generalize upd H1 d (.dT kvs) = H2 at s1 hL2 ⊢
    refine tup_turns (xs := [V.int 0, V.int 1]) (fun i H' => Same H H' ∧ H' L2 = some (.lst ((List.replicate i true).map V.bl))) ⟨s1.trans (same_new hL2 _), upd_same⟩ (fun i H' _ _ => hH H') ?_ ?_
    · rintro i z H' hz ⟨s3, h3⟩
      have hi : i < 2 := (List.getElem?_eq_some_iff.mp hz).1
      obtain rfl : z = .int (i : Int) := by
        obtain rfl | rfl : i = 0 ∨ i = 1 := by omega
        · simpa using hz.symm
        · simpa using hz.symm
      obtain ⟨al, x0, x1, rfl, _⟩ := id hA
      refine ⟨rfl, _, rfl, _, rfl, _, rfl, d, _, i, kvs, D.bo.map (·.1), D.al, rfl, hi, s3 _ _ hd, keys_of ha, hA.mono (.same s3), by rw [List.length_map]; exact hW.many, fun H4 s4 => ?_⟩
      rw [comes_all hW hi, decide_eq_true rfl]
      have hL2n : H L2 = none := by
        cases e : H L2 with
        | none => rfl
        | some o => rw [s1 _ _ e] at hL2; cases hL2
      refine ⟨_, s4 _ _ h3, ?_, same_upd (s3.trans s4) hL2n, by rw [upd_same, rep_snoc]⟩
      rw [List.length_map, List.length_replicate]
      exact Nat.lt_of_lt_of_le (show i < 100 by omega) (by decide)
    · rintro H3 ⟨s3, h3⟩
      refine ⟨L2, _, rfl, SqL.of h3, ?_⟩
      rw [all_true]
      exact q _ s3
end
end TA

set_option Elab.async false
set_option maxRecDepth 100000
set_option maxHeartbeats 4000000
namespace TA
open PySem L2 PyProof.Rows
set_option linter.unusedVariables false
abbrev s_init : Stmt := inClass s_Task 0
abbrev s_eq : Stmt := inClass s_Task 1
abbrev s_inputs : Stmt := inClass s_Task 2
abbrev s_pairs : Stmt := inClass s_Task 3
theorem kfld : ¬ (("alone" : Str) = "both") := by decide +kernel
/-- a task's fields -/
def flds (a d : Addr) : List (Str × V) := putF "both" (.ref d) (putF "alone" (.ref a) [])
theorem flds_eq (a d : Addr) : flds a d = ([("alone", V.ref a), ("both", V.ref d)] : List (Str × V)) := by
  show (if ("alone" : Str) = "both" then [(("alone" : Str), V.ref d)] else (("alone" : Str), V.ref a) :: putF "both" (V.ref d) []) = ([("alone", V.ref a), ("both", V.ref d)] : List (Str × V))
  rw [if_neg kfld]
  all_goals rfl
theorem flds_alone (a d : Addr) : (flds a d).lookup ("alone" : Str) = some (.ref a) := by
  unfold flds
  rw [lookup_putF, if_neg kfld, lookup_putF, if_pos rfl]
theorem flds_both (a d : Addr) : (flds a d).lookup ("both" : Str) = some (.ref d) := by
  unfold flds
  rw [lookup_putF, if_pos rfl]
theorem flds_no (a d : Addr) {m : Str} (h1 : ¬ m = "both") (h2 : ¬ m = "alone") : (flds a d).lookup m = none := by
  unfold flds
  rw [lookup_putF, if_neg h1, lookup_putF, if_neg h2]
  all_goals rfl
/-- a task stands at p -/
def TaskAt (C : Addr) (H : Hp) (p : Addr) (T : TD) : Prop := ∃ dx a d, H p = some (.ins C dx (flds a d)) ∧ AlAt H (.ref a) T.al ∧ BoAt H d T.bo
theorem TaskAt.mono {C : Addr} {H H' : Hp} (s : Same H H') {p : Addr} {T : TD} (h : TaskAt C H p T) : TaskAt C H' p T := by
  obtain ⟨dx, a, d, h1, h2, h3⟩ := h
  exact ⟨dx, a, d, s _ _ h1, h2.mono (.same s), h3.mono s⟩
/-- a task whose dict is perhaps walked just now -/
def BoR (H : Hp) (d : Addr) (bo : BD) : Prop := ∃ kvs, Rd H d (.dT kvs) ∧ A2 (EnAt H) kvs bo
def TaskR (C : Addr) (H : Hp) (p : Addr) (T : TD) : Prop := ∃ dx a d, H p = some (.ins C dx (flds a d)) ∧ AlAt H (.ref a) T.al ∧ BoR H d T.bo
theorem rd_same {H H' : Hp} (s : Same H H') {a : Addr} {u : HO} (h : Rd H a u) : Rd H' a u := by
  rcases h with h | ⟨o, h⟩
  · exact .inl (s _ _ h)
  · exact .inr ⟨o, s _ _ h⟩
theorem rd_some {H : Hp} {a : Addr} {u : HO} (h : Rd H a u) : H a ≠ none := by
  rcases h with h | ⟨o, h⟩ <;> rw [h] <;> exact fun c => by cases c
theorem BoR.mono {H H' : Hp} (s : Same H H') {v} {p} (h : BoR H v p) : BoR H' v p := by
  obtain ⟨kvs, h, a⟩ := h
  exact ⟨kvs, rd_same s h, a.imp fun _ _ r => r.mono (.same s)⟩
theorem TaskAt.r {C : Addr} {H : Hp} {p : Addr} {T : TD} (h : TaskAt C H p T) : TaskR C H p T := by
  obtain ⟨dx, a, d, h1, h2, kvs, h3, h4⟩ := h
  exact ⟨dx, a, d, h1, h2, kvs, .inl h3, h4⟩
theorem TaskR.mono {C : Addr} {H H' : Hp} (s : Same H H') {p : Addr} {T : TD} (h : TaskR C H p T) : TaskR C H' p T := by
  obtain ⟨dx, a, d, h1, h2, h3⟩ := h
  exact ⟨dx, a, d, s _ _ h1, h2.mono (.same s), h3.mono s⟩
theorem dget_rd {H : Hp} {a b : Addr} {kvs : List (List Key × V)} {k : List Key} (e : Rd H a (.dT kvs)) (eb : H b = some (.tup (k.map kV))) : DGet H a (.ref b) (valV kvs k) := .inr ⟨kvs, k, b, e, rfl, eb, rfl⟩
def rLenTR : List V → Hp → VK → Prop := fun xs H Q => ∃ (p : Addr) (kvs : List (List Key × V)), xs = [.ref p] ∧ Rd H p (.dT kvs) ∧ Q (.int ((kvs.length : Nat) : Int)) H
theorem len_dTR {X : Cx} : CallR X (.builtin "len") rLenTR := by
  intro pins s σ H xs us Q I r h
  obtain ⟨p, kvs, rfl, hp, q⟩ := h
  obtain ⟨u, rfl, rx⟩ := vals1 r
  obtain rfl : u = .ref p := rx
  obtain ⟨z, hd, ys, rel, dd⟩ := dt_rd I.hok hp
  have hl : kvs.length = ys.length := Paired.length rel
  refine call_len_dictH hd dd (by rw [← hl]; rw [sizeLine_eq] at z; omega) ?_
  rw [← hl]
  exact ⟨.int ((kvs.length : Nat) : Int), H, I.tok _, ⟨_, rfl⟩, q⟩
structure TxtC (K : PySem.W.Frag) (mg : Str → Option Value) (C : Addr) : Prop where
  cl : Cls K C
  nA : NoAttr K C "alone"
  nB : NoAttr K C "both"
  mg : mg "Task" = some (.ref C)
structure MDef (P : Program) (w : World) (K : PySem.W.Frag) (mg : Str → Option Value) (base : Heap) (C : Addr) (m : Str) (ps : List Str) (k : Nat) (sp : Sp) (f : Addr) (fd : FuncData) : Prop where
  G : FnOk P w K mg base CX0 k f fd ps sp
  b : Binds K fd ps []
  M : Meth K C m f
/-- what is new in H' behind H0, but for D -/
def nwx (H0 : Hp) (D : Addr) (H' : Hp) : Hp := fun b => if H0 b = none ∧ b ≠ D then H' b else none
theorem nwx_some {H0 : Hp} {D : Addr} {H' : Hp} {b : Addr} {o : HO} (h : nwx H0 D H' b = some o) : H0 b = none ∧ b ≠ D ∧ H' b = some o := by
  unfold nwx at h
  split at h
  · rename_i c
    exact ⟨c.1, c.2, h⟩
  · cases h
theorem nwx_put {H0 : Hp} {D : Addr} {H' : Hp} {b : Addr} {o : HO} (h0 : H0 b = none) (hD : b ≠ D) (h : H' b = some o) : nwx H0 D H' b = some o := by
  unfold nwx
  rw [if_pos ⟨h0, hD⟩, h]
theorem kp_nwx {H0 : Hp} {D : Addr} {H' : Hp} : Kp (nwx H0 D H') H' := fun b o _ h => (nwx_some h).2.2
theorem kp_nwx_but {H0 : Hp} {D : Addr} {H H' : Hp} (s : But D H H') : Kp (nwx H0 D H) (nwx H0 D H') := fun b o _ h => by
  obtain ⟨h1, h2, h3⟩ := nwx_some h
  exact nwx_put h1 h2 (s b o h2 h3)
theorem none_of_same {H H' : Hp} (s : Same H H') {b : Addr} (h : H' b = none) : H b = none := by
  cases e : H b with
  | none => rfl
  | some o => rw [s _ _ e] at h; cases h
theorem none_of_but {d : Addr} {H H' : Hp} (s : But d H H') {b : Addr} (n : b ≠ d) (h : H' b = none) : H b = none := by
  cases e : H b with
  | none => rfl
  | some o => rw [s _ _ n e] at h; cases h
theorem kp_nwx_in {H0 H1 : Hp} {D D1 : Addr} {H2 : Hp} (s : Same H0 H1) {o1 : HO} (e1 : H1 D1 = some o1) : Kp (nwx H1 D H2) (nwx H0 D1 H2) := fun b o _ h => by
  obtain ⟨h1, h2, h3⟩ := nwx_some h
  exact nwx_put (none_of_same s h1) (fun c => by subst c; rw [e1] at h1; cases h1) h3
/-- pairs let in a new list, the pairs' tuples anywhere -/
def Let2 (Hl H : Hp) (v : V) (l : List (Int × Int)) : Prop := ∃ t xs, v = .ref t ∧ Hl t = some (.lst xs) ∧ A2 (TpAt H) xs l
theorem Let2.mono {Hl Hl' H H' : Hp} (s : Kp Hl Hl') (s' : Kp H H') {v : V} {p} (h : Let2 Hl H v p) : Let2 Hl' H' v p := by
  obtain ⟨t, xs, e, h, a⟩ := h
  exact ⟨t, xs, e, s.lst h, a.imp fun _ _ r => r.mono s'⟩
def En2 (Hl H : Hp) (e : List Key × V) (b : IP × List (Int × Int)) : Prop := e.1 = kI b.1 ∧ Let2 Hl H e.2 b.2
theorem En2.mono {Hl Hl' H H' : Hp} (s : Kp Hl Hl') (s' : Kp H H') {v} {p} (h : En2 Hl H v p) : En2 Hl' H' v p := ⟨h.1, h.2.mono s s'⟩
theorem En2.en {Hl H : Hp} (s : Kp Hl H) {v} {p} (h : En2 Hl H v p) : EnAt H v p := by
  obtain ⟨e, t, xs, e2, h, a⟩ := h
  exact ⟨e, t, xs, e2, s.lst h, a⟩
theorem kI_inj {p q : IP} (h : kI p = kI q) : p = q := by
  unfold kI at h
  injection h with h1 h2
  injection h2 with h2 _
  injection h1 with h1
  injection h2 with h2
  have a : p.1 = q.1 := by omega
  have b : p.2 = q.2 := by omega
  exact Prod.ext a b
theorem valV_noneP : ∀ {kvs : List (List Key × V)} {k : List Key}, (∀ e ∈ kvs, e.1 ≠ k) → valV kvs k = none
  | [], _, _ => rfl
  | e :: r, k, h => by
    rw [valV_neg (h e List.mem_cons_self)]
    exact valV_noneP fun x hx => h x (List.mem_cons_of_mem _ hx)
theorem ltN_ne {p q : IP} (h : ltN p q) : p ≠ q := by
  rintro rfl
  rcases h with h | ⟨_, h⟩ <;> omega
/-- what a new task holds: its lists are new, all of them -/
def NewAt (C : Addr) (H H' : Hp) (p : Addr) (T : TD) : Prop := ∃ dx a d kvs, H' p = some (.ins C dx (flds a d)) ∧ AlAt (nwx H p H') (.ref a) T.al ∧ H d = none ∧ (kvs.map (·.2)).Nodup ∧ H' d = some (.dT kvs) ∧ A2 (En2 (nwx H p H') H') kvs T.bo
theorem NewAt.task {C : Addr} {H H' : Hp} {p : Addr} {T : TD} (h : NewAt C H H' p T) : TaskAt C H' p T := by
  obtain ⟨dx, a, d, kvs, h1, h2, _, _, h3, h4⟩ := h
  exact ⟨dx, a, d, h1, h2.mono kp_nwx, kvs, h3, h4.imp fun _ _ r => r.en kp_nwx⟩
def spInit (K : PySem.W.Frag) (C : Addr) : Sp := fun vs H Q _ => ∃ (p dx a d : Addr) (T : TD), vs = [.ref p, .ref a, .ref d] ∧ H p = some (.ins C dx []) ∧ AlAt H (.ref a) T.al ∧ BoAt H d T.bo ∧ WF T ∧
  ∀ H', But p H H' → NewAt C H H' p T → Q .non H'
theorem al_rows {H : Hp} {v : V} {al : Nat → List (List Int)} (h : AlAt H v al) : ∃ t xs, v = .ref t ∧ H t = some (.lst xs) ∧ A2 (RowsAt H) xs [al 0, al 1] := by
  obtain ⟨t, x0, x1, e, h, a, b⟩ := h
  exact ⟨t, _, e, h, .cons a (.cons b .nil)⟩
theorem al_of {H : Hp} {t : Addr} {xs : List V} {al : Nat → List (List Int)} (h : H t = some (.lst xs)) (a : A2 (RowsAt H) xs [al 0, al 1]) : AlAt H (.ref t) al := by
  cases a with
  | cons a b =>
    cases b with
    | cons b c =>
      cases c
      exact ⟨t, _, _, rfl, h, a, b⟩
theorem small_rows {T : TD} (W : WF T) {h : Nat} (hh : h < 2) : ∀ e ∈ (T.al h).map rowD, small e := fun e he => by
  obtain ⟨r, hr, rfl⟩ := List.mem_map.mp he
  exact small_row (W.row h hh r hr)
theorem take_get {α : Type} {l : List α} {i : Nat} {x : α} (h : l[i]? = some x) : l.take (i + 1) = l.take i ++ [x] := by
  rw [List.take_add_one, h]
  rfl
section
variable {P : Program} {w : World} {K : PySem.W.Frag} {mg : Str → Option Value} {base : Heap}
abbrev nInit : List Str := ["self", "alone", "both", "rows", "outputs", "pair", "let"]
theorem sc_init : FnScope nInit ["self", "alone", "both"] (defScope s_init) := ⟨rfl, rfl, rfl, by decide +kernel, rfl, by decide +kernel, by decide +kernel⟩
theorem ok_init {f g4 g5 C : Addr} {fd d4 d5 : FuncData} (F : Fun K "__init__" "Task.__init__" s_init f fd) (T : Txt K mg) (T2 : Txt2 K mg) (Z : TxtC K mg C) (W4 : Def P w K mg base "is_alone" ["thing"] 6 (spAlone K) g4 d4)
    (W5 : Def P w K mg base "is_both" ["thing", "alone"] 6 (spBoth K) g5 d5) : FnOk P w K mg base CX0 7 f fd ["self", "alone", "both"] (spInit K C) := by
  refine F.ok sc_init (fun vs H Q E h => ?_) (fun cdv A outer s H vs Q E hr h => ?_)
  · obtain ⟨p, dx, a, d, D, rfl, _⟩ := h
    rfl
  obtain ⟨p, dx, a, d, D, rfl, hp, hA, hB, hW, q⟩ := h
  have nd := sc_init.nd
  have hu := hu_of hr
  refine ⟨_, (pss_cons (ps_if (pt_not (pt_val (pe_call W4.G (hr.mono (by decide)) rfl W4.m W4.k W4.b .nil pass0 (pa_cons (pv 1) pa_nil))))
      pss_never
      pss_nil)
    (pss_cons (ps_if (pt_not (pt_val (pe_call W5.G (hr.mono (by decide)) rfl W5.m W5.k W5.b .nil pass0 (pa_cons (pv 2) (pa_cons (pv 1) pa_nil)))))
      pss_never
      pss_nil)
    (pss_cons (ps_fld (pv 0) (pe_lc (own := [("rows", 3)]) (g := (gName 3)) (tt := tYes) (te := (tLc (iList K (tVar 3)) (gName 4) tYes (tCB (fun xs H Q => ∃ p ys, xs = [.ref p] ∧ (SqL K H p ys ∨ SqT K H p ys) ∧ ∀ l, H l = none → Q (.ref l) (upd H l (.lst ys))) (tCons (tVar 4) tNil)) [4])) rfl nd (pi_list (pv 1)) (blkOk_by (N := nInit) (sc := defScope s_init) (by decide +kernel)) (fun _ _ _ _ _ => (by exact (pg_name (i := 3) nd rfl (Or.inl rfl)))) (fun _ _ _ _ _ => pts_nil) (fun _ _ _ _ _ => (by exact (pe_lc (own := [("outputs", 4)]) (g := (gName 4)) (tt := tYes) (te := (tCB (fun xs H Q => ∃ p ys, xs = [.ref p] ∧ (SqL K H p ys ∨ SqT K H p ys) ∧ ∀ l, H l = none → Q (.ref l) (upd H l (.lst ys))) (tCons (tVar 4) tNil))) rfl nd (pi_list (pv 3)) (blkOk_by (N := nInit)  (by kernel_rfl)) (fun _ _ _ _ _ => (by exact (pg_name (i := 4) nd rfl (Or.inl rfl)))) (fun _ _ _ _ _ => pts_nil) (fun _ _ _ _ _ => (by exact (pe_callTy call_list_of (by rfl) T.list boot_list (pa_cons (pv 4) pa_nil)))))))) rfl)
    (pss_one (ps_fld (pv 0) (pe_lock (pe_dcT (own := [("pair", 5), ("let", 6)]) (g := (gTup K 2 (gCons (gName 5) (gCons (gName 6) gNil)))) (tt := tYes) (tk := (tVar 5)) (tv := (tCB (fun xs H Q => ∃ p ys, xs = [.ref p] ∧ (SqL K H p ys ∨ SqT K H p ys) ∧ ∀ l, H l = none → Q (.ref l) (upd H l (.lst ys))) (tCons (tVar 6) tNil))) hu rfl nd (pi_itemsT (pv 2)) (blkOk_by (N := nInit) (sc := defScope s_init) (by decide +kernel)) (fun _ _ _ _ _ => (by exact (pg_tup (by rfl) (pgs_cons (pg_name (i := 5) nd rfl (Or.inl rfl)) (pgs_cons (pg_name (i := 6) nd rfl (Or.inl rfl)) pgs_nil))))) (fun _ _ _ _ _ => pts_nil) (fun _ _ _ _ _ => (by exact (pv 5))) (fun _ _ _ _ _ => (by exact (pe_callTy call_list_of (by rfl) T.list boot_list (pa_cons (pv 6) pa_nil)))))) rfl))))), ?_⟩
  refine ⟨_, rfl, _, _, rfl, hA.dp, (fun ds e => by cases e; exact (by decide : 2 ≤ 1000)), ?_, fun H1 s1 => ?_⟩
  · rintro ds e z hz
    cases e
    rcases List.mem_cons.mp hz with rfl | hz
    · refine ⟨fun es e => ?_, fun es e => ?_⟩
      · cases e
        rw [List.length_map]
        have := hW.n0 0 (by decide); omega
      · cases e
        exact small_rows hW (by decide)
    · obtain rfl := List.mem_singleton.mp hz
      refine ⟨fun es e => ?_, fun es e => ?_⟩
      · cases e
        rw [List.length_map]
        have := hW.n0 1 (by decide); omega
      · cases e
        exact small_rows hW (by decide)
  rw [alone_yes hW]
  refine ⟨true, rfl, iteF ?_⟩
  refine ⟨_, rfl, _, rfl, d, _, D, rfl, hB.mono s1, hA.mono (.same s1), hW, fun H2 s2 => ⟨true, rfl, iteF ?_⟩⟩
  have s12 := s1.trans s2
  obtain ⟨al, xs, e, hal, hrows⟩ := al_rows (hA.mono (.same s12))
  obtain rfl : a = al := by injection e
  clear e
  refine ⟨_, rfl, a, rfl, ⟨_, SqL.of hal⟩, fun D1 hD1 => ?_⟩
  have hD1n : H D1 = none := none_of_same s12 hD1
  refine list_turns (xs := xs) (fun i H' => Same H2 H' ∧ ∃ ys, H' D1 = some (.lst ys) ∧ A2 (RowsAt (nwx H2 D1 H')) ys ([D.al 0, D.al 1].take i)) ⟨same_new hD1 _, [], upd_same, .nil⟩ (fun i H' _ h => h.1.seq (SqL.of hal)) ?_ ?_
  · rintro i x H' hx ⟨s3, ys, hy, ay⟩
    obtain ⟨rows, hr1, t, zs, rfl, ht, az⟩ := hrows.get hx
    have ht3 := s3 _ _ ht
    have hsz : rows.length ≤ 20 := by
      have hi : i < 2 := (List.getElem?_eq_some_iff.mp hr1).1
      obtain rfl | rfl : i = 0 ∨ i = 1 := by omega
      · obtain rfl : D.al 0 = rows := by simpa using hr1
        exact (hW.n0 0 (by decide)).2
      · obtain rfl : D.al 1 = rows := by simpa using hr1
        exact (hW.n0 1 (by decide)).2
    refine ⟨rfl, _, rfl, t, rfl, ⟨_, SqL.of ht3⟩, fun D2 hD2 => ?_⟩
    refine list_turns (xs := zs) (fun j H4 => Same H' H4 ∧ ∃ us, H4 D2 = some (.lst us) ∧ A2 (RowAt (nwx H' D2 H4)) us (rows.take j)) ⟨same_new hD2 _, [], upd_same, .nil⟩ (fun j H4 _ h => h.1.seq (SqL.of ht3)) ?_ ?_
    · rintro j z H4 hz ⟨s4, us, hu4, au⟩
      obtain ⟨row, hr2, tt, rfl, htt⟩ := az.get hz
      have htt4 := s4 _ _ (s3 _ _ htt)
      refine ⟨rfl, _, rfl, tt, _, rfl, .inl (SqL.of htt4), fun l hl => ?_⟩
      have s5 := same_new hl (.lst (row.map V.int))
      have nl : l ≠ D2 := (ne_of_none hu4 hl).symm
      have hjr : us.length < rows.length := by
        rw [au.len, List.length_take]
        have := (List.getElem?_eq_some_iff.mp hr2).1
        omega
      refine ⟨us, s5 _ _ hu4, Nat.lt_of_lt_of_le (show us.length < 100 by omega) (by decide), ?_⟩
      refine ⟨same_upd (s4.trans s5) hD2, _, upd_same, ?_⟩
      rw [take_get hr2]
      refine A2.snoc (au.imp fun _ _ r => r.mono (kp_nwx_but ((But.same s5).trans But.at))) ⟨l, rfl, nwx_put (none_of_same s4 hl) nl ?_⟩
      rw [upd_ne nl]
      exact upd_same
    · rintro H4 ⟨s4, us, hu4, au⟩
      have hzl := az.len
      rw [hzl, List.take_length] at au
      have ne : D2 ≠ D1 := (ne_of_none hy hD2).symm
      refine ⟨ys, s4 _ _ hy, ?_, ?_⟩
      · rw [ay.len, List.length_take]
        exact Nat.lt_of_le_of_lt (Nat.min_le_right _ _) (by show 2 < sizeLine; decide)
      refine ⟨same_upd (s3.trans s4) hD1, _, upd_same, ?_⟩
      rw [take_get hr1]
      refine A2.snoc (ay.imp fun _ _ r => r.mono (kp_nwx_but ((But.same s4).trans But.at))) ?_
      have r0 : RowsAt (nwx H2 D1 H4) (.ref D2) rows := ⟨D2, us, rfl, nwx_put (none_of_same s3 hD2) ne hu4, au.imp fun _ _ r => r.mono (kp_nwx_in s3 hy)⟩
      exact r0.mono (kp_nwx_but But.at)
  · rintro H3 ⟨s3, ys, hy, ay⟩
    have hxl := hrows.len
    rw [hxl, List.take_length] at ay
    have hp3 := s3 _ _ (s12 _ _ hp)
    refine ⟨_, rfl, p, C, dx, _, rfl, hp3, Z.cl, Z.nA, (by show 0 < 1000; decide), ?_⟩
    have npD1 : D1 ≠ p := (ne_of_none (s12 _ _ hp) hD1).symm
    generalize hH5 : upd H3 p (.ins C dx (putF "alone" (.ref D1) [])) = H5
    have b5 : But p H H5 := by rw [← hH5]; exact (But.same (s12.trans s3)).trans But.at
    have hp5 : H5 p = some (.ins C dx (putF "alone" (.ref D1) [])) := by rw [← hH5]; exact upd_same
    have hD15 : H5 D1 = some (.lst ys) := by rw [← hH5, upd_ne npD1]; exact hy
    have ay5 : A2 (RowsAt (nwx H p H5)) ys [D.al 0, D.al 1] := ay.imp fun _ _ r => r.mono fun b o _ h => by
      obtain ⟨h1, h2, h3⟩ := nwx_some h
      have hb : b ≠ p := fun c => by subst c; rw [s12 _ _ hp] at h1; cases h1
      refine nwx_put (none_of_same s12 h1) hb ?_
      rw [← hH5, upd_ne hb]; exact h3
    obtain ⟨kvs, hd, ha⟩ := hB
    have ndp : d ≠ p := ne_of hd hp (fun z => by cases z)
    have hd5 : H5 d = some (.dT kvs) := b5 _ _ ndp hd
    have ha5 : A2 (EnAt H5) kvs D.bo := ha.imp fun _ _ r => r.mono (b5.kp hp (by rintro (⟨_, h⟩ | ⟨_, h⟩) <;> cases h))
    refine ⟨d, _, hd5, trivial, fun od => ?_⟩
    have hd6 : (upd H5 d (.frz od (.dT kvs))) d = some (.frz od (.dT kvs)) := upd_same
    refine ⟨_, rfl, d, od, kvs, rfl, hd6, fun L hL => ?_⟩
    have nL : d ≠ L := ne_of_none hd6 hL
    have hLn : H5 L = none := none_of_but But.at (Ne.symm nL) hL
    refine itemT_turns (fun i H' => But d H5 H' ∧ H' d = some (.frz od (.dT kvs)) ∧ ∃ ks, H' L = some (.dT ks) ∧ (ks.map (·.2)).Nodup ∧ A2 (En2 (nwx H5 L H') H') ks (D.bo.take i)) ⟨But.at.trans (.same (same_new hL _)), by rw [upd_ne nL]; exact hd6, [], upd_same, List.nodup_nil, .nil⟩ (fun i H' h => h.2.1) ?_ ?_
    · rintro i k x qa Tt H' hi hq hTn ⟨b1, e1, ks, e2, nks, as⟩
      obtain ⟨eb, hbi, ek, hx⟩ := ha5.get hi
      dsimp only at ek hx
      subst ek
      have s1 := same_new hTn (.tup [V.ref qa, x])
      have kp : Kp H5 (upd H' Tt (.tup [V.ref qa, x])) := (b1.kp hd5 nf_dT).trans (.same s1)
      obtain ⟨t, xs2, rfl, ht, at2⟩ := hx.mono kp
      refine ⟨Tt, _, rfl, SqT.of upd_same, rfl, _, _, rfl, _, _, rfl, rfl, rfl, _, rfl, _, rfl, t, _, rfl, .inl (SqL.of ht), fun l hl => ?_⟩
      have s2 := same_new hl (.lst xs2)
      have hil : i < D.bo.length := (List.getElem?_eq_some_iff.mp hbi).1
      have hks : ks.length < 100 := by
        rw [as.len, List.length_take]
        have := hW.many
        omega
      refine ⟨ks, _, qa, rfl, s2 _ _ (s1 _ _ hq), s2 _ _ (s1 _ _ e2), Nat.lt_of_lt_of_le hks (by decide), ?_⟩
      have nl : l ≠ L := (ne_of_none (s1 _ _ e2) hl).symm
      have hvn : valV ks (kI eb.1) = none := valV_noneP fun e he c => by
        obtain ⟨y, hy1, hy2, _⟩ := as.mem he
        rw [hy2] at c
        have c := kI_inj c
        obtain ⟨j, hj⟩ := List.getElem?_of_mem hy1
        have hjl : j < i := by
          have := (List.getElem?_eq_some_iff.mp hj).1
          rw [List.length_take] at this
          omega
        rw [List.getElem?_take_of_lt hjl] at hj
        have sr := List.pairwise_iff_getElem.mp hW.srt j i (by rw [List.length_map]; omega) (by rw [List.length_map]; exact hil) hjl
        rw [List.getElem_map, List.getElem_map, (List.getElem?_eq_some_iff.mp hj).2, (List.getElem?_eq_some_iff.mp hbi).2] at sr
        exact sr c
      rw [putK_new _ hvn]
      have s12' := s1.trans s2
      have kpl : Kp (upd (upd H' Tt (.tup [V.ref qa, V.ref t])) l (.lst xs2)) (upd (upd (upd H' Tt (.tup [V.ref qa, V.ref t])) l (.lst xs2)) L (.dT (ks ++ [(kI eb.1, V.ref l)]))) := .put (s12' _ _ e2) nf_dT
      refine ⟨(b1.trans (.same s12')).new hLn, by rw [upd_ne nL]; exact s12' _ _ e1, _, upd_same, ?_, ?_⟩
      · rw [List.map_append, List.nodup_append]
        refine ⟨nks, by simp, fun y hy' w' hw c => ?_⟩
        obtain ⟨e, he, rfl⟩ := List.mem_map.mp hy'
        obtain ⟨_, _, _, t', xs', et', ht', _⟩ := as.mem he
        rw [List.mem_singleton.mp hw, et'] at c
        injection c with c
        have h' := (nwx_some ht').2.2
        rw [c] at h'
        rw [s1 _ _ h'] at hl
        cases hl
      rw [take_get hbi]
      refine A2.snoc (as.imp fun _ _ r => r.mono (kp_nwx_but ((But.same s12').trans But.at)) ((Kp.same s12').trans kpl)) ⟨rfl, l, xs2, rfl, nwx_put ?_ nl ?_, at2.imp fun _ _ r => r.mono ((Kp.same s2).trans kpl)⟩
      · refine none_of_but (b1.trans (.same s1)) (fun c => ?_) hl
        subst c
        rw [s1 _ _ e1] at hl
        cases hl
      · rw [upd_ne nl]; exact upd_same
    · rintro H6 ⟨b1, e1, ks, e2, nks, as⟩
      rw [ha5.len, List.take_length] at as
      have s6 : Same H5 (upd H6 d (.dT kvs)) := b1.unlock hd5
      generalize hH7 : upd H6 d (.dT kvs) = H7 at s6
      have e27 : H7 L = some (.dT ks) := by rw [← hH7, upd_ne (Ne.symm nL)]; exact e2
      have kp67 : Kp H6 H7 := by rw [← hH7]; exact .put e1 nf_frz
      refine ⟨e1, ?_⟩
      have hp7 := s6 _ _ hp5
      refine ⟨_, rfl, p, C, dx, _, rfl, hp7, Z.cl, Z.nB, (by show 1 < 1000; decide), ?_⟩
      have npL : L ≠ p := fun c => by subst c; rw [hp5] at hLn; cases hLn
      have nLp : H L = none := none_of_but b5 npL hLn
      have b7 : But p H (upd H7 p (.ins C dx (flds D1 L))) := (b5.trans (.same s6)).trans But.at
      refine q _ b7 ⟨dx, D1, L, ks, upd_same, al_of (nwx_put hD1n npD1 ?_) (ay5.imp fun _ _ r => r.mono (kp_nwx_but ((But.same s6).trans But.at))), nLp, nks, ?_, as.imp fun _ _ r => r.mono (fun b o _ h => ?_) ?_⟩
      · rw [upd_ne npD1]; exact s6 _ _ hD15
      · rw [upd_ne npL]; exact e27
      · obtain ⟨h1, h2, h3⟩ := nwx_some h
        have hb : b ≠ p := fun c => by subst c; rw [hp5] at h1; cases h1
        have hbd : b ≠ d := fun c => by subst c; rw [hd5] at h1; cases h1
        refine nwx_put (none_of_but b5 hb h1) hb ?_
        rw [upd_ne hb, ← hH7, upd_ne hbd]
        exact h3
      · exact kp67.trans (.put hp7 (by rintro (⟨_, h⟩ | ⟨_, h⟩) <;> cases h))
end
end TA

set_option Elab.async false
set_option maxRecDepth 100000
set_option maxHeartbeats 4000000
namespace TA
open PySem L2 PyProof.Rows
set_option linter.unusedVariables false
theorem inV_int (x : Int) (fs : List Int) : inV (.int x) (fs.map V.int) = decide (x ∈ fs) := by
  induction fs with
  | nil => rfl
  | cons y r ih =>
    show (eqV (.int y) (.int x) || inV (.int x) (r.map V.int)) = _
    rw [ih]
    by_cases c : y = x
    · subst c
      rw [show eqV (.int y) (.int y) = true from by simp [eqV]]
      simp
    · rw [show eqV (.int y) (.int x) = false from by simp [eqV, c]]
      by_cases m : x ∈ r
      · simp [m]
      · have : ¬ x = y := fun e => c e.symm
        simp [m, this]
theorem flat_ints (fs : List Int) : (fs.map V.int).all flatV = true := by
  rw [List.all_eq_true]
  intro v hv
  obtain ⟨x, _, rfl⟩ := List.mem_map.mp hv
  rfl
def hasK (bo : BD) (xy : Int × Int) : Bool := bo.any fun e => decide (iI e.1 = xy)
theorem hasK_yes {bo : BD} {e : IP × List (Int × Int)} (h : e ∈ bo) : hasK bo (iI e.1) = true := List.any_eq_true.mpr ⟨e, h, decide_eq_true rfl⟩
def k2 (xy : Int × Int) : List Key := [.inl xy.1, .inl xy.2]
theorem k2_iff {p : IP} {xy : Int × Int} : kI p = k2 xy ↔ iI p = xy := by
  unfold kI k2 iI
  constructor
  · intro h
    injection h with h1 h2
    injection h2 with h2 _
    injection h1 with h1
    injection h2 with h2
    exact Prod.ext h1 h2
  · intro h
    rw [← h]
theorem some_hasK {H : Hp} : ∀ {kvs : List (List Key × V)} {bo : BD}, A2 (EnAt H) kvs bo → ∀ xy, (valV kvs (k2 xy)).isSome = hasK bo xy
  | _, _, .nil, _ => rfl
  | (k, v) :: kvs, b :: bo, .cons a r, xy => by
    obtain ⟨ek, _⟩ := a
    dsimp only at ek
    subst ek
    show _ = (decide (iI b.1 = xy) || hasK bo xy)
    by_cases c : iI b.1 = xy
    · rw [valV_pos (k2_iff.mpr c), decide_eq_true c]
      rfl
    · rw [valV_neg (fun h => c (k2_iff.mp h)), some_hasK r xy, decide_eq_false c, Bool.false_or]
theorem iI_inj {p q : IP} (h : iI p = iI q) : p = q := by
  unfold iI at h
  injection h with h1 h2
  exact Prod.ext (by omega) (by omega)
/-- what the dict holds at a pair that comes -/
theorem val_at {H : Hp} : ∀ {kvs : List (List Key × V)} {bo : BD}, A2 (EnAt H) kvs bo → (bo.map (·.1)).Pairwise (· ≠ ·) → ∀ e ∈ bo, ∃ v, valV kvs (kI e.1) = some v ∧ LetAt H v e.2
  | _, _, .nil, _, e, m => by cases m
  | (k, v) :: kvs, b :: bo, .cons a r, s, e, m => by
    obtain ⟨ek, hl⟩ := a
    dsimp only at ek hl
    subst ek
    rw [List.map_cons, List.pairwise_cons] at s
    rcases List.mem_cons.mp m with rfl | m
    · exact ⟨v, valV_pos rfl, hl⟩
    · rw [valV_neg (fun h => s.1 _ (List.mem_map.mpr ⟨e, m, rfl⟩) (kI_inj h))]
      exact val_at r s.2 e m
/-- the pairs in order -/
def leN (p q : IP × List (Int × Int)) : Bool := decide (p.1.1 < q.1.1 ∨ (p.1.1 = q.1.1 ∧ p.1.2 ≤ q.1.2))
def sb (T : TD) : BD := T.bo.mergeSort leN
theorem sb_perm (T : TD) : (sb T).Perm T.bo := List.mergeSort_perm _ _
theorem sb_mem {T : TD} {e : IP × List (Int × Int)} : e ∈ sb T ↔ e ∈ T.bo := (sb_perm T).mem_iff
theorem sb_sorted (T : TD) : (sb T).Pairwise fun a b => leN a b = true := by
  refine List.pairwise_mergeSort (fun a b c h1 h2 => ?_) (fun a b => ?_) _
  · have h1 := of_decide_eq_true h1
    have h2 := of_decide_eq_true h2
    refine decide_eq_true ?_
    omega
  · unfold leN
    rw [Bool.or_eq_true, decide_eq_true_eq, decide_eq_true_eq]
    omega
def rowB (d : PyData) (m : Nat) : Bool := match d with
  | .list ds => decide (ds.length = m) && (ds.map outB).all id
  | _ => false
def chosenB (d : PyData) (n0 n1 : Nat) : Bool := match d with
  | .list [d0, d1] => rowB d0 n0 && rowB d1 n1
  | _ => false
def okA (T : TD) (ch : Nat → List Int) (h a : Nat) : Prop := (ch h).getD a 0 ∈ (T.al h).getD a []
instance {T : TD} {ch : Nat → List Int} {h a : Nat} : Decidable (okA T ch h a) := by unfold okA; exact inferInstance
def spInputs (K : PySem.W.Frag) (C : Addr) : Sp := fun vs H Q _ => ∃ (p : Addr) (h : Nat) (T : TD), vs = [.ref p, .int (h : Int)] ∧ h < 2 ∧ TaskR C H p T ∧ Q (.int ((T.al h).length : Int)) H
def spPairs (K : PySem.W.Frag) (C : Addr) : Sp := fun vs H Q _ => ∃ (p : Addr) (T : TD), vs = [.ref p] ∧ TaskAt C H p T ∧ WF T ∧ ∀ (r : Addr) (xs : List V), H r = none → A2 (TpAt H) xs ((sb T).map fun e => iI e.1) → Q (.ref r) (upd H r (.lst xs))
def spPair (K : PySem.W.Frag) (C : Addr) : Sp := fun vs H Q _ => ∃ (p : Addr) (v : V) (T : TD) (xy : Int × Int), vs = [.ref p, v] ∧ TaskR C H p T ∧ WF T ∧ TpAt H v xy ∧ ∀ H', Same H H' → Q (.bl (hasK T.bo xy)) H'
def spRow (K : PySem.W.Frag) : Sp := fun vs H Q _ => ∃ (v : V) (d : PyData) (m : Nat), vs = [v, .int (m : Int)] ∧ Dp K H v d ∧ small d ∧ ∀ H', Same H H' → Q (.bl (rowB d m)) H'
def spChosen (K : PySem.W.Frag) (C : Addr) : Sp := fun vs H Q _ => ∃ (p : Addr) (v : V) (d : PyData) (T : TD), vs = [.ref p, v] ∧ TaskR C H p T ∧ Dp K H v d ∧ (∀ ds, d = .list ds → ∀ e ∈ ds, small e) ∧ ∀ H', Same H H' → Q (.bl (chosenB d (T.al 0).length (T.al 1).length)) H'
/-- what alone_fault tells -/
def AloneRes (T : TD) (ch : Nat → List Int) (fv : V) (H' : Hp) : Prop := (fv = .non ∧ ∀ h a, h < 2 → a < (T.al h).length → okA T ch h a) ∨
  ∃ r h a, fv = .ref r ∧ H' r = some (.tup [.str "alone", .int ((h : Nat) : Int), .int ((a : Nat) : Int)]) ∧ h < 2 ∧ a < (T.al h).length ∧ ¬ okA T ch h a ∧ ∀ h' a', h' < 2 → a' < (T.al h').length → (h' < h ∨ (h' = h ∧ a' < a)) → okA T ch h' a'
def spAloneF (K : PySem.W.Frag) (C : Addr) : Sp := fun vs H Q _ => ∃ (p : Addr) (v : V) (T : TD) (ch : Nat → List Int), vs = [.ref p, v] ∧ TaskAt C H p T ∧ WF T ∧ RowsAt H v [ch 0, ch 1] ∧ (∀ h, h < 2 → (ch h).length = (T.al h).length) ∧
  ∀ fv H', Same H H' → AloneRes T ch fv H' → Q fv H'
section
variable {P : Program} {w : World} {K : PySem.W.Frag} {mg : Str → Option Value} {base : Heap}
abbrev nInputs : List Str := ["self", "hand"]
theorem sc_inputs : FnScope nInputs nInputs (defScope s_inputs) := ⟨rfl, rfl, rfl, by decide +kernel, rfl, by decide +kernel, by decide +kernel⟩
theorem within_hand {h : Nat} (hh : h < 2) : within (.int (h : Int)) 0 1 = true := by
  show decide ((0 : Int) ≤ (h : Int) ∧ (h : Int) ≤ 1) = true
  exact decide_eq_true (by omega)
theorem ok_inputs {f g C : Addr} {fd gd : FuncData} (F : Fun K "inputs" "Task.inputs" s_inputs f fd) (T : Txt K mg) (Z : TxtC K mg C) (WH : Def P w K mg base "is_hand" ["thing"] 3 (spHandG K) g gd) : FnOk P w K mg base CX0 4 f fd nInputs (spInputs K C) := by
  refine F.ok sc_inputs (fun vs H Q E h => ?_) (fun cdv A outer s H vs Q E hr h => ?_)
  · obtain ⟨p, h, D, rfl, _⟩ := h
    rfl
  obtain ⟨p, h, D, rfl, hh, hT, q⟩ := h
  refine ⟨_, (pss_cons (ps_if (pt_not (pt_val (pe_call WH.G (hr.mono (by decide)) rfl WH.m WH.k WH.b .nil pass0 (pa_cons (pv 1) pa_nil))))
      pss_never
      pss_nil)
    (pss_one (ps_ret (pe_callB call_len_seq (by rfl) T.len PySem.boot_len (pa_cons (pe_ix ix_list (pe_fld (pv 0) rfl) (pv 1) (fun _ _ => rfl)) pa_nil))))), ?_⟩
  obtain ⟨dx, a, d, hp, hA, _⟩ := hT
  obtain ⟨t, x0, x1, e, ht, hrow⟩ := hA.row
  obtain rfl : a = t := by injection e
  obtain ⟨x, hx, r, xs, rfl, hr2, ha2⟩ := hrow h hh
  refine ⟨_, rfl, _, _, rfl, .int _, ?_⟩
  rw [within_hand hh]
  refine ⟨true, rfl, iteF ?_⟩
  refine ⟨_, rfl, p, C, dx, _, _, rfl, hp, Z.cl, Z.nA, flds_alone _ _, _, rfl, a, _, _, _, rfl, rfl, SqL.of ht, atI_nat hx, r, xs, rfl, .inl (SqL.of hr2), ?_⟩
  rw [ha2.len]
  exact q
abbrev nPairs : List Str := ["self"]
theorem sc_pairs : FnScope nPairs nPairs (defScope s_pairs) := ⟨rfl, rfl, rfl, by decide +kernel, rfl, by decide +kernel, by decide +kernel⟩
theorem keys_sorted {T : TD} (W : WF T) {L : List (Addr × List Int)} (h1 : (L.map (·.2)).Perm (T.bo.map fun e => [((e.1.1 : Nat) : Int), ((e.1.2 : Nat) : Int)])) (h2 : L.Pairwise (fun q r => TS.code 64 q.2 ≤ TS.code 64 r.2)) :
    L.map (·.2) = (sb T).map fun e => [((e.1.1 : Nat) : Int), ((e.1.2 : Nat) : Int)] := by
  have n0 := (W.n0 0 (by decide)).2
  have n1 := (W.n0 1 (by decide)).2
  have bd : ∀ x ∈ T.bo.map (fun e => [((e.1.1 : Nat) : Int), ((e.1.2 : Nat) : Int)]), ∃ a b : Nat, a < 20 ∧ b < 20 ∧ x = [(a : Int), (b : Int)] := fun x hx => by
    obtain ⟨e, he, rfl⟩ := List.mem_map.mp hx
    have := W.rng e he
    exact ⟨e.1.1, e.1.2, by omega, by omega, rfl⟩
  have hp := (sb_perm T).map (fun e => [((e.1.1 : Nat) : Int), ((e.1.2 : Nat) : Int)])
  have h3 := h1.trans hp.symm
  refine List.Perm.eq_of_pairwise (le := fun a b => TS.code 64 a ≤ TS.code 64 b) (fun a b ha hb h h' => ?_) (List.pairwise_map.mpr h2) ?_ h3
  · obtain ⟨a1, a2, _, _, rfl⟩ := bd a (h1.mem_iff.mp ha)
    obtain ⟨b1, b2, _, _, rfl⟩ := bd b (hp.mem_iff.mp hb)
    rw [code_pair, code_pair] at h h'
    have e1 : a1 = b1 := by omega
    have e2 : a2 = b2 := by omega
    rw [e1, e2]
  · rw [List.pairwise_map]
    refine (sb_sorted T).imp_of_mem fun {a b} ha hb h => ?_
    have := W.rng a (sb_mem.mp ha)
    have := W.rng b (sb_mem.mp hb)
    rw [code_pair, code_pair]
    have h := of_decide_eq_true h
    rcases h with h | ⟨h, h'⟩
    · omega
    · omega
theorem ok_pairs {f C : Addr} {fd : FuncData} (F : Fun K "pairs" "Task.pairs" s_pairs f fd) (T2 : Txt2 K mg) (Z : TxtC K mg C) : FnOk P w K mg base CX0 1 f fd nPairs (spPairs K C) := by
  refine F.ok sc_pairs (fun vs H Q E h => ?_) (fun cdv A outer s H vs Q E hr h => ?_)
  · obtain ⟨p, D, rfl, _⟩ := h
    rfl
  obtain ⟨p, D, rfl, hT, hW, q⟩ := h
  refine ⟨_, (pss_one (ps_ret (pe_callB (cr_sortedDT (d := 2) (B := 64) (by decide) rfl) (by rfl) T2.sorted (by decide +kernel) (pa_cons (pe_fld (pv 0) rfl) pa_nil)))), ?_⟩
  obtain ⟨dx, a, d, hp, hA, kvs, hd, ha⟩ := hT
  refine ⟨_, rfl, p, C, dx, _, _, rfl, hp, Z.cl, Z.nB, flds_both _ _, d, kvs, D.bo.map (fun e => [((e.1.1 : Nat) : Int), ((e.1.2 : Nat) : Int)]), rfl, .inl hd, ?_, ?_, ?_, fun L r h1 h2 h3 hr0 => ?_⟩
  · rw [keys_of ha, List.map_map, List.map_map]
    rfl
  · rw [List.length_map]
    have := hW.many
    omega
  · intro ns hns
    obtain ⟨e, he, rfl⟩ := List.mem_map.mp hns
    have := hW.rng e he
    have := (hW.n0 0 (by decide)).2
    have := (hW.n0 1 (by decide)).2
    refine ⟨rfl, fun m hm => ?_⟩
    rcases List.mem_cons.mp hm with rfl | hm
    · omega
    · obtain rfl := List.mem_singleton.mp hm
      omega
  · refine q r _ hr0 ?_
    have e := keys_sorted hW h1 h2
    clear h1 h2 q
    generalize sb D = bo at e
    induction L generalizing bo with
    | nil =>
      cases bo with
      | nil => exact .nil
      | cons _ _ => cases e
    | cons x L ih =>
      cases bo with
      | nil => cases e
      | cons b bo =>
        rw [List.map_cons, List.map_cons] at e
        injection e with e1 e2
        refine .cons ⟨x.1, rfl, ?_⟩ (ih (fun y hy => h3 y (List.mem_cons_of_mem _ hy)) bo e2)
        rw [h3 x List.mem_cons_self, e1]
        rfl
end
end TA

set_option Elab.async false
set_option maxRecDepth 100000
set_option maxHeartbeats 4000000
namespace TA
open PySem L2 PyProof.Rows
set_option linter.unusedVariables false
def WellAt (H : Hp) (a : Addr) (n : Int) : Prop := ∃ x y z : Int, H a = some (.lst [.int x, .int y, .int z]) ∧ 0 ≤ x ∧ 0 ≤ z ∧ z ≤ n
theorem WellAt.same {H H' : Hp} {a : Addr} {n : Int} (s : Same H H') (w : WellAt H a n) : WellAt H' a n := by
  obtain ⟨x, y, z, h, r⟩ := w
  exact ⟨x, y, z, s _ _ h, r⟩
theorem join3 {b : Bool} {X : Prop} {R : L2.St → Hp → Prop} {σ : L2.St} {H : Hp} (Iv : L2.St → Hp → Prop) (h0 : b = false → Iv σ H) (k : ∀ σ Hc, Iv σ Hc → R σ Hc) (h1 : b = true → (∀ σ Hc, Iv σ Hc → R σ Hc) → X) : if b = true then X else R σ H := by
  cases b with
  | false => exact iteF (k σ H (h0 rfl))
  | true => exact iteT (h1 rfl k)
def spWell : Sp := fun vs H Q _ => ∃ c : Int, vs = [.int c] ∧ ∀ (p : Addr) (H' : Hp), H p = none → Same H H' → WellAt H' p 0 → Q (.ref p) H'
def spDraw : Sp := fun vs H Q _ => ∃ (a : Addr) (n m : Int), vs = [.ref a, .int m] ∧ WellAt H a n ∧ n < 999999 ∧ 0 < m ∧ m < 1000 ∧ ∀ (r : Int) (H' : Hp), 0 ≤ r → r < m → But a H H' → WellAt H' a (n + 1) → Q (.int r) H'
theorem WellAt.but {H H' : Hp} {a d : Addr} {n : Int} (w : WellAt H a n) (ne : a ≠ d) (s : But d H H') : WellAt H' a n := by
  obtain ⟨x, y, z, h, r⟩ := w
  exact ⟨x, y, z, s _ _ ne h, r⟩
theorem WellAt.up {H : Hp} {a : Addr} {n m : Int} (w : WellAt H a n) (h : n ≤ m) : WellAt H a m := by
  obtain ⟨x, y, z, h0, a1, a2, a3⟩ := w
  exact ⟨x, y, z, h0, a1, a2, by omega⟩
theorem WellAt.ne {H : Hp} {a b : Addr} {n : Int} (w : WellAt H a n) (h : H b = none) : a ≠ b := by
  obtain ⟨x, y, z, h0, _⟩ := w
  exact ne_of_none h0 h
section
variable {P : Program} {w : World} {K : PySem.W.Frag} {mg : Str → Option Value} {base : Heap}
theorem scWell : FnScope ["_law_cell"] ["_law_cell"] (defScope sWell) := ⟨rfl, rfl, rfl, by decide +kernel, rfl, by decide +kernel, by decide +kernel⟩
theorem ok_well {f : Addr} {fd : FuncData} (F : Fun K "_law_well" "_law_well" sWell f fd) (T : Txt K mg) : FnOk P w K mg base CX0 1 f fd ["_law_cell"] spWell := by
  refine F.ok scWell (fun vs H Q E h => ?_) (fun cdv A outer s H vs Q E hr h => ?_)
  · obtain ⟨c, rfl, _⟩ := h
    rfl
  obtain ⟨c, rfl, q⟩ := h
  refine ⟨_, pss_one (ps_ret (pe_lst (pa_cons (pe_op op_mul (pv 0) (pe_callTy call_int1 (by rfl) T.int boot_int (pa_cons (pe_cmpR op_ge (pv 0) (pe_op op_pow pe_int pe_int) (nomark _)) pa_nil)))
    (pa_cons (pv 0) (pa_cons pe_int pa_nil))))), ?_⟩
  refine ⟨_, rfl, _, rfl, _, _, rfl, rfl, ⟨by decide, by decide, by decide⟩, _, _, rfl, rfl, .inr ⟨_, rfl, ?_⟩⟩
  have b : ∀ k : Bool, CMul c (if k = true then 1 else 0) := fun k => .inr (by cases k <;> decide)
  refine ⟨_, _, rfl, rfl, b _, _, rfl, (by show 3 ≤ sizeLine; decide), fun p hp => ?_⟩
  refine q p _ hp (same_new hp _) ⟨_, _, _, upd_same, ?_, Int.le_refl _, Int.le_refl _⟩
  by_cases hc : c ≥ 10 ^ (18 : Int).toNat
  · rw [decide_eq_true hc]
    have : (0 : Int) ≤ 10 ^ (18 : Int).toNat := by decide
    show 0 ≤ c * 1
    omega
  · rw [decide_eq_false hc]
    show 0 ≤ c * 0
    omega
theorem scDraw : FnScope ["_law_well_here", "_law_many", "_law_found", "_law_low"] ["_law_well_here", "_law_many"] (defScope sDraw) := ⟨rfl, rfl, rfl, by decide +kernel, rfl, by decide +kernel, by decide +kernel⟩
theorem ok_draw {f : Addr} {fd : FuncData} (F : Fun K "_law_draw" "_law_draw" sDraw f fd) : FnOk P w K mg base CX0 1 f fd ["_law_well_here", "_law_many"] spDraw := by
  refine F.ok scDraw (fun vs H Q E h => ?_) (fun cdv A outer s H vs Q E hr h => ?_)
  · obtain ⟨a, n, m, rfl, _⟩ := h
    rfl
  obtain ⟨a, n, m, rfl, ⟨x, y, z, hL, hx, hz, hzn⟩, hn, hm, hm2, q⟩ := h
  have nd := scDraw.nd
  refine ⟨_, pss_cons (ps_if (pt_cmpR op_gt (pe_ix ix_list (pv 0) pe_int (fun _ _ => rfl)) pe_int (nomark _))
      (pss_cons (ps_set (i := 2) nd rfl (Or.inl rfl) (pe_op op_mod (pe_ix ix_list (pv 0) pe_int (fun _ _ => rfl)) (pv 1)))
        (pss_cons (ps_asg (pe_op op_fdivW (pe_ix ix_list (pv 0) pe_int (fun _ _ => rfl)) (pv 1)) (pg_sub (pv 0) pe_int set_list))
          (pss_one (ps_ret (pv 2))))) pss_nil)
    (pss_cons (ps_asg (pe_op op_add (pe_ix ix_list (pv 0) pe_int (fun _ _ => rfl)) pe_int) (pg_sub (pv 0) pe_int set_list))
    (pss_cons (ps_set (i := 3) nd rfl (Or.inl rfl) (pe_op op_add (pe_op op_mod (pe_ix ix_list (pv 0) pe_int (fun _ _ => rfl)) pe_int) (pe_op op_mul (pe_op op_fdivW (pe_ix ix_list (pv 0) pe_int (fun _ _ => rfl)) pe_int) pe_int)))
    (pss_cons (ps_set (i := 3) nd rfl (Or.inl rfl) (pe_op op_mod (pe_op op_mul (pe_op op_add (pe_op op_add (pv 3) (pe_op op_mul pe_int (pe_ix ix_list (pv 0) pe_int (fun _ _ => rfl)))) pe_int) pe_int) pe_int))
    (pss_cons (ps_set (i := 3) nd rfl (Or.inl rfl) (pe_op op_mod (pe_op op_mul (pv 3) (pe_op op_add (pe_op op_add (pe_op op_fdiv (pv 3) pe_int) pe_int) (pe_ix ix_list (pv 0) pe_int (fun _ _ => rfl)))) pe_int))
    (pss_one (ps_ret (pe_op op_mod (pe_op op_mod (pe_op op_mul (pv 3) (pe_op op_add (pe_op op_fdiv (pv 3) pe_int) pe_int)) pe_int) (pv 1)))))))), ?_⟩
  refine ⟨_, rfl, a, _, _, _, rfl, rfl, SqL.of hL, rfl, _, _, rfl, rfl, _, rfl, ?_⟩
  refine ite2 (fun c => ?_) (fun c => ?_)
  · have c' : x > 0 := of_decide_eq_true c
    refine ⟨_, rfl, a, _, _, _, rfl, rfl, SqL.of hL, rfl, _, rfl, _, _, rfl, rfl, hm, ?_⟩
    refine ⟨_, rfl, a, _, _, _, rfl, rfl, SqL.of hL, rfl, _, rfl, _, _, rfl, rfl, wide_div (b := 100) hm (by omega) (by decide) (by decide), ?_⟩
    refine ⟨_, rfl, a, _, _, 0, rfl, rfl, hL, rfl, _, rfl, ?_⟩
    exact q _ _ (Int.emod_nonneg _ (by omega)) (Int.emod_lt_of_pos _ hm) (fun b o ne e => by rw [upd_ne ne]; exact e) ⟨_, _, _, upd_same, Int.ediv_nonneg hx (by omega), hz, by omega⟩
  · have hL2 : (upd H a (.lst [.int x, .int y, .int (z + 1)])) a = some (.lst [.int x, .int y, .int (z + 1)]) := upd_same
    refine ⟨_, rfl, a, _, _, _, rfl, rfl, SqL.of hL, rfl, _, _, rfl, rfl, ?_⟩
    refine ⟨_, rfl, a, _, _, 2, rfl, rfl, hL, rfl, ?_⟩
    refine ⟨_, rfl, a, _, _, _, rfl, rfl, SqL.of hL2, rfl, _, _, rfl, rfl, (by show (0 : Int) < 2147483629; decide), _, rfl, a, _, _, _, rfl, rfl, SqL.of hL2, rfl, _, _, rfl, rfl, wide_div (b := 100) (by decide) (by decide) (by decide) (by decide), _, _, rfl, rfl, .inr ⟨by decide, by decide⟩, _, _, rfl, rfl, ?_⟩
    refine ⟨_, rfl, _, rfl, a, _, _, _, rfl, rfl, SqL.of hL2, rfl, _, _, rfl, rfl, .inl ⟨by decide, by decide⟩, _, _, rfl, rfl, _, _, rfl, rfl, _, _, rfl, rfl, .inr ⟨by decide, by decide⟩, _, _, rfl, rfl, (by show (0 : Int) < 2147483647; decide), ?_⟩
    generalize y % 2147483629 + y / 2147483629 * 30013 = u
    have n0 := Int.emod_nonneg ((u + 69623 * (z + 1) + 1) * 48271) (show (2147483647 : Int) ≠ 0 by decide)
    have n1 := Int.emod_lt_of_pos ((u + 69623 * (z + 1) + 1) * 48271) (show (0 : Int) < 2147483647 by decide)
    generalize ((u + 69623 * (z + 1) + 1) * 48271) % 2147483647 = n at n0 n1 ⊢
    refine ⟨_, rfl, _, rfl, _, _, rfl, rfl, ⟨by decide, by decide⟩, _, _, rfl, rfl, _, rfl, a, _, _, _, rfl, rfl, SqL.of hL2, rfl, _, _, rfl, rfl, _, _, rfl, rfl, .inl ⟨by omega, by omega⟩, _, _, rfl, rfl, (by show (0 : Int) < 2147483629; decide), ?_⟩
    have k0 := Int.emod_nonneg (n * (n / 1013 + 69621 + (z + 1))) (show (2147483629 : Int) ≠ 0 by decide)
    have k1 := Int.emod_lt_of_pos (n * (n / 1013 + 69621 + (z + 1))) (show (0 : Int) < 2147483629 by decide)
    generalize (n * (n / 1013 + 69621 + (z + 1))) % 2147483629 = k at k0 k1 ⊢
    refine ⟨_, rfl, _, rfl, _, _, rfl, rfl, ⟨by decide, by decide⟩, _, _, rfl, rfl, _, _, rfl, rfl, .inl ⟨by omega, by omega⟩, _, _, rfl, rfl, (by show (0 : Int) < 2147483399; decide), _, rfl, _, _, rfl, rfl, hm, ?_⟩
    exact q _ _ (Int.emod_nonneg _ (by omega)) (Int.emod_lt_of_pos _ hm) (fun b o ne e => by rw [upd_ne ne]; exact e) ⟨_, _, _, upd_same, hx, by omega, by omega⟩
end
end TA

set_option Elab.async false
set_option maxRecDepth 100000
set_option maxHeartbeats 4000000
namespace TA
open PySem L2 PyProof.Rows
set_option linter.unusedVariables false
/-! data that may be compared -/
def Ok (n : Nat) (d : PyData) : Prop := d.canLay0 = true ∧ d.depth ≤ n
theorem Ok.shaped {n : Nat} {d : PyData} (h : Ok n d) (e : n ≤ 64) : SeqAt.shaped d = true := by
  unfold SeqAt.shaped
  rw [h.1, decide_eq_true (Nat.le_trans h.2 e)]
  rfl
theorem ok_int {n : Nat} (i : Int) : Ok (n + 1) (.int i) := ⟨by simp [PyData.canLay0], by simp [PyData.depth]⟩
theorem ok_non {n : Nat} : Ok (n + 1) .none := ⟨by simp [PyData.canLay0], by simp [PyData.depth]⟩
theorem ok_all {n : Nat} : ∀ {ds : List PyData}, (∀ d ∈ ds, Ok n d) → PyData.canLayAll0 ds = true ∧ PyData.depthAll ds ≤ n
  | [], _ => ⟨rfl, by simp [PyData.depthAll]⟩
  | d :: ds, q => by
    obtain ⟨a, b⟩ := ok_all (ds := ds) (fun x hx => q x (List.mem_cons_of_mem _ hx))
    obtain ⟨c, e⟩ := q d List.mem_cons_self
    refine ⟨by simp [PyData.canLayAll0, a, c], ?_⟩
    simp only [PyData.depthAll]
    omega
theorem ok_list {n : Nat} {ds : List PyData} (q : ∀ d ∈ ds, Ok n d) : Ok (n + 1) (.list ds) := by
  obtain ⟨a, b⟩ := ok_all q
  refine ⟨by simpa [PyData.canLay0] using a, ?_⟩
  simp only [PyData.depth]
  omega
theorem ok_tuple {n : Nat} {ds : List PyData} (q : ∀ d ∈ ds, Ok n d) : Ok (n + 1) (.tuple ds) := by
  obtain ⟨a, b⟩ := ok_all q
  refine ⟨by simpa [PyData.canLay0] using a, ?_⟩
  simp only [PyData.depth]
  omega
theorem okD_pair (p : Int × Int) : Ok 2 (pairD p) := ok_tuple fun d hd => by
  rcases List.mem_cons.mp hd with rfl | hd
  · exact ok_int _
  · obtain rfl := List.mem_singleton.mp hd
    exact ok_int _
theorem okD_pairs (l : List (Int × Int)) : Ok 3 (.list (l.map pairD)) := ok_list fun d hd => by
  obtain ⟨p, _, rfl⟩ := List.mem_map.mp hd
  exact okD_pair p
theorem eqv_pair (p q : Int × Int) : PyData.eqv (pairD p) (pairD q) = decide (p = q) := by
  show ((p.1 == q.1) && ((p.2 == q.2) && true)) = decide (p = q)
  rw [Bool.and_true]
  by_cases h : p = q
  · subst h
    simp
  · rw [decide_eq_false h]
    by_cases h1 : p.1 = q.1
    · have : ¬ p.2 = q.2 := fun h2 => h (Prod.ext h1 h2)
      simp [this]
    · simp [h1]
/-! == of the data of tasks -/
theorem eqvAll_map {α : Type} [DecidableEq α] (f : α → PyData) (h : ∀ x y, PyData.eqv (f x) (f y) = decide (x = y)) : ∀ xs ys : List α, PyData.eqvAll (xs.map f) (ys.map f) = decide (xs = ys)
  | [], [] => rfl
  | [], _ :: _ => rfl
  | _ :: _, [] => rfl
  | x :: xs, y :: ys => by
    show (PyData.eqv (f x) (f y) && PyData.eqvAll (xs.map f) (ys.map f)) = _
    rw [h, eqvAll_map f h xs ys, ← Bool.decide_and]
    exact decide_eq_decide.mpr ⟨fun ⟨a, b⟩ => by rw [a, b], fun c => by injection c with a b; exact ⟨a, b⟩⟩
theorem eqv_list {α : Type} [DecidableEq α] (f : α → PyData) (h : ∀ x y, PyData.eqv (f x) (f y) = decide (x = y)) (xs ys : List α) : PyData.eqv (.list (xs.map f)) (.list (ys.map f)) = decide (xs = ys) := eqvAll_map f h xs ys
theorem eqv_ints (x y : Int) : PyData.eqv (.int x) (.int y) = decide (x = y) := by
  show (x == y) = _
  exact Bool.beq_eq_decide_eq x y
theorem eqv_row (x y : List Int) : PyData.eqv (rowD x) (rowD y) = decide (x = y) := eqv_list _ eqv_ints x y
theorem eqv_rows (x y : List (List Int)) : PyData.eqv (rowsD x) (rowsD y) = decide (x = y) := eqv_list _ eqv_row x y
theorem eqv_let (x y : List (Int × Int)) : PyData.eqv (letD x) (letD y) = decide (x = y) := eqv_list _ eqv_pair x y
theorem eqv_al (a b : Nat → List (List Int)) : PyData.eqv (alD a) (alD b) = decide (a 0 = b 0 ∧ a 1 = b 1) := by
  show (PyData.eqv (rowsD (a 0)) (rowsD (b 0)) && (PyData.eqv (rowsD (a 1)) (rowsD (b 1)) && true)) = _
  rw [eqv_rows, eqv_rows, Bool.and_true, ← Bool.decide_and]
theorem okD_row (r : List Int) : Ok 2 (rowD r) := ok_list fun d hd => by
  obtain ⟨p, _, rfl⟩ := List.mem_map.mp hd
  exact ok_int _
theorem okD_rows (r : List (List Int)) : Ok 3 (rowsD r) := ok_list fun d hd => by
  obtain ⟨p, _, rfl⟩ := List.mem_map.mp hd
  exact okD_row p
theorem okD_al (a : Nat → List (List Int)) : Ok 4 (alD a) := ok_list fun d hd => by
  rcases List.mem_cons.mp hd with rfl | hd
  · exact okD_rows _
  · obtain rfl := List.mem_singleton.mp hd
    exact okD_rows _
/-! both of two tasks -/
theorem nodup_perm {α : Type} [DecidableEq α] : ∀ {l m : List α}, l.Nodup → (∀ x ∈ l, x ∈ m) → m.length ≤ l.length → l.Perm m
  | [], m, _, _, h => by
    have : m = [] := List.eq_nil_of_length_eq_zero (by simpa using h)
    rw [this]
  | x :: l, m, n, h, hl => by
    rw [List.nodup_cons] at n
    have hx := h x List.mem_cons_self
    refine (List.Perm.cons x (nodup_perm (m := m.erase x) n.2 (fun y hy => ?_) ?_)).trans (List.perm_cons_erase hx).symm
    · refine (List.mem_erase_of_ne (fun c => ?_)).mpr (h y (List.mem_cons_of_mem _ hy))
      subst c
      exact n.1 hy
    · rw [List.length_erase_of_mem hx]
      rw [List.length_cons] at hl
      omega
abbrev EB := IP × List (Int × Int)
def uniq (bo : BD) : Prop := (bo.map (·.1)).Pairwise (· ≠ ·)
theorem uniq_nodup {bo : BD} (h : uniq bo) : bo.Nodup := List.Pairwise.imp (fun h c => h (congrArg _ c)) (List.pairwise_map.mp h)
theorem uniq_key {bo : BD} (h : uniq bo) : ∀ {e f : EB}, e ∈ bo → f ∈ bo → e.1 = f.1 → e = f := by
  induction bo with
  | nil => intro e f he; cases he
  | cons b r ih =>
    intro e f he hf k
    unfold uniq at h
    rw [List.map_cons, List.pairwise_cons] at h
    rcases List.mem_cons.mp he with e1 | he'
    · rcases List.mem_cons.mp hf with e2 | hf'
      · rw [e1, e2]
      · exact (h.1 _ (List.mem_map.mpr ⟨f, hf', rfl⟩) (by rw [← e1]; exact k)).elim
    · rcases List.mem_cons.mp hf with e2 | hf'
      · exact (h.1 _ (List.mem_map.mpr ⟨e, he', rfl⟩) (by rw [← e2]; exact k.symm)).elim
      · exact ih h.2 he' hf' k
theorem sort_perm {a b : BD} (ua : uniq a) : a.mergeSort leN = b.mergeSort leN ↔ a.Perm b := by
  constructor
  · intro h
    exact ((List.mergeSort_perm a leN).symm.trans (h ▸ List.Perm.refl _)).trans (List.mergeSort_perm b leN)
  · intro h
    have hp := ((List.mergeSort_perm a leN).trans h).trans (List.mergeSort_perm b leN).symm
    refine List.Perm.eq_of_pairwise (le := fun x y => leN x y = true) (fun x y hx hy h1 h2 => ?_) (sb_sorted ⟨fun _ => [], a⟩) (sb_sorted ⟨fun _ => [], b⟩) hp
    have hx := (List.mergeSort_perm a leN).mem_iff.mp hx
    have hy := h.mem_iff.mpr ((List.mergeSort_perm b leN).mem_iff.mp hy)
    refine uniq_key ua hx hy ?_
    have h1 := of_decide_eq_true h1
    have h2 := of_decide_eq_true h2
    refine Prod.ext ?_ ?_ <;> omega
def sameB (a b : BD) : Bool := decide (a.mergeSort leN = b.mergeSort leN)
theorem sameB_iff {a b : BD} (ua : uniq a) (ub : uniq b) : sameB a b = (a.length == b.length && a.all fun e => decide (e ∈ b)) := by
  unfold sameB
  rw [Bool.eq_iff_iff, decide_eq_true_eq, Bool.and_eq_true, sort_perm ua, beq_iff_eq, List.all_eq_true]
  constructor
  · intro h
    exact ⟨h.length_eq, fun e he => decide_eq_true (h.mem_iff.mp he)⟩
  · rintro ⟨h1, h2⟩
    exact nodup_perm (uniq_nodup ua) (fun e he => of_decide_eq_true (h2 e he)) (by omega)
def sameTD (T U : TD) : Bool := decide (T.al 0 = U.al 0 ∧ T.al 1 = U.al 1) && sameB T.bo U.bo
end TA

set_option Elab.async false
set_option maxRecDepth 100000
set_option maxHeartbeats 4000000
namespace TA
open PySem L2 PyProof.Rows
set_option linter.unusedVariables false
theorem hu140_of {A : Around} {k : Nat} (hr : Room k A) : A.units + 140 < cLine := by have := hr.un; omega
/-- what isinstance asks of the own class, and == of its instances -/
structure EqC (K : PySem.W.Frag) (C : Addr) : Prop where
  ha : PySem.W.findIn K (.ref C) "__class__" = some (some (.builtin "object.__class__"))
  hn : PySem.W.specialIn K (.builtin "object.__class__") "__get__" = some (some (.builtin "getset_descriptor.__get__"))
  htk : PySem.W.takesIn K (.builtin "object.__class__") = some true
  hm : PySem.W.mroIn K C (.type "object") = some true
  ne : PySem.W.findIn K (.ref C) "__ne__" = some (some (.builtin "object.__ne__"))
  ob : PySem.W.subIn K (.ref C) (.type "object") = some true
  kN : PySem.W.kitOne K (.type "NoneType") (.ref C) = some false
  kL : PySem.W.kitOne K (.type "list") (.ref C) = some false
  kT : PySem.W.kitOne K (.type "tuple") (.ref C) = some false
  kD : PySem.W.kitOne K (.type "dict") (.ref C) = some false
structure EqD (P : Program) (w : World) (K : PySem.W.Frag) (mg : Str → Option Value) (base : Heap) (C : Addr) (k : Nat) (sp : Sp) (f : Addr) (fd : FuncData) : Prop where
  G : FnOk P w K mg base CX0 k f fd ["self", "other"] sp
  b : Binds K fd ["self", "other"] []
  at_ : PySem.W.findIn K (.ref C) "__eq__" = some (some (.ref f))
  fn : PySem.W.isFn K (.ref f) = true
/-- no task, but a list, a tuple, a dict or None -/
def NoT (H : Hp) (v : V) : Prop := v = .non ∨ ∃ a, v = .ref a ∧ ((∃ xs, H a = some (.lst xs)) ∨ (∃ xs, H a = some (.tup xs)) ∨ ∃ kvs, H a = some (.dT kvs))
def spEq (K : PySem.W.Frag) (C : Addr) : Sp := fun vs H Q _ => ∃ (p : Addr) (v : V) (T : TD), vs = [.ref p, v] ∧ TaskAt C H p T ∧ uniq T.bo ∧ ((∃ (q : Addr) (U : TD), v = .ref q ∧ TaskAt C H q U ∧ uniq U.bo ∧ Q (.bl (sameTD T U)) H) ∨ (NoT H v ∧ Q (.bl false) H))
theorem kit_self {K : PySem.W.Frag} {C : Addr} : PySem.W.kitOne K (.ref C) (.ref C) = some true := by
  unfold PySem.W.kitOne
  rw [if_pos (by simp)]
/-- what the dict of a task holds at a key -/
theorem val_no {H : Hp} {kvs : List (List Key × V)} {bo : BD} (a : A2 (EnAt H) kvs bo) {p : IP} (n : ∀ e ∈ bo, e.1 ≠ p) : valV kvs (kI p) = none := valV_noneP fun x hx c => by
  obtain ⟨f, hf, q⟩ := a.mem hx
  exact n f hf (kI_inj (q.1.symm.trans c))
theorem eqx_let {K : PySem.W.Frag} {H : Hp} {x y : V} {l m : List (Int × Int)} (h : LetAt H x l) (g : LetAt H y m) : EqX K H 1 x y (decide (l = m)) :=
  .inl ⟨letD l, letD m, h.dp, g.dp, (okD_pairs l).shaped (by decide), (okD_pairs m).shaped (by decide), (eqv_let l m).symm⟩
theorem rcx_bo {K : PySem.W.Frag} {H : Hp} {d d' : Addr} {bo bo' : BD} (h : BoAt H d bo) (g : BoAt H d' bo') (u : uniq bo) (u' : uniq bo') : RcX K H (EqX K H 1) (.ref d) (.ref d') (sameB bo bo') := by
  obtain ⟨ks, hd, a⟩ := h
  obtain ⟨ls, hd', a'⟩ := g
  refine .inr (.inr ⟨d, d', ks, ls, fun p => decide (∃ e ∈ bo', p.1 = kI e.1 ∧ ∃ f ∈ bo, p.1 = kI f.1 ∧ e = f), rfl, rfl, hd, hd', fun hl p hp => ?_, ?_⟩)
  · obtain ⟨e, he, ek, el⟩ := a.mem hp
    by_cases c : ∃ f ∈ bo', f.1 = e.1
    · obtain ⟨f, hf, ef⟩ := c
      obtain ⟨v, hv, hl⟩ := val_at a' u' f hf
      refine .inr ⟨v, by rw [ek, ← ef]; exact hv, ?_⟩
      have := eqx_let (K := K) el hl
      refine cast (congrArg (EqX K H 1 p.2 v) (decide_eq_decide.mpr ⟨fun h => ⟨f, hf, by rw [ek, ef], e, he, ek, Prod.ext ef h.symm⟩, ?_⟩)) this
      rintro ⟨f', hf', k', e', he', k2, rfl⟩
      have e1 : f'.1 = f.1 := by rw [ef]; exact kI_inj (k'.symm.trans ek)
      have e2 := uniq_key u' hf' hf e1
      have e3 := uniq_key u he' he (kI_inj (k2.symm.trans ek))
      rw [← e2, ← e3]
    · refine .inl ⟨by rw [ek]; exact val_no a' fun f hf k => c ⟨f, hf, k⟩, decide_eq_false ?_⟩
      rintro ⟨f, hf, k, _⟩
      exact c ⟨f, hf, (kI_inj (ek.symm.trans k)).symm⟩
  · rw [sameB_iff u u', a.len, a'.len]
    congr 1
    rw [Bool.eq_iff_iff, List.all_eq_true, List.all_eq_true]
    constructor
    · intro h p hp
      obtain ⟨e, he, ek, el⟩ := a.mem hp
      have hm := of_decide_eq_true (h e he)
      exact decide_eq_true ⟨e, hm, ek, e, he, ek, rfl⟩
    · intro h e he
      obtain ⟨p, hp, ek, el⟩ : ∃ p, p ∈ ks ∧ EnAt H p e := by
        obtain ⟨i, hi⟩ := List.getElem?_of_mem he
        obtain ⟨p, hp, r⟩ := a.at hi
        exact ⟨p, List.mem_of_getElem? hp, r⟩
      obtain ⟨f, hf, k, e', he', k2, rfl⟩ := of_decide_eq_true (h p hp)
      have e3 := uniq_key u he' he (kI_inj (k2.symm.trans ek))
      exact decide_eq_true (by rw [← e3]; exact hf)
section
variable {P : Program} {w : World} {K : PySem.W.Frag} {mg : Str → Option Value} {base : Heap}
abbrev nEq : List Str := ["self", "other"]
theorem sc_eq : FnScope nEq nEq (defScope s_eq) := ⟨rfl, rfl, rfl, by decide +kernel, rfl, by decide +kernel, by decide +kernel⟩
theorem ok_eq {f C : Addr} {fd : FuncData} (F : Fun K "__eq__" "Task.__eq__" s_eq f fd) (T : Txt K mg) (Z : TxtC K mg C) (EC : EqC K C) : FnOk P w K mg base CX0 1 f fd ["self", "other"] (spEq K C) := by
  refine F.ok sc_eq (fun vs H Q E h => ?_) (fun cdv A outer s H vs Q E hr h => ?_)
  · obtain ⟨p, v, D, rfl, _⟩ := h
    rfl
  obtain ⟨p, v, D, rfl, hT, uT, h⟩ := h
  have nd := sc_eq.nd
  have hu140 := hu140_of hr
  refine ⟨_, (pss_one (ps_ret (pe_and (pe_callB call_isi (by rfl) T.isi boot_isinstance (pa_cons (pv 1) (pa_cons (pe_glob (v := .ref C) rfl Z.mg rfl) pa_nil))) (pe_and (pe_cmpR (op_eqD hr.units) (pe_fld (pv 0) rfl) (pe_fld (pv 1) rfl) (nomark _)) (pe_one (pe_cmpR (op_eqX hu140) (pe_fld (pv 0) rfl) (pe_fld (pv 1) rfl) (nomark _))))))), ?_⟩
  rcases h with ⟨q, U, rfl, hU, uU, k⟩ | ⟨hv, k⟩
  case inr =>
    rcases hv with rfl | ⟨a, rfl, ⟨xs, e⟩ | ⟨xs, e⟩ | ⟨kvs, e⟩⟩
    · exact ⟨_, rfl, _, .ref C, _, _, false, rfl, .own C, .base .non, EC.kN, _, rfl, iteF k⟩
    · exact ⟨_, rfl, _, .ref C, _, _, false, rfl, .own C, .base (.lst e), EC.kL, _, rfl, iteF k⟩
    · exact ⟨_, rfl, _, .ref C, _, _, false, rfl, .own C, .base (.tup e), EC.kT, _, rfl, iteF k⟩
    · exact ⟨_, rfl, _, .ref C, _, _, false, rfl, .own C, .base (.dT e), EC.kD, _, rfl, iteF k⟩
  obtain ⟨dx, aa, d, hp, hA, hB⟩ := hT
  obtain ⟨dx', aa', d', hq, hA', hB'⟩ := hU
  refine ⟨_, rfl, _, .ref C, _, _, true, rfl, .own C, .base (.ins hq Z.cl EC.ha EC.hn EC.htk EC.hm), kit_self, _, rfl, iteT ?_⟩
  refine ⟨_, rfl, p, C, dx, _, _, rfl, hp, Z.cl, Z.nA, flds_alone _ _, _, rfl, q, C, dx', _, _, rfl, hq, Z.cl, Z.nA, flds_alone _ _, alD D.al, alD U.al, hA.dp, hA'.dp, (okD_al _).shaped (by decide), (okD_al _).shaped (by decide), _, rfl, ?_⟩
  have ek : sameTD D U = (PyData.eqv (alD D.al) (alD U.al) && sameB D.bo U.bo) := by unfold sameTD; rw [eqv_al]
  rw [ek] at k
  cases c : PyData.eqv (alD D.al) (alD U.al) with
  | false =>
    rw [c, Bool.false_and] at k
    exact iteF k
  | true =>
    rw [c, Bool.true_and] at k
    refine iteT ?_
    exact ⟨_, rfl, p, C, dx, _, _, rfl, hp, Z.cl, Z.nB, flds_both _ _, _, rfl, q, C, dx', _, _, rfl, hq, Z.cl, Z.nB, flds_both _ _, 1, _, by decide, rcx_bo hB hB' uT uU, k⟩
end
end TA

set_option Elab.async false
set_option maxRecDepth 100000
set_option maxHeartbeats 1600000
namespace L2
open PySem PySem.Spec PyProof.Rows
/-! d.setdefault(k, x), d a dict whose keys are tuples -/
section
variable {X : Cx}
def rSetdT : V → List V → Hp → VK → Prop := fun x xs H Q => ∃ (a : Addr) (kvs : List (List L2.Key × V)) (k : List L2.Key) (b : Addr) (d : V), x = .ref a ∧ xs = [.ref b, d] ∧ H a = some (.dT kvs) ∧ H b = some (.tup (k.map kV)) ∧ kvs.length < sizeLine ∧
  (∀ v, valV kvs k = some v → Q v H) ∧ (valV kvs k = none → Q d (upd H a (.dT (putK kvs k d))))
theorem mt_setdT (hu : X.A.units + 1 < cLine) : MtR X "dict.setdefault" rSetdT := by
  intro pins s σ H x xs v us Q I rx rxs h
  obtain ⟨a, kvs, k, b, d, rfl, rfl, ha, hb, hlen, q1, q2⟩ := h
  cases rx
  obtain ⟨u1, u2, rfl, r1, r2⟩ := vals2 rxs
  cases r1
  obtain ⟨z, hd, xs', rel, dd⟩ := dt_of I.hok ha
  have hz : xs'.length ≤ sizeLine := by rw [← Paired.length rel]; exact z
  refine call_setdefault_heap (hsz := hz) (knd := tupleKind (mixKind X.prog X.w)) (tupleKind_room_in1 hu) (key_of I.hok hb) hd dd (fun p hp => ?_) fun hn h' dd' hs => ?_
  · have r := rel.val k
    rw [hp] at r
    obtain ⟨v0, ev, rv⟩ : ∃ v0, valV kvs k = some v0 ∧ RelV v0 p.2 := by
      cases ev : valV kvs k with
      | none =>
        rw [ev] at r
        exact (show False from r).elim
      | some v0 =>
        rw [ev] at r
        exact ⟨v0, rfl, r⟩
    exact ⟨v0, H, I.tok _, rv, q1 v0 ev⟩
  · have r := rel.val k
    rw [hn] at r
    have e : valV kvs k = none := by
      cases ev : valV kvs k with
      | none => rfl
      | some v0 =>
        rw [ev] at r
        exact (show False from r).elim
    have hl2 : (putK kvs k d).length ≤ sizeLine := by
      have := length_putK kvs k d
      omega
    obtain ⟨o, es, ep, hq, h2, h3, h4, _, h5⟩ := dd'
    have I2 : Inv X pins σ (upd H a (.dT (putK kvs k d))) { s with heap := h', toks := s.toks + (tupleKind (mixKind X.prog X.w)).draws k } :=
      d_write I (by rw [ha]; exact True.intro) hs ⟨o, hq⟩ ⟨hl2, hd, _, (rel.put k hb r2).keeps (fun c ys ec => (by rw [upd_ne (ne_of ec ha (fun z => nomatch z))]; exact ec)), o, es, ep, hq, h2, h3, h4, h5⟩
    exact ⟨d, _, I2, r2, q2 e⟩
end
end L2

set_option Elab.async false
set_option maxRecDepth 100000
set_option maxHeartbeats 4000000
namespace TA
open PySem L2 PyProof.Rows
set_option linter.unusedVariables false
/-! webs: points, ties -/
abbrev Pt := Int × Int
def kZ (p : Pt) : List Key := [.inl p.1, .inl p.2]
theorem kZ_inj {p q : Pt} (h : kZ p = kZ q) : p = q := by
  unfold kZ at h
  simp at h
  exact Prod.ext h.1 h.2
theorem kZ_tp {H : Hp} {b : Addr} {p : Pt} (h : TpAt H (.ref b) p) : H b = some (.tup ((kZ p).map kV)) := by
  obtain ⟨t, e, h⟩ := h
  cases e
  exact h
abbrev Ties := List (Pt × List Pt)
def addT : Ties → Pt → Pt → Ties
  | [], p, q => [(p, [q])]
  | e :: r, p, q => if e.1 = p then (e.1, e.2 ++ [q]) :: r else e :: addT r p q
/-- the ties of a list of directed ones -/
structure TiesFor (D : List (Pt × Pt)) (ts : Ties) : Prop where
  nd : (ts.map (·.1)).Pairwise (· ≠ ·)
  mem : ∀ e ∈ ts, ∀ q, q ∈ e.2 ↔ (e.1, q) ∈ D
  key : ∀ p q, (p, q) ∈ D → ∃ e ∈ ts, e.1 = p
  ne : ∀ e ∈ ts, e.2 ≠ []
  len : ts.length ≤ D.length
  tot : ∀ e ∈ ts, e.2.length ≤ D.length
theorem TiesFor.nil : TiesFor [] [] := ⟨.nil, fun _ h => (nomatch h), fun _ _ h => (nomatch h), fun _ h => (nomatch h), Nat.le_refl _, fun _ h => (nomatch h)⟩
theorem addT_keys {p q : Pt} : ∀ {ts : Ties}, (∀ x ∈ (addT ts p q).map (·.1), x = p ∨ x ∈ ts.map (·.1)) ∧ p ∈ (addT ts p q).map (·.1) ∧ ∀ x ∈ ts.map (·.1), x ∈ (addT ts p q).map (·.1)
  | [] => ⟨fun x h => .inl (by simpa [addT] using h), by simp [addT], fun _ h => (nomatch h)⟩
  | e :: r => by
    obtain ⟨a, b, c⟩ := addT_keys (p := p) (q := q) (ts := r)
    unfold addT
    split
    · next h =>
      refine ⟨fun x hx => .inr hx, ?_, fun x hx => hx⟩
      rw [← h]
      exact List.mem_cons_self
    · refine ⟨fun x hx => ?_, List.mem_cons_of_mem _ b, fun x hx => ?_⟩
      · rcases List.mem_cons.mp hx with rfl | hx
        · exact .inr List.mem_cons_self
        · exact (a x hx).imp id (List.mem_cons_of_mem _)
      · rcases List.mem_cons.mp hx with rfl | hx
        · exact List.mem_cons_self
        · exact List.mem_cons_of_mem _ (c x hx)
theorem addT_nd {p q : Pt} : ∀ {ts : Ties}, (ts.map (·.1)).Pairwise (· ≠ ·) → ((addT ts p q).map (·.1)).Pairwise (· ≠ ·)
  | [], _ => List.pairwise_singleton _ _
  | e :: r, h => by
    obtain ⟨h1, h2⟩ := List.pairwise_cons.mp h
    unfold addT
    split
    · exact h
    · next ne =>
      refine List.pairwise_cons.mpr ⟨fun x hx => ?_, addT_nd h2⟩
      rcases (addT_keys (p := p) (q := q)).1 x hx with rfl | hx
      · exact ne
      · exact h1 x hx
theorem addT_mem {p q : Pt} : ∀ {ts : Ties}, (ts.map (·.1)).Pairwise (· ≠ ·) → ∀ e ∈ addT ts p q, (e ∈ ts ∧ e.1 ≠ p) ∨ (∃ old, (p, old) ∈ ts ∧ e = (p, old ++ [q])) ∨ ((∀ x ∈ ts, x.1 ≠ p) ∧ e = (p, [q]))
  | [], _, e, h => .inr (.inr ⟨fun _ h => (nomatch h), by simpa [addT] using h⟩)
  | e0 :: r, h, e, m => by
    obtain ⟨h1, h2⟩ := List.pairwise_cons.mp h
    unfold addT at m
    split at m
    · next c =>
      rcases List.mem_cons.mp m with rfl | m
      · exact .inr (.inl ⟨e0.2, by rw [← c]; exact List.mem_cons_self, by rw [c]⟩)
      · exact .inl ⟨List.mem_cons_of_mem _ m, fun z => h1 e.1 (List.mem_map_of_mem m) (c.trans z.symm)⟩
    · next c =>
      rcases List.mem_cons.mp m with rfl | m
      · exact .inl ⟨List.mem_cons_self, c⟩
      · rcases addT_mem h2 e m with ⟨a, b⟩ | ⟨old, a, b⟩ | ⟨a, b⟩
        · exact .inl ⟨List.mem_cons_of_mem _ a, b⟩
        · exact .inr (.inl ⟨old, List.mem_cons_of_mem _ a, b⟩)
        · refine .inr (.inr ⟨fun x hx => ?_, b⟩)
          rcases List.mem_cons.mp hx with rfl | hx
          · exact c
          · exact a x hx
theorem addT_len {p q : Pt} : ∀ {ts : Ties}, (addT ts p q).length ≤ ts.length + 1
  | [] => Nat.le_refl _
  | e :: r => by
    unfold addT
    split
    · exact Nat.le_succ _
    · exact Nat.succ_le_succ (addT_len (ts := r))
theorem TiesFor.add {D : List (Pt × Pt)} {ts : Ties} (h : TiesFor D ts) (p q : Pt) : TiesFor (D ++ [(p, q)]) (addT ts p q) := by
  refine ⟨addT_nd h.nd, fun e he x => ?_, fun a b m => ?_, fun e he => ?_, ?_, fun e he => ?_⟩
  · rw [List.mem_append, List.mem_singleton]
    rcases addT_mem h.nd e he with ⟨a, b⟩ | ⟨old, a, rfl⟩ | ⟨a, rfl⟩
    · rw [h.mem e a]
      refine ⟨.inl, fun z => z.elim id fun z => absurd (congrArg (·.1) z) b⟩
    · rw [List.mem_append, List.mem_singleton, h.mem _ a]
      exact ⟨fun z => z.imp id fun z => by rw [z], fun z => z.imp id fun z => congrArg (·.2) z⟩
    · rw [List.mem_singleton]
      refine ⟨fun z => .inr (by rw [z]), fun z => z.elim (fun z => ?_) fun z => congrArg (·.2) z⟩
      obtain ⟨e, he, k⟩ := h.key _ _ z
      exact absurd k (a e he)
  · obtain ⟨k1, k2, k3⟩ := addT_keys (p := p) (q := q) (ts := ts)
    have : a ∈ (addT ts p q).map (·.1) := by
      rcases List.mem_append.mp m with m | m
      · obtain ⟨e, he, k⟩ := h.key _ _ m
        exact k3 _ (by rw [← k]; exact List.mem_map_of_mem he)
      · obtain ⟨ea, _⟩ := Prod.mk.inj (List.mem_singleton.mp m)
        rw [ea]
        exact k2
    obtain ⟨e, he, k⟩ := List.mem_map.mp this
    exact ⟨e, he, k⟩
  · rcases addT_mem h.nd e he with ⟨a, b⟩ | ⟨old, a, rfl⟩ | ⟨a, rfl⟩
    · exact h.ne e a
    · exact fun z => by simp at z
    · exact fun z => by simp at z
  · rw [List.length_append]
    exact Nat.le_trans addT_len (Nat.succ_le_succ h.len)
  · rw [List.length_append]
    rcases addT_mem h.nd e he with ⟨a, b⟩ | ⟨old, a, rfl⟩ | ⟨a, rfl⟩
    · exact Nat.le_succ_of_le (h.tot e a)
    · rw [List.length_append]
      exact Nat.succ_le_succ (h.tot _ a)
    · show 1 ≤ D.length + 1
      omega
/-- both ways of each pair -/
def dirs (l : List Pt) : List (Pt × Pt) := l.flatMap fun o => [((0, o.1), (1, o.2)), ((1, o.2), (0, o.1))]
theorem dirs_snoc (l : List Pt) (o : Pt) : dirs (l ++ [o]) = (dirs l ++ [((0, o.1), (1, o.2))]) ++ [((1, o.2), (0, o.1))] := by
  unfold dirs
  rw [List.flatMap_append, List.append_assoc]
  rfl
theorem dirs_len (l : List Pt) : (dirs l).length = 2 * l.length := by
  unfold dirs
  induction l with
  | nil => rfl
  | cons o l ih =>
    rw [List.flatMap_cons, List.length_append, ih, List.length_cons]
    show 2 + 2 * l.length = 2 * (l.length + 1)
    omega
theorem mem_dirs {l : List Pt} {p q : Pt} : (p, q) ∈ dirs l ↔ ∃ o ∈ l, (p = (0, o.1) ∧ q = (1, o.2)) ∨ (p = (1, o.2) ∧ q = (0, o.1)) := by
  unfold dirs
  rw [List.mem_flatMap]
  refine exists_congr fun o => and_congr_right fun _ => ?_
  simp [Prod.mk.injEq]
theorem dirs_symm {l : List Pt} {p q : Pt} (h : (p, q) ∈ dirs l) : (q, p) ∈ dirs l := by
  obtain ⟨o, ho, h⟩ := mem_dirs.mp h
  exact mem_dirs.mpr ⟨o, ho, h.elim (fun h => .inr ⟨h.2, h.1⟩) fun h => .inl ⟨h.2, h.1⟩⟩
/-! ties in the heap -/
def TeAt (H : Hp) (e : List Key × V) (b : Pt × List Pt) : Prop := e.1 = kZ b.1 ∧ LetAt H e.2 b.2
theorem te_val {H : Hp} {p : Pt} : ∀ {kvs : List (List Key × V)} {ts : Ties}, A2 (TeAt H) kvs ts → (valV kvs (kZ p) = none ∧ ∀ e ∈ ts, e.1 ≠ p) ∨ ∃ v old, valV kvs (kZ p) = some v ∧ (kZ p, v) ∈ kvs ∧ (p, old) ∈ ts ∧ LetAt H v old
  | _, _, .nil => .inl ⟨rfl, fun _ h => (nomatch h)⟩
  | x :: xs, y :: ys, .cons a r => by
    by_cases c : y.1 = p
    · have e : x.1 = kZ p := by rw [a.1, c]
      exact .inr ⟨x.2, y.2, valV_pos e, by rw [← e]; exact List.mem_cons_self, by rw [← c]; exact List.mem_cons_self, a.2⟩
    · have e : ¬ x.1 = kZ p := by
        rw [a.1]
        exact fun z => c (kZ_inj z)
      rw [valV_neg e]
      rcases te_val (p := p) r with ⟨h1, h2⟩ | ⟨v, old, h1, h2, h3, h4⟩
      · refine .inl ⟨h1, fun z hz => ?_⟩
        rcases List.mem_cons.mp hz with rfl | hz
        · exact c
        · exact h2 z hz
      · exact .inr ⟨v, old, h1, List.mem_cons_of_mem _ h2, List.mem_cons_of_mem _ h3, h4⟩
theorem let_put {H : Hp} {a : Addr} {o : HO} {v : V} {l : List Pt} (ne : v ≠ .ref a) (nt : ∀ xs, H a ≠ some (.tup xs)) (h : LetAt H v l) : LetAt (upd H a o) v l := by
  obtain ⟨t, xs, rfl, e, r⟩ := h
  refine ⟨t, xs, rfl, by rw [upd_ne (fun c => ne (by rw [c]))]; exact e, r.imp fun _ _ q => ?_⟩
  obtain ⟨u, eu, hu⟩ := q
  exact ⟨u, eu, by rw [upd_ne (fun c => nt _ (by rw [← c]; exact hu))]; exact hu⟩
theorem let_snoc {H : Hp} {a tq : Addr} {xs : List V} {l : List Pt} {q : Pt} (e : H a = some (.lst xs)) (h : LetAt H (.ref a) l) (hq : TpAt H (.ref tq) q) : LetAt (upd H a (.lst (xs ++ [.ref tq]))) (.ref a) (l ++ [q]) := by
  obtain ⟨t, ys, z, e', r⟩ := h
  cases z
  rw [e] at e'
  cases e'
  have tp : ∀ x p, TpAt H x p → TpAt (upd H a (.lst (xs ++ [.ref tq]))) x p := fun x p q => by
    obtain ⟨u, eu, hu⟩ := q
    exact ⟨u, eu, by rw [upd_ne (fun c => by rw [c, e] at hu; cases hu)]; exact hu⟩
  exact ⟨a, _, rfl, upd_same, (r.imp tp).snoc (tp _ _ hq)⟩
/-- one more of a key that is there -/
theorem te_more {H : Hp} {a tq : Addr} {xs : List V} {p q : Pt} (e : H a = some (.lst xs)) (hq : TpAt H (.ref tq) q) : ∀ {kvs : List (List Key × V)} {ts : Ties}, A2 (TeAt H) kvs ts → (kvs.map (·.2)).Nodup → valV kvs (kZ p) = some (.ref a) → A2 (TeAt (upd H a (.lst (xs ++ [.ref tq])))) kvs (addT ts p q)
  | _, _, .nil, _, h => by cases h
  | x :: ks, y :: ys, .cons r s, nd, h => by
    rw [List.map_cons, List.nodup_cons] at nd
    have nt : ∀ zs, H a ≠ some (.tup zs) := fun zs c => by rw [e] at c; cases c
    unfold addT
    by_cases c : y.1 = p
    · rw [if_pos c]
      rw [valV_pos (by rw [r.1, c])] at h
      have h : x.2 = .ref a := Option.some.inj h
      refine .cons ⟨r.1, ?_⟩ ?_
      · have l := r.2
        rw [h] at l ⊢
        exact let_snoc e l hq
      · clear c
        have go : ∀ {ks : List (List Key × V)} {ys : Ties}, A2 (TeAt H) ks ys → V.ref a ∉ ks.map (·.2) → A2 (TeAt (upd H a (.lst (xs ++ [.ref tq])))) ks ys := by
          intro ks ys s
          induction s with
          | nil => exact fun _ => .nil
          | cons r s ih =>
            intro ni
            rw [List.map_cons, List.mem_cons] at ni
            exact .cons ⟨r.1, let_put (fun z => ni (.inl z.symm)) nt r.2⟩ (ih fun z => ni (.inr z))
        exact go s (by rw [← h]; exact nd.1)
    · rw [if_neg c]
      rw [valV_neg (by rw [r.1]; exact fun z => c (kZ_inj z))] at h
      refine .cons ⟨r.1, let_put (fun z => ?_) nt r.2⟩ (te_more e hq s nd.2 h)
      refine nd.1 ?_
      rw [z]
      have : ∀ {ks : List (List Key × V)}, valV ks (kZ p) = some (.ref a) → V.ref a ∈ ks.map (·.2) := by
        intro ks
        induction ks with
        | nil => exact fun h => by cases h
        | cons k ks ih =>
          intro h
          by_cases c : k.1 = kZ p
          · rw [valV_pos c] at h
            rw [List.map_cons, Option.some.inj h]
            exact List.mem_cons_self
          · rw [valV_neg c] at h
            exact List.mem_cons_of_mem _ (ih h)
      exact this h
theorem addT_new {p q : Pt} : ∀ {ts : Ties}, (∀ e ∈ ts, e.1 ≠ p) → addT ts p q = ts ++ [(p, [q])]
  | [], _ => rfl
  | e :: r, h => by
    unfold addT
    rw [if_neg (h e List.mem_cons_self), addT_new fun x hx => h x (List.mem_cons_of_mem _ hx)]
    rfl
/-- ties at t, all of it new behind H0 -/
def TiS (H0 H : Hp) (t : Addr) (ts : Ties) : Prop := ∃ kvs, H t = some (.dT kvs) ∧ A2 (TeAt H) kvs ts ∧ (kvs.map (·.2)).Nodup ∧ (∀ e ∈ kvs, ∃ a, e.2 = .ref a ∧ H0 a = none) ∧ H0 t = none ∧ Same H0 H
theorem TeAt.mono {H H' : Hp} (k : Kp H H') {e : List Key × V} {b : Pt × List Pt} (h : TeAt H e b) : TeAt H' e b := ⟨h.1, LetAt.mono k h.2⟩
theorem TiS.same {H0 H H' : Hp} {t : Addr} {ts : Ties} (h : TiS H0 H t ts) (s : Same H H') : TiS H0 H' t ts := by
  obtain ⟨kvs, h1, h2, h3, h4, h5, h6⟩ := h
  exact ⟨kvs, s _ _ h1, h2.imp fun _ _ r => r.mono (.same s), h3, h4, h5, h6.trans s⟩
end TA

set_option Elab.async false
set_option maxRecDepth 100000
set_option maxHeartbeats 4000000
namespace TA
open PySem L2 PyProof.Rows
set_option linter.unusedVariables false
def spTies : Sp := fun vs H Q _ => ∃ (v : Addr) (l : List Pt), vs = [.ref v] ∧ LetAt H (.ref v) l ∧ l.length ≤ 2000 ∧ ∀ (t : Addr) (ts : Ties) (H' : Hp), TiS H H' t ts → TiesFor (dirs l) ts → Q (.ref t) H'
/-- a tie added to a key that is there -/
theorem TiS.more {H0 H : Hp} {t a tq : Addr} {ts : Ties} {kvs : List (List Key × V)} {xs : List V} {p q : Pt} (hd : H t = some (.dT kvs)) (h : TiS H0 H t ts) (v : valV kvs (kZ p) = some (.ref a)) (e : H a = some (.lst xs)) (hq : TpAt H (.ref tq) q) : TiS H0 (upd H a (.lst (xs ++ [.ref tq]))) t (addT ts p q) := by
  obtain ⟨kvs', h1, h2, h3, h4, h5, h6⟩ := h
  rw [hd] at h1
  cases h1
  have ma : H0 a = none := by
    rcases te_val (p := p) h2 with ⟨z, _⟩ | ⟨v', old, z, hm, _⟩
    · rw [v] at z
      cases z
    · rw [v] at z
      cases z
      obtain ⟨b, eb, fb⟩ := h4 _ hm
      cases eb
      exact fb
  refine ⟨kvs, by rw [upd_ne (ne_of hd e (fun z => nomatch z))]; exact hd, te_more e hq h2 h3 v, h3, h4, h5, same_upd h6 ma⟩
/-- a tie with a new key -/
theorem TiS.new {H0 H : Hp} {t a tq : Addr} {ts : Ties} {kvs : List (List Key × V)} {p q : Pt} (hd : H t = some (.dT kvs)) (h : TiS H0 H t ts) (v : valV kvs (kZ p) = none) (fa : V.ref a ∉ kvs.map (·.2)) (f0 : H0 a = none) (e : H a = some (.lst [])) (hq : TpAt H (.ref tq) q) : TiS H0 (upd (upd H t (.dT (putK kvs (kZ p) (.ref a)))) a (.lst [.ref tq])) t (addT ts p q) := by
  obtain ⟨kvs', h1, h2, h3, h4, h5, h6⟩ := h
  rw [hd] at h1
  cases h1
  have nat : t ≠ a := ne_of hd e (fun z => nomatch z)
  rw [putK_new _ v]
  have nk : ∀ e ∈ ts, e.1 ≠ p := by
    rcases te_val (p := p) h2 with ⟨_, z⟩ | ⟨v', old, z, _⟩
    · exact z
    · rw [v] at z
      cases z
  rw [addT_new nk]
  have nt : ∀ xs, (upd H t (.dT (kvs ++ [(kZ p, .ref a)]))) a ≠ some (.tup xs) := fun xs c => by rw [upd_ne nat.symm, e] at c; cases c
  refine ⟨_, by rw [upd_ne nat]; exact upd_same, ?_, ?_, fun x hx => ?_, h5, ?_⟩
  · refine A2.snoc ?_ ⟨rfl, a, [.ref tq], rfl, upd_same, .cons ?_ .nil⟩
    · have go : ∀ {ks : List (List Key × V)} {ys : Ties}, A2 (TeAt H) ks ys → V.ref a ∉ ks.map (·.2) → A2 (TeAt (upd (upd H t (.dT (kvs ++ [(kZ p, .ref a)]))) a (.lst [.ref tq]))) ks ys := by
        intro ks ys s
        induction s with
        | nil => exact fun _ => .nil
        | cons r s ih =>
          intro ni
          rw [List.map_cons, List.mem_cons] at ni
          exact .cons ⟨r.1, let_put (fun z => ni (.inl z.symm)) nt (LetAt.mono (Kp.put hd nf_dT) r.2)⟩ (ih fun z => ni (.inr z))
      exact go h2 fa
    · obtain ⟨u, eu, hu⟩ := hq
      refine ⟨u, eu, ?_⟩
      rw [upd_ne (ne_of hu e (fun z => nomatch z)), upd_ne (ne_of hu hd (fun z => nomatch z))]
      exact hu
  · rw [List.map_append]
    exact List.nodup_append.mpr ⟨h3, List.pairwise_singleton _ _, fun x hx y hy c => fa (by
      have hy : y = V.ref a := List.mem_singleton.mp hy
      rw [← hy, ← c]
      exact hx)⟩
  · rcases List.mem_append.mp hx with hx | hx
    · exact h4 x hx
    · obtain rfl := List.mem_singleton.mp hx
      exact ⟨a, rfl, f0⟩
  · exact same_upd (same_upd h6 h5) f0
theorem upd_comm {H : Hp} {a b : Addr} {x y : HO} (ne : a ≠ b) : upd (upd H a x) b y = upd (upd H b y) a x := by
  funext c
  unfold upd
  by_cases h1 : c = a
  · by_cases h2 : c = b
    · exact absurd (h1.symm.trans h2) ne
    · rw [if_neg h2, if_pos h1, if_pos h1]
  · rw [if_neg h1]
    by_cases h2 : c = b
    · rw [if_pos h2, if_neg h1]
    · rw [if_neg h2, if_neg h1]
theorem takeS {α : Type} {l : List α} {i : Nat} {o : α} (h : l[i]? = some o) : l.take i ++ [o] = l.take (i + 1) := by
  rw [List.take_add_one, h]
  rfl
theorem tie_step {K : PySem.W.Frag} {D : Ends} {σ : L2.St} {H0 H : Hp} {t : Addr} {ts : Ties} {i j : Nat} {c d x y : Int} (et : σ[1]? = some (some (.ref t))) (ei : σ[i]? = some (some (.int x))) (ej : σ[j]? = some (some (.int y))) (T : TiS H0 H t ts) (hl : ts.length < sizeLine) (hn : ∀ e ∈ ts, e.2.length < sizeLine)
    (k : ∀ H', TiS H0 H' t (addT ts (c, x) (d, y)) → D.nx σ H') : tDrop (tBM K "list" rAppend (tBM K "dict" rSetdT (tVar 1) (tCons (tTup (tCons (tC (.int c)) (tCons (tVar i) tNil))) (tCons (tLst tNil) tNil))) (tCons (tTup (tCons (tC (.int d)) (tCons (tVar j) tNil))) tNil)) D σ H := by
  obtain ⟨kvs, h1, h2, h3, h4, h5, h6⟩ := id T
  have hk := h2.len
  have step : ∀ {H' : Hp} {b l0 : Addr}, H b = none → (upd H b (.tup [V.int c, V.int x])) l0 = none → H' = upd (upd H b (.tup [V.int c, V.int x])) l0 (.lst []) → Same H H' ∧ H' l0 = some (.lst []) ∧ TpAt H' (.ref b) (c, x) ∧ H l0 = none := fun hb hl0 e => by
    subst e
    have s1 := same_new hb (.tup [V.int c, V.int x])
    have s2 := same_new hl0 (.lst [])
    exact ⟨s1.trans s2, upd_same, ⟨_, rfl, s2 _ _ upd_same⟩, none_of_same s1 hl0⟩
  refine ⟨_, et, .inr (.inr (.inl ⟨rfl, .inr ⟨_, h1⟩⟩)), ?_⟩
  refine ⟨_, ei, (by show 2 ≤ sizeLine; decide), fun b hb => ⟨(by show 0 ≤ sizeLine; decide), fun l0 hl0 => ?_⟩⟩
  obtain ⟨sN, el0, tb, fl⟩ := step hb hl0 rfl
  generalize upd (upd H b (.tup [V.int c, V.int x])) l0 (.lst []) = H1 at sN el0 tb ⊢
  clear step hb hl0
  have T1 := T.same sN
  have h2' := h2.imp fun _ _ r => r.mono (.same sN)
  refine ⟨t, kvs, kZ (c, x), b, .ref l0, rfl, rfl, sN _ _ h1, kZ_tp tb, by rw [hk]; exact hl, fun v ev => ?_, fun ev => ?_⟩
  · obtain ⟨old, mo, a, xs, rfl, ea, ha⟩ : ∃ old, ((c, x), old) ∈ ts ∧ LetAt H1 v old := by
      rcases te_val (p := (c, x)) h2' with ⟨z, _⟩ | ⟨v', old, z, _, mo, lo⟩
      · rw [ev] at z
        cases z
      · rw [ev] at z
        cases z
        exact ⟨old, mo, lo⟩
    refine ⟨.inl ⟨rfl, _, SqL.of ea⟩, _, ej, (by show 2 ≤ sizeLine; decide), fun tq htq => ?_⟩
    have s3 := same_new htq (.tup [V.int d, V.int y])
    refine ⟨a, xs, .ref tq, rfl, rfl, s3 _ _ ea, by rw [ha.len]; exact hn _ mo, k _ ?_⟩
    exact TiS.more (s3 _ _ (sN _ _ h1)) (T1.same s3) ev (s3 _ _ ea) ⟨tq, rfl, upd_same⟩
  · have nat : t ≠ l0 := ne_of (sN _ _ h1) el0 (fun z => nomatch z)
    refine ⟨.inl ⟨rfl, _, SqL.of (by rw [upd_ne nat.symm]; exact el0)⟩, _, ej, (by show 2 ≤ sizeLine; decide), fun tq htq => ?_⟩
    have ntq : tq ≠ t := fun z => by rw [z, upd_same] at htq; cases htq
    have htq1 : H1 tq = none := by rwa [upd_ne ntq] at htq
    have nl : l0 ≠ tq := ne_of_none el0 htq1
    have s3 := same_new htq1 (.tup [V.int d, V.int y])
    refine ⟨l0, [], .ref tq, rfl, rfl, by rw [upd_ne nl, upd_ne nat.symm]; exact el0, (by show 0 < sizeLine; decide), k _ ?_⟩
    rw [upd_comm ntq.symm]
    refine TiS.new (s3 _ _ (sN _ _ h1)) (T1.same s3) ev (fun z => ?_) (none_of_same h6 fl) (s3 _ _ el0) ⟨tq, rfl, upd_same⟩
    obtain ⟨e, he, ez⟩ := List.mem_map.mp z
    obtain ⟨y', _, _, u, us, eu, hu, _⟩ := h2.mem he
    rw [ez] at eu
    cases eu
    rw [fl] at hu
    cases hu
section
variable {P : Program} {w : World} {K : PySem.W.Frag} {mg : Str → Option Value} {base : Heap}
abbrev nTo : List Str := ["let", "ties", "x", "y"]
theorem sc_to : FnScope nTo ["let"] (defScope s_ties_of) := ⟨rfl, rfl, rfl, by decide +kernel, rfl, by decide +kernel, by decide +kernel⟩
theorem ok_ties {f : Addr} {fd : FuncData} (F : Fun K "ties_of" "ties_of" s_ties_of f fd) : FnOk P w K mg base CX0 1 f fd ["let"] spTies := by
  refine F.ok sc_to (fun vs H Q E h => ?_) (fun cdv A outer s H vs Q E hr h => ?_)
  · obtain ⟨v, l, rfl, _⟩ := h
    rfl
  obtain ⟨v, l, rfl, hL, hl, q⟩ := h
  have nd := sc_to.nd
  have hu := hu_of hr
  refine ⟨_, (pss_cons (ps_set (i := 1) nd rfl (Or.inl rfl) pe_dnewT)
    (pss_cons (ps_for PassesOwn.never (by rfl) (pi_list (pv 0)) (pg_tup (by rfl) (pgs_cons (pg_name (i := 2) nd rfl (Or.inl rfl)) (pgs_cons (pg_name (i := 3) nd rfl (Or.inl rfl)) pgs_nil)))
      (pss_cons (ps_expr (pe_bm PySem.F.plainAttrs_list PySem.F.slot_list_append PySem.F.type_list_append mt_append (pe_bm PySem.F.plainAttrs_dict PySem.F.slot_dict_setdefault PySem.F.type_dict_setdefault (mt_setdT hu) (pv 1) (pa_cons (pe_tup (pa_cons pe_int (pa_cons (pv 2) pa_nil))) (pa_cons (pe_lst pa_nil) pa_nil))) (pa_cons (pe_tup (pa_cons pe_int (pa_cons (pv 3) pa_nil))) pa_nil)))
    (pss_one (ps_expr (pe_bm PySem.F.plainAttrs_list PySem.F.slot_list_append PySem.F.type_list_append mt_append (pe_bm PySem.F.plainAttrs_dict PySem.F.slot_dict_setdefault PySem.F.type_dict_setdefault (mt_setdT hu) (pv 1) (pa_cons (pe_tup (pa_cons pe_int (pa_cons (pv 3) pa_nil))) (pa_cons (pe_lst pa_nil) pa_nil))) (pa_cons (pe_tup (pa_cons pe_int (pa_cons (pv 2) pa_nil))) pa_nil))))))
    (pss_one (ps_ret (pv 1))))), ?_⟩
  obtain ⟨_, xs, e0, hv, hA⟩ := hL
  cases e0
  have hlen := hA.len
  intro t ht
  have s0 := same_new ht (.dT [])
  have i0 : TiS H (upd H t (.dT [])) t [] := ⟨[], upd_same, .nil, .nil, fun _ h => (nomatch h), ht, s0⟩
  generalize upd H t (.dT []) = H1 at s0 i0 ⊢
  refine ⟨_, rfl, v, rfl, ⟨_, SqL.of (s0 _ _ hv)⟩, for_list (xs := xs) (fun i σ H' => ∃ g1 g2 ts, σ = [some (.ref v), some (.ref t), g1, g2] ∧ TiS H H' t ts ∧ TiesFor (dirs (l.take i)) ts) ⟨_, _, _, rfl, i0, .nil⟩ ?_ ?_ ?_⟩
  · rintro i σ H' _ ⟨_, _, _, _, ⟨_, _, _, _, _, _, s⟩, _⟩
    exact SqL.of (s _ _ hv)
  · rintro i z σ H' hz ⟨k1, k2, ts, rfl, T, F0⟩
    obtain ⟨o, ho, t', rfl, et⟩ := hA.get hz
    have il : i < l.length := (List.getElem?_eq_some_iff.mp ho).1
    obtain ⟨_, _, _, _, _, _, s⟩ := id T
    refine ⟨t', _, rfl, SqT.of (s _ _ et), rfl, _, _, rfl, _, _, rfl, rfl, ?_⟩
    have tl := F0.len
    have tt := F0.tot
    rw [dirs_len, List.length_take] at tl
    have big : ∀ n, n ≤ 2 * min i l.length + 1 → n < sizeLine := fun n hn => Nat.lt_of_lt_of_le (show n < 4002 by omega) (by show 4002 ≤ sizeLine; decide)
    refine tie_step rfl rfl rfl T (big _ (by omega)) (fun e he => big _ (by have := tt e he; rw [dirs_len, List.length_take] at this; omega)) fun H2 T2 => ?_
    have F1 := F0.add (0, o.1) (1, o.2)
    have tl := F1.len
    have tt := F1.tot
    rw [List.length_append, dirs_len, List.length_take] at tl
    refine tie_step rfl rfl rfl T2 (big _ tl) (fun e he => big _ (by have := tt e he; rw [List.length_append, dirs_len, List.length_take] at this; exact this)) fun H3 T3 => ?_
    have F2 := F1.add (1, o.2) (0, o.1)
    rw [← dirs_snoc, takeS ho] at F2
    exact ⟨_, _, _, rfl, T3, F2⟩
  · rintro σ H' ⟨k1, k2, ts, rfl, T, F0⟩
    rw [hlen, List.take_length] at F0
    exact ⟨_, rfl, q _ _ _ T F0⟩
end
end TA

set_option Elab.async false
set_option maxRecDepth 100000
set_option maxHeartbeats 4000000
namespace TA
open PySem L2 PyProof.Rows
set_option linter.unusedVariables false
/-! how far points are: level by level -/
abbrev Aw := List (Pt × Nat)
structure AwayOk (D : List (Pt × Pt)) (ts : Ties) (s : Pt) (aw : Aw) : Prop where
  nd : (aw.map (·.1)).Pairwise (· ≠ ·)
  inT : ∀ b ∈ aw, ∃ e ∈ ts, e.1 = b.1
  here : (∃ e ∈ ts, e.1 = s) → (s, 0) ∈ aw
  gone : (∀ e ∈ ts, e.1 ≠ s) → aw = []
  zero : ∀ p, (p, 0) ∈ aw → p = s
  pred : ∀ p k, (p, k + 1) ∈ aw → ∃ q, (p, q) ∈ D ∧ (q, k) ∈ aw
  next : ∀ p k q, (p, k) ∈ aw → (p, q) ∈ D → ∃ j, (q, j) ∈ aw ∧ j ≤ k + 1
structure Lev (D : List (Pt × Pt)) (ts : Ties) (s : Pt) (k : Nat) (ps : List Pt) (aw : Aw) : Prop where
  nd : (aw.map (·.1)).Pairwise (· ≠ ·)
  inT : ∀ b ∈ aw, ∃ e ∈ ts, e.1 = b.1
  here : (∃ e ∈ ts, e.1 = s) → (s, 0) ∈ aw
  gone : (∀ e ∈ ts, e.1 ≠ s) → aw = [] ∧ ps = []
  zero : ∀ p, (p, 0) ∈ aw → p = s
  pred : ∀ p j, (p, j + 1) ∈ aw → ∃ q, (p, q) ∈ D ∧ (q, j) ∈ aw
  le : ∀ b ∈ aw, b.2 ≤ k
  top : ∀ p, (p, k) ∈ aw ↔ p ∈ ps
  next : ∀ p j q, (p, j) ∈ aw → j < k → (p, q) ∈ D → ∃ i, (q, i) ∈ aw ∧ i ≤ j + 1
theorem Lev.end {D : List (Pt × Pt)} {ts : Ties} {s : Pt} {k : Nat} {aw : Aw} (h : Lev D ts s k [] aw) : AwayOk D ts s aw :=
  ⟨h.nd, h.inT, h.here, fun z => (h.gone z).1, h.zero, h.pred, fun p j q hp hq => h.next p j q hp (Nat.lt_of_le_of_ne (h.le _ hp) fun c => by
    rw [c] at hp
    cases (h.top p).mp hp) hq⟩
/-- what is found so far, behind aw -/
def nw (k : Nat) (fs : List Pt) : Aw := fs.map fun f => (f, k + 1)
theorem mem_nw {k j : Nat} {p : Pt} {fs : List Pt} : (p, j) ∈ nw k fs ↔ p ∈ fs ∧ j = k + 1 := by
  unfold nw
  rw [List.mem_map]
  exact ⟨fun ⟨f, hf, e⟩ => by cases e; exact ⟨hf, rfl⟩, fun ⟨h, e⟩ => ⟨p, h, by rw [e]⟩⟩
theorem keys_nw {k : Nat} {aw : Aw} {fs : List Pt} : (aw ++ nw k fs).map (·.1) = aw.map (·.1) ++ fs := by
  unfold nw
  rw [List.map_append, List.map_map]
  congr 1
  exact List.map_id _
structure Inn (D : List (Pt × Pt)) (ts : Ties) (k : Nat) (ps : List Pt) (aw : Aw) (fs : List Pt) (i : Nat) : Prop where
  nd : ((aw ++ nw k fs).map (·.1)).Pairwise (· ≠ ·)
  inT : ∀ f ∈ fs, ∃ e ∈ ts, e.1 = f
  pred : ∀ f ∈ fs, ∃ q ∈ ps, (f, q) ∈ D
  done : ∀ j p, j < i → ps[j]? = some p → ∀ q, (p, q) ∈ D → q ∈ (aw ++ nw k fs).map (·.1)
theorem Lev.inn {D : List (Pt × Pt)} {ts : Ties} {s : Pt} {k : Nat} {ps : List Pt} {aw : Aw} (h : Lev D ts s k ps aw) : Inn D ts k ps aw [] 0 :=
  ⟨by rw [keys_nw, List.append_nil]; exact h.nd, fun _ h => (nomatch h), fun _ h => (nomatch h), fun j p hj => absurd hj (Nat.not_lt_zero _)⟩
theorem Lev.step {D : List (Pt × Pt)} {ts : Ties} {s : Pt} {k : Nat} {ps : List Pt} {aw : Aw} {fs : List Pt} (h : Lev D ts s k ps aw) (n : Inn D ts k ps aw fs ps.length) : Lev D ts s (k + 1) fs (aw ++ nw k fs) := by
  refine ⟨n.nd, fun b hb => ?_, fun z => List.mem_append_left _ (h.here z), fun z => ?_, fun p hp => ?_, fun p j hp => ?_, fun b hb => ?_, fun p => ?_, fun p j q hp hj hq => ?_⟩
  · rcases List.mem_append.mp hb with hb | hb
    · exact h.inT b hb
    · exact n.inT _ (mem_nw.mp hb).1
  · obtain ⟨e1, e2⟩ := h.gone z
    have : fs = [] := by
      cases fs with
      | nil => rfl
      | cons f r =>
        obtain ⟨q, hq, _⟩ := n.pred f List.mem_cons_self
        rw [e2] at hq
        cases hq
    rw [e1, this]
    exact ⟨rfl, rfl⟩
  · rcases List.mem_append.mp hp with hp | hp
    · exact h.zero p hp
    · exact absurd (mem_nw.mp hp).2 (by omega)
  · rcases List.mem_append.mp hp with hp | hp
    · obtain ⟨q, h1, h2⟩ := h.pred p j hp
      exact ⟨q, h1, List.mem_append_left _ h2⟩
    · obtain ⟨h1, h2⟩ := mem_nw.mp hp
      obtain ⟨q, hq, hd⟩ := n.pred p h1
      obtain rfl : j = k := by omega
      exact ⟨q, hd, List.mem_append_left _ ((h.top q).mpr hq)⟩
  · rcases List.mem_append.mp hb with hb | hb
    · exact Nat.le_succ_of_le (h.le b hb)
    · exact Nat.le_of_eq (mem_nw.mp hb).2
  · rw [List.mem_append, mem_nw]
    refine ⟨fun z => z.elim (fun z => absurd (h.le _ z) (by show ¬ k + 1 ≤ k; omega)) fun z => z.1, fun z => .inr ⟨z, rfl⟩⟩
  · rcases List.mem_append.mp hp with hp' | hp'
    · by_cases c : j < k
      · obtain ⟨i, h1, h2⟩ := h.next p j q hp' c hq
        exact ⟨i, List.mem_append_left _ h1, h2⟩
      · have jk : j = k := by omega
        rw [jk] at hp' ⊢
        obtain ⟨i, hi⟩ := List.getElem?_of_mem ((h.top p).mp hp')
        obtain ⟨b, hb, e⟩ := List.mem_map.mp (n.done i p (List.getElem?_eq_some_iff.mp hi).1 hi q hq)
        refine ⟨b.2, by rw [← e]; exact hb, ?_⟩
        rcases List.mem_append.mp hb with hb | hb
        · exact Nat.le_succ_of_le (h.le b hb)
        · exact Nat.le_of_eq (mem_nw.mp hb).2
    · exact absurd (mem_nw.mp hp').2 (by omega)
/-- the first level -/
theorem Lev.first {D : List (Pt × Pt)} {ts : Ties} {s : Pt} (h : ∃ e ∈ ts, e.1 = s) : Lev D ts s 0 [s] [(s, 0)] := by
  refine ⟨List.pairwise_singleton _ _, fun b hb => ?_, fun _ => List.mem_singleton.mpr rfl, fun z => ?_, fun p hp => ?_, fun p j hp => ?_, fun b hb => ?_, fun p => ?_, fun p j q _ hj => absurd hj (Nat.not_lt_zero _)⟩
  · rw [List.mem_singleton.mp hb]
    exact h
  · obtain ⟨e, he, k⟩ := h
    exact absurd k (z e he)
  · exact congrArg (·.1) (List.mem_singleton.mp hp)
  · cases List.mem_singleton.mp hp
  · rw [List.mem_singleton.mp hb]
    exact Nat.le_refl _
  · rw [List.mem_singleton, List.mem_singleton]
    exact ⟨fun z => congrArg (·.1) z, fun z => by rw [z]⟩
theorem Lev.gone_ {D : List (Pt × Pt)} {ts : Ties} {s : Pt} (h : ∀ e ∈ ts, e.1 ≠ s) : Lev D ts s 0 [] [] :=
  ⟨.nil, fun _ h => (nomatch h), fun ⟨e, he, k⟩ => absurd k (h e he), fun _ => ⟨rfl, rfl⟩, fun _ h => (nomatch h), fun _ _ h => (nomatch h), fun _ h => (nomatch h), fun p => ⟨fun h => (nomatch h), fun h => (nomatch h)⟩, fun _ _ _ h => (nomatch h)⟩
/-- no more points than keys -/
theorem few_keys {ts : Ties} {xs : List Pt} (nd : xs.Pairwise (· ≠ ·)) (h : ∀ x ∈ xs, ∃ e ∈ ts, e.1 = x) : xs.length ≤ ts.length := by
  have sub : ∀ {xs ys : List Pt}, xs.Pairwise (· ≠ ·) → (∀ x ∈ xs, x ∈ ys) → xs.length ≤ ys.length := by
    intro xs
    induction xs with
    | nil => exact fun _ _ => Nat.zero_le _
    | cons x r ih =>
      intro ys nd sb
      obtain ⟨n1, n2⟩ := List.pairwise_cons.mp nd
      have hx := sb x List.mem_cons_self
      have := ih (ys := ys.erase x) n2 fun z hz => (List.mem_erase_of_ne (n1 z hz).symm).mpr (sb z (List.mem_cons_of_mem _ hz))
      rw [List.length_erase_of_mem hx] at this
      have := List.length_pos_of_mem hx
      rw [List.length_cons]
      omega
  have := sub nd (ys := ts.map (·.1)) fun x hx => by
    obtain ⟨e, he, k⟩ := h x hx
    rw [← k]
    exact List.mem_map_of_mem he
  rwa [List.length_map] at this
theorem Inn.few {D : List (Pt × Pt)} {ts : Ties} {s : Pt} {k i : Nat} {ps fs : List Pt} {aw : Aw} (h : Lev D ts s k ps aw) (n : Inn D ts k ps aw fs i) : aw.length + fs.length ≤ ts.length := by
  have := few_keys n.nd fun x hx => by
    rw [keys_nw] at hx
    rcases List.mem_append.mp hx with hx | hx
    · obtain ⟨b, hb, rfl⟩ := List.mem_map.mp hx
      exact h.inT b hb
    · exact n.inT x hx
  rw [keys_nw, List.length_append, List.length_map] at this
  exact this
/-- one point more -/
theorem Inn.more {D : List (Pt × Pt)} {ts : Ties} {k i : Nat} {ps fs : List Pt} {aw : Aw} {p q : Pt} (n : Inn D ts k ps aw fs i) (hp : p ∈ ps) (hq : (q, p) ∈ D) (inq : ∃ e ∈ ts, e.1 = q) (nq : q ∉ (aw ++ nw k fs).map (·.1)) : Inn D ts k ps aw (fs ++ [q]) i := by
  have ek : (aw ++ nw k (fs ++ [q])).map (·.1) = (aw ++ nw k fs).map (·.1) ++ [q] := by rw [keys_nw, keys_nw, List.append_assoc]
  refine ⟨?_, fun f hf => ?_, fun f hf => ?_, fun j p' hj hp' x hx => ?_⟩
  · rw [ek]
    refine List.pairwise_append.mpr ⟨n.nd, List.pairwise_singleton _ _, fun x hx y hy => ?_⟩
    rw [List.mem_singleton.mp hy]
    exact fun c => nq (by rw [← c]; exact hx)
  · rcases List.mem_append.mp hf with hf | hf
    · exact n.inT f hf
    · rw [List.mem_singleton.mp hf]
      exact inq
  · rcases List.mem_append.mp hf with hf | hf
    · exact n.pred f hf
    · rw [List.mem_singleton.mp hf]
      exact ⟨p, hp, hq⟩
  · rw [ek]
    exact List.mem_append_left _ (n.done j p' hj hp' x hx)
theorem Inn.next {D : List (Pt × Pt)} {ts : Ties} {k i : Nat} {ps fs : List Pt} {aw : Aw} {p : Pt} (n : Inn D ts k ps aw fs i) (hp : ps[i]? = some p) (h : ∀ q, (p, q) ∈ D → q ∈ (aw ++ nw k fs).map (·.1)) : Inn D ts k ps aw fs (i + 1) :=
  ⟨n.nd, n.inT, n.pred, fun j p' hj hp' x hx => by
    by_cases c : j < i
    · exact n.done j p' c hp' x hx
    · obtain rfl : j = i := by omega
      rw [hp] at hp'
      cases hp'
      exact h x hx⟩
/-! in the heap -/
def AwAt (e : List Key × V) (b : Pt × Nat) : Prop := e.1 = kZ b.1 ∧ e.2 = .int (b.2 : Int)
theorem aw_val {p : Pt} : ∀ {kvs : List (List Key × V)} {aw : Aw}, A2 AwAt kvs aw → (valV kvs (kZ p) = none ∧ p ∉ aw.map (·.1)) ∨ ∃ k : Nat, valV kvs (kZ p) = some (.int (k : Int)) ∧ (p, k) ∈ aw
  | _, _, .nil => .inl ⟨rfl, fun h => (nomatch h)⟩
  | x :: xs, y :: ys, .cons a r => by
    by_cases c : y.1 = p
    · refine .inr ⟨y.2, by rw [valV_pos (by rw [a.1, c]), a.2], ?_⟩
      rw [← c]
      exact List.mem_cons_self
    · rw [valV_neg (by rw [a.1]; exact fun z => c (kZ_inj z))]
      rcases aw_val (p := p) r with ⟨h1, h2⟩ | ⟨k, h1, h2⟩
      · refine .inl ⟨h1, fun z => ?_⟩
        rw [List.map_cons] at z
        rcases List.mem_cons.mp z with z | z
        · exact c z.symm
        · exact h2 z
      · exact .inr ⟨k, h1, List.mem_cons_of_mem _ h2⟩
theorem uniq_fst {α β : Type} {aw : List (α × β)} (nd : (aw.map (·.1)).Pairwise (· ≠ ·)) {p : α} {j k : β} (h : (p, j) ∈ aw) (g : (p, k) ∈ aw) : j = k := by
  induction aw with
  | nil => cases h
  | cons b r ih =>
    rw [List.map_cons, List.pairwise_cons] at nd
    rcases List.mem_cons.mp h with e | h
    · rcases List.mem_cons.mp g with e' | g
      · rw [← e] at e'
        exact (congrArg (·.2) e').symm
      · exact absurd (by rw [← e]) (nd.1 p (List.mem_map_of_mem (f := (·.1)) g))
    · rcases List.mem_cons.mp g with e' | g
      · exact absurd (by rw [← e']) (nd.1 p (List.mem_map_of_mem (f := (·.1)) h))
      · exact ih nd.2 h g
theorem aw_at {p : Pt} {k : Nat} {kvs : List (List Key × V)} {aw : Aw} (h : A2 AwAt kvs aw) (nd : (aw.map (·.1)).Pairwise (· ≠ ·)) (m : (p, k) ∈ aw) : valV kvs (kZ p) = some (.int (k : Int)) := by
  rcases aw_val (p := p) h with ⟨_, h2⟩ | ⟨j, h1, h2⟩
  · exact absurd (List.mem_map_of_mem (f := (·.1)) m) h2
  · rw [uniq_fst nd m h2]
    exact h1
end TA

set_option Elab.async false
set_option maxRecDepth 100000
set_option maxHeartbeats 4000000
namespace TA
open PySem L2 PyProof.Rows
set_option linter.unusedVariables false
def TiR (H : Hp) (t : Addr) (ts : Ties) : Prop := ∃ kvs, H t = some (.dT kvs) ∧ A2 (TeAt H) kvs ts
theorem TiR.mono {H H' : Hp} {t : Addr} {ts : Ties} (s : Same H H') (h : TiR H t ts) : TiR H' t ts := by
  obtain ⟨kvs, h1, h2⟩ := h
  exact ⟨kvs, s _ _ h1, h2.imp fun _ _ r => r.mono (.same s)⟩
theorem TiS.r {H0 H : Hp} {t : Addr} {ts : Ties} (h : TiS H0 H t ts) : TiR H t ts := by
  obtain ⟨kvs, h1, h2, _⟩ := h
  exact ⟨kvs, h1, h2⟩
/-- the points tied to one -/
theorem TiR.at {H : Hp} {t : Addr} {ts : Ties} {D : List (Pt × Pt)} {p : Pt} (h : TiR H t ts) (F : TiesFor D ts) (k : ∃ e ∈ ts, e.1 = p) : ∃ (kvs : List (List Key × V)) (a : Addr) (xs : List V) (nb : List Pt), H t = some (.dT kvs) ∧ valV kvs (kZ p) = some (.ref a) ∧ H a = some (.lst xs) ∧ A2 (TpAt H) xs nb ∧ (∀ q, q ∈ nb ↔ (p, q) ∈ D) ∧ nb.length ≤ D.length := by
  obtain ⟨kvs, h1, h2⟩ := h
  rcases te_val (p := p) h2 with ⟨_, z⟩ | ⟨v, old, h3, _, h4, a, xs, rfl, h5, h6⟩
  · obtain ⟨e, he, ek⟩ := k
    exact absurd ek (z e he)
  · exact ⟨kvs, a, xs, old, h1, h3, h5, h6, F.mem _ h4, F.tot _ h4⟩
theorem TiR.in {H : Hp} {t b : Addr} {ts : Ties} {p : Pt} (h : TiR H t ts) (hb : TpAt H (.ref b) p) : ∃ o, DGet H t (.ref b) o ∧ ((o.isSome = true ∧ ∃ e ∈ ts, e.1 = p) ∨ (o.isSome = false ∧ ∀ e ∈ ts, e.1 ≠ p)) := by
  obtain ⟨kvs, h1, h2⟩ := h
  refine ⟨_, DGet.t h1 (kZ_tp hb), ?_⟩
  rcases te_val (p := p) h2 with ⟨e, z⟩ | ⟨v, old, h3, _, h4, _⟩
  · exact .inr ⟨by rw [e]; rfl, z⟩
  · exact .inl ⟨by rw [h3]; rfl, _, h4, rfl⟩
theorem tp_put {H : Hp} {a : Addr} {o o' : HO} (e : H a = some o) (nt : ∀ xs, o ≠ .tup xs) {v : V} {p : Pt} (h : TpAt H v p) : TpAt (upd H a o') v p := by
  obtain ⟨u, eu, hu⟩ := h
  refine ⟨u, eu, ?_⟩
  rw [upd_ne (fun c => ?_)]
  · exact hu
  · rw [c, e] at hu
    cases hu
    exact nt _ rfl
def spDist : Sp := fun vs H Q _ => ∃ (t sp : Addr) (D : List (Pt × Pt)) (ts : Ties) (s : Pt), vs = [.ref t, .ref sp] ∧ TiR H t ts ∧ TiesFor D ts ∧ (∀ p q, (p, q) ∈ D → (q, p) ∈ D) ∧ D.length ≤ 4000 ∧ TpAt H (.ref sp) s ∧
  ∀ (d : Addr) (kvs : List (List Key × V)) (aw : Aw) (H' : Hp), Same H H' → H d = none → H' d = some (.dT kvs) → A2 AwAt kvs aw → AwayOk D ts s aw → Q (.ref d) H'
/-- distances behind its first line -/
def tDistRest (K : PySem.W.Frag) : TS := tSeq (tAsg (tCB (fun xs H Q => ∃ d kvs, xs = [V.ref d] ∧ Rd H d (HO.dT kvs) ∧ ∀ (p : Addr) (bs : List Addr), H p = none → IsKeys H kvs bs → Q (V.ref p) (upd H p (HO.lst (List.map V.ref bs)))) (tCons (tVar 2) tNil)) (gName 3))
  (tSeq (tWhile (fun σ H Q => tVar 3 σ H fun x H' => ∃ k, TruV K x H' k ∧ Q k H') (tSeq (tAsg (tLst tNil) (gName 4)) (tSeq (tFor (iList K (tVar 3)) (gName 5) (tFor (iList K (tDGet (tVar 0) (tVar 5))) (gName 6) (tIfS (tB (tDNotIn (tVar 6) (tVar 2)))
    (tSeq (sDPut (tVar 2) (tVar 6) (tOp (rI0 fun i j => V.int (i + j)) (tDGet (tVar 2) (tVar 5)) (tC (V.int 1)))) (tDrop (tBM K "list" rAppend (tVar 4) (tCons (tVar 6) tNil)))) tNext))) (tAsg (tVar 4) (gName 3))))) (tRet (tVar 2)))
def DW (H0 : Hp) (t sp d : Addr) (D : List (Pt × Pt)) (ts : Ties) (s : Pt) (m : Nat) (σ : L2.St) (H : Hp) : Prop := ∃ (kvs : List (List Key × V)) (aw : Aw) (ps : List Pt) (n : Addr) (xs : List V) (g4 g5 g6 : Option V) (k : Nat), σ = [some (.ref t), some (.ref sp), some (.ref d), some (.ref n), g4, g5, g6] ∧ m = 2 * (ts.length - aw.length) + (if ps = [] then 0 else 1) ∧
  Same H0 H ∧ H d = some (.dT kvs) ∧ A2 AwAt kvs aw ∧ H n = some (.lst xs) ∧ A2 (TpAt H) xs ps ∧ H0 n = none ∧ Lev D ts s k ps aw
/-- within a level -/
def DI (H0 : Hp) (t sp d n fl : Addr) (D : List (Pt × Pt)) (ts : Ties) (k : Nat) (ps : List Pt) (aw : Aw) (xs : List V) (i : Nat) (g5 : Option V) (nb : List Pt) (j : Nat) (σ : L2.St) (H : Hp) : Prop := ∃ (kvs : List (List Key × V)) (fs : List Pt) (ys : List V) (g6 : Option V), σ = [some (.ref t), some (.ref sp), some (.ref d), some (.ref n), some (.ref fl), g5, g6] ∧
  Same H0 H ∧ H d = some (.dT kvs) ∧ A2 AwAt kvs (aw ++ nw k fs) ∧ H n = some (.lst xs) ∧ A2 (TpAt H) xs ps ∧ H fl = some (.lst ys) ∧ A2 (TpAt H) ys fs ∧ Inn D ts k ps aw fs i ∧ ∀ q ∈ nb.take j, q ∈ (aw ++ nw k fs).map (·.1)
theorem keys_tp {H : Hp} : ∀ {kvs : List (List Key × V)} {aw : Aw} {bs : List Addr}, A2 AwAt kvs aw → IsKeys H kvs bs → A2 (TpAt H) (bs.map V.ref) (aw.map (·.1))
  | _, _, _, .nil, h => by
    cases h
    exact .nil
  | _, _, _, .cons a r, h => by
    cases h with
    | cons h1 h2 =>
      refine .cons ⟨_, rfl, ?_⟩ (keys_tp r h2)
      rw [a.1] at h1
      exact h1
theorem dist_rest {K : PySem.W.Frag} {E : Ends} {H0 H : Hp} {t sp d : Addr} {D : List (Pt × Pt)} {ts : Ties} {s : Pt} {kvs : List (List Key × V)} {aw : Aw} {g3 g4 g5 g6 : Option V} (hT : TiR H0 t ts) (hF : TiesFor D ts) (sym : ∀ p q, (p, q) ∈ D → (q, p) ∈ D) (hD : D.length ≤ 4000)
    (s0 : Same H0 H) (fd : H0 d = none) (hd : H d = some (.dT kvs)) (ha : A2 AwAt kvs aw) (lv : Lev D ts s 0 (aw.map (·.1)) aw)
    (k : ∀ (kvs : List (List Key × V)) (aw : Aw) (H' : Hp), Same H0 H' → H' d = some (.dT kvs) → A2 AwAt kvs aw → AwayOk D ts s aw → E.rt (.ref d) H') : tDistRest K E [some (.ref t), some (.ref sp), some (.ref d), g3, g4, g5, g6] H := by
  refine ⟨_, rfl, d, kvs, rfl, .inl hd, fun n bs hn hk => ?_⟩
  have sN := same_new hn (.lst (bs.map V.ref))
  refine ⟨DW H0 t sp d D ts s, ⟨_, kvs, aw, _, n, _, g4, g5, g6, 0, rfl, rfl, s0.trans sN, sN _ _ hd, ha, upd_same, (keys_tp ha hk).imp fun _ _ r => TpAt.mono (.same sN) r, none_of_same s0 hn, lv⟩, ?_⟩
  clear hd ha lv s0 sN hk hn g3 g4 g5 g6 kvs aw n bs
  rintro m σ H ⟨kvs, aw, ps, n, xs, g4, g5, g6, l, rfl, rfl, s1, hd, ha, hn, hp, fn, lv⟩
  have hlen := hp.len
  refine ⟨_, rfl, !xs.isEmpty, .inl ⟨xs, SqL.of hn, rfl⟩, ?_⟩
  cases xs with
  | nil =>
    cases hp
    refine iteF' rfl ?_
    exact ⟨_, rfl, k _ _ _ s1 hd ha lv.end⟩
  | cons x0 xr =>
    have pne : ps ≠ [] := fun z => by rw [z] at hlen; cases hlen
    rw [if_neg pne]
    refine iteT' rfl ⟨fun σ' H' => ∃ m', m' < 2 * (ts.length - aw.length) + 1 ∧ DW H0 t sp d D ts s m' σ' H', fun _ _ h => h, ?_⟩
    generalize x0 :: xr = xs at hn hp hlen ⊢
    refine ⟨(by show 0 ≤ sizeLine; decide), fun fl hfl => ?_⟩
    have sF := same_new hfl (.lst [])
    have efl : (upd H fl (.lst [])) fl = some (.lst []) := upd_same
    have ffl : H0 fl = none := none_of_same s1 hfl
    have nfl : n ≠ fl := ne_of_none hn hfl
    have nd_ : d ≠ n := ne_of hd hn (fun z => nomatch z)
    have dfl : d ≠ fl := ne_of_none hd hfl
    have s1 := s1.trans sF
    have hd := sF _ _ hd
    have hn := sF _ _ hn
    have hp := hp.imp fun _ _ r => TpAt.mono (.same sF) r
    generalize upd H fl (.lst []) = H1 at efl s1 hd hn hp ⊢
    clear sF hfl
    refine ⟨_, rfl, n, rfl, ⟨_, SqL.of hn⟩, for_list (xs := xs) (fun i σ H' => ∃ g5, DI H0 t sp d n fl D ts l ps aw xs i g5 [] 0 σ H') ⟨g5, kvs, [], [], g6, rfl, s1, hd, by rw [show nw l [] = [] from rfl, List.append_nil]; exact ha, hn, hp, efl, .nil, lv.inn, fun q hq => (nomatch hq)⟩ ?_ ?_ ?_⟩
    · rintro i σ H' _ ⟨_, _, _, _, _, _, _, _, _, h, _⟩
      exact SqL.of h
    · rintro i z σ H' hz ⟨g5, kvs, fs, ys, g6, rfl, s2, hd, ha, hn, hp, hf, hy, inn, tk0⟩
      clear tk0
      obtain ⟨p, hpi, tz⟩ := hp.get hz
      obtain ⟨b, rfl, _⟩ := id tz
      have ppm : p ∈ ps := List.mem_of_getElem? hpi
      have pin := (lv.top p).mpr ppm
      obtain ⟨kv0, a, ws, nb, et, ev0, ea, hw, mem, _⟩ := hT.at hF (lv.inT _ pin)
      have naf : a ≠ fl := ne_of_none ea ffl
      refine ⟨_, rfl, _, rfl, t, .ref a, rfl, (by rw [← ev0]; exact DGet.t (s2 _ _ et) (kZ_tp tz)), a, rfl, ⟨_, SqL.of (s2 _ _ ea)⟩, for_list (xs := ws) (fun j σ H' => DI H0 t sp d n fl D ts l ps aw xs i (some (.ref b)) nb j σ H') ⟨kvs, fs, ys, g6, rfl, s2, hd, ha, hn, hp, hf, hy, inn, fun q hq => (nomatch hq)⟩ ?_ ?_ ?_⟩
      · rintro j σ H' _ ⟨_, _, _, _, _, s3, _⟩
        exact SqL.of (s3 _ _ ea)
      · clear tz s2 hd ha hn hp hf hy inn kvs fs ys g6
        rintro j z2 σ H' hz2 ⟨kvs, fs, ys, g6, rfl, s2, hd, ha, hn, hp, hf, hy, inn, tk⟩
        obtain ⟨q, hq, tz0⟩ := hw.get hz2
        have tz2 := TpAt.mono (.same s2) tz0
        obtain ⟨b2, rfl, _⟩ := id tz2
        obtain ⟨p', hpi', tz⟩ := hp.get hz
        rw [hpi] at hpi'
        cases hpi'
        have hD1 := (mem q).mp (List.mem_of_getElem? hq)
        have inq := hF.key _ _ (sym _ _ hD1)
        have few := inn.few lv
        have lk := ha.len
        have ln : ∀ fs : List Pt, (aw ++ nw l fs).length = aw.length + fs.length := fun fs => by
          unfold nw
          rw [List.length_append, List.length_map]
        rw [ln] at lk
        have tsl := hF.len
        have ly := hy.len
        have big : ∀ m, m ≤ 4000 → m < sizeLine := fun m hm => Nat.lt_of_le_of_lt hm (by show 4000 < sizeLine; decide)
        have eN : nb.take (j + 1) = nb.take j ++ [q] := (takeS hq).symm
        refine ⟨_, rfl, _, rfl, d, _, rfl, DGet.t hd (kZ_tp tz2), _, rfl, ?_⟩
        rcases aw_val (p := q) ha with ⟨ev, nq⟩ | ⟨kq, ev, mq⟩
        · rw [ev]
          refine iteT' rfl ?_
          have vk := aw_at ha inn.nd (List.mem_append_left _ pin)
          refine ⟨_, rfl, _, rfl, d, .int (l : Int), rfl, (by rw [← vk]; exact DGet.t hd (kZ_tp tz)), _, _, rfl, rfl, _, rfl, _, rfl, d, _, rfl, .inr ⟨kvs, kZ q, b2, hd, rfl, kZ_tp tz2, big _ (by omega), rfl⟩, ?_⟩
          rw [putK_new _ ev]
          have tpd : ∀ x y, TpAt H' x y → TpAt (upd H' d (.dT (kvs ++ [(kZ q, V.int ((l : Int) + 1))]))) x y := fun _ _ h => tp_put hd (fun xs c => (nomatch c)) h
          have s3 := same_upd (o := .dT (kvs ++ [(kZ q, V.int ((l : Int) + 1))])) s2 fd
          have hf3 : (upd H' d (.dT (kvs ++ [(kZ q, V.int ((l : Int) + 1))]))) fl = some (.lst ys) := by rw [upd_ne dfl.symm]; exact hf
          have hn3 : (upd H' d (.dT (kvs ++ [(kZ q, V.int ((l : Int) + 1))]))) n = some (.lst xs) := by rw [upd_ne nd_.symm]; exact hn
          have hd3 : (upd H' d (.dT (kvs ++ [(kZ q, V.int ((l : Int) + 1))]))) d = some (.dT (kvs ++ [(kZ q, V.int ((l : Int) + 1))])) := upd_same
          have hp3 := hp.imp tpd
          have hy3 := hy.imp tpd
          have tz3 := tpd _ _ tz2
          generalize upd H' d (.dT (kvs ++ [(kZ q, V.int ((l : Int) + 1))])) = H2 at s3 hf3 hn3 hd3 hp3 hy3 tz3 ⊢
          refine ⟨_, rfl, .inl ⟨rfl, ys, SqL.of hf3⟩, _, rfl, fl, ys, .ref b2, rfl, rfl, hf3, big _ (by omega), ?_⟩
          have tpf : ∀ x y, TpAt H2 x y → TpAt (upd H2 fl (.lst (ys ++ [V.ref b2]))) x y := fun _ _ h => tp_put hf3 (fun xs c => (nomatch c)) h
          have ek : (aw ++ nw l (fs ++ [q])).map (·.1) = (aw ++ nw l fs).map (·.1) ++ [q] := by rw [keys_nw, keys_nw, List.append_assoc]
          refine ⟨_, fs ++ [q], _, _, rfl, same_upd s3 ffl, by rw [upd_ne dfl]; exact hd3, ?_, by rw [upd_ne nfl]; exact hn3, hp3.imp tpf, upd_same, (hy3.imp tpf).snoc (tpf _ _ tz3), inn.more ppm (sym _ _ hD1) inq nq, fun x hx => ?_⟩
          · have : aw ++ nw l (fs ++ [q]) = (aw ++ nw l fs) ++ [(q, l + 1)] := by
              unfold nw
              rw [List.map_append, List.append_assoc]
              rfl
            rw [this]
            exact ha.snoc ⟨rfl, rfl⟩
          · rw [ek]
            rw [eN] at hx
            rcases List.mem_append.mp hx with hx | hx
            · exact List.mem_append_left _ (tk x hx)
            · exact List.mem_append_right _ hx
        · rw [ev]
          refine iteF' rfl ?_
          refine ⟨kvs, fs, ys, _, rfl, s2, hd, ha, hn, hp, hf, hy, inn, fun x hx => ?_⟩
          rw [eN] at hx
          rcases List.mem_append.mp hx with hx | hx
          · exact tk x hx
          · rw [List.mem_singleton.mp hx]
            exact List.mem_map_of_mem (f := (·.1)) mq
      · clear tz s2 hd ha hn hp hf hy inn kvs fs ys g6
        rintro σ H' ⟨kvs, fs, ys, g6, rfl, s2, hd, ha, hn, hp, hf, hy, inn, tk⟩
        rw [hw.len, List.take_length] at tk
        exact ⟨_, kvs, fs, ys, g6, rfl, s2, hd, ha, hn, hp, hf, hy, inn.next hpi fun q hq => tk q ((mem q).mpr hq), fun q hq => (nomatch hq)⟩
    · rintro σ H' ⟨g5, kvs, fs, ys, g6, rfl, s2, hd, ha, hn, hp, hf, hy, inn, _⟩
      rw [hlen] at inn
      have few := inn.few lv
      refine ⟨_, rfl, _, ?_, kvs, aw ++ nw l fs, fs, fl, ys, some (.ref fl), g5, g6, l + 1, rfl, rfl, s2, hd, ha, hf, hy, ffl, lv.step inn⟩
      have ln : (aw ++ nw l fs).length = aw.length + fs.length := by
        unfold nw
        rw [List.length_append, List.length_map]
      rw [ln]
      split
      · omega
      · next c =>
        have : 0 < fs.length := List.length_pos_iff.mpr c
        omega
section
variable {P : Program} {w : World} {K : PySem.W.Frag} {mg : Str → Option Value} {base : Heap}
abbrev nDi : List Str := ["ties", "start", "away", "newest", "found", "point", "tied"]
theorem sc_di : FnScope nDi ["ties", "start"] (defScope s_distances) := ⟨rfl, rfl, rfl, by decide +kernel, rfl, by decide +kernel, by decide +kernel⟩
theorem ok_dist {f : Addr} {fd : FuncData} (F : Fun K "distances" "distances" s_distances f fd) (T : Txt K mg) : FnOk P w K mg base CX0 1 f fd ["ties", "start"] spDist := by
  refine F.ok sc_di (fun vs H Q E h => ?_) (fun cdv A outer s H vs Q E hr h => ?_)
  · obtain ⟨t, sp, D, ts, s, rfl, _⟩ := h
    rfl
  obtain ⟨t, sp, D, ts, st, rfl, hT, hF, sym, hD, hs, q⟩ := h
  have nd := sc_di.nd
  have hu := hu_of hr
  refine ⟨_, (pss_cons (ps_set (i := 2) nd rfl (Or.inl rfl) (pe_ifExp (pt_cmp (pc_din hu (pv 1) (pv 0))) (pe_dispT hu (pps_cons (pv 1) pe_int pps_nil) (by rfl) (by rfl) (fun h => nomatch h) (by decide +kernel)) pe_dnewT))
    (pss_cons (ps_set (i := 3) nd rfl (Or.inl rfl) (pe_callTy (call_list_dT rfl) (by rfl) T.list boot_list (pa_cons (pv 2) pa_nil)))
    (pss_cons (ps_while PassesOwn.never (pt_truth (pv 3) (fun _ => rfl))
      (pss_cons (ps_set (i := 4) nd rfl (Or.inl rfl) (pe_lst pa_nil))
    (pss_cons (ps_for PassesOwn.never (by rfl) (pi_list (pv 3)) (pg_name (i := 5) nd rfl (Or.inl rfl))
      (pss_one (ps_for PassesOwn.never (by rfl) (pi_list (pe_dget hu (pv 0) (pv 5) (fun _ _ => rfl))) (pg_name (i := 6) nd rfl (Or.inl rfl))
      (pss_one (ps_if (pt_cmp (pc_dnotin hu (pv 6) (pv 2)))
      (pss_cons (ps_dput hu (pv 2) (pv 6) (pe_op op_add (pe_dget hu (pv 2) (pv 5) (fun _ _ => rfl)) pe_int) rfl)
    (pss_one (ps_expr (pe_bm PySem.F.plainAttrs_list PySem.F.slot_list_append PySem.F.type_list_append mt_append (pv 4) (pa_cons (pv 6) pa_nil)))))
      pss_nil)))))
    (pss_one (ps_set (i := 3) nd rfl (Or.inl rfl) (pv 4))))))
    (pss_one (ps_ret (pv 2)))))), ?_⟩
  refine ⟨_, rfl, _, rfl, ?_⟩
  obtain ⟨o, hg, ho⟩ := hT.in hs
  refine ⟨t, o, rfl, hg, _, rfl, ?_⟩
  have rest : ∀ {d : Addr} {kvs : List (List Key × V)} {aw : Aw} {H1 : Hp} {E : Ends}, Same H H1 → H d = none → H1 d = some (.dT kvs) → A2 AwAt kvs aw → Lev D ts st 0 (aw.map (·.1)) aw → (∀ v H', E.rt v H' = Q v H') → tDistRest K E [some (.ref t), some (.ref sp), some (.ref d), none, none, none, none] H1 :=
    fun s1 fd hd ha lv e => dist_rest hT hF sym hD s1 fd hd ha lv fun kvs aw H' s' hd' ha' ok => by
      rw [e]
      exact q _ _ _ _ s' fd hd' ha' ok
  rcases ho with ⟨ho, hk⟩ | ⟨ho, hk⟩
  · rw [ho]
    refine iteT' rfl ?_
    intro d hdn
    have s1 := same_new hdn (.dT [])
    refine ⟨_, rfl, upd_same, [(kZ st, .int 0)], .cons ⟨⟨sp, rfl, s1 _ _ (kZ_tp hs)⟩, rfl⟩ .nil, (by show 1 ≤ 15; decide), ?_⟩
    rw [show mergeT [] [(kZ st, V.int 0)] = [(kZ st, V.int 0)] from by
      unfold mergeT
      show putK ([] : List (List Key × V)) (kZ st) (.int 0) = _
      rw [putK_new (kvs := []) _ rfl]
      rfl]
    exact rest (E := { nx := fun _ H' => Q .non H', rt := Q }) (aw := [(st, 0)]) (same_upd s1 hdn) hdn upd_same (.cons ⟨rfl, rfl⟩ .nil) (Lev.first hk) fun _ _ => rfl
  · rw [ho]
    refine iteF' rfl ?_
    intro d hdn
    exact rest (E := { nx := fun _ H' => Q .non H', rt := Q }) (same_new hdn _) hdn upd_same .nil (Lev.gone_ hk) fun _ _ => rfl
end
end TA

set_option Elab.async false
set_option maxRecDepth 100000
set_option maxHeartbeats 4000000
namespace TA
open PySem L2 PyProof.Rows
set_option linter.unusedVariables false
structure RaiseC (K : PySem.W.Frag) (mg : Str → Option Value) (n : Str) (C : Addr) : Prop where
  m : mg n = some (.ref C)
  x : PySem.W.excIn K C [.type "ValueError", .type "Exception", .type "BaseException", .type "object"] "ValueError.__new__" = true
  k : PySem.W.keepIn K (.ref C) = true
  b : PySem.W.subIn K (.ref C) (.type "BaseException") = some true
  t : PySem.W.typeIn K (.ref C) = some (.type "type")
theorem inB_hasK {T : TD} (W : WF T) {xy : Int × Int} (h : inB (T.al 0).length (T.al 1).length (pairD xy) = false) : hasK T.bo xy = false := by
  cases c : hasK T.bo xy with
  | false => rfl
  | true =>
    obtain ⟨e, he, h1⟩ := List.any_eq_true.mp c
    have h2 := of_decide_eq_true h1
    rw [← h2, in_yes (W.rng e he)] at h
    cases h
def spIsP (K : PySem.W.Frag) (C : Addr) : Sp := fun vs H Q _ => ∃ (p : Addr) (v : V) (T : TD), vs = [.ref p, v] ∧ TaskAt C H p T ∧ WF T ∧ ((∃ d, Dp K H v d ∧ inB (T.al 0).length (T.al 1).length d = false ∧ ∀ H', Same H H' → Q (.bl false) H') ∨ ∃ xy, TpAt H v xy ∧ ∀ H', Same H H' → Q (.bl (hasK T.bo xy)) H')
/-- what is no pair of the task's -/
def NoPair (K : PySem.W.Frag) (H : Hp) (T : TD) (v : V) : Prop := (∃ d, Dp K H v d ∧ inB (T.al 0).length (T.al 1).length d = false) ∨ ∃ xy, TpAt H v xy ∧ hasK T.bo xy = false
def spTf (K : PySem.W.Frag) (C cI : Addr) : Sp := fun vs H Q E => ∃ (p : Addr) (v : V) (T : TD), vs = [.ref p, v] ∧ TaskAt C H p T ∧ WF T ∧ ((NoPair K H T v ∧ ∀ H', Same H H' → E (.ref cI) none H') ∨ ∃ e ∈ T.bo, TpAt H v (iI e.1) ∧ ∀ (t : Addr) (ts : Ties) (H1 H' : Hp), Same H H1 → TiS H1 H' t ts → TiesFor (dirs e.2) ts → Q (.ref t) H')
theorem passT {X : Cx} {E : XK} (tk : Takes X (fun cls d _ H => E cls d H)) : Passes (L2.CX X.prog X.w) X E := fun _ _ _ _ e s' I c => tk e s' (XE.of_call I (fun _ _ _ h => h) c)
theorem bo_val {H : Hp} : ∀ {kvs : List (List Key × V)} {bo : BD}, A2 (EnAt H) kvs bo → (bo.map (·.1)).Pairwise (· ≠ ·) → ∀ {e : IP × List (Int × Int)}, e ∈ bo → ∃ v, valV kvs (kI e.1) = some v ∧ LetAt H v e.2
  | _, _, .nil, _, _, m => (nomatch m)
  | x :: xs, y :: ys, .cons a r, nd, e, m => by
    rw [List.map_cons, List.pairwise_cons] at nd
    rcases List.mem_cons.mp m with rfl | m
    · exact ⟨x.2, valV_pos a.1, a.2⟩
    · rw [valV_neg (by rw [a.1]; exact fun z => nd.1 _ (List.mem_map_of_mem (f := (·.1)) m) (kI_inj z))]
      exact bo_val r nd.2 m
section
variable {P : Program} {w : World} {K : PySem.W.Frag} {mg : Str → Option Value} {base : Heap}
abbrev nIsP : List Str := ["task", "thing"]
theorem sc_isp : FnScope nIsP nIsP (defScope s_is_pair) := ⟨rfl, rfl, rfl, by decide +kernel, rfl, by decide +kernel, by decide +kernel⟩
theorem ok_isp {f g C : Addr} {fd gd : FuncData} (F : Fun K "is_pair" "is_pair" s_is_pair f fd) (T : Txt K mg) (Z : TxtC K mg C) (W1 : Def P w K mg base "is_input_pair" ["thing", "alone"] 3 (spInp K) g gd) : FnOk P w K mg base CX0 4 f fd nIsP (spIsP K C) := by
  refine F.ok sc_isp (fun vs H Q E h => ?_) (fun cdv A outer s H vs Q E hr h => ?_)
  · obtain ⟨p, v, D, rfl, _⟩ := h
    rfl
  obtain ⟨p, v, D, rfl, hT, hW, h⟩ := h
  have hu := hu_of hr
  refine ⟨_, (pss_one (ps_ret (pe_and (pe_call W1.G (hr.mono (by decide)) rfl W1.m W1.k W1.b .nil pass0 (pa_cons (pv 1) (pa_cons (pe_fld (pv 0) rfl) pa_nil))) (pe_one (pe_cmp (pc_din hu (pv 1) (pe_fld (pv 0) rfl)) rfl))))), ?_⟩
  obtain ⟨dx, a, d, hp, hA, hB⟩ := hT
  obtain ⟨al, e, hal⟩ := hA.at2 (K := K)
  obtain rfl : a = al := by injection e
  rcases h with ⟨dd, hd, hn, q⟩ | ⟨xy, hv, q⟩
  · refine ⟨_, rfl, _, rfl, p, C, dx, _, _, rfl, hp, Z.cl, Z.nA, flds_alone _ _, v, _, a, _, _, rfl, hd, hal, fun H1 s1 => ⟨_, rfl, ?_⟩⟩
    rw [hn]
    exact iteF (q _ s1)
  refine ⟨_, rfl, _, rfl, p, C, dx, _, _, rfl, hp, Z.cl, Z.nA, flds_alone _ _, v, _, a, _, _, rfl, hv.dp, hal, fun H1 s1 => ⟨_, rfl, ?_⟩⟩
  cases c : inB (D.al 0).length (D.al 1).length (pairD xy) with
  | false =>
    rw [inB_hasK hW c] at q
    exact iteF (q _ s1)
  | true =>
    obtain ⟨kvs, hd, ha⟩ := hB.mono s1
    obtain ⟨t, rfl, ht⟩ := hv.mono (.same s1)
    refine iteT ⟨_, rfl, _, rfl, p, C, dx, _, _, rfl, s1 _ _ hp, Z.cl, Z.nB, flds_both _ _, d, _, rfl, DGet.t (k := k2 xy) hd ht, ?_⟩
    rw [some_hasK ha]
    exact q _ s1
abbrev nTf : List Str := ["task", "pair"]
theorem sc_tf : FnScope nTf nTf (defScope s_ties_for) := ⟨rfl, rfl, rfl, by decide +kernel, rfl, by decide +kernel, by decide +kernel⟩
theorem ok_tf {f g1 g2 C cI : Addr} {fd d1 d2 : FuncData} (F : Fun K "ties_for" "ties_for" s_ties_for f fd) (Z : TxtC K mg C) (R : RaiseC K mg "NoInputs" cI) (WP : Def P w K mg base "is_pair" ["task", "thing"] 4 (spIsP K C) g1 d1) (To : Def P w K mg base "ties_of" ["let"] 1 spTies g2 d2) : FnOk P w K mg base (L2.CX P w) 5 f fd nTf (spTf K C cI) := by
  refine F.okX sc_tf (fun vs H Q E h => ?_) (fun cdv A outer s H vs Q E hr h => ?_)
  · obtain ⟨p, v, D, rfl, _⟩ := h
    rfl
  obtain ⟨p, v, D, rfl, hT, hW, h⟩ := h
  have nd := sc_tf.nd
  have hu := hu_of hr
  refine ⟨_, (pss_cons (ps_if (pt_not (pt_val (pe_call WP.G (hr.mono (by decide)) rfl WP.m WP.k WP.b .nil pass0 (pa_cons (pv 0) (pa_cons (pv 1) pa_nil)))))
      (pss_one (ps_raise rfl (takes_of rfl rfl rfl rfl) (pmk_own PySem.F.excBase_ValueError R.x R.m R.k (raises_own R.b R.t) (by exact rfl))))
      pss_nil)
    (PSs.nox (pss_one (ps_ret (pe_call To.G (hr.mono (by decide)) rfl To.m To.k To.b .nil pass0 (pa_cons (pe_dget hu (pe_fld (pv 0) rfl) (pv 1) (fun _ _ => rfl)) pa_nil)))))), ?_⟩
  rcases h with ⟨hn, q⟩ | ⟨e, he, hv, q⟩
  · rcases hn with ⟨d, hd, hb⟩ | ⟨xy, hv, hk⟩
    · exact ⟨_, rfl, _, rfl, p, v, D, rfl, hT, hW, .inl ⟨d, hd, hb, fun H1 s1 => ⟨_, rfl, iteT' rfl (q _ s1)⟩⟩⟩
    · exact ⟨_, rfl, _, rfl, p, v, D, rfl, hT, hW, .inr ⟨xy, hv, fun H1 s1 => ⟨_, rfl, by rw [hk]; exact iteT' rfl (q _ s1)⟩⟩⟩
  · refine ⟨_, rfl, _, rfl, p, v, D, rfl, hT, hW, .inr ⟨_, hv, fun H1 s1 => ⟨_, rfl, ?_⟩⟩⟩
    rw [hasK_yes he]
    refine iteF' rfl ?_
    obtain ⟨dx, a, d, hp, hA, hB⟩ := hT
    obtain ⟨kvs, hd, ha⟩ := hB.mono s1
    obtain ⟨t, rfl, ht⟩ := hv.mono (.same s1)
    obtain ⟨lv, e1, hl⟩ := bo_val ha hW.srt he
    obtain ⟨la, _, rfl, _, _⟩ := id hl
    refine ⟨_, rfl, p, C, dx, _, _, rfl, s1 _ _ hp, Z.cl, Z.nB, flds_both _ _, _, rfl, d, .ref la, rfl, (by rw [← e1]; exact DGet.t (k := kI e.1) hd ht), la, e.2, rfl, hl, Nat.le_trans (hW.lets e he).2.1 (by decide), fun t' ts H2 T2 F2 => q _ _ _ _ s1 T2 F2⟩
end
end TA

set_option Elab.async false
set_option maxRecDepth 100000
set_option maxHeartbeats 4000000
namespace TA
open PySem L2 PyProof.Rows
set_option linter.unusedVariables false
/-- a way by ties -/
def Way (D : List (Pt × Pt)) : Pt → Pt → List Pt → Prop
  | _, _, [] => False
  | a, b, [x] => x = a ∧ a = b
  | a, b, x :: y :: r => x = a ∧ (a, y) ∈ D ∧ Way D y b (y :: r)
theorem Way.snoc {D : List (Pt × Pt)} : ∀ {ps : List Pt} {a b c : Pt}, Way D a b ps → (b, c) ∈ D → Way D a c (ps ++ [c])
  | [x], a, b, c, ⟨h1, h2⟩, h => ⟨h1, by rw [h2]; exact h, rfl, rfl⟩
  | x :: y :: r, a, b, c, ⟨h1, h2, h3⟩, h => ⟨h1, h2, Way.snoc (ps := y :: r) h3 h⟩
theorem AwayOk.low {D : List (Pt × Pt)} {ts : Ties} {s : Pt} {aw : Aw} (h : AwayOk D ts s aw) {p : Pt} {k : Nat} (m : (p, k) ∈ aw) : k + 1 ≤ ts.length := by
  have go : ∀ (k : Nat) (p : Pt), (p, k) ∈ aw → ∃ ps : List Pt, ps.length = k + 1 ∧ ps.Pairwise (· ≠ ·) ∧ ∀ x ∈ ps, ∃ j, j ≤ k ∧ (x, j) ∈ aw := by
    intro k
    induction k with
    | zero => exact fun p m => ⟨[p], rfl, List.pairwise_singleton _ _, fun x hx => ⟨0, Nat.le_refl _, by rw [List.mem_singleton.mp hx]; exact m⟩⟩
    | succ k ih =>
      intro p m
      obtain ⟨q, _, hq⟩ := h.pred p k m
      obtain ⟨ps, h1, h2, h3⟩ := ih q hq
      refine ⟨p :: ps, congrArg (· + 1) h1, List.pairwise_cons.mpr ⟨fun x hx c => ?_, h2⟩, fun x hx => ?_⟩
      · obtain ⟨j, hj, mj⟩ := h3 x hx
        rw [← c] at mj
        have := uniq_fst h.nd m mj
        omega
      · rcases List.mem_cons.mp hx with rfl | hx
        · exact ⟨_, Nat.le_refl _, m⟩
        · obtain ⟨j, hj, mj⟩ := h3 x hx
          exact ⟨j, Nat.le_succ_of_le hj, mj⟩
  obtain ⟨ps, h1, h2, h3⟩ := go k p m
  rw [← h1]
  exact few_keys h2 fun x hx => by
    obtain ⟨j, _, mj⟩ := h3 x hx
    exact h.inT _ mj
end TA

set_option Elab.async false
set_option maxRecDepth 100000
set_option maxHeartbeats 4000000
set_option linter.unusedVariables false
namespace TA
open PySem L2 PyProof.Rows
/-! what distances tells, as the least length of a way -/
theorem Way.head {D : List (Pt × Pt)} : ∀ {ps : List Pt} {a b : Pt}, Way D a b ps → ∃ r, ps = a :: r
  | [x], a, b, ⟨h1, _⟩ => ⟨[], by rw [h1]⟩
  | x :: y :: r, a, b, ⟨h1, _⟩ => ⟨y :: r, by rw [h1]⟩
theorem Way.push {D : List (Pt × Pt)} {ps : List Pt} {a b c : Pt} (h : Way D a b ps) (e : (c, a) ∈ D) : Way D c b (c :: ps) := by
  obtain ⟨r, rfl⟩ := h.head
  exact ⟨rfl, e, h⟩
theorem AwayOk.way {D : List (Pt × Pt)} {ts : Ties} {s : Pt} {aw : Aw} (h : AwayOk D ts s aw) : ∀ (k : Nat) (p : Pt), (p, k) ∈ aw → ∃ ps : List Pt, ps.length = k + 1 ∧ Way D p s ps
  | 0, p, m => ⟨[p], rfl, rfl, h.zero p m⟩
  | k + 1, p, m => by
    obtain ⟨q, d, m2⟩ := h.pred p k m
    obtain ⟨ps, l, w⟩ := AwayOk.way h k q m2
    exact ⟨p :: ps, by rw [List.length_cons, l], w.push d⟩
theorem AwayOk.least {D : List (Pt × Pt)} {ts : Ties} {s : Pt} {aw : Aw} (h : AwayOk D ts s aw) (sym : ∀ p q, (p, q) ∈ D → (q, p) ∈ D) (ex : ∃ e ∈ ts, e.1 = s) : ∀ (ps : List Pt) (a : Pt), Way D a s ps → ∃ k, (a, k) ∈ aw ∧ k + 1 ≤ ps.length
  | [x], a, ⟨h1, h2⟩ => ⟨0, by rw [h2]; exact h.here ex, Nat.le_refl _⟩
  | x :: y :: r, a, ⟨h1, h2, h3⟩ => by
    obtain ⟨k, m, l⟩ := AwayOk.least h sym ex (y :: r) y h3
    obtain ⟨j, m2, l2⟩ := h.next y k a m (sym _ _ h2)
    refine ⟨j, m2, ?_⟩
    simp only [List.length_cons] at l ⊢
    omega
theorem AwayOk.one {D : List (Pt × Pt)} {ts : Ties} {s : Pt} {aw : Aw} (h : AwayOk D ts s aw) {p : Pt} {k j : Nat} (m1 : (p, k) ∈ aw) (m2 : (p, j) ∈ aw) : k = j := by
  have nd := h.nd
  clear h
  induction aw with
  | nil => cases m1
  | cons x xs ih =>
    rw [List.map_cons, List.pairwise_cons] at nd
    rcases List.mem_cons.mp m1 with e1 | m1 <;> rcases List.mem_cons.mp m2 with e2 | m2
    · rw [← e1] at e2
      exact (Prod.mk.inj e2).2.symm
    · exact absurd (by rw [← e1]) (nd.1 p (List.mem_map.mpr ⟨_, m2, rfl⟩))
    · exact absurd (by rw [← e2]) (nd.1 p (List.mem_map.mpr ⟨_, m1, rfl⟩))
    · exact ih m1 m2 nd.2
/-- a way between the hands: each tie goes over -/
theorem Way.parity {D : List (Pt × Pt)} (alt : ∀ p q, (p, q) ∈ D → q.1 + p.1 = 1) : ∀ (ps : List Pt) (a b : Pt), Way D a b ps → ((ps.length : Int) + 1 + a.1 + b.1) % 2 = 0
  | [x], a, b, ⟨_, h2⟩ => by
    rw [h2, List.length_singleton]
    omega
  | x :: y :: r, a, b, ⟨_, h2, h3⟩ => by
    have e := alt _ _ h2
    have i := Way.parity alt (y :: r) y b h3
    simp only [List.length_cons] at *
    omega
end TA

set_option Elab.async false
set_option maxRecDepth 100000
set_option maxHeartbeats 4000000
set_option linter.unusedVariables false
namespace TA
open PySem L2 PyProof.Rows
/-! a way as a walk by outputs; ties spent to and fro -/
theorem Way.spend {D : List (Pt × Pt)} (sym : ∀ p q, (p, q) ∈ D → (q, p) ∈ D) {a b p q : Pt} {r : List Pt} (h : Way D a b (p :: q :: r)) : ∀ t : Nat, Way D a b ((List.replicate t [p, q]).flatten ++ (p :: q :: r))
  | 0 => h
  | t + 1 => by
    have i := Way.spend sym h t
    obtain ⟨h1, h2, _⟩ := h
    obtain ⟨r', e⟩ := i.head
    rw [List.replicate_succ, List.flatten_cons, List.append_assoc]
    rw [e] at i ⊢
    subst h1
    exact ⟨rfl, h2, rfl, sym _ _ h2, i⟩
theorem spend_len {p q : Pt} : ∀ t : Nat, ((List.replicate t [p, q]).flatten).length = 2 * t
  | 0 => rfl
  | t + 1 => by
    rw [List.replicate_succ, List.flatten_cons, List.length_append, spend_len t]
    simp only [List.length_cons, List.length_nil]
    omega
/-- by outputs: from hand h on -/
def Walks (outs : List (Int × Int)) : Int → List Int → Prop
  | _, [] => False
  | _, [_] => True
  | h, x :: y :: r => (if h = 0 then (x, y) ∈ outs else (y, x) ∈ outs) ∧ Walks outs (1 - h) (y :: r)
theorem Way.walks {D : List (Pt × Pt)} {outs : List (Int × Int)} (ok : ∀ p q, (p, q) ∈ D → (p.1 = 0 ∧ q.1 = 1 ∧ (p.2, q.2) ∈ outs) ∨ (p.1 = 1 ∧ q.1 = 0 ∧ (q.2, p.2) ∈ outs)) : ∀ (ps : List Pt) (a b : Pt), Way D a b ps → Walks outs a.1 (ps.map (·.2))
  | [x], a, b, _ => trivial
  | x :: y :: r, a, b, ⟨h1, h2, h3⟩ => by
    have i := Way.walks ok (y :: r) y b h3
    subst h1
    rcases ok _ _ h2 with ⟨e1, e2, m⟩ | ⟨e1, e2, m⟩
    · refine ⟨?_, ?_⟩
      · rw [if_pos e1]
        exact m
      · rw [e1, show (1 : Int) - 0 = y.1 by omega]
        exact i
    · refine ⟨?_, ?_⟩
      · rw [if_neg (by omega)]
        exact m
      · rw [e1, show (1 : Int) - 1 = y.1 by omega]
        exact i
theorem Way.last {D : List (Pt × Pt)} : ∀ (ps : List Pt) (a b : Pt), Way D a b ps → ps.getLast? = some b
  | [x], a, b, ⟨h1, h2⟩ => by rw [h1, h2]; rfl
  | x :: y :: r, a, b, ⟨_, _, h3⟩ => by
    rw [List.getLast?_cons_cons]
    exact Way.last (y :: r) y b h3
/-- a step of it, by its number -/
theorem Walks.at {outs : List (Int × Int)} : ∀ (zs : List Int) (h : Int) (k : Nat) (x y : Int), h = 0 ∨ h = 1 → Walks outs h zs → zs[k]? = some x → zs[k + 1]? = some y → if (h + k) % 2 = 0 then (x, y) ∈ outs else (y, x) ∈ outs
  | [], _, _, _, _, _, w, _, _ => w.elim
  | [_], _, k, _, _, _, _, _, e => by simp at e
  | z :: z2 :: r, h, 0, x, y, hh, ⟨m, _⟩, e1, e2 => by
    simp at e1 e2
    subst e1 e2
    rcases hh with rfl | rfl
    · exact m
    · exact m
  | z :: z2 :: r, h, k + 1, x, y, hh, ⟨_, w⟩, e1, e2 => by
    have i := Walks.at (z2 :: r) (1 - h) k x y (by omega) w (by simpa using e1) (by simpa using e2)
    have c : ((1 - h + (k : Int)) % 2 = 0) ↔ ((h + ((k + 1 : Nat) : Int)) % 2 = 0) := by omega
    by_cases q : (1 - h + (k : Int)) % 2 = 0
    · rw [if_pos q] at i
      rw [if_pos (c.mp q)]
      exact i
    · rw [if_neg q] at i
      rw [if_neg fun z => q (c.mpr z)]
      exact i
end TA

set_option Elab.async false
set_option maxRecDepth 100000
set_option maxHeartbeats 4000000
set_option linter.unusedVariables false
namespace TA
open PySem L2 PyProof.Rows
/-! the law's own floors: what is met within n ties, what is n ties away -/
theorem Way.unsnoc {D : List (Pt × Pt)} : ∀ (ps : List Pt) (a b : Pt) (k : Nat), Way D a b ps → ps.length = k + 2 → ∃ (q : Pt) (qs : List Pt), qs.length = k + 1 ∧ Way D a q qs ∧ (q, b) ∈ D
  | [x], _, _, _, _, l => by simp at l
  | [x, y], a, b, k, ⟨h1, h2, h3⟩, l => ⟨a, [a], by simp at l; rw [l]; rfl, ⟨rfl, rfl⟩, by
      obtain ⟨_, e⟩ := h3
      rw [← e]
      exact h2⟩
  | x :: y :: z :: r, a, b, k, ⟨h1, h2, h3⟩, l => by
    match k, l with
    | 0, l => simp at l
    | k + 1, l =>
      obtain ⟨q, qs, l2, w, m⟩ := Way.unsnoc (y :: z :: r) y b k h3 (by simpa using l)
      exact ⟨q, a :: qs, by rw [List.length_cons, l2], w.push h2, m⟩
def Rea (D : List (Pt × Pt)) (a : Pt) (n : Nat) (p : Pt) : Prop := ∃ ps : List Pt, ps.length = n + 1 ∧ Way D a p ps
def BeyD (met floor : List Pt) (D : List (Pt × Pt)) (b : List Pt) : Prop := ∀ p, p ∈ b ↔ p ∉ met ∧ ∃ q ∈ floor, (q, p) ∈ D
theorem BeyD.nil {met floor : List Pt} : BeyD met floor [] [] := fun p => ⟨fun h => (nomatch h), fun ⟨_, _, _, h⟩ => (nomatch h)⟩
theorem BeyD.snoc {met floor : List Pt} {D : List (Pt × Pt)} {b : List Pt} (h : BeyD met floor D b) (u v : Pt) : BeyD met floor (D ++ [(u, v)]) (if u ∈ floor ∧ v ∉ met ++ b then b ++ [v] else b) := by
  intro p
  have old : p ∈ b → p ∉ met ∧ ∃ q ∈ floor, (q, p) ∈ D ++ [(u, v)] := fun m => by
    obtain ⟨n, q, hq, hd⟩ := (h p).mp m
    exact ⟨n, q, hq, List.mem_append_left _ hd⟩
  by_cases c : u ∈ floor ∧ v ∉ met ++ b
  · rw [if_pos c]
    constructor
    · intro m
      rcases List.mem_append.mp m with m | m
      · exact old m
      · rw [List.mem_singleton.mp m]
        exact ⟨fun z => c.2 (List.mem_append_left _ z), u, c.1, List.mem_append_right _ (List.mem_singleton.mpr rfl)⟩
    · rintro ⟨n, q, hq, hd⟩
      rcases List.mem_append.mp hd with hd | hd
      · exact List.mem_append_left _ ((h p).mpr ⟨n, q, hq, hd⟩)
      · rw [(Prod.mk.inj (List.mem_singleton.mp hd)).2]
        exact List.mem_append_right _ (List.mem_singleton.mpr rfl)
  · rw [if_neg c]
    refine ⟨old, ?_⟩
    rintro ⟨n, q, hq, hd⟩
    rcases List.mem_append.mp hd with hd | hd
    · exact (h p).mpr ⟨n, q, hq, hd⟩
    · obtain ⟨e1, e2⟩ := Prod.mk.inj (List.mem_singleton.mp hd)
      rw [e1] at hq
      have z : v ∈ met ++ b := Decidable.byContradiction fun z => c ⟨hq, z⟩
      rw [e2] at n ⊢
      exact (List.mem_append.mp z).elim (fun z => absurd z n) id
structure Flo (D : List (Pt × Pt)) (a : Pt) (n : Nat) (met floor : List Pt) : Prop where
  met : ∀ p, p ∈ met ↔ ∃ j, j ≤ n ∧ Rea D a j p
  flo : ∀ p, p ∈ floor ↔ Rea D a n p ∧ ∀ j, j < n → ¬ Rea D a j p
theorem rea_zero {D : List (Pt × Pt)} {a p : Pt} : Rea D a 0 p ↔ p = a := by
  constructor
  · rintro ⟨ps, l, w⟩
    match ps, l, w with
    | [x], _, ⟨_, e⟩ => exact e.symm
  · rintro rfl
    exact ⟨[p], rfl, rfl, rfl⟩
theorem Flo.zero {D : List (Pt × Pt)} {a : Pt} : Flo D a 0 [a] [a] := by
  refine ⟨fun p => ?_, fun p => ?_⟩
  · rw [List.mem_singleton]
    constructor
    · intro e
      exact ⟨0, Nat.le_refl 0, rea_zero.mpr e⟩
    · rintro ⟨j, l, h⟩
      cases Nat.le_zero.mp l
      exact rea_zero.mp h
  · rw [List.mem_singleton]
    exact ⟨fun e => ⟨rea_zero.mpr e, fun j l => absurd l (Nat.not_lt_zero j)⟩, fun h => rea_zero.mp h.1⟩
theorem Flo.next {D : List (Pt × Pt)} {a : Pt} {n : Nat} {met floor b : List Pt} (h : Flo D a n met floor) (hb : BeyD met floor D b) : Flo D a (n + 1) (met ++ b) b := by
  have key : ∀ p, p ∈ b ↔ Rea D a (n + 1) p ∧ ∀ j, j < n + 1 → ¬ Rea D a j p := by
    intro p
    rw [hb p]
    constructor
    · rintro ⟨nm, q, hq, hd⟩
      obtain ⟨⟨ps, l, w⟩, _⟩ := (h.flo q).mp hq
      exact ⟨⟨ps ++ [p], by rw [List.length_append, l]; rfl, w.snoc hd⟩, fun j l r => nm ((h.met p).mpr ⟨j, Nat.le_of_lt_succ l, r⟩)⟩
    · rintro ⟨⟨ps, l, w⟩, no⟩
      obtain ⟨q, qs, l2, w2, m⟩ := Way.unsnoc ps a p n w l
      refine ⟨fun z => ?_, q, (h.flo q).mpr ⟨⟨qs, l2, w2⟩, fun j lj r => ?_⟩, m⟩
      · obtain ⟨j, lj, r⟩ := (h.met p).mp z
        exact no j (Nat.lt_succ_of_le lj) r
      · obtain ⟨rs, l3, w3⟩ := r
        exact no (j + 1) (Nat.succ_lt_succ lj) ⟨rs ++ [p], by rw [List.length_append, l3]; rfl, w3.snoc m⟩
  refine ⟨fun p => ?_, key⟩
  rw [List.mem_append]
  constructor
  · rintro (m | m)
    · obtain ⟨j, l, r⟩ := (h.met p).mp m
      exact ⟨j, Nat.le_succ_of_le l, r⟩
    · exact ⟨n + 1, Nat.le_refl _, ((key p).mp m).1⟩
  · rintro ⟨j, l, r⟩
    by_cases m : p ∈ met
    · exact .inl m
    · refine .inr ((key p).mpr ?_)
      have no : ∀ i, i < n + 1 → ¬ Rea D a i p := fun i li ri => m ((h.met p).mpr ⟨i, Nat.le_of_lt_succ li, ri⟩)
      rcases Nat.lt_or_ge j (n + 1) with q | q
      · exact absurd r (no j q)
      · rw [Nat.le_antisymm l q] at r
        exact ⟨r, no⟩
end TA

set_option Elab.async false
set_option maxRecDepth 100000
set_option maxHeartbeats 4000000
set_option linter.unusedVariables false
namespace TA
open PySem L2 PyProof.Rows
/-! the program's distance is the law's floor -/
def Lst (D : List (Pt × Pt)) (a b : Pt) (k : Nat) : Prop := Rea D a k b ∧ ∀ j, j < k → ¬ Rea D a j b
theorem Rea.least {D : List (Pt × Pt)} {a b : Pt} : ∀ {k : Nat}, Rea D a k b → ∃ j, j ≤ k ∧ Lst D a b j := by
  intro k
  induction k using Nat.strongRecOn with
  | _ k ih =>
    intro h
    by_cases c : ∃ j, j < k ∧ Rea D a j b
    · obtain ⟨j, l, r⟩ := c
      obtain ⟨i, li, q⟩ := ih j l r
      exact ⟨i, Nat.le_trans li (Nat.le_of_lt l), q⟩
    · exact ⟨k, Nat.le_refl k, h, fun j l r => c ⟨j, l, r⟩⟩
theorem Lst.one {D : List (Pt × Pt)} {a b : Pt} {k j : Nat} (h : Lst D a b k) (g : Lst D a b j) : k = j := by
  rcases Nat.lt_trichotomy k j with l | l | l
  · exact absurd h.1 (g.2 k l)
  · exact l
  · exact absurd g.1 (h.2 j l)
theorem AwayOk.lst {D : List (Pt × Pt)} {ts : Ties} {s : Pt} {aw : Aw} (h : AwayOk D ts s aw) (sym : ∀ p q, (p, q) ∈ D → (q, p) ∈ D) (ex : ∃ e ∈ ts, e.1 = s) (a : Pt) (k : Nat) : (a, k) ∈ aw ↔ Lst D a s k := by
  constructor
  · intro m
    refine ⟨h.way k a m, fun j l r => ?_⟩
    obtain ⟨ps, lp, w⟩ := r
    obtain ⟨i, mi, li⟩ := h.least sym ex ps a w
    have e := h.one m mi
    omega
  · intro q
    obtain ⟨ps, lp, w⟩ := q.1
    obtain ⟨i, mi, li⟩ := h.least sym ex ps a w
    obtain ⟨rs, lr, wr⟩ := h.way i a mi
    have : ¬ i < k := fun l => q.2 i l ⟨rs, lr, wr⟩
    have e : i = k := by omega
    rw [← e]
    exact mi
theorem Rea.tied {D : List (Pt × Pt)} {a b : Pt} {k : Nat} (sym : ∀ p q, (p, q) ∈ D → (q, p) ∈ D) (h : Rea D a k b) (ne : a ≠ b) : (∃ q, (a, q) ∈ D) ∧ ∃ q, (b, q) ∈ D := by
  obtain ⟨ps, l, w⟩ := h
  match k, ps, l, w with
  | 0, [x], _, ⟨_, e⟩ => exact absurd e ne
  | k + 1, x :: y :: r, l, w =>
    obtain ⟨q, qs, _, _, m⟩ := Way.unsnoc _ _ _ k w l
    exact ⟨⟨y, w.2.1⟩, q, sym _ _ m⟩
/-- what the program finds, at any pair of points -/
theorem AwayOk.tells {D : List (Pt × Pt)} {ts : Ties} {s : Pt} {aw : Aw} (h : AwayOk D ts s aw) (tf : TiesFor D ts) (sym : ∀ p q, (p, q) ∈ D → (q, p) ∈ D) {a : Pt} (ne : a ≠ s) (k : Nat) : (a, k) ∈ aw ↔ Lst D a s k := by
  by_cases ex : ∃ e ∈ ts, e.1 = s
  · exact h.lst sym ex a k
  · have e := h.gone fun e he q => ex ⟨e, he, q⟩
    rw [e]
    refine ⟨fun z => (nomatch z), fun q => ?_⟩
    obtain ⟨_, q2, m⟩ := q.1.tied sym ne
    obtain ⟨e, he, q⟩ := tf.key _ _ m
    exact absurd ⟨e, he, q⟩ ex
/-- no farther than there are ties -/
theorem AwayOk.bound {D : List (Pt × Pt)} {ts : Ties} {s : Pt} {aw : Aw} (h : AwayOk D ts s aw) (tf : TiesFor D ts) {a : Pt} {k : Nat} (m : (a, k) ∈ aw) : k + 1 ≤ D.length := Nat.le_trans (h.low m) tf.len
end TA

set_option Elab.async false
set_option maxRecDepth 100000
set_option maxHeartbeats 4000000
set_option linter.unusedVariables false
namespace TA
open PySem L2 PyProof.Rows
/-! what walk tells -/
theorem dirs_alt {outs : List Pt} : ∀ p q : Pt, (p, q) ∈ dirs outs → q.1 + p.1 = 1 := fun p q h => by
  obtain ⟨o, _, ⟨rfl, rfl⟩ | ⟨rfl, rfl⟩⟩ := mem_dirs.mp h <;> rfl
theorem dirs_outs {outs : List Pt} : ∀ p q : Pt, (p, q) ∈ dirs outs → (p.1 = 0 ∧ q.1 = 1 ∧ (p.2, q.2) ∈ outs) ∨ (p.1 = 1 ∧ q.1 = 0 ∧ (q.2, p.2) ∈ outs) := fun p q h => by
  obtain ⟨o, ho, ⟨rfl, rfl⟩ | ⟨rfl, rfl⟩⟩ := mem_dirs.mp h
  · exact .inl ⟨rfl, rfl, ho⟩
  · exact .inr ⟨rfl, rfl, ho⟩
abbrev LstO (outs : List Pt) (x y : Int) (k : Nat) : Prop := Lst (dirs outs) (0, x) (1, y) k
theorem LstO.odd {outs : List Pt} {x y : Int} {k : Nat} (h : LstO outs x y k) : k % 2 = 1 := by
  obtain ⟨⟨ps, l, w⟩, _⟩ := h
  have := Way.parity dirs_alt ps _ _ w
  simp only [l] at this
  omega
end TA

set_option Elab.async false
set_option maxRecDepth 100000
set_option maxHeartbeats 4000000
namespace TA
open PySem L2 PyProof.Rows
set_option linter.unusedVariables false
structure FDX (P : Program) (w : World) (K : PySem.W.Frag) (mg : Str → Option Value) (base : Heap) (n : Str) (ps : List Str) (k : Nat) (sp : Sp) (f : Addr) (fd : FuncData) : Prop where
  G : FnOk P w K mg base (L2.CX P w) k f fd ps sp
  b : Binds K fd ps []
  k : PySem.W.keepIn K (.ref f) = true
  m : mg n = some (.ref f)
theorem TiS.same0 {H0 H : Hp} {t : Addr} {ts : Ties} (h : TiS H0 H t ts) : Same H0 H := by
  obtain ⟨_, _, _, _, _, _, s⟩ := h
  exact s
/-! ways turned about -/
theorem Way.back {D : List (Pt × Pt)} (sym : ∀ p q, (p, q) ∈ D → (q, p) ∈ D) : ∀ (ps : List Pt) (a b : Pt), Way D a b ps → Way D b a ps.reverse
  | [x], a, b, ⟨h1, h2⟩ => ⟨by rw [h1, h2], h2.symm⟩
  | x :: y :: r, a, b, ⟨h1, h2, h3⟩ => by
    have i := Way.back sym (y :: r) y b h3
    rw [List.reverse_cons, h1]
    exact i.snoc (sym _ _ h2)
theorem Rea.back {D : List (Pt × Pt)} (sym : ∀ p q, (p, q) ∈ D → (q, p) ∈ D) {a b : Pt} {n : Nat} (h : Rea D a n b) : Rea D b n a := by
  obtain ⟨ps, l, w⟩ := h
  exact ⟨ps.reverse, by rw [List.length_reverse, l], w.back sym⟩
theorem Lst.back {D : List (Pt × Pt)} (sym : ∀ p q, (p, q) ∈ D → (q, p) ∈ D) {a b : Pt} {n : Nat} (h : Lst D a b n) : Lst D b a n := ⟨h.1.back sym, fun j l r => h.2 j l (r.back sym)⟩
def LeastV (outs : List Pt) (x y : Int) (v : V) : Prop := (v = .non ∧ ∀ k, ¬ LstO outs x y k) ∨ ∃ k : Nat, v = .int (k : Int) ∧ LstO outs x y k
theorem LeastV.one {outs : List Pt} {x y : Int} {v u : V} (h : LeastV outs x y v) (g : LeastV outs x y u) : v = u := by
  rcases h with ⟨rfl, h⟩ | ⟨k, rfl, h⟩
  · rcases g with ⟨rfl, _⟩ | ⟨j, _, g⟩
    · rfl
    · exact absurd g (h j)
  · rcases g with ⟨_, g⟩ | ⟨j, rfl, g⟩
    · exact absurd h (g k)
    · rw [Lst.one h g]
def spFarX (C cI : Addr) (K : PySem.W.Frag) : Sp := fun vs H Q E => ∃ (p : Addr) (v : V) (T : TD) (x y : Int), vs = [.ref p, v, .int x, .int y] ∧ TaskAt C H p T ∧ WF T ∧
  ((NoPair K H T v ∧ ∀ H', Same H H' → E (.ref cI) none H') ∨ ∃ e ∈ T.bo, TpAt H v (iI e.1) ∧ ∀ (u : V) (H' : Hp), Same H H' → LeastV e.2 x y u → Q u H')
section
variable {P : Program} {w : World} {K : PySem.W.Frag} {mg : Str → Option Value} {base : Heap}
theorem lower {k : Nat} {f : Addr} {fd : FuncData} {ps : List Str} {sp sp' : Sp} (F : FnOk P w K mg base (L2.CX P w) k f fd ps sp) (h : ∀ vs H Q E, sp' vs H Q E → sp vs H Q fun _ _ _ => False) : FnOk P w K mg base CX0 k f fd ps sp' :=
  ⟨fun vs H Q E q => F.len _ _ _ _ (h vs H Q E q), fun A outer s H args us vs Q E hr he hb hv hs => codeAny_mono (F.run A outer s H args us vs Q _ hr he hb hv (h _ _ _ _ hs)) fun r s' h => by
    cases r with
    | error e =>
      obtain ⟨_, _, _, _, _, _, _, _, _, _, _, _, z⟩ := h
      exact z.elim
    | ok o => cases o <;> exact h⟩
theorem respec {k : Nat} {f : Addr} {fd : FuncData} {ps : List Str} {sp sp' : Sp} (F : FnOk P w K mg base CX0 k f fd ps sp) (h : ∀ vs H Q E, sp' vs H Q E → sp vs H Q E) : FnOk P w K mg base CX0 k f fd ps sp' :=
  ⟨fun vs H Q E q => F.len _ _ _ _ (h vs H Q E q), fun A outer s H args us vs Q E hr he hb hv hs => F.run A outer s H args us vs Q E hr he hb hv (h _ _ _ _ hs)⟩
abbrev nFa : List Str := ["task", "pair", "x", "y"]
theorem sc_fa : FnScope nFa nFa (defScope s_far) := ⟨rfl, rfl, rfl, by decide +kernel, rfl, by decide +kernel, by decide +kernel⟩
theorem ok_farX {f g g2 C cI : Addr} {fd gd d2 : FuncData} (F : Fun K "far" "far" s_far f fd) (Tf : FDX P w K mg base "ties_for" nTf 5 (spTf K C cI) g gd) (Di : Def P w K mg base "distances" ["ties", "start"] 1 spDist g2 d2) : FnOk P w K mg base (L2.CX P w) 6 f fd nFa (spFarX C cI K) := by
  refine F.okX sc_fa (fun vs H Q E h => ?_) (fun cdv A outer s H vs Q E hr h => ?_)
  · obtain ⟨p, v, D, x, y, rfl, _⟩ := h
    rfl
  obtain ⟨p, v, D, x, y, rfl, hT, hW, h⟩ := h
  have nd := sc_fa.nd
  have hu := hu_of hr
  refine ⟨_, pss_one (ps_ret (pe_dget1 hu (pe_call Di.G (hr.mono (by decide)) rfl Di.m Di.k Di.b .nil pass0 (pa_cons (pe_call Tf.G (hr.mono (by decide)) rfl Tf.m Tf.k Tf.b .nil (passT (takes_of rfl rfl rfl rfl)) (pa_cons (pv 0) (pa_cons (pv 1) pa_nil))) (pa_cons (pe_tup (pa_cons pe_int (pa_cons (pv 2) pa_nil))) pa_nil))) (pe_tup (pa_cons pe_int (pa_cons (pv 3) pa_nil))) (by constructor <;> rfl))), ?_⟩
  rcases h with ⟨hn, q⟩ | ⟨e, he, hv, q⟩
  · exact ⟨_, rfl, _, rfl, p, v, D, rfl, hT, hW, .inl ⟨hn, q⟩⟩
  refine ⟨_, rfl, _, rfl, p, v, D, rfl, hT, hW, .inr ⟨e, he, hv, fun t ts H1 H2 s1 T2 F2 => ?_⟩⟩
  have s2 := s1.trans T2.same0
  have okl := hW.lets e he
  have dl := dirs_len e.2
  have sym : ∀ p q, (p, q) ∈ dirs e.2 → (q, p) ∈ dirs e.2 := fun _ _ => dirs_symm
  refine ⟨_, rfl, (by show 2 ≤ sizeLine; decide), fun sp hsp => ?_⟩
  have s3 := same_new hsp (.tup [V.int 0, V.int x])
  refine ⟨t, sp, dirs e.2, ts, (0, x), rfl, T2.r.mono s3, F2, sym, by have := okl.2.1; omega, ⟨sp, rfl, upd_same⟩, fun d kvs aw H3 s4 _ ed ha ok => ?_⟩
  refine ⟨d, rfl, .inr ⟨_, .inl ed⟩, _, rfl, (by show 2 ≤ sizeLine; decide), fun ep hep => ?_⟩
  have s5 := same_new hep (.tup [V.int 1, V.int y])
  refine ⟨_, DGet.t (k := kZ (1, y)) (s5 _ _ ed) upd_same, q _ _ ((s2.trans s3).trans (s4.trans s5)) ?_⟩
  have ne : ((1, y) : Pt) ≠ (0, x) := fun c => by have := (Prod.mk.inj c).1; omega
  rcases aw_val (p := (1, y)) ha with ⟨ev, hno⟩ | ⟨k, ev, mk⟩
  · rw [ev]
    exact .inl ⟨rfl, fun k L => hno (List.mem_map_of_mem (f := (·.1)) ((ok.tells F2 sym ne k).mpr (Lst.back sym L)))⟩
  · rw [ev]
    exact .inr ⟨k, rfl, Lst.back sym ((ok.tells F2 sym ne k).mp mk)⟩
end
end TA

set_option Elab.async false
set_option maxRecDepth 100000
set_option maxHeartbeats 4000000
namespace TA
open PySem L2 PyProof.Rows
set_option linter.unusedVariables false
/-- a heap seen at some places alone -/
def vw (p : Addr → Bool) (H : Hp) : Hp := fun b => if p b = true then H b else none
theorem vw_some {p : Addr → Bool} {H : Hp} {b : Addr} {o : HO} (h : vw p H b = some o) : p b = true ∧ H b = some o := by
  unfold vw at h
  split at h
  · rename_i c; exact ⟨c, h⟩
  · cases h
theorem vw_put {p : Addr → Bool} {H : Hp} {b : Addr} {o : HO} (c : p b = true) (h : H b = some o) : vw p H b = some o := by
  unfold vw
  rw [if_pos c, h]
theorem vw_kp {p : Addr → Bool} {H : Hp} : Kp (vw p H) H := fun b o _ h => (vw_some h).2
theorem vw_mono {p q : Addr → Bool} {H H' : Hp} (s : ∀ b o, p b = true → flatO o → H b = some o → q b = true ∧ H' b = some o) : Kp (vw p H) (vw q H') := fun b o f h => by
  obtain ⟨h1, h2⟩ := vw_some h
  obtain ⟨h3, h4⟩ := s b o h1 f h2
  exact vw_put h3 h4
/-- all but a -/
def pA (a : Addr) : Addr → Bool := fun b => decide (b ≠ a)
theorem pA_ok {a b : Addr} : pA a b = true ↔ b ≠ a := decide_eq_true_iff
theorem vwA_but {a : Addr} {H H' : Hp} (s : But a H H') : Kp (vw (pA a) H) (vw (pA a) H') := vw_mono fun b o h _ e => ⟨h, s b o (pA_ok.mp h) e⟩
theorem vwA_put {a d : Addr} {H : Hp} {k : List (List Key × V)} {o : HO} (e : H d = some (.dT k)) : Kp (vw (pA a) H) (vw (pA a) (upd H d o)) := vw_mono fun b u h f g => ⟨h, Kp.put e nf_dT b u f g⟩
theorem But.free {a : Addr} {H H' : Hp} {m : Int} (b : But a H H') (w : WellAt H' a m) {q : Addr} (h : H' q = none) : H q = none := by
  have nq : q ≠ a := (w.ne h).symm
  cases e : H q with
  | none => rfl
  | some o =>
    rw [b q o nq e] at h
    cases h
theorem WellAt.lst {H : Hp} {a : Addr} {n : Int} (w : WellAt H a n) : ∃ xs, H a = some (.lst xs) := by
  obtain ⟨x, y, z, e, _⟩ := w
  exact ⟨_, e⟩
theorem hu64_of {A : Around} {k : Nat} (hr : Room k A) : A.units + 64 < cLine := by have := hr.un; omega
theorem hu2_of {A : Around} {k : Nat} (hr : Room k A) : A.units + 2 < cLine := by have := hr.un; omega
/-! sorted, each once -/
theorem code2 (x y : Int) : TS.code 64 [x, y] = x * 64 + y := by
  show x * 64 ^ 1 + (y * 64 ^ 0 + 0) = _
  omega
theorem sorted_pairs : ∀ {L : List (Addr × List Int)}, (∀ p ∈ L, ∃ x y : Int, 0 ≤ x ∧ x < 64 ∧ 0 ≤ y ∧ y < 64 ∧ p.2 = [x, y]) → (L.map (·.2)).Nodup → L.Pairwise (fun q r => TS.code 64 q.2 ≤ TS.code 64 r.2) →
    ∃ ls : List (Int × Int), L.map (·.2) = ls.map (fun p => [p.1, p.2]) ∧ ls.Pairwise ltP
  | [], _, _, _ => ⟨[], rfl, .nil⟩
  | p :: L, h, n, s => by
    rw [List.map_cons, List.nodup_cons] at n
    rw [List.pairwise_cons] at s
    obtain ⟨ls, e, t⟩ := sorted_pairs (L := L) (fun q hq => h q (List.mem_cons_of_mem _ hq)) n.2 s.2
    obtain ⟨x, y, x0, x1, y0, y1, ep⟩ := h p List.mem_cons_self
    refine ⟨(x, y) :: ls, by rw [List.map_cons, List.map_cons, e, ep], List.pairwise_cons.mpr ⟨fun q hq => ?_, t⟩⟩
    have hm : [q.1, q.2] ∈ L.map (·.2) := by rw [e]; exact List.mem_map.mpr ⟨q, hq, rfl⟩
    obtain ⟨r, hr, er⟩ := List.mem_map.mp hm
    have c := s.1 r hr
    obtain ⟨x', y', x0', x1', y0', y1', er'⟩ := h r (List.mem_cons_of_mem _ hr)
    rw [er'] at er
    injection er with e1 er
    injection er with e2 _
    rw [er', ep, code2, code2] at c
    have ne : ¬ (x = q.1 ∧ y = q.2) := fun ⟨a, b⟩ => n.1 (by rw [ep, a, b]; exact hm)
    show x < q.1 ∨ (x = q.1 ∧ y < q.2)
    omega
theorem L_tups {K : PySem.W.Frag} {H : Hp} : ∀ {L : List (Addr × List Int)} {ls : List (Int × Int)}, (∀ p ∈ L, H p.1 = some (.tup (p.2.map V.int))) → L.map (·.2) = ls.map (fun p => [p.1, p.2]) → A2 (TpAt H) (L.map fun q => V.ref q.1) ls
  | [], [], _, _ => .nil
  | [], _ :: _, _, e => by cases e
  | _ :: _, [], _, e => by cases e
  | p :: L, q :: ls, h, e => by
    rw [List.map_cons, List.map_cons] at e
    injection e with e1 e2
    exact .cons ⟨p.1, rfl, by rw [h p List.mem_cons_self, e1]; rfl⟩ (L_tups (K := K) (fun r hr => h r (List.mem_cons_of_mem _ hr)) e2)
theorem nodup_len {α : Type} [DecidableEq α] : ∀ {l m : List α}, l.Nodup → (∀ x ∈ l, x ∈ m) → l.length ≤ m.length
  | [], m, _, _ => Nat.zero_le _
  | x :: l, m, n, h => by
    rw [List.nodup_cons] at n
    have hx := h x List.mem_cons_self
    have h1 := nodup_len (l := l) (m := m.erase x) n.2 fun y hy => (List.mem_erase_of_ne (fun c => by subst c; exact n.1 hy)).mpr (h y (List.mem_cons_of_mem _ hy))
    rw [List.length_erase_of_mem hx] at h1
    have := List.length_pos_of_mem hx
    rw [List.length_cons]
    omega
/-- pairs of outputs, sorted, each once -/
def okLs (ls : List (Int × Int)) (k : Nat) : Prop := 1 ≤ ls.length ∧ ls.length ≤ k ∧ ls.Pairwise ltP ∧ ∀ p ∈ ls, okOut p.1 ∧ okOut p.2
/-- pairs that stand beside the well -/
def Beside2 (H : Hp) (a D : Addr) (ks : List (Addr × List Int)) : Prop := ∀ p ∈ ks, p.1 ≠ a ∧ p.1 ≠ D ∧ H p.1 = some (.tup (p.2.map V.int)) ∧ ∃ x y : Int, 0 ≤ x ∧ x < 64 ∧ 0 ≤ y ∧ y < 64 ∧ p.2 = [x, y]
/-- sorted(set(found)) -/
theorem sort_tail {K : PySem.W.Frag} {P : Program} {w : World} {Q : VK} {σ : L2.St} {i : Nat} {a D : Addr} {H : Hp} {n : Int} {ks : List (Addr × List Int)} (hi : σ[i]? = some (some (.ref D))) (e2 : H D = some (.lst (ks.map fun p => V.ref p.1))) (k2 : Beside2 H a D ks) (l1 : 1 ≤ ks.length) (l2 : ks.length < 64) (wl : WellAt H a n)
    (q : ∀ (l : Addr) (ls : List (Int × Int)) (H' : Hp), Same H H' → H l = none → LetAt (vw (pA a) H') (.ref l) ls → okLs ls ks.length → Q (.ref l) H') : tCB (rSortedT K P w) (tCons (tCB (rSetOfT K P w) (tCons (tVar i) tNil)) tNil) σ H Q := by
  refine ⟨_, hi, D, ks, rfl, SqL.of e2, fun p hp => SqT.of (k2 p hp).2.2.1, l2, fun sa L hsa m1 m2 => ?_⟩
  have s3 := same_new hsa (SetTO P w sa L)
  have kL : ∀ p ∈ L, p.1 ≠ a ∧ p.1 ≠ D ∧ H p.1 = some (.tup (p.2.map V.int)) ∧ ∃ x y : Int, 0 ≤ x ∧ x < 64 ∧ 0 ≤ y ∧ y < 64 ∧ p.2 = [x, y] := fun p hp => k2 p (m1 p hp)
  refine ⟨sa, L, 2, 64, rfl, upd_same, fun p hp => SqT.of (s3 _ _ (kL p hp).2.2.1), by decide, fun p hp => ?_, fun L' l hperm hnd hlt hsrt hl => ?_⟩
  · obtain ⟨_, _, _, x, y, x0, x1, y0, y1, e⟩ := kL p hp
    rw [e]
    refine ⟨rfl, fun i hi => ?_⟩
    rcases List.mem_cons.mp hi with rfl | hi
    · exact ⟨x0, x1⟩
    · rw [List.mem_singleton.mp hi]
      exact ⟨y0, y1⟩
  have kL' := fun p (hp : p ∈ L') => kL p (hperm.mem_iff.mp hp)
  obtain ⟨ls, els, hls⟩ := sorted_pairs (fun p hp => (kL' p hp).2.2.2) hnd hsrt
  have w3 := wl.same s3
  have nl := w3.ne hl
  have s4 := same_new hl (.lst (L'.map fun q => V.ref q.1))
  have ell : ls.length = L'.length := by have := congrArg List.length els; rw [List.length_map, List.length_map] at this; exact this.symm
  refine q l ls _ (s3.trans s4) (none_of_same s3 hl) ⟨l, _, rfl, vw_put (pA_ok.mpr nl.symm) upd_same, L_tups (K := K) (fun p hp => vw_put (pA_ok.mpr (kL' p hp).1) (s4 _ _ (s3 _ _ (kL' p hp).2.2.1))) els⟩ ⟨?_, ?_, hls, fun p hp => ?_⟩
  · rw [ell, hperm.length_eq]
    obtain ⟨p0, hp0⟩ : ∃ p, p ∈ ks := by
      cases ks with
      | nil => exact absurd l1 (by simp)
      | cons p _ => exact ⟨p, List.mem_cons_self⟩
    obtain ⟨r, hr, _⟩ := List.mem_map.mp (m2 p0 hp0)
    exact List.length_pos_of_mem hr
  · have h1 := nodup_len (m := ks.map (·.2)) hnd fun x hx => by
      obtain ⟨p, hp, rfl⟩ := List.mem_map.mp hx
      exact List.mem_map.mpr ⟨p, m1 p (hperm.mem_iff.mp hp), rfl⟩
    rw [List.length_map, List.length_map] at h1
    omega
  · have hm : [p.1, p.2] ∈ L'.map (·.2) := by rw [els]; exact List.mem_map.mpr ⟨p, hp, rfl⟩
    obtain ⟨r, hr, er⟩ := List.mem_map.mp hm
    obtain ⟨_, _, _, x, y, x0, x1, y0, y1, e⟩ := kL' r hr
    rw [e] at er
    injection er with e1 er
    injection er with e2 _
    exact ⟨⟨by omega, by omega⟩, ⟨by omega, by omega⟩⟩
def spOs : Sp := fun vs H Q _ => ∃ (a : Addr) (n m c : Int), vs = [.ref a, .int m, .int c] ∧ WellAt H a n ∧ n < 900000 ∧ 0 < m ∧ m ≤ 64 ∧ 0 < c ∧ c ≤ 12 ∧
  ∀ (l : Addr) (ls : List (Int × Int)) (H' : Hp), But a H H' → WellAt H' a (n + 30) → H l = none → LetAt (vw (pA a) H') (.ref l) ls → okLs ls 12 → Q (.ref l) H'
def spCn : Sp := fun vs H Q _ => ∃ (a : Addr) (n : Int) (c : Nat), vs = [.ref a, .int (c : Int)] ∧ WellAt H a n ∧ n < 900000 ∧ 1 ≤ c ∧ c ≤ 15 ∧
  ∀ (l : Addr) (ls : List (Int × Int)) (H' : Hp), But a H H' → WellAt H' a (n + 30) → H l = none → LetAt (vw (pA a) H') (.ref l) ls → okLs ls 16 → Q (.ref l) H'
section
variable {P : Program} {w : World} {K : PySem.W.Frag} {mg : Str → Option Value} {base : Heap}
abbrev nOs : List Str := ["_law_well_here", "_law_few", "_law_size", "_law_some", "_law_k"]
theorem sc_os : FnScope nOs ["_law_well_here", "_law_few", "_law_size"] (defScope s__law_outs) := ⟨rfl, rfl, rfl, by decide +kernel, rfl, by decide +kernel, by decide +kernel⟩
theorem ok_os {f g1 : Addr} {fd d1 : FuncData} (F : Fun K "_law_outs" "_law_outs" s__law_outs f fd) (T : Txt K mg) (T2 : Txt2 K mg) (Dw : Def P w K mg base "_law_draw" ["_law_well_here", "_law_many"] 1 spDraw g1 d1) : FnOk P w K mg base CX0 2 f fd ["_law_well_here", "_law_few", "_law_size"] spOs := by
  refine F.ok sc_os (fun vs H Q E h => ?_) (fun cdv A outer s H vs Q E hr h => ?_)
  · obtain ⟨a, n, m, c, rfl, _⟩ := h
    rfl
  obtain ⟨a, n, m, c, rfl, hW, hn, m0, m1, c0, c1, q⟩ := h
  have nd := sc_os.nd
  have hu64 := hu64_of hr
  refine ⟨_, (pss_cons (ps_setLc (i := 3) (own := [("_law_k", 4)]) (g := (gName 4)) (tt := tYes) (te := (tTup (tCons (tCall spDraw [] E0 (tCons (tVar 0) (tCons (tVar 1) tNil))) (tCons (tCall spDraw [] E0 (tCons (tVar 0) (tCons (tVar 1) tNil))) tNil)))) rfl nd rfl rfl (sw_true rfl rfl rfl (by decide +kernel)) (pi_range1 (by rfl) T.range (pa_cons (pe_op op_add pe_int (pe_call Dw.G (hr.mono (by decide)) rfl Dw.m Dw.k Dw.b .nil pass0 (pa_cons (pv 0) (pa_cons (pv 2) pa_nil)))) pa_nil)) (blkOk_by (N := nOs) (sc := defScope s__law_outs) (by decide +kernel)) (fun _ _ _ _ _ => (by exact (pg_name (i := 4) nd rfl (Or.inl rfl)))) (fun _ _ _ _ _ => pts_nil) (fun _ _ _ _ _ => (by exact (pe_tup (pa_cons (pe_call Dw.G (hr.mono (by decide)) rfl Dw.m Dw.k Dw.b .nil pass0 (pa_cons (pv 0) (pa_cons (pv 1) pa_nil))) (pa_cons (pe_call Dw.G (hr.mono (by decide)) rfl Dw.m Dw.k Dw.b .nil pass0 (pa_cons (pv 0) (pa_cons (pv 1) pa_nil))) pa_nil))))))
    (pss_one (ps_ret (pe_callB (cr_sortedT rfl) (by rfl) T2.sorted (by decide +kernel) (pa_cons (pe_callTy (cr_setOfT rfl hu64) (by rfl) T2.set (by decide +kernel) (pa_cons (pv 3) pa_nil)) pa_nil))))), ?_⟩
  refine ⟨_, rfl, _, rfl, a, n, c, rfl, hW, by omega, c0, by omega, fun z H1 z0 z1 b1 w1 => ⟨_, _, rfl, rfl, ?_⟩⟩
  refine ⟨1 + z, rfl, by omega, by omega, fun D hD => ?_⟩
  obtain ⟨k, ek, hk⟩ : ∃ k : Nat, 1 + z = (k : Int) ∧ k ≤ 12 := ⟨(1 + z).toNat, by omega, by omega⟩
  have k1 : 1 ≤ k := by omega
  rw [ek, Int.toNat_natCast]
  have nD := (w1.ne hD).symm
  have hD0 := b1.free w1 hD
  refine range_turns (n := k) (fun i H' => But a H H' ∧ WellAt H' a (n + 1 + 2 * (i : Int)) ∧ ∃ ks : List (Addr × List Int), H' D = some (.lst (ks.map fun p => V.ref p.1)) ∧ ks.length = i ∧ Beside2 H' a D ks)
    ⟨b1.trans (But.same (same_new hD _)), (w1.same (same_new hD _)).up (by omega), [], upd_same, rfl, fun p hp => nomatch hp⟩ ?_ ?_
  · rintro i H2 hi ⟨b2, w2, ks, e2, l2, k2⟩
    refine ⟨rfl, _, rfl, _, rfl, a, _, m, rfl, w2, by omega, m0, by omega, fun x H3 x0 x1 b3 w3 => ?_⟩
    refine ⟨_, rfl, _, rfl, a, _, m, rfl, w3, by omega, m0, by omega, fun y H4 y0 y1 b4 w4 => ⟨(by show 2 ≤ sizeLine; decide), fun t ht => ?_⟩⟩
    have s5 := same_new ht (.tup [V.int x, V.int y])
    have e5 : (upd H4 t (.tup [V.int x, V.int y])) D = some (.lst (ks.map fun p => V.ref p.1)) := s5 _ _ (b4 _ _ nD (b3 _ _ nD e2))
    have nt := (w4.ne ht).symm
    have ntD : t ≠ D := fun c => by rw [c, b4 _ _ nD (b3 _ _ nD e2)] at ht; cases ht
    refine ⟨_, e5, ?_, ((b2.trans b3).trans b4 |>.trans (But.same s5)).new hD0, ((w4.same s5).but (Ne.symm nD) But.at).up (by omega), ks ++ [(t, [x, y])], by rw [upd_same, List.map_append]; rfl, by rw [List.length_append, l2]; rfl, fun p hp => ?_⟩
    · rw [List.length_map, l2]
      exact Nat.lt_of_lt_of_le (show i < 100 by omega) (by decide)
    · rcases List.mem_append.mp hp with hp | hp
      · obtain ⟨p1, p2, p3, p4⟩ := k2 p hp
        exact ⟨p1, p2, by rw [upd_ne p2]; exact s5 _ _ (b4 _ _ p1 (b3 _ _ p1 p3)), p4⟩
      · rw [List.mem_singleton.mp hp]
        exact ⟨nt, ntD, by rw [upd_ne ntD]; exact upd_same, x, y, x0, by omega, y0, by omega, rfl⟩
  rintro H2 ⟨b2, w2, ks, e2, l2, k2⟩
  exact sort_tail rfl e2 k2 (by omega) (by omega) w2 fun l ls H' s' hl hL ok => q l ls H' (b2.trans (But.same s')) ((w2.same s').up (by omega)) (b2.free w2 hl) hL ⟨ok.1, by have := ok.2.1; omega, ok.2.2⟩
end
end TA

set_option Elab.async false
set_option maxRecDepth 100000
set_option maxHeartbeats 4000000
namespace TA
open PySem L2 PyProof.Rows
set_option linter.unusedVariables false
section
variable {P : Program} {w : World} {K : PySem.W.Frag} {mg : Str → Option Value} {base : Heap}
abbrev nCn : List Str := ["_law_well_here", "_law_length", "_law_some", "_law_way", "_law_k"]
theorem sc_cn : FnScope nCn ["_law_well_here", "_law_length"] (defScope s__law_chain) := ⟨rfl, rfl, rfl, by decide +kernel, rfl, by decide +kernel, by decide +kernel⟩
theorem ok_cn {f g1 : Addr} {fd d1 : FuncData} (F : Fun K "_law_chain" "_law_chain" s__law_chain f fd) (T : Txt K mg) (T2 : Txt2 K mg) (Dw : Def P w K mg base "_law_draw" ["_law_well_here", "_law_many"] 1 spDraw g1 d1) : FnOk P w K mg base CX0 2 f fd ["_law_well_here", "_law_length"] spCn := by
  refine F.ok sc_cn (fun vs H Q E h => ?_) (fun cdv A outer s H vs Q E hr h => ?_)
  · obtain ⟨a, n, c, rfl, _⟩ := h
    rfl
  obtain ⟨a, n, c, rfl, hW, hn, c1, c2, q⟩ := h
  have nd := sc_cn.nd
  have hu64 := hu64_of hr
  refine ⟨_, (pss_cons (ps_setLc (i := 2) (own := [("_law_k", 4)]) (g := (gName 4)) (tt := tYes) (te := (tOp (rIxL K) (tLst (tCons (tTup (tCons (tVar 4) (tCons (tOp (rI0 fun i j => .int (i + j)) (tVar 4) (tC (.int 1))) tNil))) (tCons (tTup (tCons (tOp (rI0 fun i j => .int (i + j)) (tVar 4) (tC (.int 1))) (tCons (tVar 4) tNil))) tNil))) (tOp (rI (fun _ j => 0 < j) fun i j => .int (i % j)) (tVar 4) (tC (.int 2))))) rfl nd rfl rfl (sw_true rfl rfl rfl (by decide +kernel)) (pi_range1 (by rfl) T.range (pa_cons (pv 1) pa_nil)) (blkOk_by (N := nCn) (sc := defScope s__law_chain) (by decide +kernel)) (fun _ _ _ _ _ => (by exact (pg_name (i := 4) nd rfl (Or.inl rfl)))) (fun _ _ _ _ _ => pts_nil) (fun _ _ _ _ _ => (by exact (pe_ix ix_list (pe_lst (pa_cons (pe_tup (pa_cons (pv 4) (pa_cons (pe_op op_add (pv 4) pe_int) pa_nil))) (pa_cons (pe_tup (pa_cons (pe_op op_add (pv 4) pe_int) (pa_cons (pv 4) pa_nil))) pa_nil))) (pe_op op_mod (pv 4) pe_int) (fun _ _ => rfl)))))
    (pss_cons (ps_set (i := 3) nd rfl (Or.inl rfl) (pe_call Dw.G (hr.mono (by decide)) rfl Dw.m Dw.k Dw.b .nil pass0 (pa_cons (pv 0) (pa_cons pe_int pa_nil))))
    (pss_cons (ps_if (PW.pt (pw_and (pt_cmpR op_eq (pv 3) pe_int (nomark _)) (pw_and1 (pt_cmpR op_gt (pv 1) pe_int (nomark _)))))
      (pss_one (ps_expr (pe_bm PySem.F.plainAttrs_list PySem.F.slot_list_pop PySem.F.type_list_pop mt_popAt (pv 2) (pa_cons (pe_call Dw.G (hr.mono (by decide)) rfl Dw.m Dw.k Dw.b .nil pass0 (pa_cons (pv 0) (pa_cons (pv 1) pa_nil))) pa_nil))))
      pss_nil)
    (pss_cons (ps_if (pt_cmpR op_eq (pv 3) pe_int (nomark _))
      (pss_one (ps_expr (pe_bm PySem.F.plainAttrs_list PySem.F.slot_list_append PySem.F.type_list_append mt_append (pv 2) (pa_cons (pe_tup (pa_cons (pe_op op_mul (pe_op op_fdiv (pe_call Dw.G (hr.mono (by decide)) rfl Dw.m Dw.k Dw.b .nil pass0 (pa_cons (pv 0) (pa_cons (pe_op op_add (pv 1) pe_int) pa_nil))) pe_int) pe_int) (pa_cons (pe_op op_add (pe_op op_mul (pe_op op_fdiv (pe_call Dw.G (hr.mono (by decide)) rfl Dw.m Dw.k Dw.b .nil pass0 (pa_cons (pv 0) (pa_cons (pe_op op_add (pv 1) pe_int) pa_nil))) pe_int) pe_int) pe_int) pa_nil))) pa_nil))))
      pss_nil)
    (pss_one (ps_ret (pe_callB (cr_sortedT rfl) (by rfl) T2.sorted (by decide +kernel) (pa_cons (pe_callTy (cr_setOfT rfl hu64) (by rfl) T2.set (by decide +kernel) (pa_cons (pv 2) pa_nil)) pa_nil)))))))), ?_⟩
  refine ⟨_, rfl, (c : Int), rfl, by omega, by omega, fun D hD => ?_⟩
  rw [Int.toNat_natCast]
  have nD := (hW.ne hD).symm
  refine range_turns (n := c) (fun i H' => Same H H' ∧ ∃ ks : List (Addr × List Int), H' D = some (.lst (ks.map fun p => V.ref p.1)) ∧ ks.length = i ∧ Beside2 H' a D ks) ⟨same_new hD _, [], upd_same, rfl, fun p hp => nomatch hp⟩ ?_ ?_
  · rintro i H2 hi ⟨s2, ks, e2, l2, k2⟩
    have w2 := hW.same s2
    have ei : (0 : Int) + (i : Int) = (i : Int) := by omega
    rw [ei]
    refine ⟨rfl, _, rfl, _, rfl, _, _, rfl, rfl, (by show 2 ≤ sizeLine; decide), fun t1 ht1 => ?_⟩
    refine ⟨_, rfl, _, _, rfl, rfl, _, rfl, (by show 2 ≤ sizeLine; decide), fun t2 ht2 => ⟨(by show 2 ≤ sizeLine; decide), fun l hl => ?_⟩⟩
    have s3 := same_new ht1 (.tup [V.int (i : Int), V.int ((i : Int) + 1)])
    have s4 := same_new ht2 (.tup [V.int ((i : Int) + 1), V.int (i : Int)])
    have s5 := same_new hl (.lst [V.ref t1, V.ref t2])
    have et1 : (upd (upd (upd H2 t1 (.tup [V.int (i : Int), V.int ((i : Int) + 1)])) t2 (.tup [V.int ((i : Int) + 1), V.int (i : Int)])) l (.lst [V.ref t1, V.ref t2])) t1 = some (.tup [V.int (i : Int), V.int ((i : Int) + 1)]) := s5 _ _ (s4 _ _ upd_same)
    have et2 : (upd (upd (upd H2 t1 (.tup [V.int (i : Int), V.int ((i : Int) + 1)])) t2 (.tup [V.int ((i : Int) + 1), V.int (i : Int)])) l (.lst [V.ref t1, V.ref t2])) t2 = some (.tup [V.int ((i : Int) + 1), V.int (i : Int)]) := s5 _ _ upd_same
    have el : (upd (upd (upd H2 t1 (.tup [V.int (i : Int), V.int ((i : Int) + 1)])) t2 (.tup [V.int ((i : Int) + 1), V.int (i : Int)])) l (.lst [V.ref t1, V.ref t2])) l = some (.lst [V.ref t1, V.ref t2]) := upd_same
    have sN := (s3.trans s4).trans s5
    have n1 : t1 ≠ a ∧ t1 ≠ D := ⟨(w2.ne ht1).symm, (ne_of_none e2 ht1).symm⟩
    have n2 : t2 ≠ a ∧ t2 ≠ D := ⟨((w2.same s3).ne ht2).symm, (ne_of_none (s3 _ _ e2) ht2).symm⟩
    generalize upd (upd (upd H2 t1 (.tup [V.int (i : Int), V.int ((i : Int) + 1)])) t2 (.tup [V.int ((i : Int) + 1), V.int (i : Int)])) l (.lst [V.ref t1, V.ref t2]) = H3 at et1 et2 el sN ⊢
    obtain ⟨t, x, y, hx, nt, ntD, et, x0, x1, y0, y1⟩ : ∃ (t : Addr) (x y : Int), atI [V.ref t1, V.ref t2] ((i : Int) % 2) = some (.ref t) ∧ t ≠ a ∧ t ≠ D ∧ H3 t = some (.tup [V.int x, V.int y]) ∧ 0 ≤ x ∧ x < 64 ∧ 0 ≤ y ∧ y < 64 := by
      rcases Nat.mod_two_eq_zero_or_one i with e | e
      · exact ⟨t1, i, i + 1, by rw [show ((i : Int) % 2) = ((0 : Nat) : Int) by omega]; exact atI_nat rfl, n1.1, n1.2, et1, by omega, by omega, by omega, by omega⟩
      · exact ⟨t2, i + 1, i, by rw [show ((i : Int) % 2) = ((1 : Nat) : Int) by omega]; exact atI_nat rfl, n2.1, n2.2, et2, by omega, by omega, by omega, by omega⟩
    refine ⟨_, rfl, _, _, rfl, rfl, (by show (0 : Int) < 2; decide), l, _, _, _, rfl, rfl, SqL.of el, hx, ?_⟩
    refine ⟨_, sN _ _ e2, ?_, same_upd (s2.trans sN) hD, ks ++ [(t, [x, y])], by rw [upd_same, List.map_append]; rfl, by rw [List.length_append, l2]; rfl, fun p hp => ?_⟩
    · rw [List.length_map, l2]
      exact Nat.lt_of_lt_of_le (show i < 100 by omega) (by decide)
    · rcases List.mem_append.mp hp with hp | hp
      · obtain ⟨p1, p2, p3, p4⟩ := k2 p hp
        exact ⟨p1, p2, by rw [upd_ne p2]; exact sN _ _ p3, p4⟩
      · rw [List.mem_singleton.mp hp]
        exact ⟨nt, ntD, by rw [upd_ne ntD]; exact et, x, y, x0, x1, y0, y1, rfl⟩
  rintro H2 ⟨s2, ks, e2, l2, k2⟩
  refine ⟨_, rfl, a, n, 6, rfl, hW.same s2, by omega, by decide, by decide, fun wy H3 wy0 wy1 b3 w3 => ?_⟩
  have e3 := b3 _ _ nD e2
  have k3 : Beside2 H3 a D ks := fun p hp => by
    obtain ⟨p1, p2, p3, p4⟩ := k2 p hp
    exact ⟨p1, p2, b3 _ _ p1 p3, p4⟩
  have bH := (But.same s2).trans b3
  have D0 : H D = none := hD
  by_cases h1 : wy = 1
  · subst h1
    refine ⟨_, rfl, rfl, _, rfl, iteF' rfl (iteF' rfl ?_)⟩
    refine ⟨_, rfl, rfl, _, rfl, iteT' rfl ?_⟩
    refine ⟨_, rfl, .inl ⟨rfl, _, SqL.of e3⟩, ?_⟩
    refine ⟨_, rfl, _, rfl, _, _, rfl, rfl, a, _, (c : Int) + 1, rfl, w3, by omega, by omega, by omega, fun x H4 x0 x1 b4 w4 => ⟨_, _, rfl, rfl, ⟨by decide, by decide⟩, _, _, rfl, rfl, .inr ⟨by decide, by decide⟩, ?_⟩⟩
    refine ⟨_, rfl, _, rfl, _, _, rfl, rfl, a, _, (c : Int) + 1, rfl, w4, by omega, by omega, by omega, fun y H5 y0 y1 b5 w5 => ⟨_, _, rfl, rfl, ⟨by decide, by decide⟩, _, _, rfl, rfl, .inr ⟨by decide, by decide⟩, _, _, rfl, rfl, (by show 2 ≤ sizeLine; decide), fun t ht => ?_⟩⟩
    have s6 := same_new ht (.tup [V.int (x / 2 * 2), V.int (y / 2 * 2 + 1)])
    have nt := (w5.ne ht).symm
    have e5 := b5 _ _ nD (b4 _ _ nD e3)
    have ntD := (ne_of_none e5 ht).symm
    have bT := ((b4.trans b5).trans (But.same s6))
    have D3 : But a H (upd (upd H5 t (.tup [V.int (x / 2 * 2), V.int (y / 2 * 2 + 1)])) D (.lst (ks.map (fun p => V.ref p.1) ++ [V.ref t]))) := (bH.trans bT).new D0
    have wE : WellAt (upd (upd H5 t (.tup [V.int (x / 2 * 2), V.int (y / 2 * 2 + 1)])) D (.lst (ks.map (fun p => V.ref p.1) ++ [V.ref t]))) a (n + 3) := ((w5.same s6).but (Ne.symm nD) But.at).up (by omega)
    refine ⟨D, _, .ref t, rfl, rfl, s6 _ _ e5, ?_, ?_⟩
    · rw [List.length_map, l2]
      exact Nat.lt_of_lt_of_le (show c < 100 by omega) (by decide)
    refine sort_tail (ks := ks ++ [(t, [x / 2 * 2, y / 2 * 2 + 1])]) rfl (by rw [upd_same, List.map_append]; rfl) (fun p hp => ?_) (by rw [List.length_append]; show 1 ≤ ks.length + 1; omega) (by rw [List.length_append]; show ks.length + 1 < 64; omega) wE fun l ls H' s' hl hL ok => q l ls H' (D3.trans (But.same s')) ((wE.same s').up (by omega)) (D3.free wE hl) hL ⟨ok.1, by have := ok.2.1; rw [List.length_append] at this; have : ls.length ≤ ks.length + 1 := this; omega, ok.2.2⟩
    rcases List.mem_append.mp hp with hp | hp
    · obtain ⟨p1, p2, p3, p4⟩ := k3 p hp
      exact ⟨p1, p2, by rw [upd_ne p2]; exact bT _ _ p1 p3, p4⟩
    · rw [List.mem_singleton.mp hp]
      exact ⟨nt, ntD, by rw [upd_ne ntD]; exact upd_same, x / 2 * 2, y / 2 * 2 + 1, by omega, by omega, by omega, by omega, rfl⟩
  by_cases h0 : wy = 0
  · subst h0
    refine ⟨_, rfl, rfl, _, rfl, iteT' rfl ?_⟩
    refine ⟨_, rfl, _, _, rfl, rfl, _, rfl, ?_⟩
    by_cases hc : (1 : Int) < c
    · refine iteT' (decide_eq_true hc) ?_
      refine ⟨_, rfl, .inl ⟨rfl, _, SqL.of e3⟩, _, rfl, _, rfl, a, _, (c : Int), rfl, w3, by omega, by omega, by omega, fun r H4 r0 r1 b4 w4 => ?_⟩
      have e4 := b4 _ _ nD e3
      have hk : r.toNat < ks.length := by omega
      have D3 : But a H (upd H4 D (.lst ((ks.map (fun p => V.ref p.1)).eraseIdx r.toNat))) := (bH.trans b4).new D0
      have wE : WellAt (upd H4 D (.lst ((ks.map (fun p => V.ref p.1)).eraseIdx r.toNat))) a (n + 2) := (w4.but (Ne.symm nD) But.at).up (by omega)
      refine ⟨D, _, r, r.toNat, _, rfl, rfl, e4, by omega, by omega, ?_, List.getElem?_eq_getElem (by rw [List.length_map]; exact hk), ?_⟩
      · rw [List.length_map]
        refine (ixN_seq (j := r.toNat) ?_).1
        unfold ixN
        rw [if_pos r0, if_pos (by omega)]
      refine ⟨_, rfl, rfl, _, rfl, iteF' rfl ?_⟩
      have le : (ks.eraseIdx r.toNat).length = ks.length - 1 := List.length_eraseIdx_of_lt hk
      refine sort_tail (ks := ks.eraseIdx r.toNat) rfl (by rw [upd_same, DT.map_erase]) (fun p hp => ?_) (by omega) (by omega) wE fun l ls H' s' hl hL ok => q l ls H' (D3.trans (But.same s')) ((wE.same s').up (by omega)) (D3.free wE hl) hL ⟨ok.1, by have := ok.2.1; omega, ok.2.2⟩
      obtain ⟨p1, p2, p3, p4⟩ := k3 p (List.mem_of_mem_eraseIdx hp)
      exact ⟨p1, p2, by rw [upd_ne p2]; exact b4 _ _ p1 p3, p4⟩
    · refine iteF' (decide_eq_false hc) ?_
      refine ⟨_, rfl, rfl, _, rfl, iteF' rfl ?_⟩
      exact sort_tail rfl e3 k3 (by omega) (by omega) w3 fun l ls H' s' hl hL ok => q l ls H' (bH.trans (But.same s')) ((w3.same s').up (by omega)) (bH.free w3 hl) hL ⟨ok.1, by have := ok.2.1; omega, ok.2.2⟩
  · refine ⟨_, rfl, rfl, _, rfl, iteF' (decide_eq_false fun z => h0 (by injection z)) (iteF' rfl ?_)⟩
    refine ⟨_, rfl, rfl, _, rfl, iteF' (decide_eq_false fun z => h1 (by injection z)) ?_⟩
    exact sort_tail rfl e3 k3 (by omega) (by omega) w3 fun l ls H' s' hl hL ok => q l ls H' (bH.trans (But.same s')) ((w3.same s').up (by omega)) (bH.free w3 hl) hL ⟨ok.1, by have := ok.2.1; omega, ok.2.2⟩
end
end TA

set_option Elab.async false
set_option maxRecDepth 100000
set_option maxHeartbeats 4000000
namespace TA
open PySem L2 PyProof.Rows
set_option linter.unusedVariables false
/-- pairs of inputs, laid so far -/
structure PrI (n0 n1 i j : Nat) (ips : List IP) : Prop where
  srt : ips.Pairwise ltN
  rng : ∀ p ∈ ips, (p.1 < i ∨ (p.1 = i ∧ p.2 < j)) ∧ p.1 < n0 ∧ p.2 < n1
  cov : ∀ x y, (x < i ∨ (x = i ∧ y < j)) → x < n0 → y < n1 → (x = y ∨ (n1 ≤ x ∧ y = 0) ∨ (n0 ≤ y ∧ x = 0)) → (x, y) ∈ ips
  len : ips.length ≤ 3 * i + j
theorem PrI.zero (n0 n1 : Nat) : PrI n0 n1 0 0 [] := ⟨.nil, fun p hp => (nomatch hp), fun x y h => by omega, Nat.le_refl _⟩
theorem PrI.row {n0 n1 i : Nat} {ips : List IP} (h : PrI n0 n1 i n1 ips) (hk : n1 ≤ 3) : PrI n0 n1 (i + 1) 0 ips :=
  ⟨h.srt, fun p hp => by
    obtain ⟨a, b⟩ := h.rng p hp
    exact ⟨by omega, b⟩, fun x y g gx gy c => h.cov x y (by omega) gx gy c, by have := h.len; omega⟩
theorem PrI.skip {n0 n1 i j : Nat} {ips : List IP} (h : PrI n0 n1 i j ips) (c : ¬ (i = j ∨ (n1 ≤ i ∧ j = 0) ∨ (n0 ≤ j ∧ i = 0))) : PrI n0 n1 i (j + 1) ips :=
  ⟨h.srt, fun p hp => by
    obtain ⟨a, b⟩ := h.rng p hp
    exact ⟨by omega, b⟩, fun x y g gx gy d => by
    by_cases e : x = i ∧ y = j
    · obtain ⟨rfl, rfl⟩ := e
      exact absurd d c
    · exact h.cov x y (by omega) gx gy d, by have := h.len; omega⟩
theorem PrI.put {n0 n1 i j : Nat} {ips : List IP} (h : PrI n0 n1 i j ips) (hi : i < n0) (hj : j < n1) : PrI n0 n1 i (j + 1) (ips ++ [(i, j)]) := by
  refine ⟨?_, fun p hp => ?_, fun x y g gx gy d => ?_, by have := h.len; rw [List.length_append]; show ips.length + 1 ≤ _; omega⟩
  · refine List.pairwise_append.mpr ⟨h.srt, List.pairwise_singleton _ _, fun x hx y hy => ?_⟩
    rw [List.mem_singleton.mp hy]
    exact (h.rng x hx).1
  · rcases List.mem_append.mp hp with hp | hp
    · obtain ⟨a, b⟩ := h.rng p hp
      exact ⟨by omega, b⟩
    · rw [List.mem_singleton.mp hp]
      exact ⟨.inr ⟨rfl, Nat.lt_succ_self j⟩, hi, hj⟩
  · by_cases e : x = i ∧ y = j
    · obtain ⟨rfl, rfl⟩ := e
      exact List.mem_append_right _ (List.mem_singleton.mpr rfl)
    · exact List.mem_append_left _ (h.cov x y (by omega) gx gy d)
theorem PrI.fresh {n0 n1 i j : Nat} {ips : List IP} (h : PrI n0 n1 i j ips) : (i, j) ∉ ips := fun m => by
  have := (h.rng _ m).1
  omega
structure PrsOk (n0 n1 : Nat) (ips : List IP) : Prop where
  srt : ips.Pairwise ltN
  rng : ∀ p ∈ ips, p.1 < n0 ∧ p.2 < n1
  c0 : ∀ x, x < n0 → ∃ p ∈ ips, p.1 = x
  c1 : ∀ y, y < n1 → ∃ p ∈ ips, p.2 = y
  len : ips.length ≤ 9
theorem PrI.ok {n0 n1 : Nat} {ips : List IP} (h : PrI n0 n1 n0 0 ips) (a0 : 1 ≤ n0) (a1 : 1 ≤ n1) (b0 : n0 ≤ 3) : PrsOk n0 n1 ips :=
  ⟨h.srt, fun p hp => (h.rng p hp).2, fun x hx => by
    by_cases c : x < n1
    · exact ⟨_, h.cov x x (by omega) hx c (.inl rfl), rfl⟩
    · exact ⟨_, h.cov x 0 (by omega) hx (by omega) (.inr (.inl ⟨by omega, rfl⟩)), rfl⟩, fun y hy => by
    by_cases c : y < n0
    · exact ⟨_, h.cov y y (by omega) c hy (.inl rfl), rfl⟩
    · exact ⟨_, h.cov 0 y (by omega) (by omega) hy (.inr (.inr ⟨by omega, rfl⟩)), rfl⟩, by have := h.len; omega⟩
theorem keys_srt {ips : List IP} (s : ips.Pairwise ltN) (bd : ∀ p ∈ ips, p.1 < 20 ∧ p.2 < 20) {L : List (Addr × List Int)} (h1 : (L.map (·.2)).Perm (ips.map fun p => [((p.1 : Nat) : Int), ((p.2 : Nat) : Int)])) (h2 : L.Pairwise (fun q r => TS.code 64 q.2 ≤ TS.code 64 r.2)) :
    L.map (·.2) = ips.map fun p => [((p.1 : Nat) : Int), ((p.2 : Nat) : Int)] := by
  have bd' : ∀ x ∈ ips.map (fun p => [((p.1 : Nat) : Int), ((p.2 : Nat) : Int)]), ∃ a b : Nat, a < 20 ∧ b < 20 ∧ x = [(a : Int), (b : Int)] := fun x hx => by
    obtain ⟨e, he, rfl⟩ := List.mem_map.mp hx
    have := bd e he
    exact ⟨e.1, e.2, by omega, by omega, rfl⟩
  refine List.Perm.eq_of_pairwise (le := fun a b => TS.code 64 a ≤ TS.code 64 b) (fun a b ha hb h h' => ?_) (List.pairwise_map.mpr h2) ?_ h1
  · obtain ⟨a1, a2, _, _, rfl⟩ := bd' a (h1.mem_iff.mp ha)
    obtain ⟨b1, b2, _, _, rfl⟩ := bd' b hb
    rw [code2, code2] at h h'
    have e1 : a1 = b1 := by omega
    have e2 : a2 = b2 := by omega
    rw [e1, e2]
  · rw [List.pairwise_map]
    refine s.imp_of_mem fun {a b} ha hb h => ?_
    have := bd a ha
    have := bd b hb
    rw [code2, code2]
    rcases h with h | ⟨h, h'⟩
    · omega
    · omega
def spPr : Sp := fun vs H Q _ => ∃ (a sz : Addr) (n : Int) (n0 n1 : Nat), vs = [.ref a, .ref sz] ∧ WellAt H a n ∧ n < 900000 ∧ H sz = some (.lst [V.int (n0 : Int), V.int (n1 : Int)]) ∧ sz ≠ a ∧ 1 ≤ n0 ∧ n0 ≤ 3 ∧ 1 ≤ n1 ∧ n1 ≤ 3 ∧
  ∀ (l : Addr) (ips : List IP) (H' : Hp), But a H H' → WellAt H' a (n + 9) → H l = none → LetAt (vw (pA a) H') (.ref l) (ips.map iI) → PrsOk n0 n1 ips → Q (.ref l) H'
section
variable {P : Program} {w : World} {K : PySem.W.Frag} {mg : Str → Option Value} {base : Heap}
abbrev nPr : List Str := ["_law_well_here", "_law_sizes", "_law_found", "_law_a", "_law_b"]
theorem sc_pr : FnScope nPr ["_law_well_here", "_law_sizes"] (defScope s__law_pairs) := ⟨rfl, rfl, rfl, by decide +kernel, rfl, by decide +kernel, by decide +kernel⟩
theorem ok_pr {f g1 : Addr} {fd d1 : FuncData} (F : Fun K "_law_pairs" "_law_pairs" s__law_pairs f fd) (T : Txt K mg) (T2 : Txt2 K mg) (Dw : Def P w K mg base "_law_draw" ["_law_well_here", "_law_many"] 1 spDraw g1 d1) : FnOk P w K mg base CX0 2 f fd ["_law_well_here", "_law_sizes"] spPr := by
  refine F.ok sc_pr (fun vs H Q E h => ?_) (fun cdv A outer s H vs Q E hr h => ?_)
  · obtain ⟨a, sz, n, n0, n1, rfl, _⟩ := h
    rfl
  obtain ⟨a, sz, n, n0, n1, rfl, hW, hn, hz, nz, a0, b0, a1, b1, q⟩ := h
  have nd := sc_pr.nd
  have hu := hu_of hr
  refine ⟨_, (pss_cons (ps_set (i := 2) nd rfl (Or.inl rfl) pe_dnewT)
    (pss_cons (ps_for PassesOwn.never (by rfl) (pi_range1 (by rfl) T.range (pa_cons (pe_ix ix_list (pv 1) pe_int (fun _ _ => rfl)) pa_nil)) (pg_name (i := 3) nd rfl (Or.inl rfl))
      (pss_one (ps_for PassesOwn.never (by rfl) (pi_range1 (by rfl) T.range (pa_cons (pe_ix ix_list (pv 1) pe_int (fun _ _ => rfl)) pa_nil)) (pg_name (i := 4) nd rfl (Or.inl rfl))
      (pss_one (ps_if (PW.pt (pw_or (pt_cmpR op_gt (pe_call Dw.G (hr.mono (by decide)) rfl Dw.m Dw.k Dw.b .nil pass0 (pa_cons (pv 0) (pa_cons pe_int pa_nil))) pe_int (nomark _)) (pw_or (pt_cmpR op_eq (pv 3) (pv 4) (nomark _)) (pw_or (PW.pt (pw_and (pt_cmpR op_ge (pv 3) (pe_ix ix_list (pv 1) pe_int (fun _ _ => rfl)) (nomark _)) (pw_and1 (pt_cmpR op_eq (pv 4) pe_int (nomark _))))) (pw_or1 (PW.pt (pw_and (pt_cmpR op_ge (pv 4) (pe_ix ix_list (pv 1) pe_int (fun _ _ => rfl)) (nomark _)) (pw_and1 (pt_cmpR op_eq (pv 3) pe_int (nomark _))))))))))
      (pss_one (ps_dput hu (pv 2) (pe_tup (pa_cons (pv 3) (pa_cons (pv 4) pa_nil))) pe_bl rfl))
      pss_nil)))))
    (pss_one (ps_ret (pe_callB (cr_sortedDT (d := 2) (B := 64) (by decide) rfl) (by rfl) T2.sorted (by decide +kernel) (pa_cons (pv 2) pa_nil)))))), ?_⟩
  intro D hD
  have nD := (hW.ne hD).symm
  have sD := same_new hD (.dT [])
  refine ⟨_, rfl, sz, _, _, _, rfl, rfl, SqL.of (sD _ _ hz), rfl, (n0 : Int), rfl, by omega, by omega, ?_⟩
  rw [Int.toNat_natCast]
  refine for_range (n := n0) (fun i σ H' => ∃ g1 g2 ips, σ = [some (.ref a), some (.ref sz), some (.ref D), g1, g2] ∧ But a H H' ∧ WellAt H' a (n + 3 * i) ∧ H' D = some (.dT (ips.map fun p => (kI p, V.bl true))) ∧ PrI n0 n1 i 0 ips) ⟨_, _, [], rfl, But.same sD, (hW.same sD).up (by omega), upd_same, PrI.zero _ _⟩ ?_ ?_
  · rintro i σ H1 hi ⟨g1, g2, ips, rfl, bt, w1, e1, pr⟩
    have ei : (0 : Int) + (i : Int) = (i : Int) := by omega
    rw [ei]
    refine ⟨_, rfl, sz, _, _, _, rfl, rfl, SqL.of (bt _ _ nz hz), rfl, (n1 : Int), rfl, by omega, by omega, ?_⟩
    rw [Int.toNat_natCast]
    refine for_range (n := n1) (fun j σ H' => ∃ g2 ips, σ = [some (.ref a), some (.ref sz), some (.ref D), some (.int (i : Int)), g2] ∧ But a H H' ∧ WellAt H' a (n + 3 * i + j) ∧ H' D = some (.dT (ips.map fun p => (kI p, V.bl true))) ∧ PrI n0 n1 i j ips) ⟨_, ips, rfl, bt, w1.up (by omega), e1, pr⟩ ?_ ?_
    · clear bt w1 e1 pr ips g2
      rintro j σ H2 hj ⟨g2, ips, rfl, bt, w2, e2, pr⟩
      have ej : (0 : Int) + (j : Int) = (j : Int) := by omega
      rw [ej]
      refine ⟨_, rfl, a, _, 4, rfl, w2, by omega, by decide, by decide, fun r H3 r0 r1 b3 w3 => ?_⟩
      have e3 := b3 _ _ nD e2
      have bt3 := bt.trans b3
      have put : ∀ {Dn : Ends}, Dn.nx = (fun σ H' => ∃ g2 ips, σ = [some (.ref a), some (.ref sz), some (.ref D), some (.int (i : Int)), g2] ∧ But a H H' ∧ WellAt H' a (n + 3 * i + ((j + 1 : Nat) : Int)) ∧ H' D = some (.dT (ips.map fun p => (kI p, V.bl true))) ∧ PrI n0 n1 i (j + 1) ips) →
          sDPut (tVar 2) (tTup (tCons (tVar 3) (tCons (tVar 4) tNil))) (tC (V.bl true)) Dn [some (.ref a), some (.ref sz), some (.ref D), some (.int (i : Int)), some (.int (j : Int))] H3 := fun {Dn} eD => by
        refine ⟨_, rfl, _, rfl, _, rfl, (by show 2 ≤ sizeLine; decide), fun t ht => ?_⟩
        have s4 := same_new ht (.tup [V.int (i : Int), V.int (j : Int)])
        have lp := pr.len
        refine ⟨D, _, rfl, .inr ⟨_, kI (i, j), t, s4 _ _ e3, rfl, upd_same, ?_, rfl⟩, ?_⟩
        · rw [List.length_map]
          exact Nat.lt_of_lt_of_le (show ips.length < 100 by omega) (by decide)
        rw [eD, putK_new _ (valV_noneP fun e he => ?_)]
        · refine ⟨_, ips ++ [(i, j)], rfl, (bt3.trans (But.same s4)).new hD, ((w3.same s4).but (Ne.symm nD) But.at).up (by omega), ?_, pr.put hi hj⟩
          rw [upd_same, List.map_append]
          rfl
        · obtain ⟨p, hp, rfl⟩ := List.mem_map.mp he
          exact fun c => pr.fresh (by rw [← kI_inj c]; exact hp)
      refine ⟨_, _, rfl, rfl, _, rfl, ?_⟩
      by_cases d0 : 0 < r
      · exact iteT' (decide_eq_true d0) (iteT' rfl (put rfl))
      refine iteF' (decide_eq_false d0) ?_
      refine ⟨_, rfl, _, rfl, rfl, _, rfl, ?_⟩
      by_cases d1 : i = j
      · exact iteT' (decide_eq_true (by rw [d1])) (iteT' rfl (put rfl))
      refine iteF' (decide_eq_false fun z => d1 (by injection z with z; omega)) ?_
      refine ⟨_, rfl, _, rfl, sz, _, _, _, rfl, rfl, SqL.of (bt3 _ _ nz hz), rfl, _, _, rfl, rfl, _, rfl, ?_⟩
      by_cases d2 : n1 ≤ i
      · refine iteT' (decide_eq_true (by omega)) ⟨_, rfl, rfl, _, rfl, ?_⟩
        by_cases d3 : j = 0
        · exact iteT' (decide_eq_true (by rw [d3]; rfl)) (iteT' rfl (put rfl))
        refine iteF' (decide_eq_false fun z => d3 (by injection z with z; omega)) ?_
        refine ⟨_, rfl, _, rfl, sz, _, _, _, rfl, rfl, SqL.of (bt3 _ _ nz hz), rfl, _, _, rfl, rfl, _, rfl, ?_⟩
        by_cases d4 : n0 ≤ j
        · refine iteT' (decide_eq_true (by omega)) ⟨_, rfl, rfl, _, rfl, ?_⟩
          by_cases d5 : i = 0
          · exact iteT' (decide_eq_true (by rw [d5]; rfl)) (put rfl)
          · refine iteF' (decide_eq_false fun z => d5 (by injection z with z; omega)) ?_
            exact ⟨_, ips, rfl, bt3, w3.up (by omega), e3, pr.skip (by omega)⟩
        · refine iteF' (decide_eq_false (by omega)) (iteF' rfl ?_)
          exact ⟨_, ips, rfl, bt3, w3.up (by omega), e3, pr.skip (by omega)⟩
      refine iteF' (decide_eq_false (by omega)) (iteF' rfl ?_)
      refine ⟨_, rfl, _, rfl, sz, _, _, _, rfl, rfl, SqL.of (bt3 _ _ nz hz), rfl, _, _, rfl, rfl, _, rfl, ?_⟩
      by_cases d4 : n0 ≤ j
      · refine iteT' (decide_eq_true (by omega)) ⟨_, rfl, rfl, _, rfl, ?_⟩
        by_cases d5 : i = 0
        · exact iteT' (decide_eq_true (by rw [d5]; rfl)) (put rfl)
        · refine iteF' (decide_eq_false fun z => d5 (by injection z with z; omega)) ?_
          exact ⟨_, ips, rfl, bt3, w3.up (by omega), e3, pr.skip (by omega)⟩
      · refine iteF' (decide_eq_false (by omega)) (iteF' rfl ?_)
        exact ⟨_, ips, rfl, bt3, w3.up (by omega), e3, pr.skip (by omega)⟩
    · rintro σ H2 ⟨g2, ips, rfl, bt, w2, e2, pr⟩
      exact ⟨_, _, ips, rfl, bt, w2.up (by omega), e2, pr.row b1⟩
  rintro σ H1 ⟨g1, g2, ips, rfl, bt, w1, e1, pr⟩
  have ok := pr.ok a0 a1 b0
  refine ⟨_, rfl, D, _, ips.map (fun p => [((p.1 : Nat) : Int), ((p.2 : Nat) : Int)]), rfl, .inl e1, ?_, ?_, ?_, fun L l h1 h2 h3 hl => ?_⟩
  · rw [List.map_map, List.map_map]
    rfl
  · rw [List.length_map]
    have := ok.len
    omega
  · intro ns hns
    obtain ⟨e, he, rfl⟩ := List.mem_map.mp hns
    have := ok.rng e he
    refine ⟨rfl, fun m hm => ?_⟩
    rcases List.mem_cons.mp hm with rfl | hm
    · omega
    · rw [List.mem_singleton.mp hm]
      omega
  have eL := keys_srt ok.srt (fun p hp => by have := ok.rng p hp; omega) h1 h2
  have s2 := same_new hl (.lst (L.map fun q => V.ref q.1))
  refine q l ips _ (bt.trans (But.same s2)) ((w1.same s2).up (by omega)) (bt.free w1 hl) ⟨l, _, rfl, vw_put (pA_ok.mpr (w1.ne hl).symm) upd_same, L_tups (K := K) (fun p hp => vw_put (pA_ok.mpr fun c => ?_) (s2 _ _ (h3 p hp))) ?_⟩ ok
  · obtain ⟨zs, ez⟩ := w1.lst
    have := h3 p hp
    rw [c, ez] at this
    cases this
  · rw [eL, List.map_map]
    rfl
end
end TA

set_option Elab.async false
set_option maxRecDepth 100000
set_option maxHeartbeats 4000000
namespace TA
open PySem L2 PyProof.Rows
set_option linter.unusedVariables false
theorem merge_uniq : ∀ {kvs acc : List (List Key × V)}, ((acc ++ kvs).map (·.1)).Pairwise (· ≠ ·) → mergeT acc kvs = acc ++ kvs
  | [], acc, _ => (List.append_nil acc).symm
  | kv :: kvs, acc, h => by
    have hp : putK acc kv.1 kv.2 = acc ++ [kv] := putK_new _ (valV_noneP fun x hx => by
      rw [List.map_append, List.pairwise_append] at h
      exact h.2.2 _ (List.mem_map_of_mem hx) _ List.mem_cons_self)
    show mergeT (putK acc kv.1 kv.2) kvs = _
    rw [hp, merge_uniq (by rw [List.append_assoc]; exact h), List.append_assoc]
    rfl
theorem paired_snoc {α β : Type} {R : α → β → Prop} : ∀ {xs : List α} {ys : List β} {x : α} {y : β}, Paired R xs ys → R x y → Paired R (xs ++ [x]) (ys ++ [y])
  | _, _, _, _, .nil, h => .cons h .nil
  | _, _, _, _, .cons a b, h => .cons a (paired_snoc b h)
theorem paired_imp {α β : Type} {R S : α → β → Prop} (f : ∀ x y, R x y → S x y) : ∀ {xs : List α} {ys : List β}, Paired R xs ys → Paired S xs ys
  | _, _, .nil => .nil
  | _, _, .cons a b => .cons (f _ _ a) (paired_imp f b)
/-- all but a and D -/
def pB (a D : Addr) : Addr → Bool := fun b => decide (b ≠ a ∧ b ≠ D)
theorem pB_ok {a D b : Addr} : pB a D b = true ↔ b ≠ a ∧ b ≠ D := decide_eq_true_iff
theorem let_pb {H : Hp} {a D lt : Addr} {ls : List (Int × Int)} {zs : List V} (h : LetAt (vw (pA a) H) (.ref lt) ls) (n : lt ≠ D) (e : H D = some (.lst zs)) : LetAt (vw (pB a D) H) (.ref lt) ls := by
  obtain ⟨t, xs, z, e1, h1⟩ := h
  cases z
  obtain ⟨n1, e1⟩ := vw_some e1
  refine ⟨lt, xs, rfl, vw_put (pB_ok.mpr ⟨pA_ok.mp n1, n⟩) e1, h1.imp fun _ _ q => ?_⟩
  obtain ⟨u, eu, hu⟩ := q
  obtain ⟨n2, hu⟩ := vw_some hu
  exact ⟨u, eu, vw_put (pB_ok.mpr ⟨pA_ok.mp n2, fun c => by rw [c, e] at hu; cases hu⟩) hu⟩
theorem vwB_A {a D : Addr} {H : Hp} : Kp (vw (pB a D) H) (vw (pA a) H) := vw_mono fun b o h _ e => ⟨pA_ok.mpr (pB_ok.mp h).1, e⟩
theorem vwB_but {a D : Addr} {H H' : Hp} (s : But a H H') : Kp (vw (pB a D) H) (vw (pB a D) H') := vw_mono fun b o h _ e => ⟨h, s b o (pB_ok.mp h).1 e⟩
theorem vwB_upd {a D : Addr} {H : Hp} {o : HO} : Kp (vw (pB a D) H) (vw (pB a D) (upd H D o)) := vw_mono fun b u h _ e => ⟨h, by rw [upd_ne (pB_ok.mp h).2]; exact e⟩
theorem dict_tail {K : PySem.W.Frag} {teF : TE} {Qd : VK} {σ : L2.St} {H : Hp} {a l : Addr} {n : Int} {ips : List IP} (h7 : ∀ x : V, ((wipe σ [7]).set 7 (some x))[7]? = some (some x)) (hw7 : ∀ x : V, wipe ((wipe σ [7]).set 7 (some x)) [7] = wipe σ [7])
    (mk : ∀ (x : V) (H' : Hp) (n' : Int) (Q' : VK), WellAt H' a n' → n' < 890000 → (∀ (lt : Addr) (ls : List (Int × Int)) (H'' : Hp), But a H' H'' → WellAt H'' a (n' + 30) → H' lt = none → LetAt (vw (pA a) H'') (.ref lt) ls → okLs ls 16 → Q' (.ref lt) H'') → teF ((wipe σ [7]).set 7 (some x)) H' Q')
    (wl : WellAt H a n) (hn : n < 880000) (hl : LetAt (vw (pA a) H) (.ref l) (ips.map iI)) (srt : ips.Pairwise ltN) (len : ips.length ≤ 9)
    (q : ∀ (dd : Addr) (bo : BD) (H' : Hp), But a H H' → WellAt H' a (n + 270) → H dd = none → BoAt (vw (pA a) H') dd bo → bo.map (·.1) = ips → (∀ e ∈ bo, okLs e.2 16) → Qd (.ref dd) H') :
    tCB (rDictPT K) (tCons (tLc (iList K (tC (.ref l))) (gName 7) tYes (tTup (tCons (tVar 7) (tCons teF tNil))) [7]) tNil) σ H Qd := by
  obtain ⟨_, xs, e0, el, hx⟩ := hl
  cases e0
  obtain ⟨nl, el⟩ := vw_some el
  have nl := pA_ok.mp nl
  refine ⟨l, rfl, ⟨_, SqL.of el⟩, fun D hD => ?_⟩
  have nD := (wl.ne hD).symm
  have nlD := ne_of_none el hD
  refine list_turns (xs := xs) (fun i H' => But a H H' ∧ WellAt H' a (n + 30 * i) ∧ ∃ (ps : List Addr) (kvs : List (List Key × V)) (bo : BD), H' D = some (.lst (ps.map V.ref)) ∧ ps.length = i ∧ Paired (fun p kv => ∃ b, H' p = some (.tup [.ref b, kv.2]) ∧ p ≠ D ∧ p ≠ a ∧ H' b = some (.tup (kv.1.map kV)) ∧ b ≠ D ∧ b ≠ a) ps kvs ∧ A2 (EnAt (vw (pB a D) H')) kvs bo ∧ bo.map (·.1) = ips.take i ∧ ∀ e ∈ bo, okLs e.2 16)
    ⟨But.same (same_new hD _), (wl.same (same_new hD _)).up (by omega), [], [], [], upd_same, rfl, .nil, .nil, rfl, fun e he => (nomatch he)⟩ (fun i H' _ h => SqL.of (h.1 _ _ nl el)) ?_ ?_
  · rintro i x H2 hxi ⟨b2, w2, ps, kvs, bo, eD, lps, pps, hE, eb, okb⟩
    obtain ⟨y, hy, t, rfl, ht⟩ := hx.get hxi
    rw [List.getElem?_map] at hy
    obtain ⟨ip, hip, rfl⟩ := Option.map_eq_some_iff.mp hy
    obtain ⟨nt, ht⟩ := vw_some ht
    have nt := pA_ok.mp nt
    have ii : i < ips.length := (List.getElem?_eq_some_iff.mp hip).1
    refine ⟨hw7 _, _, h7 _, mk _ _ _ _ w2 (by omega) fun lt ls H3 b3 w3 flt hlt okl => ⟨(by show 2 ≤ sizeLine; decide), fun p hp => ?_⟩⟩
    have eD3 := b3 _ _ nD eD
    have nltD : lt ≠ D := fun c => by rw [c, eD] at flt; cases flt
    have s4 := same_new hp (.tup [V.ref t, V.ref lt])
    have npD := (ne_of_none eD3 hp).symm
    have npa := (w3.ne hp).symm
    have ntD : t ≠ D := fun c => by
      have := b2 _ _ nt ht
      rw [c, eD] at this
      cases this
    have b4 : But a H2 (upd H3 p (.tup [V.ref t, V.ref lt])) := b3.trans (But.same s4)
    have hl3 := let_pb hlt nltD eD3
    refine ⟨_, s4 _ _ eD3, ?_, (b2.trans b4).new hD, ((w3.same s4).but (Ne.symm nD) But.at).up (by omega), ps ++ [p], kvs ++ [(kI ip, .ref lt)], bo ++ [(ip, ls)], by rw [upd_same, List.map_append]; rfl, by rw [List.length_append, lps]; rfl, ?_, ?_, ?_, fun e he => ?_⟩
    · rw [List.length_map, lps]
      exact Nat.lt_of_lt_of_le (show i < 100 by omega) (by decide)
    · refine paired_snoc (paired_imp (fun p' kv ⟨b, p1, p2, p3, p4, p5, p6⟩ => ⟨b, by rw [upd_ne p2]; exact b4 _ _ p3 p1, p2, p3, by rw [upd_ne p5]; exact b4 _ _ p6 p4, p5, p6⟩) pps) ⟨t, by rw [upd_ne npD]; exact upd_same, npD, npa, by rw [upd_ne ntD]; exact (b2.trans b4) _ _ nt ht, ntD, nt⟩
    · refine (hE.imp fun _ _ r => (r.mono (vwB_but b4)).mono vwB_upd).snoc ⟨rfl, (hl3.mono (vwB_but (But.same s4))).mono vwB_upd⟩
    · rw [List.map_append, eb]
      exact takeS hip
    · rcases List.mem_append.mp he with he | he
      · exact okb e he
      · rw [List.mem_singleton.mp he]
        exact okl
  rintro H2 ⟨b2, w2, ps, kvs, bo, eD, lps, pps, hE, eb, okb⟩
  have lx := hx.len
  rw [List.length_map] at lx
  rw [lx, List.take_length] at eb
  refine ⟨D, ps, kvs, rfl, SqL.of eD, paired_imp (fun p kv ⟨b, p1, p2, p3, p4, p5, p6⟩ => ⟨b, SqT.of p1, p4⟩) pps, fun dd hdd => ?_⟩
  have uk : (kvs.map (·.1)).Pairwise (· ≠ ·) := by
    have : kvs.map (·.1) = ips.map kI := by
      rw [← eb]
      have : ∀ {kvs : List (List Key × V)} {bo : BD}, A2 (EnAt (vw (pB a D) H2)) kvs bo → kvs.map (·.1) = (bo.map (·.1)).map kI := by
        intro kvs bo h
        induction h with
        | nil => rfl
        | cons r _ ih =>
          rw [List.map_cons, List.map_cons, List.map_cons, ih, r.1]
      exact this hE
    rw [this]
    refine List.pairwise_map.mpr (srt.imp fun h c => ?_)
    have := kI_inj c
    unfold ltN at h
    rw [this] at h
    omega
  rw [merge_uniq (acc := []) uk, List.nil_append]
  have s3 := same_new hdd (.dT kvs)
  refine q dd bo _ (b2.trans (But.same s3)) ((w2.same s3).up (by omega)) (b2.free w2 hdd) ⟨kvs, vw_put (pA_ok.mpr (w2.ne hdd).symm) upd_same, hE.imp fun _ _ r => (r.mono vwB_A).mono (vwA_but (But.same s3))⟩ eb okb
end TA

set_option Elab.async false
set_option maxRecDepth 100000
set_option maxHeartbeats 4000000
namespace TA
open PySem L2 PyProof.Rows
set_option linter.unusedVariables false
structure PartsK (a : Addr) (H : Hp) (al d : Addr) (T : TD) : Prop where
  al : AlAt (vw (pA a) H) (.ref al) T.al
  bo : BoAt (vw (pA a) H) d T.bo
  wf : WF T
  few : ∀ h, h < 2 → (T.al h).length ≤ 3
  row3 : ∀ h, h < 2 → ∀ r ∈ T.al h, r.length ≤ 3
  let16 : ∀ e ∈ T.bo, e.2.length ≤ 16
def spParts : Sp := fun vs H Q _ => ∃ (a : Addr) (n : Int), vs = [.ref a] ∧ WellAt H a n ∧ 0 ≤ n ∧ n ≤ 1000 ∧
  ∀ (r al d : Addr) (T : TD) (H' : Hp), But a H H' → WellAt H' a (n + 400) → H' r = some (.tup [.ref al, .ref d]) → r ≠ a → PartsK a H' al d T → Q (.ref r) H'
theorem parts_wf {n0 n1 : Nat} {ips : List IP} {al : Nat → List (List Int)} {bo : BD} (ok : PrsOk n0 n1 ips) (a0 : 1 ≤ n0) (b0 : n0 ≤ 3) (a1 : 1 ≤ n1) (b1 : n1 ≤ 3) (l0 : (al 0).length = n0) (l1 : (al 1).length = n1) (rw_ : ∀ h, h < 2 → ∀ r ∈ al h, okRow r) (eb : bo.map (·.1) = ips) (okb : ∀ e ∈ bo, okLs e.2 16) : WF ⟨al, bo⟩ := by
  have mem : ∀ e ∈ bo, e.1 ∈ ips := fun e he => by rw [← eb]; exact List.mem_map_of_mem he
  have inv : ∀ p ∈ ips, ∃ e ∈ bo, e.1 = p := fun p hp => by
    rw [← eb] at hp
    obtain ⟨e, he, k⟩ := List.mem_map.mp hp
    exact ⟨e, he, k⟩
  refine ⟨fun h hh => ?_, rw_, ?_, fun e he => ?_, fun e he => ?_, fun x hx => ?_, fun x hx => ?_, ?_⟩
  · obtain rfl | rfl : h = 0 ∨ h = 1 := by omega
    · show 1 ≤ (al 0).length ∧ (al 0).length ≤ 20
      omega
    · show 1 ≤ (al 1).length ∧ (al 1).length ≤ 20
      omega
  · show (bo.map (·.1)).Pairwise (· ≠ ·)
    rw [eb]
    exact ok.srt.imp fun h c => by
      unfold ltN at h
      rw [c] at h
      omega
  · have := ok.rng _ (mem e he)
    show e.1.1 < (al 0).length ∧ e.1.2 < (al 1).length
    omega
  · obtain ⟨h1, h2, h3, h4⟩ := okb e he
    exact ⟨h1, by omega, h3, h4⟩
  · have hx : x < (al 0).length := hx
    obtain ⟨p, hp, k⟩ := ok.c0 x (by omega)
    obtain ⟨e, he, k'⟩ := inv p hp
    exact ⟨e, he, by rw [k', k]⟩
  · have hx : x < (al 1).length := hx
    obtain ⟨p, hp, k⟩ := ok.c1 x (by omega)
    obtain ⟨e, he, k'⟩ := inv p hp
    exact ⟨e, he, by rw [k', k]⟩
  · have := congrArg List.length eb
    rw [List.length_map] at this
    have := ok.len
    show bo.length ≤ 60
    omega
theorem rep_one (x : V) : ∀ k : Nat, (List.replicate k [x]).flatten = List.replicate k x
  | 0 => rfl
  | k + 1 => by rw [List.replicate_succ, List.replicate_succ, List.flatten_cons, rep_one x k]; rfl
theorem a2_rep {α β : Type} {R : α → β → Prop} {x : α} {y : β} (h : R x y) : ∀ k : Nat, A2 R (List.replicate k x) (List.replicate k y)
  | 0 => .nil
  | k + 1 => .cons h (a2_rep h k)
theorem parts_tail {K : PySem.W.Frag} {teF : TE} {E : Ends} {σ : L2.St} {H : Hp} {a sz AL : Addr} {n : Int} {k0 k1 : Nat} {al : Nat → List (List Int)} (h0 : σ[0]? = some (some (.ref a))) (h1 : σ[1]? = some (some (.ref sz))) (h4 : σ[4]? = some (some (.ref AL)))
    (h7 : ∀ x : V, ((wipe σ [7]).set 7 (some x))[7]? = some (some x)) (hw7 : ∀ x : V, wipe ((wipe σ [7]).set 7 (some x)) [7] = wipe σ [7])
    (mk : ∀ (x : V) (H' : Hp) (n' : Int) (Q' : VK), WellAt H' a n' → n' < 890000 → (∀ (lt : Addr) (ls : List (Int × Int)) (H'' : Hp), But a H' H'' → WellAt H'' a (n' + 30) → H' lt = none → LetAt (vw (pA a) H'') (.ref lt) ls → okLs ls 16 → Q' (.ref lt) H'') → teF ((wipe σ [7]).set 7 (some x)) H' Q')
    (wl : WellAt H a n) (hn : n < 2000) (e5 : H sz = some (.lst [V.int (k0 : Int), V.int (k1 : Int)])) (nsz : sz ≠ a) (a0 : 1 ≤ k0) (b0 : k0 ≤ 3) (a1 : 1 ≤ k1) (b1 : k1 ≤ 3) (hA : AlAt (vw (pA a) H) (.ref AL) al) (l0 : (al 0).length = k0) (l1 : (al 1).length = k1) (rows : ∀ h, h < 2 → ∀ r ∈ al h, okRow r ∧ r.length ≤ 3)
    (q : ∀ (r d : Addr) (T : TD) (H' : Hp), But a H H' → WellAt H' a (n + 279) → H' r = some (.tup [.ref AL, .ref d]) → r ≠ a → PartsK a H' AL d T → E.rt (.ref r) H') :
    tRet (tTup (tCons (tVar 4) (tCons (tCB (rDictPT K) (tCons (tLc (iList K (tCall spPr [] E0 (tCons (tVar 0) (tCons (tVar 1) tNil)))) (gName 7) tYes (tTup (tCons (tVar 7) (tCons teF tNil))) [7]) tNil)) tNil))) E σ H := by
  refine ⟨_, h4, _, h0, _, h1, a, sz, n, k0, k1, rfl, wl, by omega, e5, nsz, a0, b0, a1, b1, fun l ips H2 b2 w2 fl hl ok => ?_⟩
  refine dict_tail h7 hw7 mk w2 (by omega) hl ok.srt ok.len fun dd bo H3 b3 w3 fd hb eb okb => ⟨(by show 2 ≤ sizeLine; decide), fun r hr => ?_⟩
  have s4 := same_new hr (.tup [V.ref AL, V.ref dd])
  have b24 := b2.trans (b3.trans (But.same s4))
  refine q r dd ⟨al, bo⟩ _ b24 ((w3.same s4).up (by omega)) upd_same (w3.ne hr).symm ⟨hA.mono (vwA_but b24), ?_, parts_wf ok a0 b0 a1 b1 l0 l1 (fun h hh r hr => (rows h hh r hr).1) eb okb, fun h hh => ?_, fun h hh r hr => (rows h hh r hr).2, fun e he => (okb e he).2.1⟩
  · obtain ⟨kvs, e1, e2⟩ := hb
    obtain ⟨n1, e1⟩ := vw_some e1
    exact ⟨kvs, vw_put n1 (s4 _ _ e1), e2.imp fun _ _ r => r.mono (vwA_but (But.same s4))⟩
  · obtain rfl | rfl : h = 0 ∨ h = 1 := by omega
    · show (al 0).length ≤ 3
      omega
    · show (al 1).length ≤ 3
      omega
def okR1 (r : List Int) : Prop := 1 ≤ r.length ∧ r.length ≤ 3 ∧ ∀ x ∈ r, 0 ≤ x ∧ x < 64
def okR2 (r : List Int) : Prop := 1 ≤ r.length ∧ r.length ≤ 3 ∧ r.Pairwise (· < ·) ∧ ∀ x ∈ r, okOut x
def RwAt (a R : Addr) (H : Hp) (p : Addr) (r : List Int) : Prop := p ≠ a ∧ p ≠ R ∧ H p = some (.lst (r.map V.int))
def RsAt (a R : Addr) (H : Hp) (q : Addr) (rows : List (List Int)) : Prop := q ≠ a ∧ q ≠ R ∧ ∃ ps : List Addr, H q = some (.lst (ps.map V.ref)) ∧ A2 (RwAt a R H) ps rows
theorem RwAt.but {a R p : Addr} {H H' : Hp} {r : List Int} (b : But a H H') (h : RwAt a R H p r) : RwAt a R H' p r := ⟨h.1, h.2.1, b _ _ h.1 h.2.2⟩
theorem RwAt.upd {a R p : Addr} {H : Hp} {r : List Int} {o : HO} (h : RwAt a R H p r) : RwAt a R (upd H R o) p r := ⟨h.1, h.2.1, by rw [upd_ne h.2.1]; exact h.2.2⟩
theorem RsAt.but {a R q : Addr} {H H' : Hp} {rows : List (List Int)} (b : But a H H') (h : RsAt a R H q rows) : RsAt a R H' q rows := by
  obtain ⟨h1, h2, ps, h3, h4⟩ := h
  exact ⟨h1, h2, ps, b _ _ h1 h3, h4.imp fun _ _ r => r.but b⟩
theorem RsAt.upd {a R q : Addr} {H : Hp} {rows : List (List Int)} {o : HO} (h : RsAt a R H q rows) : RsAt a R (upd H R o) q rows := by
  obtain ⟨h1, h2, ps, h3, h4⟩ := h
  exact ⟨h1, h2, ps, by rw [upd_ne h2]; exact h3, h4.imp fun _ _ r => r.upd⟩
theorem RsAt.rows {a R q : Addr} {H : Hp} {rows : List (List Int)} (h : RsAt a R H q rows) : RowsAt (vw (pA a) H) (.ref q) rows := by
  obtain ⟨h1, h2, ps, h3, h4⟩ := h
  refine ⟨q, _, rfl, vw_put (pA_ok.mpr h1) h3, ?_⟩
  clear h3
  induction h4 with
  | nil => exact .nil
  | cons r _ ih => exact .cons ⟨_, rfl, vw_put (pA_ok.mpr r.1) r.2.2⟩ ih
section
variable {P : Program} {w : World} {K : PySem.W.Frag} {mg : Str → Option Value} {base : Heap}
abbrev nPa : List Str := ["_law_well_here", "_law_sizes", "_law_few", "_law_length", "_law_alone", "_law_size", "_law_rows", "_law_pair", "_law_k", "_law_i", "_law_row"]
theorem sc_pa : FnScope nPa ["_law_well_here"] (defScope s__law_parts) := ⟨rfl, rfl, rfl, by decide +kernel, rfl, by decide +kernel, by decide +kernel⟩
theorem ok_parts {f g1 g2 g3 g4 : Addr} {fd d1 d2 d3 d4 : FuncData} (F : Fun K "_law_parts" "_law_parts" s__law_parts f fd) (T : Txt K mg) (T2 : Txt2 K mg) (Dw : Def P w K mg base "_law_draw" ["_law_well_here", "_law_many"] 1 spDraw g1 d1) (Ps : Def P w K mg base "_law_pairs" ["_law_well_here", "_law_sizes"] 2 spPr g2 d2)
    (Os : Def P w K mg base "_law_outs" ["_law_well_here", "_law_few", "_law_size"] 2 spOs g3 d3) (Cn : Def P w K mg base "_law_chain" ["_law_well_here", "_law_length"] 2 spCn g4 d4) : FnOk P w K mg base CX0 3 f fd ["_law_well_here"] spParts := by
  refine F.ok sc_pa (fun vs H Q E h => ?_) (fun cdv A outer s H vs Q E hr h => ?_)
  · obtain ⟨a, n, rfl, _⟩ := h
    rfl
  obtain ⟨a, n, rfl, hW, hn0, hn, q⟩ := h
  have nd := sc_pa.nd
  have hu2 := hu2_of hr
  refine ⟨_, (pss_cons (ps_set (i := 1) nd rfl (Or.inl rfl) (pe_lst (pa_cons (pe_op op_add pe_int (pe_call Dw.G (hr.mono (by decide)) rfl Dw.m Dw.k Dw.b .nil pass0 (pa_cons (pv 0) (pa_cons pe_int pa_nil)))) (pa_cons (pe_op op_add pe_int (pe_call Dw.G (hr.mono (by decide)) rfl Dw.m Dw.k Dw.b .nil pass0 (pa_cons (pv 0) (pa_cons pe_int pa_nil)))) pa_nil))))
    (pss_cons (ps_set (i := 2) nd rfl (Or.inr rfl) (pe_op op_add pe_int (pe_call Dw.G (hr.mono (by decide)) rfl Dw.m Dw.k Dw.b .nil pass0 (pa_cons (pv 0) (pa_cons pe_int pa_nil)))))
    (pss_cons (ps_if (pt_cmpR op_eq (pe_call Dw.G (hr.mono (by decide)) rfl Dw.m Dw.k Dw.b .nil pass0 (pa_cons (pv 0) (pa_cons pe_int pa_nil))) pe_int (nomark _))
      (pss_cons (ps_set (i := 3) nd rfl (Or.inr rfl) (pe_op op_add pe_int (pe_op op_mul pe_int (pe_call Dw.G (hr.mono (by decide)) rfl Dw.m Dw.k Dw.b .nil pass0 (pa_cons (pv 0) (pa_cons pe_int pa_nil))))))
    (pss_cons (ps_set (i := 4) nd rfl (Or.inl rfl) (pe_lst (pa_cons (pe_op op_rep (pe_lst (pa_cons (pe_lst (pa_cons pe_int pa_nil)) pa_nil)) (pe_ix ix_list (pv 1) pe_int (fun _ _ => rfl))) (pa_cons (pe_op op_rep (pe_lst (pa_cons (pe_lst (pa_cons (pv 3) pa_nil)) pa_nil)) (pe_ix ix_list (pv 1) pe_int (fun _ _ => rfl))) pa_nil))))
    (pss_one (ps_ret (pe_tup (pa_cons (pv 4) (pa_cons (pe_callTy (call_dictPT rfl hu2) (by rfl) T2.dict boot_dict (pa_cons (pe_lc (own := [("_law_pair", 7)]) (g := (gName 7)) (tt := tYes) (te := (tTup (tCons (tVar 7) (tCons (tCall spCn [] E0 (tCons (tVar 0) (tCons (tVar 3) tNil))) tNil)))) rfl nd (pi_list (pe_call Ps.G (hr.mono (by decide)) rfl Ps.m Ps.k Ps.b .nil pass0 (pa_cons (pv 0) (pa_cons (pv 1) pa_nil)))) (blkOk_by (N := nPa) (sc := defScope s__law_parts) (by decide +kernel)) (fun _ _ _ _ _ => (by exact (pg_name (i := 7) nd rfl (Or.inl rfl)))) (fun _ _ _ _ _ => pts_nil) (fun _ _ _ _ _ => (by exact (pe_tup (pa_cons (pv 7) (pa_cons (pe_call Cn.G (hr.mono (by decide)) rfl Cn.m Cn.k Cn.b .nil pass0 (pa_cons (pv 0) (pa_cons (pv 3) pa_nil))) pa_nil)))))) pa_nil)) pa_nil)))))))
      pss_nil)
    (pss_cons (ps_set (i := 4) nd rfl (Or.inl rfl) (pe_lst pa_nil))
    (pss_cons (ps_for PassesOwn.never (by rfl) (pi_list (pv 1)) (pg_name (i := 5) nd rfl (Or.inr rfl))
      (pss_cons (ps_setLc (i := 6) (own := [("_law_k", 8)]) (g := (gName 8)) (tt := tYes) (te := (tLc (iRng1 (tCons (tOp (rI0 fun i j => .int (i + j)) (tC (.int 1)) (tCall spDraw [] E0 (tCons (tVar 0) (tCons (tC (.int 3)) tNil)))) tNil)) (gName 9) tYes (tCall spDraw [] E0 (tCons (tVar 0) (tCons (tVar 2) tNil))) [9])) rfl nd rfl rfl (sw_true rfl rfl rfl (by decide +kernel)) (pi_range1 (by rfl) T.range (pa_cons (pv 5) pa_nil)) (blkOk_by (N := nPa) (sc := defScope s__law_parts) (by decide +kernel)) (fun _ _ _ _ _ => (by exact (pg_name (i := 8) nd rfl (Or.inl rfl)))) (fun _ _ _ _ _ => pts_nil) (fun _ _ _ _ _ => (by exact (pe_lc (own := [("_law_i", 9)]) (g := (gName 9)) (tt := tYes) (te := (tCall spDraw [] E0 (tCons (tVar 0) (tCons (tVar 2) tNil)))) rfl nd (pi_range1 (by rfl) T.range (pa_cons (pe_op op_add pe_int (pe_call Dw.G (hr.mono (by decide)) rfl Dw.m Dw.k Dw.b .nil pass0 (pa_cons (pv 0) (pa_cons pe_int pa_nil)))) pa_nil)) (blkOk_by (N := nPa)  (by kernel_rfl)) (fun _ _ _ _ _ => (by exact (pg_name (i := 9) nd rfl (Or.inl rfl)))) (fun _ _ _ _ _ => pts_nil) (fun _ _ _ _ _ => (by exact (pe_call Dw.G (hr.mono (by decide)) rfl Dw.m Dw.k Dw.b .nil pass0 (pa_cons (pv 0) (pa_cons (pv 2) pa_nil)))))))))
    (pss_one (ps_expr (pe_bm PySem.F.plainAttrs_list PySem.F.slot_list_append PySem.F.type_list_append mt_append (pv 4) (pa_cons (pe_lc (own := [("_law_row", 10)]) (g := (gName 10)) (tt := tYes) (te := (tCB (rSortedSet w) (tCons (tCB (rSetOfI K w) (tCons (tVar 10) tNil)) tNil))) rfl nd (pi_list (pv 6)) (blkOk_by (N := nPa) (sc := defScope s__law_parts) (by decide +kernel)) (fun _ _ _ _ _ => (by exact (pg_name (i := 10) nd rfl (Or.inl rfl)))) (fun _ _ _ _ _ => pts_nil) (fun _ _ _ _ _ => (by exact (pe_callB (cr_sortedSet rfl) (by rfl) T2.sorted (by decide +kernel) (pa_cons (pe_callTy (cr_setOfI rfl) (by rfl) T2.set (by decide +kernel) (pa_cons (pv 10) pa_nil)) pa_nil))))) pa_nil))))))
    (pss_cons (ps_set (i := 5) nd rfl (Or.inr rfl) (pe_ix ix_list (pe_lst (pa_cons pe_int (pa_cons pe_int (pa_cons pe_int (pa_cons pe_int pa_nil))))) (pe_call Dw.G (hr.mono (by decide)) rfl Dw.m Dw.k Dw.b .nil pass0 (pa_cons (pv 0) (pa_cons pe_int pa_nil))) (fun _ _ => rfl)))
    (pss_one (ps_ret (pe_tup (pa_cons (pv 4) (pa_cons (pe_callTy (call_dictPT rfl hu2) (by rfl) T2.dict boot_dict (pa_cons (pe_lc (own := [("_law_pair", 7)]) (g := (gName 7)) (tt := tYes) (te := (tTup (tCons (tVar 7) (tCons (tCall spOs [] E0 (tCons (tVar 0) (tCons (tVar 2) (tCons (tVar 5) tNil)))) tNil)))) rfl nd (pi_list (pe_call Ps.G (hr.mono (by decide)) rfl Ps.m Ps.k Ps.b .nil pass0 (pa_cons (pv 0) (pa_cons (pv 1) pa_nil)))) (blkOk_by (N := nPa) (sc := defScope s__law_parts) (by decide +kernel)) (fun _ _ _ _ _ => (by exact (pg_name (i := 7) nd rfl (Or.inl rfl)))) (fun _ _ _ _ _ => pts_nil) (fun _ _ _ _ _ => (by exact (pe_tup (pa_cons (pv 7) (pa_cons (pe_call Os.G (hr.mono (by decide)) rfl Os.m Os.k Os.b .nil pass0 (pa_cons (pv 0) (pa_cons (pv 2) (pa_cons (pv 5) pa_nil)))) pa_nil)))))) pa_nil)) pa_nil))))))))))), ?_⟩
  refine ⟨_, rfl, a, n, 3, rfl, hW, by omega, by decide, by decide, fun z H1 z0 z1 b1 w1 => ⟨_, _, rfl, rfl, ?_⟩⟩
  refine ⟨_, rfl, a, n + 1, 3, rfl, w1, by omega, by decide, by decide, fun y H2 y0 y1 b2 w2 => ⟨_, _, rfl, rfl, ?_⟩⟩
  refine ⟨(by show 2 ≤ sizeLine; decide), fun sz hsz => ?_⟩
  obtain ⟨k0, ek0, k01, k02⟩ : ∃ k : Nat, 1 + z = (k : Int) ∧ 1 ≤ k ∧ k ≤ 3 := ⟨(1 + z).toNat, by omega, by omega, by omega⟩
  obtain ⟨k1, ek1, k11, k12⟩ : ∃ k : Nat, 1 + y = (k : Int) ∧ 1 ≤ k ∧ k ≤ 3 := ⟨(1 + y).toNat, by omega, by omega, by omega⟩
  have s3 := same_new hsz (.lst [V.int (1 + z), V.int (1 + y)])
  have e3 := upd_same (H := H2) (a := sz) (o := .lst [V.int (1 + z), V.int (1 + y)])
  have w3 := w2.same s3
  have b3 := (b1.trans b2).trans (But.same s3)
  have nsz := (w2.ne hsz).symm
  rw [ek0, ek1] at s3 e3 w3 b3
  show gName 1 (V.ref sz) _ (upd H2 sz (.lst [V.int (1 + z), V.int (1 + y)])) _
  rw [ek0, ek1]
  generalize upd H2 sz (.lst [V.int (k0 : Int), V.int (k1 : Int)]) = H3 at s3 e3 w3 b3 ⊢
  refine ⟨_, rfl, a, _, 5, rfl, w3, by omega, by decide, by decide, fun fw H4 fw0 fw1 b4 w4 => ⟨_, _, rfl, rfl, ?_⟩⟩
  refine ⟨_, rfl, a, _, 3, rfl, w4, by omega, by decide, by decide, fun v H5 v0 v1 b5 w5 => ?_⟩
  have e5 := b5 _ _ nsz (b4 _ _ nsz e3)
  have bH := (b3.trans b4).trans b5
  refine ⟨rfl, _, rfl, ?_⟩
  by_cases hv : v = 0
  · refine iteT' (decide_eq_true (by rw [hv])) ?_
    refine ⟨_, rfl, a, _, 8, rfl, w5, by omega, by decide, by decide, fun x H6 x0 x1 b6 w6 => ⟨_, _, rfl, rfl, .inl ⟨by decide, by decide⟩, _, _, rfl, rfl, ?_⟩⟩
    obtain ⟨c, ec, c1, c2⟩ : ∃ c : Nat, 1 + 2 * x = (c : Int) ∧ 1 ≤ c ∧ c ≤ 15 := ⟨(1 + 2 * x).toNat, by omega, by omega, by omega⟩
    show gName 3 (V.int (1 + 2 * x)) _ _ _
    rw [ec]
    have e6 := b6 _ _ nsz e5
    have bH6 := bH.trans b6
    refine ⟨(by show 1 ≤ sizeLine; decide), fun r0 hr0 => ⟨(by show 1 ≤ sizeLine; decide), fun o0 ho0 => ?_⟩⟩
    have s7 := same_new hr0 (.lst [V.int 0])
    have s8 := same_new ho0 (.lst [V.ref r0])
    have w8 := (w6.same s7).same s8
    have nr0 := (w6.ne hr0).symm
    have er0 := s8 _ _ (upd_same (H := H6) (a := r0) (o := .lst [V.int 0]))
    refine ⟨_, rfl, sz, _, _, _, rfl, rfl, SqL.of ((s7.trans s8) _ _ e6), rfl, o0, (k0 : Int), [V.ref r0], rfl, rfl, upd_same, by omega, by omega, (by rw [sizeLine_eq]; show 1 * (k0 : Int).toNat ≤ _; omega), fun m0 hm0 => ?_⟩
    rw [Int.toNat_natCast, rep_one]
    have s9 := same_new hm0 (.lst (List.replicate k0 (V.ref r0)))
    have s69 := (s7.trans s8).trans s9
    have er0 := s9 _ _ er0
    have nm0 := (w8.ne hm0).symm
    have w9 := w8.same s9
    have em0 := upd_same (H := upd (upd H6 r0 (.lst [V.int 0])) o0 (.lst [V.ref r0])) (a := m0) (o := .lst (List.replicate k0 (V.ref r0)))
    generalize upd (upd (upd H6 r0 (.lst [V.int 0])) o0 (.lst [V.ref r0])) m0 (.lst (List.replicate k0 (V.ref r0))) = H9 at s69 er0 w9 em0 ⊢
    refine ⟨_, rfl, (by show 1 ≤ sizeLine; decide), fun r1 hr1 => ⟨(by show 1 ≤ sizeLine; decide), fun o1 ho1 => ?_⟩⟩
    have s10 := same_new hr1 (.lst [V.int (c : Int)])
    have s11 := same_new ho1 (.lst [V.ref r1])
    have w11 := (w9.same s10).same s11
    have nr1 := (w9.ne hr1).symm
    have er1 := s11 _ _ (upd_same (H := H9) (a := r1) (o := .lst [V.int (c : Int)]))
    refine ⟨_, rfl, sz, _, _, _, rfl, rfl, SqL.of ((s10.trans s11) _ _ (s69 _ _ e6)), rfl, o1, (k1 : Int), [V.ref r1], rfl, rfl, upd_same, by omega, by omega, (by rw [sizeLine_eq]; show 1 * (k1 : Int).toNat ≤ _; omega), fun m1 hm1 => ⟨(by show 2 ≤ sizeLine; decide), fun AL hAL => ?_⟩⟩
    rw [Int.toNat_natCast, rep_one] at hAL ⊢
    have s12 := same_new hm1 (.lst (List.replicate k1 (V.ref r1)))
    have w12 := w11.same s12
    have nm1 := (w11.ne hm1).symm
    have em1 := upd_same (H := upd (upd H9 r1 (.lst [V.int (c : Int)])) o1 (.lst [V.ref r1])) (a := m1) (o := .lst (List.replicate k1 (V.ref r1)))
    have er1 := s12 _ _ er1
    have s912 := (s10.trans s11).trans s12
    generalize upd (upd (upd H9 r1 (.lst [V.int (c : Int)])) o1 (.lst [V.ref r1])) m1 (.lst (List.replicate k1 (V.ref r1))) = H12 at s912 er1 w12 em1 hAL ⊢
    have s13 := same_new hAL (.lst [V.ref m0, V.ref m1])
    have nAL := (w12.ne hAL).symm
    have s613 := (s69.trans s912).trans s13
    have w13 := w12.same s13
    have sv := s912.trans s13
    have hA : AlAt (vw (pA a) (upd H12 AL (.lst [V.ref m0, V.ref m1]))) (.ref AL) (fun h => if h = 0 then List.replicate k0 [0] else List.replicate k1 [(c : Int)]) :=
      ⟨AL, _, _, rfl, vw_put (pA_ok.mpr nAL) upd_same, ⟨m0, _, rfl, vw_put (pA_ok.mpr nm0) (sv _ _ em0), a2_rep ⟨r0, rfl, vw_put (pA_ok.mpr nr0) (sv _ _ er0)⟩ k0⟩, ⟨m1, _, rfl, vw_put (pA_ok.mpr nm1) (s13 _ _ em1), a2_rep ⟨r1, rfl, vw_put (pA_ok.mpr nr1) (s13 _ _ er1)⟩ k1⟩⟩
    generalize upd H12 AL (.lst [V.ref m0, V.ref m1]) = H13 at s613 w13 hA ⊢
    refine parts_tail rfl rfl rfl (fun _ => rfl) (fun _ => rfl) (fun x H' n' Q' w' hn' k => ?_) w13 (by omega) (s613 _ _ e6) nsz k01 k02 k11 k12 hA List.length_replicate List.length_replicate (fun h hh r hr => ?_) fun r d T H' b w er nr pk => q r AL d T H' (bH6.trans ((But.same s613).trans b)) (w.up (by omega)) er nr pk
    · exact ⟨_, rfl, _, rfl, a, n', c, rfl, w', by omega, c1, c2, k⟩
    · have okc : okRow [(c : Int)] := ⟨(by show 1 ≤ 1; decide), (by show 1 ≤ 60; decide), List.pairwise_singleton _ _, fun x hx => by
        obtain rfl := List.mem_singleton.mp hx
        exact ⟨by omega, by omega⟩⟩
      have ok0 : okRow [0] := ⟨(by show 1 ≤ 1; decide), (by show 1 ≤ 60; decide), List.pairwise_singleton _ _, fun x hx => by
        obtain rfl := List.mem_singleton.mp hx
        exact ⟨by decide, by decide⟩⟩
      have hr : r ∈ if h = 0 then List.replicate k0 [0] else List.replicate k1 [(c : Int)] := hr
      split at hr
      · rw [(List.mem_replicate.mp hr).2]
        exact ⟨ok0, (by show 1 ≤ 3; decide)⟩
      · rw [(List.mem_replicate.mp hr).2]
        exact ⟨okc, (by show 1 ≤ 3; decide)⟩
  · refine iteF' (decide_eq_false fun z => hv (by injection z)) ?_
    obtain ⟨fm, efm, fm0, fm1⟩ : ∃ fm : Int, 2 + fw = fm ∧ 0 < fm ∧ fm ≤ 64 := ⟨_, rfl, by omega, by omega⟩
    show tNext _ [some (.ref a), some (.ref sz), some (.int (2 + fw)), none, none, none, none, none, none, none, none] H5
    rw [efm]
    refine ⟨(by show 0 ≤ sizeLine; decide), fun AL hAL => ?_⟩
    have sA := same_new hAL (.lst [])
    have nAL := (w5.ne hAL).symm
    have nsA : sz ≠ AL := ne_of_none e5 hAL
    have fAL : H5 AL = none := hAL
    refine ⟨_, rfl, sz, rfl, ⟨_, SqL.of (sA _ _ e5)⟩, for_list (xs := [V.int (k0 : Int), V.int (k1 : Int)]) (fun i σ H' => ∃ g5 g6 qs rowss, σ = [some (.ref a), some (.ref sz), some (.int fm), none, some (.ref AL), g5, g6, none, none, none, none] ∧ But a H5 H' ∧ WellAt H' a (n + 4 + 20 * i) ∧ H' AL = some (.lst (qs.map V.ref)) ∧ A2 (RsAt a AL H') qs rowss ∧ qs.length = i ∧ (∀ rows ∈ rowss, ∀ r ∈ rows, okR2 r) ∧ rowss.map List.length = [k0, k1].take i) ⟨none, none, [], [], rfl, But.same sA, (w5.same sA).up (by omega), upd_same, .nil, rfl, fun _ h => (nomatch h), rfl⟩ ?_ ?_ ?_⟩
    · rintro i σ H' _ ⟨_, _, _, _, _, b, _⟩
      exact SqL.of (b _ _ nsz e5)
    · rintro i x σ H6 hx ⟨g5, g6, qs, rowss, rfl, b6, w6, eAL, hq, lq, okr, el⟩
      obtain ⟨k, rfl, ka, kb, eN⟩ : ∃ k : Nat, x = .int (k : Int) ∧ 1 ≤ k ∧ k ≤ 3 ∧ [k0, k1].take (i + 1) = [k0, k1].take i ++ [k] := by
        rcases i with _ | _ | i
        · exact ⟨k0, (Option.some.inj hx).symm, k01, k02, rfl⟩
        · exact ⟨k1, (Option.some.inj hx).symm, k11, k12, rfl⟩
        · cases hx
      have i2 : i < 2 := (List.getElem?_eq_some_iff.mp hx).1
      refine ⟨_, rfl, (k : Int), rfl, by omega, by omega, fun R hR => ?_⟩
      rw [Int.toNat_natCast]
      have nR := (w6.ne hR).symm
      refine range_turns (n := k) (fun j H' => But a H6 H' ∧ WellAt H' a (n + 4 + 20 * i + 4 * j) ∧ ∃ (ps : List Addr) (rws : List (List Int)), H' R = some (.lst (ps.map V.ref)) ∧ ps.length = j ∧ A2 (RwAt a R H') ps rws ∧ ∀ r ∈ rws, okR1 r) ⟨But.same (same_new hR _), (w6.same (same_new hR _)).up (by omega), [], [], upd_same, rfl, .nil, fun _ h => (nomatch h)⟩ ?_ ?_
      · rintro j H7 hj ⟨b7, w7, ps, rws, eR, lps, hrw, ok1⟩
        refine ⟨rfl, ?_⟩
        refine ⟨_, rfl, a, _, 3, rfl, w7, by omega, by decide, by decide, fun z H8 z0 z1 b8 w8 => ⟨_, _, rfl, rfl, ?_⟩⟩
        refine ⟨1 + z, rfl, by omega, by omega, fun Lk hLk => ?_⟩
        obtain ⟨kk, ekk, kk1, kk3⟩ : ∃ kk : Nat, 1 + z = (kk : Int) ∧ 1 ≤ kk ∧ kk ≤ 3 := ⟨(1 + z).toNat, by omega, by omega, by omega⟩
        rw [ekk, Int.toNat_natCast]
        have nL := (w8.ne hLk).symm
        refine range_turns (n := kk) (fun m H' => But a H8 H' ∧ WellAt H' a (n + 4 + 20 * i + 4 * j + 1 + m) ∧ ∃ ns : List Int, H' Lk = some (.lst (ns.map V.int)) ∧ ns.length = m ∧ ∀ x ∈ ns, 0 ≤ x ∧ x < 64) ⟨But.same (same_new hLk _), (w8.same (same_new hLk _)).up (by omega), [], upd_same, rfl, fun _ h => (nomatch h)⟩ ?_ ?_
        · rintro m H9 hm ⟨b9, w9, ns, eL, lns, bd⟩
          refine ⟨rfl, _, rfl, _, rfl, a, _, fm, rfl, w9, by omega, fm0, by omega, fun y H10 y0 y1 b10 w10 => ?_⟩
          refine ⟨_, b10 _ _ nL eL, ?_, (b9.trans b10).new hLk, (w10.but (Ne.symm nL) But.at).up (by omega), ns ++ [y], by rw [upd_same, List.map_append]; rfl, by rw [List.length_append, lns]; rfl, fun x hx => ?_⟩
          · rw [List.length_map, lns]
            exact Nat.lt_of_lt_of_le (show m < 100 by omega) (by decide)
          · rcases List.mem_append.mp hx with hx | hx
            · exact bd x hx
            · rw [List.mem_singleton.mp hx]
              omega
        rintro H9 ⟨b9, w9, ns, eL, lns, bd⟩
        have b79 := b8.trans b9
        have eR9 := b79 _ _ nR eR
        have nLR : Lk ≠ R := fun c => by rw [c, b8 _ _ nR eR] at hLk; cases hLk
        have hR6 : H6 R = none := hR
        refine ⟨_, eR9, ?_, (b7.trans b79).new hR6, (w9.but (Ne.symm nR) But.at).up (by omega), ps ++ [Lk], rws ++ [ns], by rw [upd_same, List.map_append]; rfl, by rw [List.length_append, lps]; rfl, (hrw.imp fun _ _ r => (r.but b79).upd).snoc ⟨nL, nLR, by rw [upd_ne nLR]; exact eL⟩, fun r hr => ?_⟩
        · rw [List.length_map, lps]
          exact Nat.lt_of_lt_of_le (show j < 100 by omega) (by decide)
        · rcases List.mem_append.mp hr with hr | hr
          · exact ok1 r hr
          · rw [List.mem_singleton.mp hr]
            exact ⟨by omega, by omega, bd⟩
      rintro H7 ⟨b7, w7, ps, rws, eR, lps, hrw, ok1⟩
      have eAL7 := b7 _ _ nAL eAL
      have nRA : R ≠ AL := fun c => by rw [c, eAL] at hR; cases hR
      refine ⟨_, rfl, .inl ⟨rfl, _, SqL.of eAL7⟩, _, rfl, R, rfl, ⟨_, SqL.of eR⟩, fun S hS => ?_⟩
      refine list_turns (xs := ps.map V.ref) (fun j H' => Same H7 H' ∧ ∃ (ss : List Addr) (sws : List (List Int)), H' S = some (.lst (ss.map V.ref)) ∧ ss.length = j ∧ A2 (fun p r => p ≠ AL ∧ RwAt a S H' p r) ss sws ∧ ∀ r ∈ sws, okR2 r) ⟨same_new hS _, [], [], upd_same, rfl, .nil, fun _ h => (nomatch h)⟩ (fun j H' _ h => SqL.of (h.1 _ _ eR)) ?_ ?_
      · rintro j x H8 hx ⟨s8, ss, sws, eS, lss, hsw, ok2⟩
        rw [List.getElem?_map] at hx
        obtain ⟨p, hp, rfl⟩ := Option.map_eq_some_iff.mp hx
        obtain ⟨r, hr, rw1⟩ := hrw.get hp
        have ok := ok1 r (List.mem_of_getElem? hr)
        have ok2_ := ok.2.1
        have jl := (List.getElem?_eq_some_iff.mp hp).1
        refine ⟨rfl, _, rfl, p, r, rfl, SqL.of (s8 _ _ rw1.2.2), by omega, fun sa c hsa hc => ?_⟩
        have s9 := same_new hsa (SetO w sa (fun j => decide (j ∈ r)) c)
        refine ⟨sa, _, c, rfl, upd_same, by omega, fun ns l pw mem len hl => ?_⟩
        have s10 := same_new hl (.lst (ns.map V.int))
        have s810 := s9.trans s10
        have nlA : l ≠ AL := (ne_of_none (s9 _ _ (s8 _ _ eAL7)) hl).symm
        have nla : l ≠ a := (((w7.same s8).same s9).ne hl).symm
        have nlS : l ≠ S := (ne_of_none (s9 _ _ eS) hl).symm
        refine ⟨_, s810 _ _ eS, ?_, same_upd (s8.trans s810) hS, ss ++ [l], sws ++ [ns], by rw [upd_same, List.map_append]; rfl, by rw [List.length_append, lss]; rfl, (hsw.imp fun _ _ h => ⟨h.1, (h.2.but (But.same s810)).upd⟩).snoc ⟨nlA, nla, nlS, by rw [upd_ne nlS]; exact upd_same⟩, fun r' hr' => ?_⟩
        · rw [List.length_map, lss]
          exact Nat.lt_of_lt_of_le (show j < 100 by omega) (by decide)
        · rcases List.mem_append.mp hr' with hr' | hr'
          · exact ok2 r' hr'
          · rw [List.mem_singleton.mp hr']
            refine ⟨?_, by omega, pw, fun x hx => ?_⟩
            · obtain ⟨x, hx⟩ : ∃ x, x ∈ r := by
                cases r with
                | nil => exact absurd ok.1 (by simp)
                | cons x _ => exact ⟨x, List.mem_cons_self⟩
              exact List.length_pos_of_mem ((mem x).mpr (decide_eq_true hx))
            · have := ok.2.2 x (of_decide_eq_true ((mem x).mp hx))
              exact ⟨by omega, by omega⟩
      rintro H8 ⟨s8, ss, sws, eS, lss, hsw, ok2⟩
      have nSa : S ≠ a := (w7.ne hS).symm
      have nSA : S ≠ AL := (ne_of_none eAL7 hS).symm
      have b68 := b7.trans (But.same s8)
      rw [List.length_map] at lss
      refine ⟨AL, _, .ref S, rfl, rfl, s8 _ _ eAL7, ?_, _, _, qs ++ [S], rowss ++ [sws], rfl, (b6.trans b68).new fAL, ((w7.same s8).but (Ne.symm nAL) But.at).up (by omega), by rw [upd_same, List.map_append]; rfl, (hq.imp fun _ _ h => (h.but b68).upd).snoc ⟨nSa, nSA, ss, by rw [upd_ne nSA]; exact eS, hsw.imp fun _ _ h => ⟨h.2.1, h.1, by rw [upd_ne h.1]; exact h.2.2.2⟩⟩, by rw [List.length_append, lq]; rfl, fun rows hr => ?_, ?_⟩
      · rw [List.length_map, lq]
        exact Nat.lt_of_lt_of_le (show i < 100 by omega) (by decide)
      · rcases List.mem_append.mp hr with hr | hr
        · exact okr rows hr
        · rw [List.mem_singleton.mp hr]
          exact ok2
      · rw [eN, ← el, List.map_append, List.map_singleton, ← hsw.len, lss, lps]
    · rintro σ H6 ⟨g5, g6, qs, rowss, rfl, b6, w6, eAL, hq, lq, okr, el⟩
      obtain ⟨q0, q1, rfl⟩ : ∃ q0 q1, qs = [q0, q1] := by
        match qs, lq with
        | [q0, q1], _ => exact ⟨q0, q1, rfl⟩
      obtain ⟨ra, rb, rfl, h0, h1⟩ : ∃ ra rb, rowss = [ra, rb] ∧ RsAt a AL H6 q0 ra ∧ RsAt a AL H6 q1 rb := by
        cases hq with
        | cons h0 h =>
          cases h with
          | cons h1 h =>
            cases h
            exact ⟨_, _, rfl, h0, h1⟩
      have el : [ra.length, rb.length] = [k0, k1] := el
      injection el with l0 el
      injection el with l1 _
      have w6 : WellAt H6 a (n + 44) := w6.up (by show n + 4 + 20 * ((2 : Nat) : Int) ≤ n + 44; omega)
      refine ⟨(by show 4 ≤ sizeLine; decide), fun ls hls => ⟨_, rfl, a, _, 4, rfl, w6.same (same_new hls _), by omega, by decide, by decide, fun r H8 r0 r1 b8 w8 => ?_⟩⟩
      have nls := (w6.ne hls).symm
      have els := b8 _ _ nls (upd_same (H := H6) (a := ls) (o := .lst [V.int 2, V.int 4, V.int 6, V.int 12]))
      have b68 := (But.same (same_new hls (.lst [V.int 2, V.int 4, V.int 6, V.int 12]))).trans b8
      obtain ⟨c, hc, c0, c1⟩ : ∃ c : Int, atI [V.int 2, V.int 4, V.int 6, V.int 12] r = some (.int c) ∧ 0 < c ∧ c ≤ 12 := by
        obtain rfl | rfl | rfl | rfl : r = 0 ∨ r = 1 ∨ r = 2 ∨ r = 3 := by omega
        · exact ⟨2, rfl, by decide, by decide⟩
        · exact ⟨4, rfl, by decide, by decide⟩
        · exact ⟨6, rfl, by decide, by decide⟩
        · exact ⟨12, rfl, by decide, by decide⟩
      refine ⟨ls, _, _, _, rfl, rfl, SqL.of els, hc, ?_⟩
      have hA : AlAt (vw (pA a) H8) (.ref AL) (fun h => if h = 0 then ra else rb) := ⟨AL, _, _, rfl, vw_put (pA_ok.mpr nAL) (b68 _ _ nAL eAL), (h0.but b68).rows, (h1.but b68).rows⟩
      have b58 := b6.trans b68
      refine parts_tail rfl rfl rfl (fun _ => rfl) (fun _ => rfl) (fun x H' n' Q' w' hn' k => ?_) w8 (by omega) (b58 _ _ nsz e5) nsz k01 k02 k11 k12 hA l0 l1 (fun h hh r hr => ?_) fun r d T H' b w er nr pk => q r AL d T H' (bH.trans (b58.trans b)) (w.up (by omega)) er nr pk
      · exact ⟨_, rfl, _, rfl, _, rfl, a, n', fm, c, rfl, w', by omega, fm0, fm1, c0, c1, fun l ls H'' b w fl hl ok => k l ls H'' b w fl hl ⟨ok.1, by have := ok.2.1; omega, ok.2.2⟩⟩
      · have hr : r ∈ if h = 0 then ra else rb := hr
        have ok : okR2 r := by
          split at hr
          · exact okr ra List.mem_cons_self r hr
          · exact okr rb (List.mem_cons_of_mem _ List.mem_cons_self) r hr
        exact ⟨⟨ok.1, by have := ok.2.1; omega, ok.2.2⟩, ok.2.1⟩
end
end TA

set_option Elab.async false
set_option maxRecDepth 100000
set_option maxHeartbeats 4000000
set_option linter.unusedVariables false
namespace TA
open PySem L2 PyProof.Rows
/-! no way is longer than there are ties; the law's floors, by outputs -/
theorem Lst.pred {D : List (Pt × Pt)} {a b : Pt} {k : Nat} (h : Lst D a b (k + 1)) : ∃ q, Lst D a q k ∧ (q, b) ∈ D := by
  obtain ⟨⟨ps, l, w⟩, no⟩ := h
  obtain ⟨q, qs, l2, w2, m⟩ := Way.unsnoc ps a b k w l
  refine ⟨q, ⟨⟨qs, l2, w2⟩, fun j lj r => ?_⟩, m⟩
  obtain ⟨rs, l3, w3⟩ := r
  exact no (j + 1) (Nat.succ_lt_succ lj) ⟨rs ++ [b], by rw [List.length_append, l3]; rfl, w3.snoc m⟩
theorem Lst.few {D : List (Pt × Pt)} {a b : Pt} {k : Nat} (h : Lst D a b k) : k ≤ D.length := by
  have go : ∀ (k : Nat) (b : Pt), Lst D a b k → ∃ ps : List Pt, ps.length = k ∧ ps.Nodup ∧ ∀ p ∈ ps, p ∈ D.map (·.2) ∧ ∃ j, j ≤ k ∧ Lst D a p j := by
    intro k
    induction k with
    | zero => exact fun b _ => ⟨[], rfl, List.nodup_nil, fun p hp => (nomatch hp)⟩
    | succ k ih =>
      intro b h
      obtain ⟨q, hq, m⟩ := h.pred
      obtain ⟨ps, l, nd, ok⟩ := ih q hq
      refine ⟨b :: ps, by rw [List.length_cons, l], List.nodup_cons.mpr ⟨fun z => ?_, nd⟩, fun p hp => ?_⟩
      · obtain ⟨_, j, lj, hj⟩ := ok b z
        have := hj.one h
        omega
      · rcases List.mem_cons.mp hp with rfl | hp
        · exact ⟨List.mem_map_of_mem (f := (·.2)) m, k + 1, Nat.le_refl _, h⟩
        · obtain ⟨m1, j, lj, hj⟩ := ok p hp
          exact ⟨m1, j, Nat.le_succ_of_le lj, hj⟩
  obtain ⟨ps, l, nd, ok⟩ := go k b h
  rw [← l, ← List.length_map (f := (·.2)) (as := D)]
  exact nodup_len nd fun p hp => (ok p hp).1
theorem LstO.few {outs : List Pt} {x y : Int} {k : Nat} (h : LstO outs x y k) : k ≤ 2 * outs.length := by
  have := Lst.few h
  rwa [dirs_len] at this
theorem LstO.from {outs : List Pt} {x y : Int} {k : Nat} (h : LstO outs x y k) : ∃ o ∈ outs, o.1 = x := by
  obtain ⟨⟨q, hq⟩, _⟩ := h.1.tied (fun _ _ => dirs_symm) (fun c => by have := (Prod.mk.inj c).1; omega)
  obtain ⟨o, ho, ⟨e, _⟩ | ⟨e, _⟩⟩ := mem_dirs.mp hq
  · exact ⟨o, ho, (Prod.mk.inj e).2.symm⟩
  · have := (Prod.mk.inj e).1
    omega
/-- both ties of a pair of outputs, at once -/
theorem BeyD.pair {met floor : List Pt} {l : List Pt} {b : List Pt} (h : BeyD met floor (dirs l) b) (o : Pt) :
    BeyD met floor (dirs (l ++ [o])) (if (1, o.2) ∈ floor ∧ (0, o.1) ∉ met ++ (if (0, o.1) ∈ floor ∧ (1, o.2) ∉ met ++ b then b ++ [(1, o.2)] else b) then (if (0, o.1) ∈ floor ∧ (1, o.2) ∉ met ++ b then b ++ [(1, o.2)] else b) ++ [(0, o.1)] else (if (0, o.1) ∈ floor ∧ (1, o.2) ∉ met ++ b then b ++ [(1, o.2)] else b)) := by
  rw [dirs_snoc]
  exact (h.snoc (0, o.1) (1, o.2)).snoc (1, o.2) (0, o.1)
/-- lists of points in the heap -/
theorem any_pairs (L : List Pt) (p : Pt) : (L.map pairD).any (fun z => PyData.eqv z (pairD p)) = decide (p ∈ L) := by
  rw [List.any_map]
  induction L with
  | nil => rfl
  | cons q r ih =>
    rw [List.any_cons, ih]
    show (PyData.eqv (pairD q) (pairD p) || _) = _
    rw [eqv_pair, Bool.eq_iff_iff]
    simp only [Bool.or_eq_true, decide_eq_true_eq, List.mem_cons]
    exact ⟨fun h => h.imp Eq.symm id, fun h => h.imp Eq.symm id⟩
theorem in_let {K : PySem.W.Frag} {H : Hp} {b : Addr} {L : List Pt} {v : V} {p : Pt} {Q : VK} (hl : LetAt H (.ref b) L) (hp : TpAt H v p) (q : Q (.bl (decide (p ∈ L))) H) : rInD K v (.ref b) H Q :=
  ⟨pairD p, L.map pairD, hp.dp, hl.dp, (okD_pair p).shaped (by decide), (okD_pairs L).shaped (by decide), by rw [any_pairs]; exact q⟩
theorem notIn_let {K : PySem.W.Frag} {H : Hp} {b : Addr} {L : List Pt} {v : V} {p : Pt} {Q : VK} (hl : LetAt H (.ref b) L) (hp : TpAt H v p) (q : Q (.bl (!decide (p ∈ L))) H) : rNotInD K v (.ref b) H Q :=
  ⟨pairD p, L.map pairD, hp.dp, hl.dp, (okD_pair p).shaped (by decide), (okD_pairs L).shaped (by decide), by rw [any_pairs]; exact q⟩
theorem eq_let {K : PySem.W.Frag} {H : Hp} {v u : V} {l m : List Pt} {Q : VK} (hl : LetAt H v l) (hm : LetAt H u m) (q : Q (.bl (decide (l = m))) H) : rEqD K v u H Q :=
  ⟨letD l, letD m, hl.dp, hm.dp, (okD_pairs l).shaped (by decide), (okD_pairs m).shaped (by decide), by rw [eqv_let]; exact q⟩
theorem let_cat {H : Hp} {a p : Addr} {L M : List Pt} {xs zs : List V} (h1 : H a = some (.lst xs)) (h2 : A2 (TpAt H) xs L) (h3 : A2 (TpAt H) zs M) (hp : H p = none) : LetAt (upd H p (.lst (xs ++ zs))) (.ref p) (L ++ M) := by
  have s := same_new hp (.lst (xs ++ zs))
  have go : ∀ {xs zs : List V} {L M : List Pt}, A2 (TpAt H) xs L → A2 (TpAt H) zs M → A2 (TpAt H) (xs ++ zs) (L ++ M) := by
    intro xs zs L M h1 h2
    induction h1 with
    | nil => exact h2
    | cons a _ ih => exact .cons a ih
  exact ⟨p, _, rfl, upd_same, (go h2 h3).imp fun _ _ r => r.mono (.same s)⟩
end TA

set_option Elab.async false
set_option maxRecDepth 100000
set_option maxHeartbeats 4000000
namespace TA
open PySem L2 PyProof.Rows
set_option linter.unusedVariables false
def spFar : Sp := fun vs H Q _ => ∃ (b : Addr) (x y : Int) (outs : List Pt), vs = [.ref b, .int x, .int y] ∧ LetAt H (.ref b) outs ∧ outs.length ≤ 200 ∧ (∀ H', Same H H' → (∀ k, ¬ LstO outs x y k) → Q .non H') ∧ ∀ (k : Nat) (H' : Hp), Same H H' → LstO outs x y k → Q (.int (k : Int)) H'
theorem tp_upd {H : Hp} {L : Addr} {xs ys : List V} (e : H L = some (.lst xs)) {v : V} {q : Pt} (h : TpAt H v q) : TpAt (upd H L (.lst ys)) v q := tp_put e (fun xs c => nomatch c) h
theorem len_step {α : Type} {c : Prop} [Decidable c] {b : List α} {v : α} : (if c then b ++ [v] else b).length ≤ b.length + 1 := by
  split
  · rw [List.length_append]; exact Nat.le_refl _
  · exact Nat.le_succ _
/-- one of the two questions of a turn: what is beyond grows, or not -/
theorem far_step {K : PySem.W.Frag} {D : Ends} {Hb H : Hp} {a0 a1 a2 a5 g7 g8 g9 : Option V} {i j : Nat} {c d u v : Int} {lm lf lb : Addr} {met floor b : List Pt}
    (ei : [a0, a1, a2, some (.ref lm), some (.ref lf), a5, some (.ref lb), g7, g8, g9][i]? = some (some (.int u))) (ej : [a0, a1, a2, some (.ref lm), some (.ref lf), a5, some (.ref lb), g7, g8, g9][j]? = some (some (.int v)))
    (hm : LetAt Hb (.ref lm) met) (hf : LetAt Hb (.ref lf) floor) (s : Same Hb H) (fb : Hb lb = none) (hb : LetAt H (.ref lb) b) (lM : met.length ≤ 200000) (lB : b.length ≤ 2000)
    (k : ∀ H' b', Same Hb H' → LetAt H' (.ref lb) b' → b' = (if ((c, u) : Pt) ∈ floor ∧ ((d, v) : Pt) ∉ met ++ b then b ++ [(d, v)] else b) → D.nx [a0, a1, a2, some (.ref lm), some (.ref lf), a5, some (.ref lb), g7, g8, g9] H') :
    tIfS (tAnd (tTest (tOp (rInD K) (tTup (tCons (tC (.int c)) (tCons (tVar i) tNil))) (tVar 4))) (tTest (tOp (rNotInD K) (tTup (tCons (tC (.int d)) (tCons (tVar j) tNil))) (tOp rCat (tVar 3) (tVar 6)))))
      (tDrop (tBM K "list" rAppend (tVar 6) (tCons (tTup (tCons (tC (.int d)) (tCons (tVar j) tNil))) tNil))) tNext D [a0, a1, a2, some (.ref lm), some (.ref lf), a5, some (.ref lb), g7, g8, g9] H := by
  refine ⟨_, ei, (by show 2 ≤ sizeLine; decide), fun t ht => ⟨_, rfl, ?_⟩⟩
  have s1 := same_new ht (.tup [V.int c, V.int u])
  have e1 : TpAt (upd H t (.tup [V.int c, V.int u])) (.ref t) (c, u) := ⟨t, rfl, upd_same⟩
  have sA := s.trans s1
  have hb1 := LetAt.mono (.same s1) hb
  generalize upd H t (.tup [V.int c, V.int u]) = H1 at s1 e1 sA hb1 ⊢
  refine in_let (LetAt.mono (.same sA) hf) e1 ⟨_, rfl, ?_⟩
  by_cases c1 : ((c, u) : Pt) ∈ floor
  · refine iteT' (decide_eq_true c1) ?_
    refine ⟨_, ej, (by show 2 ≤ sizeLine; decide), fun t2 ht2 => ?_⟩
    have s2 := same_new ht2 (.tup [V.int d, V.int v])
    have e2 : TpAt (upd H1 t2 (.tup [V.int d, V.int v])) (.ref t2) (d, v) := ⟨t2, rfl, upd_same⟩
    have sB := sA.trans s2
    have hb2 := LetAt.mono (.same s2) hb1
    generalize upd H1 t2 (.tup [V.int d, V.int v]) = H2 at s2 e2 sB hb2 ⊢
    obtain ⟨_, xm, e0, em, am⟩ := LetAt.mono (.same sB) hm
    cases e0
    obtain ⟨_, xb, e0, eb, ab⟩ := id hb2
    cases e0
    have l1 := am.len
    have l2 := ab.len
    refine ⟨_, rfl, _, rfl, lm, lb, xm, xb, rfl, rfl, em, eb, Nat.le_trans (show _ ≤ 202000 by omega) (by decide), fun q hq => ?_⟩
    have s3 := same_new hq (.lst (xm ++ xb))
    refine notIn_let (b := q) (let_cat em am ab hq) (e2.mono (.same s3)) ⟨_, rfl, ?_⟩
    have hb3 := LetAt.mono (.same s3) hb2
    have sC := sB.trans s3
    generalize upd H2 q (.lst (xm ++ xb)) = H3 at s3 hb3 sC ⊢
    by_cases c2 : ((d, v) : Pt) ∈ met ++ b
    · refine iteF' (by rw [decide_eq_true c2]; rfl) ?_
      exact k _ _ sC hb3 (by rw [if_neg fun z => z.2 c2])
    · refine iteT' (by rw [decide_eq_false c2]; rfl) ?_
      obtain ⟨_, xb, e0, eb, ab⟩ := id hb3
      cases e0
      have l3 := ab.len
      refine ⟨_, rfl, .inl ⟨rfl, _, SqL.of eb⟩, _, ej, (by show 2 ≤ sizeLine; decide), fun t3 ht3 => ?_⟩
      have s4 := same_new ht3 (.tup [V.int d, V.int v])
      have e3 : TpAt (upd H3 t3 (.tup [V.int d, V.int v])) (.ref t3) (d, v) := ⟨t3, rfl, upd_same⟩
      have eb4 := s4 _ _ eb
      refine ⟨lb, xb, _, rfl, rfl, eb4, Nat.lt_of_le_of_lt (show xb.length ≤ 2000 by omega) (by decide), k _ _ (same_upd (sC.trans s4) fb) ⟨lb, _, rfl, upd_same, ((ab.imp fun _ _ r => tp_upd eb4 (r.mono (.same s4))).snoc (tp_upd eb4 e3))⟩ (by rw [if_pos ⟨c1, c2⟩])⟩
  · refine iteF' (decide_eq_false c1) (iteF' rfl ?_)
    exact k _ _ sA hb1 (by rw [if_neg fun z => c1 z.1])
section
variable {P : Program} {w : World} {K : PySem.W.Frag} {mg : Str → Option Value} {base : Heap}
abbrev nFr : List Str := ["_law_outs_here", "_law_x", "_law_y", "_law_met", "_law_floor", "_law_ties", "_law_beyond", "_law_one", "_law_other", "_law_out"]
theorem sc_fr : FnScope nFr ["_law_outs_here", "_law_x", "_law_y"] (defScope s__law_far) := ⟨rfl, rfl, rfl, by decide +kernel, rfl, by decide +kernel, by decide +kernel⟩
theorem ok_lfar {f : Addr} {fd : FuncData} (F : Fun K "_law_far" "_law_far" s__law_far f fd) (T : Txt K mg) : FnOk P w K mg base CX0 1 f fd ["_law_outs_here", "_law_x", "_law_y"] spFar := by
  refine F.ok sc_fr (fun vs H Q E h => ?_) (fun cdv A outer s H vs Q E hr h => ?_)
  · obtain ⟨b, x, y, outs, rfl, _⟩ := h
    rfl
  obtain ⟨b, x, y, outs, rfl, hL, hl, q0, q1⟩ := h
  have nd := sc_fr.nd
  have hu := hu_of hr
  have hu65 := hu65_of hr
  refine ⟨_, (pss_cons (ps_set (i := 3) nd rfl (Or.inl rfl) (pe_lst (pa_cons (pe_tup (pa_cons pe_int (pa_cons (pv 1) pa_nil))) pa_nil)))
    (pss_cons (ps_if (pt_cmpR (op_eqD hr.units) (pe_lc (own := [("_law_out", 9)]) (g := (gName 9)) (tt := (tTest (tOp rEq (tOp (rIxT K) (tVar 9) (tC (.int 0))) (tVar 1)))) (te := (tVar 9)) rfl nd (pi_list (pv 0)) (blkOk_by (N := nFr) (sc := defScope s__law_far) (by decide +kernel)) (fun _ _ _ _ _ => (by exact (pg_name (i := 9) nd rfl (Or.inl rfl)))) (fun _ _ _ _ _ => pts_one (by exact (pt_cmpR op_eq (pe_ix ix_tup (pv 9) pe_int (fun _ _ => rfl)) (pv 1) (nomark _)))) (fun _ _ _ _ _ => (by exact (pv 9)))) (pe_lst pa_nil) (nomark _))
      (pss_one (ps_ret pe_non))
      pss_nil)
    (pss_cons (ps_set (i := 4) nd rfl (Or.inl rfl) (pv 3))
    (pss_cons (ps_for PassesOwn.never (by rfl) (pi_range2 (by rfl) T.range (pa_cons pe_int (pa_cons (pe_op op_add (pe_op op_mul pe_int (pe_callB call_len_seq (by rfl) T.len PySem.boot_len (pa_cons (pv 0) pa_nil))) pe_int) pa_nil))) (pg_name (i := 5) nd rfl (Or.inl rfl))
      (pss_cons (ps_set (i := 6) nd rfl (Or.inl rfl) (pe_lst pa_nil))
    (pss_cons (ps_for PassesOwn.never (by rfl) (pi_list (pv 0)) (pg_tup (by rfl) (pgs_cons (pg_name (i := 7) nd rfl (Or.inl rfl)) (pgs_cons (pg_name (i := 8) nd rfl (Or.inl rfl)) pgs_nil)))
      (pss_cons (ps_if (PW.pt (pw_and (pt_cmpR (op_inD hu65) (pe_tup (pa_cons pe_int (pa_cons (pv 7) pa_nil))) (pv 4) (by rfl)) (pw_and1 (pt_cmpR (op_notInD hu65) (pe_tup (pa_cons pe_int (pa_cons (pv 8) pa_nil))) (pe_op op_cat (pv 3) (pv 6)) (by rfl)))))
      (pss_one (ps_expr (pe_bm PySem.F.plainAttrs_list PySem.F.slot_list_append PySem.F.type_list_append mt_append (pv 6) (pa_cons (pe_tup (pa_cons pe_int (pa_cons (pv 8) pa_nil))) pa_nil))))
      pss_nil)
    (pss_one (ps_if (PW.pt (pw_and (pt_cmpR (op_inD hu65) (pe_tup (pa_cons pe_int (pa_cons (pv 8) pa_nil))) (pv 4) (by rfl)) (pw_and1 (pt_cmpR (op_notInD hu65) (pe_tup (pa_cons pe_int (pa_cons (pv 7) pa_nil))) (pe_op op_cat (pv 3) (pv 6)) (by rfl)))))
      (pss_one (ps_expr (pe_bm PySem.F.plainAttrs_list PySem.F.slot_list_append PySem.F.type_list_append mt_append (pv 6) (pa_cons (pe_tup (pa_cons pe_int (pa_cons (pv 7) pa_nil))) pa_nil))))
      pss_nil))))
    (pss_cons (ps_if (pt_cmpR (op_inD hu65) (pe_tup (pa_cons pe_int (pa_cons (pv 2) pa_nil))) (pv 6) (by rfl))
      (pss_one (ps_ret (pv 5)))
      pss_nil)
    (pss_cons (ps_set (i := 3) nd rfl (Or.inl rfl) (pe_op op_cat (pv 3) (pv 6)))
    (pss_one (ps_set (i := 4) nd rfl (Or.inl rfl) (pv 6))))))))
    (pss_one (ps_ret pe_non)))))), ?_⟩
  refine ⟨_, rfl, (by show 2 ≤ sizeLine; decide), fun tp htp => ⟨(by show 1 ≤ sizeLine; decide), fun lm hlm => ?_⟩⟩
  have s1 := (same_new htp (.tup [V.int 0, V.int x])).trans (same_new hlm (.lst [V.ref tp]))
  have e1 : LetAt (upd (upd H tp (.tup [V.int 0, V.int x])) lm (.lst [V.ref tp])) (.ref lm) [(0, x)] := ⟨lm, _, rfl, upd_same, .cons ⟨tp, rfl, same_new hlm (.lst [V.ref tp]) _ _ upd_same⟩ .nil⟩
  generalize upd (upd H tp (.tup [V.int 0, V.int x])) lm (.lst [V.ref tp]) = H1 at s1 e1 ⊢
  obtain ⟨_, xs, e0, eo, ao⟩ := id hL
  cases e0
  have lx := ao.len
  refine ⟨_, rfl, b, rfl, ⟨_, SqL.of (s1 _ _ eo)⟩, fun M hM => ?_⟩
  refine list_turns (xs := xs) (fun j H2 => ∃ ys, Same H1 H2 ∧ H2 M = some (.lst ys) ∧ A2 (TpAt H2) ys ((outs.take j).filter fun o => decide (o.1 = x))) ⟨[], same_new hM _, upd_same, .nil⟩ (fun j H2 _ h => by
    obtain ⟨_, s2, _⟩ := h
    exact SqL.of (s2 _ _ (s1 _ _ eo))) ?_ ?_
  · rintro j z H2 hz ⟨ys, s2, eM, ay⟩
    obtain ⟨o, ho, t, rfl, et⟩ := ao.get hz
    have et2 := s2 _ _ (s1 _ _ et)
    have ek : (outs.take (j + 1)).filter (fun o => decide (o.1 = x)) = (outs.take j).filter (fun o => decide (o.1 = x)) ++ if o.1 = x then [o] else [] := by
      rw [← takeS ho, List.filter_append]
      by_cases c : o.1 = x
      · rw [if_pos c, List.filter_cons_of_pos (by exact decide_eq_true c), List.filter_nil]
      · rw [if_neg c, List.filter_cons_of_neg (by simpa using c), List.filter_nil]
    refine ⟨rfl, _, rfl, t, _, 0, _, rfl, rfl, SqT.of et2, rfl, _, rfl, rfl, _, rfl, ?_⟩
    by_cases c : o.1 = x
    · refine iteT' (decide_eq_true (by rw [c])) ⟨_, rfl, ys, eM, ?_, _, same_upd s2 hM, upd_same, ?_⟩
      · have l0 : ys.length ≤ 200 := by rw [ay.len]; exact Nat.le_trans (List.length_filter_le _ _) (Nat.le_trans (List.length_take_le' _ _) hl)
        exact Nat.lt_of_le_of_lt (show ys.length ≤ 2000 by omega) (by decide)
      · rw [ek, if_pos c]
        exact (ay.imp fun _ _ r => tp_upd eM r).snoc (tp_upd eM ⟨t, rfl, et2⟩)
    · refine iteF' (decide_eq_false fun z => c (by injection z)) ⟨ys, s2, eM, ?_⟩
      rw [ek, if_neg c, List.append_nil]
      exact ay
  rintro H2 ⟨ys, s2, eM, ay⟩
  rw [lx, List.take_length] at ay
  refine ⟨(by show 0 ≤ sizeLine; decide), fun e he => ?_⟩
  have s3 := same_new he (.lst [])
  refine eq_let (l := outs.filter fun o => decide (o.1 = x)) (m := []) ⟨M, ys, rfl, s3 _ _ eM, ay.imp fun _ _ r => r.mono (.same s3)⟩ ⟨e, [], rfl, upd_same, .nil⟩ ⟨_, rfl, ?_⟩
  have sA := (s1.trans s2).trans s3
  have e1 := LetAt.mono (.same (s2.trans s3)) e1
  generalize upd H2 e (.lst []) = H3 at s3 sA e1 ⊢
  by_cases c : outs.filter (fun o => decide (o.1 = x)) = []
  · refine iteT' (decide_eq_true c) (q0 _ sA fun k L => ?_)
    obtain ⟨o, ho, ex⟩ := LstO.from L
    exact List.filter_eq_nil_iff.mp c o ho (decide_eq_true ex)
  refine iteF' (decide_eq_false c) ⟨_, rfl, ?_⟩
  have ns0 : ∀ j, j ≤ 0 → ¬ LstO outs x y j := fun j hj L => by have := L.odd; omega
  refine ⟨_, rfl, b, xs, rfl, .inl (SqL.of (sA _ _ eo)), _, _, rfl, rfl, .inl ⟨by decide, by decide⟩, _, _, rfl, rfl, 1, 2 * (xs.length : Int) + 2, rfl, ⟨by decide, by decide, by omega, by omega⟩, ?_⟩
  rw [show (2 * (xs.length : Int) + 2 - 1).toNat = 2 * outs.length + 1 by omega]
  refine for_range (n := 2 * outs.length + 1) (fun i σ H' => ∃ lm lf met floor g5 g6 g7 g8 g9, σ = [some (.ref b), some (.int x), some (.int y), some (.ref lm), some (.ref lf), g5, g6, g7, g8, g9] ∧ Same H H' ∧ LetAt H' (.ref lm) met ∧ LetAt H' (.ref lf) floor ∧ Flo (dirs outs) (0, x) i met floor ∧ met.length ≤ 1 + 400 * i ∧ ∀ j, j ≤ i → ¬ LstO outs x y j) ⟨lm, lm, [(0, x)], [(0, x)], _, _, _, _, _, rfl, sA, e1, e1, Flo.zero, Nat.le_refl _, ns0⟩ ?_ ?_
  · clear e1 sA s3 s1 ns0
    rintro i σ H4 hi ⟨lm, lf, met, floor, g5, g6, g7, g8, g9, rfl, s4, em, ef, fl, lM, no⟩
    refine ⟨(by show 0 ≤ sizeLine; decide), fun lb hlb => ?_⟩
    have s5 := same_new hlb (.lst [])
    have eb : LetAt (upd H4 lb (.lst [])) (.ref lb) [] := ⟨lb, [], rfl, upd_same, .nil⟩
    generalize upd H4 lb (.lst []) = H5 at s5 eb ⊢
    refine ⟨_, rfl, b, rfl, ⟨_, SqL.of (s5 _ _ (s4 _ _ eo))⟩, for_list (xs := xs) (fun j σ H' => ∃ g7 g8 bl, σ = [some (.ref b), some (.int x), some (.int y), some (.ref lm), some (.ref lf), some (.int (1 + (i : Int))), some (.ref lb), g7, g8, g9] ∧ Same H4 H' ∧ LetAt H' (.ref lb) bl ∧ BeyD met floor (dirs (outs.take j)) bl ∧ bl.length ≤ 2 * j) ⟨_, _, [], rfl, s5, eb, BeyD.nil, Nat.zero_le _⟩ ?_ ?_ ?_⟩
    · rintro j σ H6 _ ⟨_, _, _, _, s6, _⟩
      exact SqL.of (s6 _ _ (s4 _ _ eo))
    · rintro j z σ H6 hz ⟨g7, g8, bl, rfl, s6, eb, be, lB⟩
      obtain ⟨o, ho, t, rfl, et⟩ := ao.get hz
      have jl := (List.getElem?_eq_some_iff.mp ho).1
      refine ⟨t, _, rfl, SqT.of (s6 _ _ (s4 _ _ et)), rfl, _, _, rfl, _, _, rfl, rfl, ?_⟩
      refine far_step (i := 7) (j := 8) rfl rfl em ef s6 hlb eb (by omega) (by omega) fun H7 b1 s7 eb1 e1 => ?_
      have l1 : b1.length ≤ bl.length + 1 := by rw [e1]; exact len_step
      refine far_step (i := 8) (j := 7) rfl rfl em ef s7 hlb eb1 (by omega) (by omega) fun H8 b2 s8 eb2 e2 => ?_
      have l2 : b2.length ≤ b1.length + 1 := by rw [e2]; exact len_step
      refine ⟨_, _, b2, rfl, s8, eb2, ?_, by omega⟩
      rw [← takeS ho, e2, e1]
      exact be.pair o
    · rintro σ H6 ⟨g7, g8, bl, rfl, s6, eb, be, lB⟩
      rw [lx, List.take_length] at be
      have fl2 := fl.next be
      have sB := s4.trans s6
      refine ⟨_, rfl, (by show 2 ≤ sizeLine; decide), fun t ht => ⟨_, rfl, ?_⟩⟩
      have s7 := same_new ht (.tup [V.int 1, V.int y])
      refine in_let (p := (1, y)) (LetAt.mono (.same s7) eb) ⟨t, rfl, upd_same⟩ ⟨_, rfl, ?_⟩
      by_cases c : ((1, y) : Pt) ∈ bl
      · refine iteT' (decide_eq_true c) ⟨_, rfl, ?_⟩
        have := q1 (i + 1) _ (sB.trans s7) ((fl2.flo _).mp c)
        rw [show (((i + 1 : Nat) : Int)) = 1 + (i : Int) by omega] at this
        exact this
      · refine iteF' (decide_eq_false c) ?_
        have s8 := s6.trans s7
        have em := LetAt.mono (.same s8) em
        have eb := LetAt.mono (.same s7) eb
        generalize upd H6 t (.tup [V.int 1, V.int y]) = H7 at s8 em eb ⊢
        obtain ⟨_, xm, e0, em, am⟩ := em
        cases e0
        obtain ⟨_, xb, e0, eb', ab⟩ := id eb
        cases e0
        have l1 := am.len
        have l2 := ab.len
        refine ⟨_, rfl, _, rfl, lm, lb, xm, xb, rfl, rfl, em, eb', Nat.le_trans (show _ ≤ 202000 by omega) (by decide), fun q hq => ?_⟩
        have s9 := same_new hq (.lst (xm ++ xb))
        refine ⟨_, rfl, q, lb, met ++ bl, bl, _, _, _, _, _, rfl, (s4.trans s8).trans s9, let_cat em am ab hq, LetAt.mono (.same s9) eb, fl2, ?_, fun j hj L => ?_⟩
        · rw [List.length_append]
          omega
        · by_cases e : j ≤ i
          · exact no j e L
          · obtain rfl : j = i + 1 := by omega
            exact c ((fl2.flo _).mpr L)
  · rintro σ H4 ⟨_, _, _, _, _, _, _, _, _, rfl, s4, _, _, _, _, no⟩
    exact q0 _ s4 fun k L => no k (by have := L.few; omega) L
end
end TA

set_option Elab.async false
set_option maxRecDepth 100000
set_option maxHeartbeats 3200000
namespace L2
open PySem PySem.Spec PyProof.Rows
section
variable {X : Cx}
/-- set(), to hold tuples of ints -/
def rSet0T (P : Program) (w : World) : List V → Hp → VK → Prop := fun xs H Q => xs = [] ∧ ∀ p, H p = none → Q (.ref p) (upd H p (SetTO P w p []))
theorem cr_set0T : CallR X (.type "set") (rSet0T X.prog X.w) := by
  intro pins s σ H xs us Q I r h
  obtain ⟨rfl, q⟩ := h
  cases r
  refine setR_new fun _ => ?_
  exact ⟨.ref _, upd H s.heap.objs.size (SetTO X.prog X.w s.heap.objs.size []), I.laid (t' := s.toks) (fun b u e => Heap.get?_push_of_some _ e) (Nat.le_refl _) (setTO_new (setTR_fresh (Heap.get?_push_size _ rfl)).t0), rfl, q _ (I.hok.fresh (Nat.le_refl _))⟩
/-- s.add(t), s a set of tuples of ints -/
def rSAddT (K : PySem.W.Frag) (P : Program) (w : World) : V → List V → Hp → VK → Prop := fun x xs H Q => ∃ (a b : Addr) (k : List Int) (L : List (Addr × List Int)), x = .ref a ∧ xs = [.ref b] ∧ SqT K H b (k.map V.int) ∧ H a = some (SetTO P w a L) ∧ (∀ q ∈ L, SqT K H q.1 (q.2.map V.int)) ∧ L.length + 1 < 64 ∧
  ∀ L' : List (Addr × List Int), (k ∈ L.map (·.2) → L' = L) → (k ∉ L.map (·.2) → L'.Perm ((b, k) :: L)) → Q .non (upd H a (SetTO P w a L'))
theorem mt_saddT (hu : X.A.units + 64 < cLine) : MtR X "set.add" (rSAddT X.K X.prog X.w) := by
  intro pins s σ H x xs v us Q I rx rxs h
  obtain ⟨a, b, k, L, rfl, rfl, tup, isSet, rows, few, q⟩ := h
  cases rx
  cases rxs with
  | cons ry rt =>
    cases rt
    cases ry
    have R0 : SetT0 X.prog X.w s.heap a L := (I.hok a _ isSet).1
    obtain ⟨es, ep, t, R⟩ := R0.full fun p hp => I.isT (rows p hp)
    have ty : s.TypeIs (.ref a) "set" := by
      obtain ⟨o, ho, hx, _⟩ := R.ob
      exact ⟨o, ho, hx.1⟩
    refine wpAny_call_entry F.slot_set_add ty F.entry_set_add ?_ (F.args_set_add_2 _ _)
    unfold Builtin.«set.add» Builtin.Frozenset.oneOther
    simp only [List.isEmpty_nil, bind_assoc]
    unfold Builtin.Frozenset.addrOf setAdd
    refine wpAny_bind (wpAny_pure ?_)
    try dsimp only
    refine wpAny_bind (wpAny_pure ?_)
    try dsimp only
    refine wpAny_bind ?_
    refine wpAny_holding ?_
    have hu1 : X.A.in1.units < cLine := by show X.A.units + 1 < cLine; omega
    refine wpAny_bind (wpAny_pyHash_tuple hu1 (I.isT tup) ?_)
    refine add_at (s := { s with toks := s.toks + (k.length + 1) }) R (I.isT tup) hu1 few fun bb h' L' es' ep' t' sb R' c1 c2 => ?_
    have he : ∃ u, h'.get? a = some u := by
      obtain ⟨o, ho, _⟩ := R'.ob
      exact ⟨o, ho⟩
    exact wpAny_pure ⟨_, rfl, .non, upd H a (SetTO X.prog X.w a L'), I.write (e := a) (t' := s.toks + (k.length + 1)) (by rw [isSet]; trivial) (.inl rfl) (fun b u hb hu => (sb.2 b hb).trans hu) he (setTO_new R'.t0), rfl, q L' c1 c2⟩
/-- the same, called on a name -/
def tSAddT (K : PySem.W.Frag) (P : Program) (w : World) (to : TE) (t : TA) : TE := fun σ H Q => to σ H fun x H1 => (∃ a L, x = V.ref a ∧ H1 a = some (SetTO P w a L)) ∧ t σ H1 fun xs H2 => rSAddT K P w x xs H2 Q
variable {o e : Expr} {es : List Expr} {to : TE} {t : TA} {apos cpos : Pos}
theorem pe_saddT (hu : X.A.units + 64 < cLine) (ho : PE X o to) (ha : PA X (e :: es) t)
    (hbase : attributeBase o "add" X.env (eval o X.env) = eval o X.env := by rfl)
    (hfew : ((backTo cpos (starEach (e :: es) X.env)).all (fun x => !x.1) && (backToKw cpos (keywordEach [] X.env)).all (fun x => x.1.isSome)
      && decide ((e :: es).length + ([] : List Keyword).length + (if ([] : List Keyword).isEmpty then 0 else 1) < 30)) = true := by rfl)
    (hline : (apos.endLine == cpos.line) = true := by rfl) (hs : starEach (e :: es) X.env = (false, eval e X.env) :: starEach es X.env := by rfl) (hplain : (backTo cpos (starEach es X.env)).any (·.1) = false := by rfl) :
    PE X (.Call (.Attribute o "add" apos) (e :: es) [] cpos) (tSAddT X.K X.prog X.w to t) := by
  refine ⟨fun pins s σ H Q I h => ?_⟩
  refine wpAny_Call_method_late hbase hfew hline rfl (thn (ho.run pins s σ H _ I h) fun v s1 ⟨x, H1, I1, r1, ty, q1⟩ => ?_)
  obtain ⟨a, L, rfl, hka⟩ := ty
  have R0 : SetT0 X.prog X.w s1.heap a L := (I1.hok a _ hka).1
  cases r1
  have ty : s1.TypeIs (.ref a) "set" := by
    obtain ⟨es', ep, t', ⟨ob, ho', hx, _⟩, _⟩ := R0.ex
    exact ⟨ob, ho', hx.1⟩
  have noD : ∀ b, Value.ref a = .ref b → ∃ ob, s1.heap.get? b = some ob ∧ ob.dict = none := fun b eb => by
    injection eb with eb
    subst eb
    obtain ⟨es', ep, t', ⟨ob, ho', hx, _⟩, _⟩ := R0.ex
    exact ⟨ob, ho', hx.2.1⟩
  refine ⟨"set", "set.add", F.plainAttrs_set, F.slot_set_add, F.type_set_add, ty, noD, ?_⟩
  have hA := ha.run cpos pins s1 σ H1 _ I1 q1
  rw [hs] at hA ⊢
  refine Calls.callWith_builtin (by show (false || (backTo cpos (starEach es X.env)).any (·.1)) = false; rw [hplain] <;> rfl) (Calls.evalArgs_plain ?_)
  exact thn hA fun us s2 ⟨vs, H2, I2, r2, q2⟩ => mt_saddT hu pins s2 σ H2 (.ref a) vs (.ref a) us Q I2 rfl r2 q2
end
end L2

set_option Elab.async false
set_option maxRecDepth 100000
set_option maxHeartbeats 3200000
namespace L2
open PySem PySem.Spec PyProof.Rows
section
open PySem.SeqAt
open PySem.AutoSeq1 (wpAny_loadPart')
open PySem.MeetsSeq PySem.MeetsSeq2 PySem.MeetsSeq3
/-- x < y answers b, and nothing changes -/
def RcLt (A : Around) (s : Shared) (x y : Value) (b : Bool) : Prop := ∀ (prog : Program) (w : World) (E Q : Value → Shared → Prop), Q (.bool b) s → wpAny (model prog w) A (richCompare .Lt x y) Q E s
/-- two rows in their order -/
inductive LexR (A : Around) (s : Shared) : List Value → List Value → Bool → Prop
  | nn : LexR A s [] [] false
  | nc (y : Value) (ys : List Value) : LexR A s [] (y :: ys) true
  | cn (x : Value) (xs : List Value) : LexR A s (x :: xs) [] false
  | eq {x y : Value} {xs ys : List Value} {b : Bool} (h : EqAt A s x y true) (t : LexR A s xs ys b) : LexR A s (x :: xs) (y :: ys) b
  | ne {x y : Value} {xs ys : List Value} {b : Bool} (h : EqAt A s x y false) (t : RcLt A s x y b) : LexR A s (x :: xs) (y :: ys) b
theorem tuple_lt_gen (l b : Addr) (items items2 : Array Value) (n n2 : Nat) (dd dd2 : Option Addr) (sl sl2 : Array (Option Value)) (r : Bool) :
    Meets (Builtin.«tuple.__lt__» ⟨[.ref l, .ref b], []⟩)
      (fun A R s => s.heap.get? l = some { cls := .type "tuple", dict := dd, data := .seq items n, slots := sl } ∧ s.heap.get? b = some { cls := .type "tuple", dict := dd2, data := .seq items2 n2, slots := sl2 } ∧ LexR A.in1 s items.toList items2.toList r ∧
        R (.ok (.ret (.bool r))) s) :=
  .of_wp fun prog w A R s h => by
    obtain ⟨hp, g, d, tk, os⟩ := s; obtain ⟨hl, hb, lx, h⟩ := h
    have f2 := AutoSeq1.sub_tuple_tuple
    wp_walk using wpAny_loadPart' hl, wpAny_loadPart' hb, wpAny_forIn_list _ (fun rest b s' => b.1 = none ∧ s' = ⟨hp, g, d, tk, os⟩ ∧ ∃ (vs ws : List Value), rest = vs.zip ws ∧
      LexR A.in1 ⟨hp, g, d, tk, os⟩ vs ws r ∧ vs.length + items2.size = ws.length + items.size) _
    case turn =>
      rintro ⟨y, x⟩ rest b s' ⟨hb', rfl, vs, ws, hz, lx, hlen⟩
      cases lx with
      | nn => cases hz
      | nc => cases hz
      | cn => cases hz
      | eq he t =>
        rw [List.zip_cons_cons] at hz
        injection hz with hyx hrest
        injection hyx with hy hx
        subst hy hx
        simp only [List.length_cons] at hlen
        refine wpAny_bind (he prog w _ _ ?_)
        wp_walk
        exact ⟨rfl, rfl, _, _, hrest, t, by omega⟩
      | ne he t =>
        rw [List.zip_cons_cons] at hz
        injection hz with hyx hrest
        injection hyx with hy hx
        subst hy hx
        refine wpAny_bind (he prog w _ _ ?_)
        have hri := t prog w
        wp_walk using hri
        exact ⟨_, rfl, by simpa using h⟩
    case fin =>
      rintro ⟨b1, b2⟩ s' ⟨hb', rfl, vs, ws, hz, lx, hlen⟩
      simp only at hb'
      subst hb'
      have hv : r = decide (items.size < items2.size) := by
        cases lx with
        | nn => exact (decide_eq_false (by simp only [List.length_nil] at hlen; omega)).symm
        | nc => exact (decide_eq_true (by simp only [List.length_nil, List.length_cons] at hlen; omega)).symm
        | cn => exact (decide_eq_false (by simp only [List.length_nil, List.length_cons] at hlen; omega)).symm
        | eq => rw [List.zip_cons_cons] at hz; cases hz
        | ne => rw [List.zip_cons_cons] at hz; cases hz
      rw [hv] at h
      wp_walk
      exact ⟨_, rfl, by simpa [Builtin.Tuple.tupleCompareSizes] using h⟩
    case h =>
      exact ⟨rfl, rfl, items.toList, items2.toList, rfl, lx, by simp; omega⟩
end
end L2

set_option Elab.async false
set_option maxRecDepth 100000
set_option maxHeartbeats 3200000
set_option linter.unusedVariables false
namespace L2
open PySem PySem.Spec PyProof.Rows
/-! sorted(l), l a list of lists of data; l.remove(x), x data -/
theorem refsU_of : ∀ {ts : List Addr} {us : List Value}, Vals (ts.map V.ref) us → us = ts.map Value.ref
  | [], us, r => by
    rw [List.map_nil] at r
    cases r
    rfl
  | t :: ts, us, r => by
    rw [List.map_cons] at r
    cases r with
    | cons h r =>
      rw [refsU_of r]
      cases h
      rfl
theorem eachRef {bs : List (Addr × PyData)} : ∀ {out : List Value}, PySem.W.EachIs (fun v b => v = Value.ref b.1) out bs → out = bs.map fun b => Value.ref b.1 := by
  intro out h
  induction h with
  | nil => rfl
  | cons a _ ih => rw [List.map_cons, a, ih]
theorem eachRef_to : ∀ {bs : List (Addr × PyData)}, PySem.W.EachIs (fun v b => v = Value.ref b.1) (bs.map fun b => Value.ref b.1) bs
  | [] => .nil
  | b :: bs => .cons rfl eachRef_to
theorem valsZ_refs {β : Type} (f : β → Addr) : ∀ (zs : List β), Vals (zs.map fun z => V.ref (f z)) (zs.map fun z => Value.ref (f z))
  | [] => .nil
  | z :: zs => .cons rfl (valsZ_refs f zs)
def rSortLD (K : PySem.W.Frag) : List V → Hp → VK → Prop := fun vs H Q => ∃ (a : Addr) (zs : List (Addr × PyData)), vs = [V.ref a] ∧ SqL K H a (zs.map fun z => V.ref z.1) ∧ (∀ z ∈ zs, Dp K H (.ref z.1) z.2) ∧ PySem.W.AllAlike (zs.map (·.2)) ∧ PySem.W.Sortable (zs.map (·.2)) ∧ (∀ z ∈ zs, z.2.depth ≤ 60) ∧
  ∀ p, H p = none → Q (.ref p) (upd H p (.lst ((zs.mergeSort (PySem.W.dataLe false (·.2))).map fun z => V.ref z.1)))
section
variable {X : Cx}
theorem cr_sortLD (hu : X.A.units + 64 < cLine) : CallR X (.builtin "sorted") (rSortLD X.K) := by
  intro pins s σ H vs us Q I r h
  obtain ⟨a, zs, rfl, hs, hd, hal, hk, hdep, q⟩ := h
  obtain ⟨its, rv, hl, hz⟩ := I.list hs
  obtain ⟨u, rfl, ru⟩ := vals1 r
  obtain rfl : u = Value.ref a := ru
  have ei : its = zs.map fun z => Value.ref z.1 := by
    have := refsU_of (ts := zs.map (·.1)) (us := its) (by rw [List.map_map]; exact rv)
    rw [this, List.map_map]
    rfl
  subst ei
  have hlen : zs.length ≤ sizeLine := by
    have := rv.length
    rw [List.length_map] at this hz
    omega
  have er : PySem.W.EachIs (fun v (b : Addr × PyData) => ∃ as, Reads s.heap v b.2 as) (zs.map fun z => Value.ref z.1) zs := by
    have : ∀ l : List (Addr × PyData), (∀ z ∈ l, z ∈ zs) → PySem.W.EachIs (fun v (b : Addr × PyData) => ∃ as, Reads s.heap v b.2 as) (l.map fun z => Value.ref z.1) l := by
      intro l
      induction l with
      | nil => exact fun _ => .nil
      | cons z l ih =>
        intro h
        exact .cons (Dp.reads I z.2 (.ref z.1) (.ref z.1) (hd z (h z List.mem_cons_self)) rfl) (ih fun y hy => h y (List.mem_cons_of_mem _ hy))
    exact this zs fun z h => h
  refine PySem.W.sorted_data (enc := (·.2)) (R := fun v b => v = Value.ref b.1) hl.isList eachRef_to er hal hk hlen (fun b hb => ?_) fun out hol ho => ?_
  · have := hdep b hb
    omega
  · have eo := eachRef ho
    subst eo
    obtain ⟨n, hn⟩ := sortedAll_at s.heap (zs.map fun z => Value.ref z.1) (List.toArray ((zs.mergeSort (PySem.W.dataLe false (·.2))).map fun b => Value.ref b.1))
    refine ⟨.ref _, upd H _ (.lst ((zs.mergeSort (PySem.W.dataLe false (·.2))).map fun z => V.ref z.1)), I.laid (t' := s.toks) (fun b o e => sortedAll_old e) (Nat.le_succ _) ⟨?_, _, n, valsZ_refs (fun z : Addr × PyData => z.1) _, hn⟩, rfl, q _ (I.hok.fresh (Nat.le_succ _))⟩
    rw [List.length_map, List.length_mergeSort]
    exact hlen
/-- l.remove(x): the first equal one goes -/
def rRemD (K : PySem.W.Frag) : V → List V → Hp → VK → Prop := fun x xs H Q => ∃ (a : Addr) (y : V) (d : PyData) (ys : List V) (ds : List PyData) (j : Nat) (z : PyData), x = V.ref a ∧ xs = [y] ∧ H a = some (.lst ys) ∧ DpAll K H ys ds ∧ Dp K H y d ∧
  SeqAt.shaped (.list ds) = true ∧ SeqAt.shaped d = true ∧ ds[j]? = some z ∧ PyData.eqv z d = true ∧ (∀ (m : Nat) (z' : PyData), m < j → ds[m]? = some z' → PyData.eqv z' d = false) ∧ Q .non (upd H a (.lst (ys.eraseIdx j)))
theorem mt_remD (hu : X.A.units + 65 < cLine) : MtR X "list.remove" (rRemD X.K) := by
  intro pins s σ H x xs v us Q I rx rxs h
  obtain ⟨a, y, d, ys, ds, j, z, rfl, rfl, hH, ha, hy, sl, sd, hz, hzj, hno, q⟩ := h
  cases rx
  cases rxs with
  | cons ry rt =>
    rename_i uy ut
    cases rt
    obtain ⟨bs, r1⟩ := Dp.reads I d y uy hy ry
    have hxs : PyData.canLayAll0 ds = true := SeqAt.canLay_of_shaped sl
    have hroom : X.A.units + 1 + min (PyData.depthAll ds) d.depth < cLine := room_in_shaped sd hu
    obtain ⟨z0, its, n, rv, hl, e0⟩ := I.lstM hH
    obtain ⟨as, h4⟩ := Dp.readsAll I ds _ its ha rv
    have hn : its.length = ds.length := SeqAt.ReadsAll.length ds its as h4
    have hmap : its.map (SeqAt.readOf s.heap) = ds := SeqAt.readsAll_map ds its as hxs h4
    have hvl := rv.length
    obtain ⟨hjd, _⟩ := List.getElem?_eq_some_iff.mp hz
    have hjl : j < its.length := by omega
    have hj : j < its.toArray.size := by simpa using hjl
    have hsz : its.toArray.size ≤ sizeLine := by rw [List.size_toArray, ← hl]; exact z0
    have at_ : ∀ (m : Nat) (hm : m < its.toArray.size) (z' : PyData), ds[m]? = some z' → SeqAt.readOf s.heap its.toArray[m] = z' := by
      intro m hm z' hz'
      have hml : m < its.length := by simpa using hm
      rw [← hmap, List.getElem?_map, List.getElem?_eq_getElem hml] at hz'
      have e1 : SeqAt.readOf s.heap its[m] = z' := Option.some.inj (show some (SeqAt.readOf s.heap its[m]) = some z' from hz')
      simpa using e1
    refine call_meets PySem.F.slot_list_remove ⟨_, e0, rfl⟩ PySem.F.entry_list_remove (PySem.F.args_list_remove_2 _ _)
      (PySem.SeqAt.list_removeAt a its.toArray n _ _ uy (fun u => PyData.eqv (SeqAt.readOf s.heap u) d) j hj ?_ ?_ hsz) ⟨e0, SeqAt.items_eqAt (vs := its.toArray) (show ReadsAll s.heap its.toArray.toList ds as from h4) r1 hxs (SeqAt.canLay_of_shaped sd) hroom, ?_⟩
    · show PyData.eqv (SeqAt.readOf s.heap its.toArray[j]) d = true
      rw [at_ j hj z hz]
      exact hzj
    · intro m hm hmj
      have hmd : m < ds.length := by omega
      have hz' : ds[m]? = some ds[m] := List.getElem?_eq_getElem hmd
      show PyData.eqv (SeqAt.readOf s.heap its.toArray[m]) d = false
      rw [at_ m hm _ hz']
      exact hno m _ hmj hz'
    · refine ⟨.non, _, I.lset (its' := its.eraseIdx j) hH e0 ?_ (rv.eraseIdx j) ?_, rfl, q⟩
      · show its.toArray.eraseIdxIfInBounds j = (its.eraseIdx j).toArray
        rw [List.eraseIdxIfInBounds_toArray]
      · have := List.length_eraseIdx_le (l := ys) (i := j)
        omega
end
end L2

set_option Elab.async false
set_option maxRecDepth 100000
set_option maxHeartbeats 4000000
namespace TA
open PySem L2 PyProof.Rows
set_option linter.unusedVariables false
/-! what hangs together -/
theorem Rea.push {D : List (Pt × Pt)} {a b c : Pt} {k : Nat} (h : Rea D a k b) (e : (c, a) ∈ D) : Rea D c (k + 1) b := by
  obtain ⟨ps, hl, hw⟩ := h
  obtain ⟨r, rfl⟩ := hw.head
  exact ⟨c :: a :: r, by rw [List.length_cons, hl], rfl, e, hw⟩
theorem Rea.pop {D : List (Pt × Pt)} {a b : Pt} {k : Nat} (h : Rea D a (k + 1) b) : ∃ c, (a, c) ∈ D ∧ Rea D c k b := by
  obtain ⟨ps, hl, hw⟩ := h
  match ps, hl, hw with
  | [x], hl, _ => cases hl
  | x :: y :: r, hl, hw => exact ⟨y, hw.2.1, y :: r, by rw [List.length_cons] at hl; omega, hw.2.2⟩
def Con (D : List (Pt × Pt)) (p q : Pt) : Prop := ∃ k, Rea D p k q
def IsP (D : List (Pt × Pt)) (p : Pt) : Prop := ∃ q, (p, q) ∈ D
theorem Con.refl {D : List (Pt × Pt)} {p : Pt} : Con D p p := ⟨0, rea_zero.mpr rfl⟩
theorem Con.symm {D : List (Pt × Pt)} (sym : ∀ p q, (p, q) ∈ D → (q, p) ∈ D) {p q : Pt} (h : Con D p q) : Con D q p := h.elim fun k hk => ⟨k, hk.back sym⟩
theorem con_trans {D : List (Pt × Pt)} {b c : Pt} (h : Con D b c) : ∀ {k : Nat} {a : Pt}, Rea D a k b → Con D a c
  | 0, a, g => by
    obtain rfl := rea_zero.mp g
    exact h
  | k + 1, a, g => by
    obtain ⟨x, hx, g⟩ := g.pop
    obtain ⟨j, hj⟩ := con_trans h g
    exact ⟨j + 1, hj.push hx⟩
theorem Con.trans {D : List (Pt × Pt)} {a b c : Pt} (h : Con D a b) (g : Con D b c) : Con D a c := h.elim fun _ hk => con_trans g hk
theorem Con.tie {D : List (Pt × Pt)} {p q : Pt} (h : (p, q) ∈ D) : Con D p q := ⟨1, (rea_zero.mpr rfl : Rea D q 0 q).push h⟩
theorem Con.isP {D : List (Pt × Pt)} (sym : ∀ p q, (p, q) ∈ D → (q, p) ∈ D) {p q : Pt} (h : Con D p q) (g : IsP D p) : IsP D q := by
  by_cases c : p = q
  · rw [← c]; exact g
  · obtain ⟨k, hk⟩ := h
    exact (hk.tied sym c).2
theorem ltP_irr {p : Pt} (h : ltP p p) : False := by
  unfold ltP at h
  omega
theorem ltP_asym {p q : Pt} (h : ltP p q) (g : ltP q p) : False := by
  unfold ltP at h g
  omega
theorem ltP_tri {p q : Pt} (h : ¬ ltP p q) (ne : p ≠ q) : ltP q p := by
  unfold ltP at h ⊢
  have : ¬ (p.1 = q.1 ∧ p.2 = q.2) := fun c => ne (Prod.ext c.1 c.2)
  omega
theorem ltP_nodup {l : List Pt} (h : l.Pairwise ltP) : l.Nodup := List.Pairwise.imp (fun {a b} (h : ltP a b) (c : a = b) => ltP_irr (by rw [c] at h; exact h)) h
theorem ltP_ext {l m : List Pt} (h : l.Pairwise ltP) (g : m.Pairwise ltP) (e : ∀ p, p ∈ l ↔ p ∈ m) : l = m :=
  List.Perm.eq_of_pairwise (le := ltP) (fun a b _ _ h g => (ltP_asym h g).elim) h g ((List.perm_ext_iff_of_nodup (ltP_nodup h) (ltP_nodup g)).mpr e)
/-- lots told apart by their first points -/
def HdLt (l m : List Pt) : Prop := ∃ x y, l.head? = some x ∧ m.head? = some y ∧ ltP x y
structure LotsOk (D : List (Pt × Pt)) (L : List (List Pt)) : Prop where
  srt : ∀ l ∈ L, l.Pairwise ltP
  ne : ∀ l ∈ L, l ≠ []
  cls : ∀ l ∈ L, ∀ p ∈ l, IsP D p ∧ ∀ q, q ∈ l ↔ Con D p q
  all : ∀ p, IsP D p → ∃ l ∈ L, p ∈ l
  hd : L.Pairwise HdLt
theorem LotsOk.sub {D : List (Pt × Pt)} {L M : List (List Pt)} (h : LotsOk D L) (g : LotsOk D M) : ∀ l ∈ L, l ∈ M := fun l hl => by
  obtain ⟨x, hx⟩ := List.exists_mem_of_ne_nil l (h.ne l hl)
  obtain ⟨hp, hc⟩ := h.cls l hl x hx
  obtain ⟨m, hm, hxm⟩ := g.all x hp
  have : l = m := ltP_ext (h.srt l hl) (g.srt m hm) fun p => (hc p).trans ((g.cls m hm x hxm).2 p).symm
  rw [this]
  exact hm
theorem HdLt.ne {l m : List Pt} (h : HdLt l m) : l ≠ m := by
  rintro rfl
  obtain ⟨x, y, h1, h2, h3⟩ := h
  rw [h1] at h2
  cases h2
  exact ltP_irr h3
theorem HdLt.asym {l m : List Pt} (h : HdLt l m) (g : HdLt m l) : l = m := by
  obtain ⟨x, y, h1, h2, h3⟩ := h
  obtain ⟨x', y', g1, g2, g3⟩ := g
  rw [h2] at g1
  rw [h1] at g2
  cases g1
  cases g2
  exact (ltP_asym h3 g3).elim
theorem LotsOk.one {D : List (Pt × Pt)} {L M : List (List Pt)} (h : LotsOk D L) (g : LotsOk D M) : L = M :=
  List.Perm.eq_of_pairwise (le := HdLt) (fun a b _ _ h g => h.asym g) h.hd g.hd ((List.perm_ext_iff_of_nodup (h.hd.imp fun h => h.ne) (g.hd.imp fun h => h.ne)).mpr fun l => ⟨h.sub g l, g.sub h l⟩)
/-- what lots has told ahead of a point -/
structure LI (D : List (Pt × Pt)) (ps : List Pt) (i : Nat) (L : List (List Pt)) : Prop where
  srt : ∀ l ∈ L, l.Pairwise ltP
  ne : ∀ l ∈ L, l ≠ []
  cls : ∀ l ∈ L, ∀ p ∈ l, IsP D p ∧ ∀ q, q ∈ l ↔ Con D p q
  all : ∀ p ∈ ps.take i, ∃ l ∈ L, p ∈ l
  hd : L.Pairwise HdLt
  fr : ∀ l ∈ L, ∃ x, l.head? = some x ∧ x ∈ ps.take i
theorem LI.start {D : List (Pt × Pt)} {ps : List Pt} : LI D ps 0 [] := ⟨fun _ h => (nomatch h), fun _ h => (nomatch h), fun _ h => (nomatch h), fun _ h => (by cases h), .nil, fun _ h => (nomatch h)⟩
theorem take_up {ps : List Pt} {i : Nat} {x : Pt} (h : x ∈ ps.take i) : x ∈ ps.take (i + 1) := (List.take_subset_take_left ps (Nat.le_succ i)) h
theorem LI.skip {D : List (Pt × Pt)} {ps : List Pt} {i : Nat} {L : List (List Pt)} {p : Pt} (h : LI D ps i L) (hp : ps[i]? = some p) (c : ∃ l ∈ L, p ∈ l) : LI D ps (i + 1) L := by
  refine ⟨h.srt, h.ne, h.cls, fun x hx => ?_, h.hd, fun l hl => ?_⟩
  · rw [take_get hp] at hx
    rcases List.mem_append.mp hx with hx | hx
    · exact h.all x hx
    · rw [List.mem_singleton.mp hx]
      exact c
  · obtain ⟨x, h1, h2⟩ := h.fr l hl
    exact ⟨x, h1, take_up h2⟩
theorem before {ps : List Pt} (s : ps.Pairwise ltP) {i : Nat} {p x : Pt} (hp : ps[i]? = some p) (hx : x ∈ ps) (h : ltP x p) : x ∈ ps.take i := by
  obtain ⟨j, hj⟩ := List.getElem?_of_mem hx
  obtain ⟨j1, j2⟩ := List.getElem?_eq_some_iff.mp hj
  obtain ⟨i1, i2⟩ := List.getElem?_eq_some_iff.mp hp
  rcases Nat.lt_trichotomy j i with c | c | c
  · refine List.mem_of_getElem? (i := j) ?_
    rw [List.getElem?_take_of_lt c]
    exact hj
  · subst c
    rw [hp] at hj
    cases hj
    exact (ltP_irr h).elim
  · have := List.pairwise_iff_getElem.mp s i j i1 j1 c
    rw [i2, j2] at this
    exact (ltP_asym this h).elim
theorem after {ps : List Pt} (s : ps.Pairwise ltP) {i : Nat} {p x : Pt} (hp : ps[i]? = some p) (hx : x ∈ ps.take i) : ltP x p := by
  obtain ⟨j, hj⟩ := List.getElem?_of_mem hx
  have hjl : j < i := by
    have := (List.getElem?_eq_some_iff.mp hj).1
    rw [List.length_take] at this
    omega
  rw [List.getElem?_take_of_lt hjl] at hj
  obtain ⟨j1, j2⟩ := List.getElem?_eq_some_iff.mp hj
  obtain ⟨i1, i2⟩ := List.getElem?_eq_some_iff.mp hp
  have := List.pairwise_iff_getElem.mp s j i j1 i1 hjl
  rw [i2, j2] at this
  exact this
theorem LI.add {D : List (Pt × Pt)} (sym : ∀ p q, (p, q) ∈ D → (q, p) ∈ D) {ps : List Pt} (s : ps.Pairwise ltP) (hps : ∀ p, p ∈ ps ↔ IsP D p) {i : Nat} {L : List (List Pt)} {p : Pt} (h : LI D ps i L) (hp : ps[i]? = some p) (c : ¬ ∃ l ∈ L, p ∈ l)
    {l : List Pt} (sl : l.Pairwise ltP) (ml : ∀ q, q ∈ l ↔ Con D p q) : LI D ps (i + 1) (L ++ [l]) := by
  have pp : IsP D p := (hps p).mp (List.mem_of_getElem? hp)
  have hpl : p ∈ l := (ml p).mpr .refl
  have hh : l.head? = some p := by
    cases l with
    | nil => cases hpl
    | cons x r =>
      by_cases e : x = p
      · rw [e]; rfl
      · exfalso
        have hpr : p ∈ r := (List.mem_cons.mp hpl).resolve_left fun z => e z.symm
        have lt := (List.pairwise_cons.mp sl).1 p hpr
        have cx : Con D p x := (ml x).mp List.mem_cons_self
        have hx := before s hp ((hps x).mpr (cx.isP sym pp)) lt
        obtain ⟨l', hl', hxl⟩ := h.all x hx
        exact c ⟨l', hl', ((h.cls l' hl' x hxl).2 p).mpr (cx.symm sym)⟩
  refine ⟨fun m hm => ?_, fun m hm => ?_, fun m hm => ?_, fun x hx => ?_, ?_, fun m hm => ?_⟩
  · rcases List.mem_append.mp hm with hm | hm
    · exact h.srt m hm
    · rw [List.mem_singleton.mp hm]; exact sl
  · rcases List.mem_append.mp hm with hm | hm
    · exact h.ne m hm
    · rw [List.mem_singleton.mp hm]
      exact List.ne_nil_of_mem hpl
  · rcases List.mem_append.mp hm with hm | hm
    · exact h.cls m hm
    · rw [List.mem_singleton.mp hm]
      intro q hq
      have cq := (ml q).mp hq
      exact ⟨cq.isP sym pp, fun z => (ml z).trans ⟨fun cz => (cq.symm sym).trans cz, fun cz => cq.trans cz⟩⟩
  · rw [take_get hp] at hx
    rcases List.mem_append.mp hx with hx | hx
    · obtain ⟨m, hm, h2⟩ := h.all x hx
      exact ⟨m, List.mem_append_left _ hm, h2⟩
    · rw [List.mem_singleton.mp hx]
      exact ⟨l, List.mem_append_right _ (List.mem_singleton.mpr rfl), hpl⟩
  · refine List.pairwise_append.mpr ⟨h.hd, List.pairwise_singleton _ _, fun m hm m' hm' => ?_⟩
    rw [List.mem_singleton.mp hm']
    obtain ⟨x, h1, h2⟩ := h.fr m hm
    exact ⟨x, p, h1, hh, after s hp h2⟩
  · rcases List.mem_append.mp hm with hm | hm
    · obtain ⟨x, h1, h2⟩ := h.fr m hm
      exact ⟨x, h1, take_up h2⟩
    · rw [List.mem_singleton.mp hm]
      exact ⟨p, hh, by rw [take_get hp]; exact List.mem_append_right _ (List.mem_singleton.mpr rfl)⟩
theorem LI.done {D : List (Pt × Pt)} {ps : List Pt} (hps : ∀ p, p ∈ ps ↔ IsP D p) {L : List (List Pt)} (h : LI D ps ps.length L) : LotsOk D L := by
  refine ⟨h.srt, h.ne, h.cls, fun p hp => h.all p ?_, h.hd⟩
  rw [List.take_length]
  exact (hps p).mpr hp
/-- what distances tells: all that hangs together -/
theorem AwayOk.con {D : List (Pt × Pt)} {ts : Ties} {s : Pt} {aw : Aw} (h : AwayOk D ts s aw) (sym : ∀ p q, (p, q) ∈ D → (q, p) ∈ D) (ex : ∃ e ∈ ts, e.1 = s) (q : Pt) : q ∈ aw.map (·.1) ↔ Con D s q := by
  constructor
  · intro hq
    obtain ⟨⟨a, k⟩, ha, rfl⟩ := List.mem_map.mp hq
    have := (h.lst sym ex a k).mp ha
    exact Con.symm (p := a) sym ⟨k, this.1⟩
  · intro hc
    obtain ⟨k, hk⟩ := hc.symm sym
    obtain ⟨j, _, hj⟩ := hk.least
    exact List.mem_map.mpr ⟨(q, j), (h.lst sym ex q j).mpr hj, rfl⟩
theorem ties_isP {D : List (Pt × Pt)} {ts : Ties} (F : TiesFor D ts) (p : Pt) : p ∈ ts.map (·.1) ↔ IsP D p := by
  constructor
  · intro h
    obtain ⟨e, he, rfl⟩ := List.mem_map.mp h
    obtain ⟨q, hq⟩ := List.exists_mem_of_ne_nil _ (F.ne e he)
    exact ⟨q, (F.mem e he q).mp hq⟩
  · rintro ⟨q, hq⟩
    obtain ⟨e, he, e1⟩ := F.key p q hq
    exact List.mem_map.mpr ⟨e, he, e1⟩
/-! sorted of a dict of points -/
theorem srtZ_of {H : Hp} {d : Addr} {kvs : List (List Key × V)} {ps : List Pt} {Q : VK} (hd : Rd H d (.dT kvs)) (hk : kvs.map (·.1) = ps.map kZ) (nd : ps.Nodup) (ok : ∀ p ∈ ps, okOut p.1 ∧ okOut p.2) (few : ps.length < 64)
    (q : ∀ (r : Addr) (xs : List V) (l : List Pt), H r = none → A2 (TpAt H) xs l → l.Perm ps → l.Pairwise ltP → Q (.ref r) (upd H r (.lst xs))) : rSortDT 2 64 [.ref d] H Q := by
  refine ⟨d, kvs, ps.map (fun p => [p.1, p.2]), rfl, hd, ?_, by rw [List.length_map]; exact few, ?_, fun L r h1 h2 h3 hr => ?_⟩
  · rw [hk, List.map_map]
    rfl
  · intro ns hns
    obtain ⟨p, hp, rfl⟩ := List.mem_map.mp hns
    obtain ⟨⟨o1, o2⟩, o3, o4⟩ := ok p hp
    refine ⟨rfl, fun m hm => ?_⟩
    rcases List.mem_cons.mp hm with rfl | hm
    · omega
    · rw [List.mem_singleton.mp hm]
      omega
  · have hL : ∀ z ∈ L, ∃ p ∈ ps, z.2 = [p.1, p.2] := fun z hz => by
      have : z.2 ∈ ps.map (fun p => [p.1, p.2]) := h1.mem_iff.mp (List.mem_map.mpr ⟨z, hz, rfl⟩)
      obtain ⟨p, hp, e⟩ := List.mem_map.mp this
      exact ⟨p, hp, e.symm⟩
    have ha : A2 (TpAt H) (L.map fun q => V.ref q.1) (L.map fun z => (z.2.getD 0 0, z.2.getD 1 0)) := A2.ofMap _ _ L fun z hz => by
      obtain ⟨p, hp, e⟩ := hL z hz
      refine ⟨z.1, rfl, ?_⟩
      have := h3 z hz
      rw [e] at this ⊢
      exact this
    have hperm : (L.map fun z => (z.2.getD 0 0, z.2.getD 1 0)).Perm ps := by
      have := h1.map fun ns => (ns.getD 0 0, ns.getD 1 0)
      rw [List.map_map, List.map_map] at this
      have e : ps.map ((fun ns : List Int => (ns.getD 0 0, ns.getD 1 0)) ∘ fun p : Pt => [p.1, p.2]) = ps := by
        conv => rhs; rw [← List.map_id ps]
        rfl
      rw [e] at this
      exact this
    refine q r _ _ hr ha hperm ?_
    have nd2 := hperm.nodup_iff.mpr nd
    rw [List.pairwise_map]
    refine (h2.and (List.pairwise_map.mp nd2)).imp_of_mem fun {x y} hx hy h => ?_
    obtain ⟨px, hpx, ex⟩ := hL x hx
    obtain ⟨py, hpy, ey⟩ := hL y hy
    obtain ⟨⟨o1, o2⟩, o3, o4⟩ := ok px hpx
    obtain ⟨⟨o5, o6⟩, o7, o8⟩ := ok py hpy
    obtain ⟨h1, h2⟩ := h
    rw [ex, ey] at h1 h2 ⊢
    rw [code2, code2] at h1
    have ne : ¬ (px.1 = py.1 ∧ px.2 = py.2) := fun c => h2 (by
      show (px.1, px.2) = (py.1, py.2)
      rw [c.1, c.2])
    show px.1 < py.1 ∨ (px.1 = py.1 ∧ px.2 < py.2)
    omega
end TA

set_option Elab.async false
set_option maxRecDepth 100000
set_option maxHeartbeats 4000000
namespace TA
open PySem L2 PyProof.Rows
set_option linter.unusedVariables false
/-! lots -/
theorem asg_go {i : Nat} {v : V} {σ : L2.St} {H : Hp} {Q : L2.St → Hp → Prop} (h : Q (σ.set i (some v)) H) : gName i v σ H Q := h
theorem seq_go {t u : TS} {D : Ends} {σ : L2.St} {H : Hp} (h : t { D with nx := u D } σ H) : tSeq t u D σ H := h
theorem tasg_go {te : TE} {g : TG} {D : Ends} {σ : L2.St} {H : Hp} (h : te σ H fun x H1 => g x σ H1 D.nx) : tAsg te g D σ H := h
theorem if_join {c : TT} {A : TS} {D : Ends} {σ : L2.St} {H : Hp} (Iv : Hp → Prop) (k : ∀ H', Iv H' → D.nx σ H') (h : (∀ H', Iv H' → D.nx σ H') → c σ H fun b H1 => if b = true then A D σ H1 else tNext D σ H1) : tIfS c A tNext D σ H := h k
theorem isP_ok {outs : List Pt} (W : okLet outs) {q : Pt} (h : IsP (dirs outs) q) : okOut q.1 ∧ okOut q.2 := by
  obtain ⟨x, hx⟩ := h
  obtain ⟨o, ho, ⟨rfl, rfl⟩ | ⟨rfl, rfl⟩⟩ := mem_dirs.mp hx
  · exact ⟨⟨by show (0 : Int) ≤ 0; decide, by show (0 : Int) ≤ 63; decide⟩, (W.2.2.2 o ho).1⟩
  · exact ⟨⟨by show (0 : Int) ≤ 1; decide, by show (1 : Int) ≤ 63; decide⟩, (W.2.2.2 o ho).2⟩
theorem te_keys {H : Hp} : ∀ {kvs : List (List Key × V)} {ts : Ties}, A2 (TeAt H) kvs ts → kvs.map (·.1) = (ts.map (·.1)).map kZ
  | _, _, .nil => rfl
  | _, _, .cons a r => by rw [List.map_cons, List.map_cons, List.map_cons, a.1, te_keys r]
theorem aw_keys : ∀ {kvs : List (List Key × V)} {aw : Aw}, A2 AwAt kvs aw → kvs.map (·.1) = (aw.map (·.1)).map kZ
  | _, _, .nil => rfl
  | _, _, .cons a r => by rw [List.map_cons, List.map_cons, List.map_cons, a.1, aw_keys r]
theorem sub_len {α : Type} [DecidableEq α] : ∀ {xs ys : List α}, xs.Nodup → (∀ x ∈ xs, x ∈ ys) → xs.length ≤ ys.length
  | [], _, _, _ => Nat.zero_le _
  | x :: xs, ys, h, s => by
    have hx := s x List.mem_cons_self
    obtain ⟨h1, h2⟩ := List.nodup_cons.mp h
    have r := sub_len (xs := xs) (ys := ys.erase x) h2 fun y hy => by
      have ne : y ≠ x := fun e => h1 (e ▸ hy)
      exact (List.mem_erase_of_ne ne).mpr (s y (List.mem_cons_of_mem _ hy))
    rw [List.length_erase_of_mem hx] at r
    have : 0 < ys.length := List.length_pos_of_mem hx
    rw [List.length_cons]
    omega
/-- a set of points -/
structure SetP (H : Hp) (ps : List Pt) (SL : List (Addr × List Int)) (S : Pt → Prop) : Prop where
  rows : ∀ z ∈ SL, H z.1 = some (.tup (z.2.map V.int))
  ins : ∀ z ∈ SL, ∃ p ∈ ps, z.2 = [p.1, p.2]
  nd : (SL.map (·.2)).Nodup
  mem : ∀ p : Pt, [p.1, p.2] ∈ SL.map (·.2) ↔ S p
theorem two_eq {p q : Pt} (h : [p.1, p.2] = [q.1, q.2]) : p = q := by
  injection h with h1 h2
  injection h2 with h2 _
  exact Prod.ext h1 h2
theorem SetP.len {H ps SL S} (h : SetP H ps SL S) : SL.length ≤ ps.length := by
  have := sub_len h.nd (ys := ps.map fun p => [p.1, p.2]) fun x hx => by
    obtain ⟨z, hz, rfl⟩ := List.mem_map.mp hx
    obtain ⟨p, hp, e⟩ := h.ins z hz
    exact List.mem_map.mpr ⟨p, hp, e.symm⟩
  rwa [List.length_map, List.length_map] at this
theorem SetP.step {H H' ps SL S} (k : ∀ b xs, H b = some (.tup xs) → H' b = some (.tup xs)) (h : SetP H ps SL S) : SetP H' ps SL S := ⟨fun z hz => k _ _ (h.rows z hz), h.ins, h.nd, h.mem⟩
theorem SetP.add {H ps SL S} (h : SetP H ps SL S) {b : Addr} {q : Pt} (hb : H b = some (.tup ([q.1, q.2].map V.int))) (hq : q ∈ ps) {SL' : List (Addr × List Int)} (c1 : [q.1, q.2] ∈ SL.map (·.2) → SL' = SL) (c2 : [q.1, q.2] ∉ SL.map (·.2) → SL'.Perm ((b, [q.1, q.2]) :: SL)) : SetP H ps SL' (fun p => S p ∨ p = q) := by
  by_cases c : [q.1, q.2] ∈ SL.map (·.2)
  · rw [c1 c]
    refine ⟨h.rows, h.ins, h.nd, fun p => ⟨fun hp => .inl ((h.mem p).mp hp), fun hp => ?_⟩⟩
    rcases hp with hp | rfl
    · exact (h.mem p).mpr hp
    · exact c
  · have pm := c2 c
    refine ⟨fun z hz => ?_, fun z hz => ?_, ?_, fun p => ?_⟩
    · rcases List.mem_cons.mp (pm.mem_iff.mp hz) with rfl | hz
      · exact hb
      · exact h.rows z hz
    · rcases List.mem_cons.mp (pm.mem_iff.mp hz) with rfl | hz
      · exact ⟨q, hq, rfl⟩
      · exact h.ins z hz
    · refine ((pm.map (·.2)).nodup_iff).mpr ?_
      rw [List.map_cons]
      exact List.nodup_cons.mpr ⟨c, h.nd⟩
    · rw [(pm.map (·.2)).mem_iff, List.map_cons, List.mem_cons, h.mem p]
      constructor
      · rintro (e | e)
        · exact .inr (two_eq e)
        · exact .inl e
      · rintro (e | rfl)
        · exact .inr e
        · exact .inl rfl
theorem SetP.cast {H ps SL S S'} (h : SetP H ps SL S) (e : ∀ p, S p ↔ S' p) : SetP H ps SL S' := ⟨h.rows, h.ins, h.nd, fun p => (h.mem p).trans (e p)⟩
theorem sz_go {te : TE} {σ : L2.St} {H : Hp} {Q : VK} (h : te σ H fun x H1 => rSortDT 2 64 [x] H1 Q) : tCB (rSortDT 2 64) (tCons te tNil) σ H Q := h
theorem cb0_go {R : List V → Hp → VK → Prop} {σ : L2.St} {H : Hp} {Q : VK} (h : R [] H Q) : tCB R tNil σ H Q := h
theorem set0_of {P : Program} {w : World} {H : Hp} {Q : VK} (q : ∀ (f : Addr) (H' : Hp), Same H H' → H f = none → H' f = some (SetTO P w f []) → Q (.ref f) H') : rSet0T P w [] H Q := ⟨rfl, fun f hf => q f _ (same_new hf _) hf upd_same⟩
theorem nf_set {P : Program} {w : World} {a : Addr} {L : List (Addr × List Int)} : ¬ flatO (SetTO P w a L) := by
  rintro (⟨xs, h⟩ | ⟨xs, h⟩) <;> cases h
/-- for p in sorted(d), d a dict of points -/
theorem for_srtZ {K : PySem.W.Frag} {n : Nat} {d : Addr} {kvs : List (List Key × V)} {ps : List Pt} {g : TG} {tb : TS} {D : Ends} {σ : L2.St} {H : Hp} (e : σ[n]? = some (some (.ref d))) (hd : H d = some (.dT kvs)) (hk : kvs.map (·.1) = ps.map kZ) (nd : ps.Nodup) (ok : ∀ p ∈ ps, okOut p.1 ∧ okOut p.2) (few : ps.length < 64)
    (q : ∀ (r : Addr) (xs : List V) (l : List Pt), H r = none → A2 (TpAt H) xs l → l.Perm ps → l.Pairwise ltP → ∃ W : Nat → Nat → L2.St → Hp → Prop, (∃ m, W 0 m σ (upd H r (.lst xs))) ∧ ∀ i m σ H, W i m σ H →
      ((Itl K r).stop i H ∧ D.nx σ H) ∨ ((Itl K r).go i H ∧ ∃ N : L2.St → Hp → Prop, (∀ σ' H', N σ' H' → ∃ m', m' < m ∧ W (i + 1) m' σ' H') ∧ ∀ x H', (Itl K r).yld i H x H' → g x σ H' fun σ2 H2 => tb { D with nx := N, ct := N, bk := D.nx } σ2 H2)) :
    tFor (iList K (tCB (rSortDT 2 64) (tCons (tVar n) tNil))) g tb D σ H := by
  refine ⟨_, e, ?_⟩
  dsimp only [tNil]
  exact srtZ_of (.inl hd) hk nd ok few fun r xs l hr hx hp hs => ⟨r, rfl, ⟨_, SqL.of upd_same⟩, q r xs l hr hx hp hs⟩
def LotRow (H0 H : Hp) (r : Addr) (v : V) (l : List Pt) : Prop := ∃ a, v = .ref a ∧ H0 a = none ∧ a ≠ r ∧ LetAt H (.ref a) l
theorem LotRow.mono {H0 H H' : Hp} (k : Kp H H') {r v l} (h : LotRow H0 H r v l) : LotRow H0 H' r v l := by
  obtain ⟨a, e, n, ne, h⟩ := h
  exact ⟨a, e, n, ne, h.mono k⟩
theorem LotRow.upd {H0 H : Hp} {r : Addr} {v : V} {l : List Pt} {ls ls' : List V} (e : H r = some (.lst ls)) (h : LotRow H0 H r v l) : LotRow H0 (upd H r (.lst ls')) r v l := by
  obtain ⟨a, ev, n, ne, t, xs, et, ht, hx⟩ := h
  cases et
  exact ⟨a, ev, n, ne, a, xs, rfl, by rw [upd_ne ne]; exact ht, hx.imp fun _ _ g => tp_upd e g⟩
def spTf1 (C : Addr) : Sp := fun vs H Q _ => ∃ (p : Addr) (v : V) (T : TD), vs = [.ref p, v] ∧ TaskAt C H p T ∧ WF T ∧ ∃ e ∈ T.bo, TpAt H v (iI e.1) ∧ ∀ (t : Addr) (ts : Ties) (H1 H' : Hp), Same H H1 → TiS H1 H' t ts → TiesFor (dirs e.2) ts → Q (.ref t) H'
theorem tf1 {K : PySem.W.Frag} {C cI : Addr} (vs : List V) (H : Hp) (Q : VK) (E : XK) (h : spTf1 C vs H Q E) : spTf K C cI vs H Q (fun _ _ _ => False) := by
  obtain ⟨p, v, T, e, hT, W, b, hb, hv, q⟩ := h
  exact ⟨p, v, T, e, hT, W, .inr ⟨b, hb, hv, q⟩⟩
def spFar1 (C : Addr) : Sp := fun vs H Q _ => ∃ (p : Addr) (v : V) (T : TD) (x y : Int), vs = [.ref p, v, .int x, .int y] ∧ TaskAt C H p T ∧ WF T ∧ ∃ e ∈ T.bo, TpAt H v (iI e.1) ∧ ∀ (u : V) (H' : Hp), Same H H' → LeastV e.2 x y u → Q u H'
theorem far1 {K : PySem.W.Frag} {C cI : Addr} (vs : List V) (H : Hp) (Q : VK) (E : XK) (h : spFar1 C vs H Q E) : spFarX C cI K vs H Q (fun _ _ _ => False) := by
  obtain ⟨p, v, T, x, y, e, hT, W, b, hb, hv, q⟩ := h
  exact ⟨p, v, T, x, y, e, hT, W, .inr ⟨b, hb, hv, q⟩⟩
def spLots (C : Addr) : Sp := fun vs H Q _ => ∃ (p : Addr) (v : V) (T : TD) (e : IP × List Pt), vs = [.ref p, v] ∧ TaskAt C H p T ∧ WF T ∧ e ∈ T.bo ∧ TpAt H v (iI e.1) ∧ e.2.length ≤ 30 ∧
  ∀ (r : Addr) (xs : List V) (L : List (List Pt)) (H' : Hp), Same H H' → H r = none → H' r = some (.lst xs) → A2 (LotRow H H' r) xs L → LotsOk (dirs e.2) L → Q (.ref r) H'
section
variable {P : Program} {w : World} {K : PySem.W.Frag} {mg : Str → Option Value} {base : Heap}
abbrev nLo : List Str := ["task", "pair", "ties", "told", "found", "point", "lot", "other"]
theorem sc_lo : FnScope nLo ["task", "pair"] (defScope s_lots) := ⟨rfl, rfl, rfl, by decide +kernel, rfl, by decide +kernel, by decide +kernel⟩
theorem ok_lots {f g1 g2 C : Addr} {fd d1 d2 : FuncData} (F : Fun K "lots" "lots" s_lots f fd) (T2 : Txt2 K mg) (Tf : Def P w K mg base "ties_for" nTf 5 (spTf1 C) g1 d1) (Di : Def P w K mg base "distances" ["ties", "start"] 1 spDist g2 d2) : FnOk P w K mg base CX0 6 f fd ["task", "pair"] (spLots C) := by
  refine F.ok sc_lo (fun vs H Q E h => ?_) (fun cdv A outer s H vs Q E hr h => ?_)
  · obtain ⟨p, v, T, e, rfl, _⟩ := h
    rfl
  obtain ⟨p, v, T, e, rfl, hT, W, he, hv, l30, q⟩ := h
  have nd := sc_lo.nd
  have hu64 : (A.deeper (envOfC "lots" (defScope s_lots) s.heap.objs.size f cdv)).units + 64 < cLine := by have := hr.un; omega
  refine ⟨_, (pss_cons (ps_set (i := 2) nd rfl (Or.inl rfl) (pe_call Tf.G (hr.mono (by decide)) rfl Tf.m Tf.k Tf.b .nil pass0 (pa_cons (pv 0) (pa_cons (pv 1) pa_nil))))
    (pss_cons (ps_set (i := 3) nd rfl (Or.inl rfl) (pe_lst pa_nil))
    (pss_cons (ps_set (i := 4) nd rfl (Or.inl rfl) (pe_callTy0 cr_set0T (by rfl) T2.set (by decide +kernel)))
    (pss_cons (ps_for PassesOwn.never (by rfl) (pi_list (pe_callB (cr_sortedDT (d := 2) (B := 64) (by decide) rfl) (by rfl) T2.sorted (by decide +kernel) (pa_cons (pv 2) pa_nil))) (pg_name (i := 5) nd rfl (Or.inl rfl))
      (pss_one (ps_if (pt_cmpR (op_notInSetT hu64) (pv 5) (pv 4) (by rfl))
      (pss_cons (ps_set (i := 6) nd rfl (Or.inl rfl) (pe_callB (cr_sortedDT (d := 2) (B := 64) (by decide) rfl) (by rfl) T2.sorted (by decide +kernel) (pa_cons (pe_call Di.G (hr.mono (by decide)) rfl Di.m Di.k Di.b .nil pass0 (pa_cons (pv 2) (pa_cons (pv 5) pa_nil))) pa_nil)))
    (pss_cons (ps_expr (pe_bm PySem.F.plainAttrs_list PySem.F.slot_list_append PySem.F.type_list_append mt_append (pv 3) (pa_cons (pv 6) pa_nil)))
    (pss_one (ps_for PassesOwn.never (by rfl) (pi_list (pv 6)) (pg_name (i := 7) nd rfl (Or.inl rfl))
      (pss_one (ps_expr (pe_saddT hu64 (pv 4) (pa_cons (pv 7) pa_nil))))))))
      pss_nil)))
    (pss_one (ps_ret (pv 3))))))), ?_⟩
  have okl := W.lets e he
  have dl := dirs_len e.2
  have sym : ∀ p q, (p, q) ∈ dirs e.2 → (q, p) ∈ dirs e.2 := fun _ _ => dirs_symm
  refine ⟨_, rfl, _, rfl, p, v, T, rfl, hT, W, e, he, hv, fun t ts H1 H2 s1 Ts F2 => ?_⟩
  have s2 := s1.trans Ts.same0
  have tl := F2.len
  refine asg_go ?_
  dsimp only
  refine seq_go ?_
  refine ⟨(by show 0 ≤ sizeLine; decide), fun told htold => ?_⟩
  refine asg_go ?_
  dsimp only
  refine seq_go ?_
  refine tasg_go (cb0_go (set0_of (P := P) (w := w) fun fnd H3 s4 hfnd hfo => ?_))
  refine asg_go ?_
  dsimp only
  have s3 := same_new htold (.lst [])
  have s34 := s3.trans s4
  have ntold : H told = none := none_of_same s2 htold
  have nfnd : H2 fnd = none := none_of_same s3 hfnd
  have hto : H3 told = some (.lst []) := s4 _ _ upd_same
  have ntf : told ≠ fnd := ne_of_none upd_same hfnd
  obtain ⟨kvt, ht, hte⟩ := Ts.r.mono s34
  refine seq_go (for_srtZ rfl ht (te_keys hte) F2.nd (fun q hq => isP_ok okl ((ties_isP F2 q).mp hq)) (by rw [List.length_map]; omega) fun r xs ps hr hx hperm hsrt => ?_)
  have hps : ∀ q, q ∈ ps ↔ IsP (dirs e.2) q := fun q => hperm.mem_iff.trans (ties_isP F2 q)
  have lps : ps.length ≤ 60 := by
    rw [hperm.length_eq, List.length_map]
    omega
  have s5 := same_new hr (.lst xs)
  have nrt : r ≠ told := (ne_of_none hto hr).symm
  have nrf : r ≠ fnd := (ne_of_none hfo hr).symm
  refine for_list (xs := xs) (fun i σ H' => ∃ g5 g6 g7 ls L SL, σ = [some (.ref p), some v, some (.ref t), some (.ref told), some (.ref fnd), g5, g6, g7] ∧ Same H2 H' ∧ H' r = some (.lst xs) ∧ A2 (TpAt H') xs ps ∧ H' told = some (.lst ls) ∧ A2 (LotRow H H' told) ls L ∧ L.length ≤ i ∧ H' fnd = some (SetTO P w fnd SL) ∧ SetP H' ps SL (fun q => ∃ l ∈ L, q ∈ l) ∧ LI (dirs e.2) ps i L)
    ⟨_, _, _, [], [], [], rfl, s34.trans s5, upd_same, hx.imp fun _ _ g => g.mono (.same s5), s5 _ _ hto, .nil, Nat.zero_le _, s5 _ _ hfo, ⟨fun z h => (nomatch h), fun z h => (nomatch h), List.nodup_nil, fun q => ⟨fun h => (nomatch h), fun ⟨_, h, _⟩ => (nomatch h)⟩⟩, .start⟩ (fun i σ H' _ ⟨_, _, _, _, _, _, _, _, e, _⟩ => SqL.of e) ?_ ?_
  · rintro i x σ H4 hxi ⟨g5, g6, g7, ls, L, SL, rfl, s4, hr4, hx4, ht4, hl4, ll4, hf4, SP, LI4⟩
    obtain ⟨pt, hpt, tt, rfl, htt⟩ := hx4.get hxi
    have ptp := List.mem_of_getElem? hpt
    have il : i < 60 := Nat.lt_of_lt_of_le (List.getElem?_eq_some_iff.mp hpt).1 lps
    refine ⟨_, rfl, _, rfl, tt, fnd, [pt.1, pt.2], SL, rfl, rfl, SqT.of htt, hf4, fun z hz => SqT.of (SP.rows z hz), _, rfl, ?_⟩
    rw [if_pos rfl]
    by_cases c : ∃ l ∈ L, pt ∈ l
    · refine iteF' (by rw [decide_eq_true ((SP.mem pt).mpr c)]; rfl) ?_
      exact ⟨_, _, _, ls, L, SL, rfl, s4, hr4, hx4, ht4, hl4, by omega, hf4, SP, LI4.skip hpt c⟩
    refine iteT' (by rw [decide_eq_false (fun z => c ((SP.mem pt).mp z))]; rfl) ?_
    refine seq_go (tasg_go (sz_go ?_))
    refine ⟨_, rfl, _, rfl, t, tt, dirs e.2, ts, pt, rfl, Ts.r.mono s4, F2, sym, by omega, ⟨tt, rfl, htt⟩, fun d kva aw H5 s5 _ hd ha ok => ?_⟩
    have ext : ∃ b ∈ ts, b.1 = pt := by
      obtain ⟨b, hb, e1⟩ := List.mem_map.mp (hperm.mem_iff.mp ptp)
      exact ⟨b, hb, e1⟩
    have con := ok.con sym ext
    have ptP := (hps pt).mp ptp
    have sub : ∀ q ∈ aw.map (·.1), q ∈ ps := fun q hq => (hps q).mpr (((con q).mp hq).isP sym ptP)
    have law := sub_len (show (aw.map (·.1)).Nodup from ok.nd) sub
    refine srtZ_of (.inl hd) (aw_keys ha) ok.nd (fun q hq => isP_ok okl ((hps q).mp (sub q hq))) (by omega) fun r6 xs6 l6 hr6 hx6 hp6 hs6 => ?_
    have s6 := same_new hr6 (.lst xs6)
    have ml : ∀ q, q ∈ l6 ↔ Con (dirs e.2) pt q := fun q => hp6.mem_iff.trans (con q)
    have l6s : ∀ q ∈ l6, q ∈ ps := fun q hq => sub q (hp6.mem_iff.mp hq)
    have s56 := s5.trans s6
    have s46 := s4.trans s56
    have nr6 : H r6 = none := none_of_same (s2.trans (s4.trans s5)) hr6
    have ht6 := s56 _ _ ht4
    have hf6 := s56 _ _ hf4
    have hr6' : (upd H5 r6 (.lst xs6)) r6 = some (.lst xs6) := upd_same
    have n6t : r6 ≠ told := (ne_of_none (s5 _ _ ht4) hr6).symm
    have n6f : r6 ≠ fnd := (ne_of_none (s5 _ _ hf4) hr6).symm
    have hx6 := hx6.imp fun _ _ g => g.mono (.same s6)
    have hrr := s56 _ _ hr4
    have hxx := hx4.imp fun _ _ g => g.mono (.same s56)
    have hll := hl4.imp fun _ _ g => g.mono (.same s56)
    have SPP := SP.step fun b xs h => s56 b _ h
    generalize upd H5 r6 (.lst xs6) = H6 at s46 ht6 hf6 hr6' hx6 hrr hxx hll SPP ⊢
    have lls : ls.length ≤ 60 := by
      rw [hl4.len]
      omega
    have tpu : ∀ b zs, H6 b = some (.tup zs) → (upd H6 told (.lst (ls ++ [V.ref r6]))) b = some (.tup zs) := fun b zs h => by rw [upd_ne (ne_of h ht6 (fun z => by cases z))]; exact h
    refine ⟨_, rfl, .inl ⟨rfl, _, SqL.of ht6⟩, _, rfl, told, ls, _, rfl, rfl, ht6, by rw [sizeLine_eq]; omega, ?_⟩
    have hrT : (upd H6 told (.lst (ls ++ [V.ref r6]))) r6 = some (.lst xs6) := by rw [upd_ne n6t]; exact hr6'
    refine ⟨_, rfl, r6, rfl, ⟨_, SqL.of hrT⟩, ?_⟩
    refine for_list (xs := xs6) (fun j σ H' => ∃ g7 SL', σ = [some (.ref p), some v, some (.ref t), some (.ref told), some (.ref fnd), some (.ref tt), some (.ref r6), g7] ∧ Same H2 H' ∧ H' r = some (.lst xs) ∧ A2 (TpAt H') xs ps ∧ H' told = some (.lst (ls ++ [V.ref r6])) ∧ A2 (LotRow H H' told) (ls ++ [V.ref r6]) (L ++ [l6]) ∧ H' r6 = some (.lst xs6) ∧ A2 (TpAt H') xs6 l6 ∧ H' fnd = some (SetTO P w fnd SL') ∧ SetP H' ps SL' (fun q => (∃ l ∈ L, q ∈ l) ∨ q ∈ l6.take j))
      ⟨_, SL, rfl, same_upd s46 htold, by rw [upd_ne nrt]; exact hrr, hxx.imp fun _ _ g => tp_upd ht6 g, upd_same, (hll.imp fun _ _ g => g.upd ht6).snoc ⟨r6, rfl, nr6, n6t, r6, xs6, rfl, hrT, hx6.imp fun _ _ g => tp_upd ht6 g⟩, hrT, hx6.imp fun _ _ g => tp_upd ht6 g, by rw [upd_ne (Ne.symm ntf)]; exact hf6, (SPP.step tpu).cast fun q => by simp⟩ (fun j σ H' _ ⟨_, _, _, _, _, _, _, _, e, _⟩ => SqL.of e) ?_ ?_
    · rintro j x σ H7 hxj ⟨g7, SL', rfl, s7, hr7, hx7, ht7, hl7, h67, hx67, hf7, SP7⟩
      obtain ⟨qq, hqq, tq, rfl, htq⟩ := hx67.get hxj
      have hqm := l6s qq (List.mem_of_getElem? hqq)
      have lsl := SP7.len
      refine ⟨_, rfl, ⟨fnd, SL', rfl, hf7⟩, _, rfl, fnd, tq, [qq.1, qq.2], SL', rfl, rfl, SqT.of htq, hf7, fun z hz => SqT.of (SP7.rows z hz), by omega, fun SL2 c1 c2 => ?_⟩
      have kp : Kp H7 (upd H7 fnd (SetTO P w fnd SL2)) := Kp.put hf7 nf_set
      refine ⟨_, SL2, rfl, same_upd s7 nfnd, by rw [upd_ne nrf]; exact hr7, hx7.imp fun _ _ g => g.mono kp, by rw [upd_ne ntf]; exact ht7, hl7.imp fun _ _ g => g.mono kp, by rw [upd_ne n6f]; exact h67, hx67.imp fun _ _ g => g.mono kp, upd_same, ((SP7.add htq hqm c1 c2).step fun b zs h => kp.tup h).cast fun z => ?_⟩
      rw [take_get hqq, List.mem_append, List.mem_singleton]
      exact or_assoc
    · rintro σ H7 ⟨g7, SL', rfl, s7, hr7, hx7, ht7, hl7, h67, hx67, hf7, SP7⟩
      rw [hx6.len, List.take_length] at SP7
      refine ⟨_, _, _, _, L ++ [l6], SL', rfl, s7, hr7, hx7, ht7, hl7, by rw [List.length_append]; show L.length + 1 ≤ i + 1; omega, hf7, SP7.cast fun z => ?_, LI4.add sym hsrt hps hpt c hs6 ml⟩
      constructor
      · rintro (⟨l, hl, h⟩ | h)
        · exact ⟨l, List.mem_append_left _ hl, h⟩
        · exact ⟨l6, List.mem_append_right _ (List.mem_singleton.mpr rfl), h⟩
      · rintro ⟨l, hl, h⟩
        rcases List.mem_append.mp hl with hl | hl
        · exact .inl ⟨l, hl, h⟩
        · rw [List.mem_singleton.mp hl] at h
          exact .inr h
  · rintro σ H4 ⟨g5, g6, g7, ls, L, SL, rfl, s4, hr4, hx4, ht4, hl4, _, hf4, SP, LI4⟩
    rw [hx.len] at LI4
    exact ⟨_, rfl, q told ls L H4 (s2.trans s4) ntold ht4 hl4 (LI4.done hps)⟩
end
end TA

set_option Elab.async false
set_option maxRecDepth 100000
set_option maxHeartbeats 4000000
namespace TA
open PySem L2 PyProof.Rows
set_option linter.unusedVariables false
/-! lots put together: facts; lists of points sorted -/
theorem A2.app {α β : Type} {R : α → β → Prop} : ∀ {xs xs' : List α} {ys ys' : List β}, A2 R xs ys → A2 R xs' ys' → A2 R (xs ++ xs') (ys ++ ys')
  | _, _, _, _, .nil, h => h
  | _, _, _, _, .cons a b, h => .cons a (b.app h)
theorem tp_ks {H : Hp} : ∀ {xs : List V} {l : List (Int × Int)}, A2 (TpAt H) xs l → ∃ ks : List (Addr × List Int), xs = ks.map (fun p => V.ref p.1) ∧ ks.map (·.2) = l.map (fun p => [p.1, p.2]) ∧ ∀ p ∈ ks, H p.1 = some (.tup (p.2.map V.int))
  | _, _, .nil => ⟨[], rfl, rfl, fun p hp => by cases hp⟩
  | _, _, .cons (y := y) ⟨t, ex, h⟩ r => by
    obtain ⟨ks, e1, e2, e3⟩ := tp_ks r
    refine ⟨(t, [y.1, y.2]) :: ks, by rw [List.map_cons, ex, e1], by rw [List.map_cons, List.map_cons, e2], fun p hp => ?_⟩
    rcases List.mem_cons.mp hp with rfl | hp
    · exact h
    · exact e3 p hp
def toP (q : Addr × List Int) : Int × Int := (q.2.getD 0 0, q.2.getD 1 0)
/-- sorted(set(pairs)) -/
theorem sset_of {P : Program} {w : World} {K : PySem.W.Frag} {H : Hp} {l : Addr} {xs : List V} {ms : List Pt} {Q : VK} (e : H l = some (.lst xs)) (ax : A2 (TpAt H) xs ms) (ok : ∀ p ∈ ms, okOut p.1 ∧ okOut p.2) (m : ms.length < 64)
    (q : ∀ (r : Addr) (H' : Hp) (ls : List Pt), Same H H' → H r = none → LetAt H' (.ref r) ls → ls.Pairwise ltP → (∀ p, p ∈ ls ↔ p ∈ ms) → ls.length ≤ ms.length → Q (.ref r) H') : rSetOfT K P w [.ref l] H fun c H1 => rSortedT K P w [c] H1 Q := by
  obtain ⟨ks, rfl, ek, hk⟩ := tp_ks ax
  have hkl : ks.length = ms.length := by
    have := congrArg List.length ek
    rwa [List.length_map, List.length_map] at this
  have hks : ∀ p ∈ ks, ∃ x y, p.2 = [x, y] ∧ (x, y) ∈ ms := fun p hp => by
    have : p.2 ∈ ks.map (·.2) := List.mem_map.mpr ⟨p, hp, rfl⟩
    rw [ek] at this
    obtain ⟨z, hz, e⟩ := List.mem_map.mp this
    exact ⟨z.1, z.2, e.symm, hz⟩
  refine ⟨l, ks, rfl, SqL.of e, fun p hp => SqT.of (hk p hp), by omega, fun c L hc hL1 hL2 => ?_⟩
  have s4 := same_new hc (SetTO P w c L)
  refine ⟨c, L, 2, 64, rfl, upd_same, fun p hp => SqT.of (s4 _ _ (hk p (hL1 p hp))), by decide, fun p hp => ?_, fun L' p hperm hnd hlen hpw hp => ?_⟩
  · obtain ⟨x, y, e, hm⟩ := hks p (hL1 p hp)
    obtain ⟨⟨o1, o2⟩, o3, o4⟩ := ok _ hm
    dsimp only at o1 o2 o3 o4
    rw [e]
    refine ⟨rfl, fun m hm => ?_⟩
    rcases List.mem_cons.mp hm with rfl | hm
    · omega
    · obtain rfl := List.mem_singleton.mp hm
      omega
  have s5 := same_new hp (.lst (L'.map fun q => V.ref q.1))
  have hin : ∀ z ∈ L', z ∈ ks := fun z hz => hL1 z (hperm.mem_iff.mp hz)
  have a2 : A2 (TpAt (upd (upd H c (SetTO P w c L)) p (.lst (L'.map fun q => V.ref q.1)))) (L'.map fun q => V.ref q.1) (L'.map toP) := A2.ofMap _ _ L' fun z hz => by
    obtain ⟨x, y, e, _⟩ := hks z (hin z hz)
    refine ⟨z.1, rfl, ?_⟩
    have := s5 _ _ (s4 _ _ (hk z (hin z hz)))
    rw [e] at this
    unfold toP
    rw [e]
    exact this
  refine q p _ (L'.map toP) (s4.trans s5) (none_of_same s4 hp) ⟨p, _, rfl, upd_same, a2⟩ ?_ (fun z => ⟨fun hz => ?_, fun hz => ?_⟩) ?_
  · rw [List.pairwise_map]
    have hnd' : L'.Pairwise fun q r => q.2 ≠ r.2 := List.pairwise_map.mp hnd
    refine (hpw.and hnd').imp_of_mem fun {x y} hx hy h => ?_
    obtain ⟨x1, x2, ex, bx⟩ := hks x (hin x hx)
    obtain ⟨y1, y2, ey, by_⟩ := hks y (hin y hy)
    obtain ⟨⟨o1, o2⟩, o3, o4⟩ := ok _ bx
    obtain ⟨⟨p1, p2⟩, p3, p4⟩ := ok _ by_
    dsimp only at o1 o2 o3 o4 p1 p2 p3 p4
    rw [ex, ey] at h
    have := L2.pair_lt h.1 h.2 ⟨o1, by omega⟩ ⟨o3, by omega⟩ ⟨p1, by omega⟩ ⟨p3, by omega⟩
    unfold toP
    rw [ex, ey]
    exact this
  · obtain ⟨y, hy, rfl⟩ := List.mem_map.mp hz
    obtain ⟨x1, x2, ex, bx⟩ := hks y (hin y hy)
    unfold toP
    rw [ex]
    exact bx
  · have : [z.1, z.2] ∈ ks.map (·.2) := by
      rw [ek]
      exact List.mem_map.mpr ⟨z, hz, rfl⟩
    obtain ⟨k, hk1, hk2⟩ := List.mem_map.mp this
    obtain ⟨y, hy, hy2⟩ := List.mem_map.mp (hL2 k hk1)
    refine List.mem_map.mpr ⟨y, hperm.mem_iff.mpr hy, ?_⟩
    unfold toP
    rw [show y.2 = [z.1, z.2] from hy2.trans hk2]
    rfl
  · rw [List.length_map]
    have h3 : (L'.map (·.2)).length ≤ (ks.map (·.2)).length := sub_len hnd fun x hx => by
      obtain ⟨z, hz, rfl⟩ := List.mem_map.mp hx
      exact List.mem_map.mpr ⟨z, hin z hz, rfl⟩
    rw [List.length_map, List.length_map] at h3
    omega
theorem sset_go {P : Program} {w : World} {K : PySem.W.Frag} {t : TE} {σ : L2.St} {H : Hp} {Q : VK} (h : t σ H fun x H1 => rSetOfT K P w [x] H1 fun c H2 => rSortedT K P w [c] H2 Q) : tCB (rSortedT K P w) (tCons (tCB (rSetOfT K P w) (tCons t tNil)) tNil) σ H Q := h
def dec (H : Hp) : V → Int × Int
  | .ref t => match H t with
    | some (.tup [.int x, .int y]) => (x, y)
    | _ => (0, 0)
  | _ => (0, 0)
theorem dec_eq {H : Hp} {v : V} {p : Int × Int} (h : TpAt H v p) : dec H v = p := by
  obtain ⟨t, rfl, e⟩ := h
  show (match H t with
    | some (.tup [.int x, .int y]) => (x, y)
    | _ => (0, 0)) = p
  rw [e]
theorem dec_all {H : Hp} : ∀ {xs : List V} {l : List (Int × Int)}, A2 (TpAt H) xs l → l = xs.map (dec H)
  | _, _, .nil => rfl
  | _, _, .cons a b => by rw [List.map_cons, dec_eq a, ← dec_all b]
theorem dec_of {H : Hp} : ∀ {xs : List V}, (∀ v ∈ xs, TpAt H v (dec H v)) → A2 (TpAt H) xs (xs.map (dec H))
  | [], _ => .nil
  | v :: xs, h => .cons (h v List.mem_cons_self) (dec_of fun x hx => h x (List.mem_cons_of_mem _ hx))
/-- sorted(pairs), each there once -/
theorem sortU_any {K : PySem.W.Frag} {H : Hp} {l : Addr} {xs : List V} {ms : List Pt} {Q : VK} (e : H l = some (.lst xs)) (a : A2 (TpAt H) xs ms) (nd : ms.Nodup) (ok : ∀ p ∈ ms, okOut p.1 ∧ okOut p.2) (m : ms.length < 64)
    (q : ∀ (r : Addr) (H' : Hp) (ls : List Pt), Same H H' → H r = none → LetAt H' (.ref r) ls → ls.Perm ms → ls.Pairwise ltP → Q (.ref r) H') : rSortU K 2 64 [.ref l] H Q := by
  refine ⟨l, xs, rfl, SqL.of e, by rw [a.len]; exact m, fun x hx => ?_, fun ys r h1 h2 hr => ?_⟩
  · obtain ⟨p, hp, t, rfl, ht⟩ := a.mem hx
    obtain ⟨o1, o2⟩ := ok p hp
    have := o1.1; have := o1.2; have := o2.1; have := o2.2
    refine ⟨[p.1, p.2], ⟨t, rfl, SqT.of ht⟩, rfl, fun i hi => ?_⟩
    rcases List.mem_cons.mp hi with rfl | hi
    · omega
    · rw [List.mem_singleton.mp hi]
      omega
  · have a1 : A2 (TpAt H) ys (ys.map (dec H)) := dec_of fun v hv => by
      obtain ⟨y, _, hy⟩ := a.mem (h1.mem_iff.mp hv)
      rw [dec_eq hy]
      exact hy
    have pm : (ys.map (dec H)).Perm ms := by
      rw [dec_all a]
      exact h1.map _
    have sr := same_new hr (.lst ys)
    refine q r _ _ sr hr ⟨r, ys, rfl, upd_same, a1.imp fun _ _ z => z.mono (.same sr)⟩ pm ?_
    have nd' := pm.nodup_iff.mpr nd
    rw [List.pairwise_map]
    refine (h2.and (List.pairwise_map.mp nd')).imp_of_mem fun {x y} hx hy h => ?_
    obtain ⟨h1', h2'⟩ := h
    obtain ⟨px, hpx, tx⟩ := a.mem (h1.mem_iff.mp hx)
    obtain ⟨py, hpy, ty⟩ := a.mem (h1.mem_iff.mp hy)
    rw [dec_eq tx, dec_eq ty] at h2' ⊢
    obtain ⟨ox1, ox2⟩ := ok px hpx
    obtain ⟨oy1, oy2⟩ := ok py hpy
    obtain ⟨t1, rfl, e1⟩ := tx
    obtain ⟨t2, rfl, e2⟩ := ty
    have hc := h1' [px.1, px.2] [py.1, py.2] ⟨t1, rfl, SqT.of e1⟩ ⟨t2, rfl, SqT.of e2⟩
    rw [code2, code2] at hc
    have ne : ¬ (px.1 = py.1 ∧ px.2 = py.2) := fun ⟨a, b⟩ => h2' (Prod.ext a b)
    have := ox1.1; have := ox1.2; have := ox2.1; have := ox2.2; have := oy1.1; have := oy1.2; have := oy2.1; have := oy2.2
    show px.1 < py.1 ∨ (px.1 = py.1 ∧ px.2 < py.2)
    omega
/-! lots put together -/
structure FInv (D : List (Pt × Pt)) (outs : List Pt) (i : Nat) (fs : List Addr) (ct : Addr → List Pt) : Prop where
  nd : fs.Nodup
  ne : ∀ f ∈ fs, ct f ≠ []
  isP : ∀ f ∈ fs, ∀ p ∈ ct f, IsP D p
  con : ∀ f ∈ fs, ∀ p ∈ ct f, ∀ q ∈ ct f, Con D p q
  all : ∀ p, IsP D p → ∃ f ∈ fs, p ∈ ct f
  uni : ∀ f ∈ fs, ∀ g ∈ fs, ∀ p, p ∈ ct f → p ∈ ct g → f = g
  nod : ∀ f ∈ fs, (ct f).Nodup
  tie : ∀ o ∈ outs.take i, ∃ f ∈ fs, (0, o.1) ∈ ct f ∧ (1, o.2) ∈ ct f
theorem FInv.diff {D outs i fs ct} (h : FInv D outs i fs ct) {f g : Addr} (hf : f ∈ fs) (hg : g ∈ fs) : ct f = ct g ↔ f = g := by
  constructor
  · intro e
    obtain ⟨p, hp⟩ := List.exists_mem_of_ne_nil _ (h.ne f hf)
    exact h.uni f hf g hg p hp (e ▸ hp)
  · rintro rfl
    rfl
theorem FInv.skip {D outs i fs ct} (h : FInv D outs i fs ct) {o : Pt} (ho : outs[i]? = some o) {f : Addr} (hf : f ∈ fs) (h0 : (0, o.1) ∈ ct f) (h1 : (1, o.2) ∈ ct f) : FInv D outs (i + 1) fs ct := by
  refine ⟨h.nd, h.ne, h.isP, h.con, h.all, h.uni, h.nod, fun x hx => ?_⟩
  rw [take_get ho] at hx
  rcases List.mem_append.mp hx with hx | hx
  · exact h.tie x hx
  · rw [List.mem_singleton.mp hx]
    exact ⟨f, hf, h0, h1⟩
theorem FInv.merge {outs : List Pt} {i fs ct} (h : FInv (dirs outs) outs i fs ct) {o : Pt} (ho : outs[i]? = some o) {f g : Addr} (hf : f ∈ fs) (hg : g ∈ fs) (ne : f ≠ g) (h0 : (0, o.1) ∈ ct f) (h1 : (1, o.2) ∈ ct g)
    {fs' : List Addr} (nd' : fs'.Nodup) (mem : ∀ x, x ∈ fs' ↔ x ∈ fs ∧ x ≠ g) : FInv (dirs outs) outs (i + 1) fs' (fun x => if x = f then ct f ++ ct g else ct x) := by
  have sym : ∀ p q, (p, q) ∈ dirs outs → (q, p) ∈ dirs outs := fun _ _ => dirs_symm
  have hm := List.mem_of_getElem? ho
  have td : (((0 : Int), o.1), ((1 : Int), o.2)) ∈ dirs outs := mem_dirs.mpr ⟨o, hm, .inl ⟨rfl, rfl⟩⟩
  have cfg : ∀ p ∈ ct f, ∀ q ∈ ct g, Con (dirs outs) p q := fun p hp q hq => ((h.con f hf p hp _ h0).trans (.tie td)).trans (h.con g hg _ h1 q hq)
  have old : ∀ x, x ∈ fs' → x ∈ fs := fun x hx => ((mem x).mp hx).1
  have hf' : f ∈ fs' := (mem f).mpr ⟨hf, ne⟩
  -- who holds a point now
  have holds : ∀ x ∈ fs', ∀ p, p ∈ (if x = f then ct f ++ ct g else ct x) → ∃ y ∈ fs, p ∈ ct y ∧ (x = y ∨ (x = f ∧ y = g)) := fun x hx p hp => by
    by_cases c : x = f
    · rw [if_pos c] at hp
      rcases List.mem_append.mp hp with hp | hp
      · exact ⟨f, hf, hp, .inl c⟩
      · exact ⟨g, hg, hp, .inr ⟨c, rfl⟩⟩
    · rw [if_neg c] at hp
      exact ⟨x, old x hx, hp, .inl rfl⟩
  have now : ∀ y ∈ fs, ∀ p ∈ ct y, ∃ x ∈ fs', p ∈ (if x = f then ct f ++ ct g else ct x) := fun y hy p hp => by
    by_cases c : y = g
    · exact ⟨f, hf', by rw [if_pos rfl]; exact List.mem_append_right _ (c ▸ hp)⟩
    · refine ⟨y, (mem y).mpr ⟨hy, c⟩, ?_⟩
      by_cases d : y = f
      · rw [if_pos d]
        exact List.mem_append_left _ (d ▸ hp)
      · rw [if_neg d]
        exact hp
  refine ⟨nd', fun x hx => ?_, fun x hx p hp => ?_, fun x hx p hp q hq => ?_, fun p hp => ?_, fun x hx y hy p hp hq => ?_, fun x hx => ?_, fun z hz => ?_⟩
  · split
    · intro c
      exact h.ne f hf (List.append_eq_nil_iff.mp c).1
    · exact h.ne x (old x hx)
  · obtain ⟨y, hy, hpy, _⟩ := holds x hx p hp
    exact h.isP y hy p hpy
  · obtain ⟨y, hy, hpy, ey⟩ := holds x hx p hp
    obtain ⟨z, hz, hqz, ez⟩ := holds x hx q hq
    rcases ey with rfl | ⟨rfl, rfl⟩
    · rcases ez with rfl | ⟨rfl, rfl⟩
      · exact h.con _ hy p hpy q hqz
      · exact cfg p hpy q hqz
    · rcases ez with rfl | ⟨_, rfl⟩
      · exact (cfg q hqz p hpy).symm sym
      · exact h.con _ hz p hpy q hqz
  · obtain ⟨y, hy, hpy⟩ := h.all p hp
    exact now y hy p hpy
  · obtain ⟨a, ha, hpa, ea⟩ := holds x hx p hp
    obtain ⟨b, hb, hpb, eb⟩ := holds y hy p hq
    have := h.uni a ha b hb p hpa hpb
    subst this
    rcases ea with rfl | ⟨rfl, rfl⟩
    · rcases eb with rfl | ⟨rfl, rfl⟩
      · rfl
      · exact absurd rfl ((mem _).mp hx).2
    · rcases eb with rfl | ⟨rfl, _⟩
      · exact absurd rfl ((mem _).mp hy).2
      · rfl
  · split
    · refine List.nodup_append.mpr ⟨h.nod f hf, h.nod g hg, fun p hp q hq c => ?_⟩
      subst c
      exact ne (h.uni f hf g hg p hp hq)
    · exact h.nod x (old x hx)
  · rw [take_get ho] at hz
    rcases List.mem_append.mp hz with hz | hz
    · obtain ⟨y, hy, a, b⟩ := h.tie z hz
      by_cases c : y = g
      · exact ⟨f, hf', by rw [if_pos rfl]; exact List.mem_append_right _ (c ▸ a), by rw [if_pos rfl]; exact List.mem_append_right _ (c ▸ b)⟩
      · refine ⟨y, (mem y).mpr ⟨hy, c⟩, ?_, ?_⟩
        · by_cases d : y = f
          · rw [if_pos d]
            exact List.mem_append_left _ (d ▸ a)
          · rw [if_neg d]
            exact a
        · by_cases d : y = f
          · rw [if_pos d]
            exact List.mem_append_left _ (d ▸ b)
          · rw [if_neg d]
            exact b
    · rw [List.mem_singleton.mp hz]
      exact ⟨f, hf', by rw [if_pos rfl]; exact List.mem_append_left _ h0, by rw [if_pos rfl]; exact List.mem_append_right _ h1⟩
/-- when all is put together, a lot is what hangs together -/
theorem FInv.cls {outs : List Pt} {fs ct} (h : FInv (dirs outs) outs outs.length fs ct) {f : Addr} (hf : f ∈ fs) {p : Pt} (hp : p ∈ ct f) (q : Pt) : q ∈ ct f ↔ Con (dirs outs) p q := by
  refine ⟨fun hq => h.con f hf p hp q hq, fun ⟨k, hk⟩ => ?_⟩
  have step : ∀ a b, (a, b) ∈ dirs outs → a ∈ ct f → b ∈ ct f := fun a b hd ha => by
    obtain ⟨o, ho, e⟩ := mem_dirs.mp hd
    obtain ⟨g, hg, h0, h1⟩ := h.tie o (by rw [List.take_length]; exact ho)
    rcases e with ⟨rfl, rfl⟩ | ⟨rfl, rfl⟩
    · rw [h.uni f hf g hg _ ha h0]
      exact h1
    · rw [h.uni f hf g hg _ ha h1]
      exact h0
  have go : ∀ (k : Nat) (p : Pt), p ∈ ct f → Rea (dirs outs) p k q → q ∈ ct f := by
    intro k
    induction k with
    | zero =>
      intro p hp hk
      rw [rea_zero.mp hk]
      exact hp
    | succ k ih =>
      intro p hp hk
      obtain ⟨c, hc, hk⟩ := hk.pop
      exact ih c (step _ _ hc hp) hk
  exact go k p hp hk
theorem mem_eraseIdx {α : Type} : ∀ {fs : List α} {j : Nat} {f : α}, fs.Nodup → fs[j]? = some f → ∀ g, g ∈ fs.eraseIdx j ↔ g ∈ fs ∧ g ≠ f
  | [], j, f, _, h, g => by simp at h
  | x :: fs, 0, f, nd, h, g => by
    obtain rfl : x = f := by simpa using h
    obtain ⟨n1, n2⟩ := List.nodup_cons.mp nd
    show g ∈ fs ↔ _
    constructor
    · intro hg
      exact ⟨List.mem_cons_of_mem _ hg, fun c => n1 (c ▸ hg)⟩
    · rintro ⟨hg, ne⟩
      exact (List.mem_cons.mp hg).resolve_left ne
  | x :: fs, j + 1, f, nd, h, g => by
    obtain ⟨n1, n2⟩ := List.nodup_cons.mp nd
    have h : fs[j]? = some f := by simpa using h
    have ih := mem_eraseIdx n2 h g
    show g ∈ x :: fs.eraseIdx j ↔ _
    rw [List.mem_cons, List.mem_cons, ih]
    constructor
    · rintro (rfl | ⟨a, b⟩)
      · exact ⟨.inl rfl, fun c => n1 (c ▸ List.mem_of_getElem? h)⟩
      · exact ⟨.inr a, b⟩
    · rintro ⟨rfl | a, b⟩
      · exact .inl rfl
      · exact .inr ⟨a, b⟩
/-! sorted lists of lists of points -/
theorem alike_pair (p q : Pt) : PySem.W.alike (pairD p) (pairD q) = true := by
  unfold pairD
  simp [PySem.W.alike, PySem.W.alikeAll]
theorem alike_pairs : ∀ (l m : List Pt), PySem.W.alikeAll (l.map pairD) (m.map pairD) = true
  | [], _ => by simp [PySem.W.alikeAll]
  | p :: l, [] => by simp [PySem.W.alikeAll]
  | p :: l, q :: m => by
    rw [List.map_cons, List.map_cons]
    simp [PySem.W.alikeAll, alike_pair, alike_pairs l m]
theorem alike_let (l m : List Pt) : PySem.W.alike (letD l) (letD m) = true := by
  unfold letD
  simp [PySem.W.alike, alike_pairs]
theorem lt_let {p q : Pt} {l m : List Pt} (ne : p ≠ q) (h : PySem.W.dataLt (letD (q :: m)) (letD (p :: l)) = false) : ltP p q := by
  unfold letD at h
  rw [PySem.W.dataLt_list, List.map_cons, List.map_cons, PySem.W.dataLt_cons (alike_pair q p), eqv_pair, if_neg (by rw [decide_eq_true_eq]; exact fun c => ne c.symm)] at h
  have e : PySem.W.dataLt (pairD q) (pairD p) = decide (q.1 < p.1 ∨ (q.1 = p.1 ∧ q.2 < p.2)) := PySem.W.dataLt_ii q.1 q.2 p.1 p.2
  rw [e] at h
  have h := of_decide_eq_false h
  exact ltP_tri (fun c => h c) (fun c => ne c.symm)
/-- lots sorted, and told in the order of their first points -/
theorem lots_sorted {D : List (Pt × Pt)} {us ws : List (Addr × List Pt)} (pm : ws.Perm us) (pw : ws.Pairwise fun a b => PySem.W.dataLt (letD b.2) (letD a.2) = false) (srt : ∀ u ∈ us, u.2.Pairwise ltP) (ne : ∀ u ∈ us, u.2 ≠ [])
    (cls : ∀ u ∈ us, ∀ p ∈ u.2, IsP D p ∧ ∀ q, q ∈ u.2 ↔ Con D p q) (all : ∀ p, IsP D p → ∃ u ∈ us, p ∈ u.2) (dis : us.Pairwise fun a b => ∀ p, p ∈ a.2 → p ∉ b.2) : LotsOk D (ws.map (·.2)) := by
  have mm : ∀ l ∈ ws.map (·.2), ∃ u ∈ us, u.2 = l := fun l hl => by
    obtain ⟨u, hu, rfl⟩ := List.mem_map.mp hl
    exact ⟨u, pm.mem_iff.mp hu, rfl⟩
  refine ⟨fun l hl => ?_, fun l hl => ?_, fun l hl => ?_, fun p hp => ?_, ?_⟩
  · obtain ⟨u, hu, rfl⟩ := mm l hl
    exact srt u hu
  · obtain ⟨u, hu, rfl⟩ := mm l hl
    exact ne u hu
  · obtain ⟨u, hu, rfl⟩ := mm l hl
    exact cls u hu
  · obtain ⟨u, hu, h⟩ := all p hp
    exact ⟨u.2, List.mem_map.mpr ⟨u, pm.mem_iff.mpr hu, rfl⟩, h⟩
  · rw [List.pairwise_map]
    have dw : ws.Pairwise fun a b => ∀ p, p ∈ a.2 → p ∉ b.2 := (pm.pairwise_iff (fun {a b} h p hp hq => h p hq hp)).mpr dis
    refine (pw.and dw).imp_of_mem fun {a b} ha hb h => ?_
    obtain ⟨h1, h2⟩ := h
    have na := ne a (pm.mem_iff.mp ha)
    have nb := ne b (pm.mem_iff.mp hb)
    obtain ⟨a1, a2⟩ := a
    obtain ⟨b1, b2⟩ := b
    dsimp only at h1 h2 na nb ⊢
    cases a2 with
    | nil => exact absurd rfl na
    | cons x l =>
      cases b2 with
      | nil => exact absurd rfl nb
      | cons y m => exact ⟨x, y, rfl, rfl, lt_let (fun c => h2 x List.mem_cons_self (c ▸ List.mem_cons_self)) h1⟩
end TA

set_option Elab.async false
set_option maxRecDepth 100000
set_option maxHeartbeats 4000000
namespace TA
open PySem L2 PyProof.Rows
set_option linter.unusedVariables false
/-! _law_lots -/
theorem mem_pts {outs : List Pt} (p : Pt) : p ∈ outs.map (fun o => ((0 : Int), o.1)) ++ outs.map (fun o => ((1 : Int), o.2)) ↔ IsP (dirs outs) p := by
  rw [List.mem_append, List.mem_map, List.mem_map]
  constructor
  · rintro (⟨o, ho, rfl⟩ | ⟨o, ho, rfl⟩)
    · exact ⟨(1, o.2), mem_dirs.mpr ⟨o, ho, .inl ⟨rfl, rfl⟩⟩⟩
    · exact ⟨(0, o.1), mem_dirs.mpr ⟨o, ho, .inr ⟨rfl, rfl⟩⟩⟩
  · rintro ⟨q, hq⟩
    obtain ⟨o, ho, ⟨rfl, _⟩ | ⟨rfl, _⟩⟩ := mem_dirs.mp hq
    · exact .inl ⟨o, ho, rfl⟩
    · exact .inr ⟨o, ho, rfl⟩
theorem ne_let {K : PySem.W.Frag} {H : Hp} {v u : V} {l m : List Pt} {Q : VK} (hl : LetAt H v l) (hm : LetAt H u m) (q : Q (.bl (!decide (l = m))) H) : rNeD K v u H Q := 
  ⟨letD l, letD m, hl.dp, hm.dp, (okD_pairs l).shaped (by decide), (okD_pairs m).shaped (by decide), by rw [eqv_let]; exact q⟩
theorem er_map {α β : Type} (f : α → β) : ∀ (l : List α) (j : Nat), (l.map f).eraseIdx j = (l.eraseIdx j).map f
  | [], _ => rfl
  | _ :: _, 0 => rfl
  | x :: l, j + 1 => by
    show f x :: (l.map f).eraseIdx j = f x :: (l.eraseIdx j).map f
    rw [er_map f l j]
theorem rem_go {K : PySem.W.Frag} {H : Hp} {a f : Addr} {fs : List Addr} {ct : Addr → List Pt} {j : Nat} {Q : VK} (hH : H a = some (.lst (fs.map V.ref))) (hc : ∀ g ∈ fs, LetAt H (.ref g) (ct g)) (hj : fs[j]? = some f) (nd : fs.Nodup) (di : ∀ g ∈ fs, ct g = ct f → g = f)
    (q : Q .non (upd H a (.lst ((fs.eraseIdx j).map V.ref)))) : rRemD K (.ref a) [.ref f] H Q := by
  have hm := List.mem_of_getElem? hj
  have hds : ∀ l : List Addr, (∀ g ∈ l, g ∈ fs) → DpAll K H (l.map V.ref) (l.map fun g => letD (ct g)) := by
    intro l
    induction l with
    | nil => exact fun _ => .nil
    | cons g l ih => exact fun h => .cons (hc g (h g List.mem_cons_self)).dp (ih fun x hx => h x (List.mem_cons_of_mem _ hx))
  refine ⟨a, .ref f, letD (ct f), fs.map V.ref, fs.map (fun g => letD (ct g)), j, letD (ct f), rfl, rfl, hH, hds fs (fun _ h => h), (hc f hm).dp, (ok_list (n := 3) fun d hd => ?_).shaped (by decide), (okD_pairs _).shaped (by decide), by rw [List.getElem?_map, hj]; rfl, by rw [eqv_let]; exact decide_eq_true rfl, fun m z hz hz2 => ?_, ?_⟩
  · obtain ⟨g, _, rfl⟩ := List.mem_map.mp hd
    exact okD_pairs _
  · rw [List.getElem?_map] at hz2
    obtain ⟨g, hg, rfl⟩ := Option.map_eq_some_iff.mp hz2
    rw [eqv_let]
    refine decide_eq_false fun c => ?_
    have := di g (List.mem_of_getElem? hg) c
    subst this
    obtain ⟨m1, m2⟩ := List.getElem?_eq_some_iff.mp hg
    obtain ⟨j1, j2⟩ := List.getElem?_eq_some_iff.mp hj
    have := (List.pairwise_iff_getElem.mp nd) m j m1 j1 hz
    rw [m2, j2] at this
    exact this rfl
  · rw [er_map]
    exact q
theorem drop_rem {K : PySem.W.Frag} {D : Ends} {σ : L2.St} {H : Hp} {a f : Addr} {fs : List Addr} {ct : Addr → List Pt} {j : Nat} (e2 : σ[2]? = some (some (.ref a))) (e6 : σ[6]? = some (some (.ref f))) (hH : H a = some (.lst (fs.map V.ref))) (hc : ∀ g ∈ fs, LetAt H (.ref g) (ct g)) (hj : fs[j]? = some f) (nd : fs.Nodup) (di : ∀ g ∈ fs, ct g = ct f → g = f)
    (q : D.nx σ (upd H a (.lst ((fs.eraseIdx j).map V.ref)))) : tDrop (tBM K "list" (rRemD K) (tVar 2) (tCons (tVar 6) tNil)) D σ H := by
  refine ⟨_, e2, .inl ⟨rfl, _, SqL.of hH⟩, _, e6, ?_⟩
  dsimp only [tNil]
  exact rem_go hH hc hj nd di q
theorem yes_go {σ : L2.St} {H : Hp} {A B : Hp → Prop} (h : A H) : tYes σ H (fun b H3 => if b = true then A H3 else B H3) := by
  show (if true = true then A H else B H)
  rw [if_pos rfl]
  exact h
/-- the lots that hold a point: one -/
theorem hold_one {D outs i fs ct} (h : FInv D outs i fs ct) {p : Pt} (hp : IsP D p) : ∃ f ∈ fs, p ∈ ct f ∧ (fs.filter fun g => decide (p ∈ ct g))[0]? = some f := by
  obtain ⟨f, hf, hpf⟩ := h.all p hp
  have hm : f ∈ fs.filter fun g => decide (p ∈ ct g) := List.mem_filter.mpr ⟨hf, decide_eq_true hpf⟩
  cases e : fs.filter fun g => decide (p ∈ ct g) with
  | nil => rw [e] at hm; cases hm
  | cons g r =>
    have hg : g ∈ fs.filter fun g => decide (p ∈ ct g) := by rw [e]; exact List.mem_cons_self
    obtain ⟨g1, g2⟩ := List.mem_filter.mp hg
    have g2 := of_decide_eq_true g2
    have := h.uni g g1 f hf p g2 hpf
    subst this
    exact ⟨g, hf, hpf, rfl⟩
theorem su_go {te : TE} {K : PySem.W.Frag} {σ : L2.St} {H : Hp} {Q : VK} (h : te σ H fun x H1 => rSortU K 2 64 [x] H1 Q) : tCB (rSortU K 2 64) (tCons te tNil) σ H Q := h
theorem hold_go {K : PySem.W.Frag} {H : Hp} {a0 a1 g3 g4 g5 g6 : Option V} {Fd f : Addr} {fs : List Addr} {ct : Addr → List Pt} {c z : Int} {n : Nat} {Q : VK} (en : ∀ x : V, [a0, a1, some (.ref Fd), g3, g4, g5, g6, none, some x][n]? = some (some (.int z))) (hf : H Fd = some (.lst (fs.map V.ref))) (lfs : fs.length ≤ 60)
    (hfs : ∀ g ∈ fs, LetAt H (.ref g) (ct g)) (one : (fs.filter fun g => decide ((c, z) ∈ ct g))[0]? = some f) (q : ∀ H', Same H H' → Q (.ref f) H') :
    tOp (rIxL K) (tLc (iList K (tVar 2)) (gName 8) (tTest (tOp (rInD K) (tTup (tCons (tC (.int c)) (tCons (tVar n) tNil))) (tVar 8))) (tVar 8) [8]) (tC (.int 0)) [a0, a1, some (.ref Fd), g3, g4, g5, g6, none, none] H Q := by
  refine ⟨_, rfl, Fd, rfl, ⟨_, SqL.of hf⟩, fun L1 hL1 => ?_⟩
  refine list_turns (xs := fs.map V.ref) (fun j H' => Same H H' ∧ H' L1 = some (.lst (((fs.take j).filter fun g => decide ((c, z) ∈ ct g)).map V.ref))) ⟨same_new hL1 _, upd_same⟩ (fun j H' _ h => SqL.of (h.1 _ _ hf)) ?_ ?_
  · rintro j x H' hxj ⟨s6, h6⟩
    rw [List.getElem?_map] at hxj
    obtain ⟨g, hg, rfl⟩ := Option.map_eq_some_iff.mp hxj
    have hgl := hfs g (List.mem_of_getElem? hg)
    refine ⟨rfl, _, en _, (by show 2 ≤ sizeLine; decide), fun t ht => ⟨_, rfl, ?_⟩⟩
    have s7 := same_new ht (.tup [V.int c, V.int z])
    refine in_let (p := (c, z)) (hgl.mono (.same (s6.trans s7))) ⟨t, rfl, upd_same⟩ ⟨_, rfl, ?_⟩
    by_cases cc : (c, z) ∈ ct g
    · refine iteT' (decide_eq_true cc) ⟨_, rfl, _, s7 _ _ h6, ?_, same_upd (s6.trans s7) hL1, ?_⟩
      · rw [List.length_map, sizeLine_eq]
        have : ((fs.take j).filter fun g => decide ((c, z) ∈ ct g)).length ≤ (fs.take j).length := List.length_filter_le _ _
        rw [List.length_take] at this
        omega
      · rw [upd_same, take_get hg, List.filter_append, List.filter_cons_of_pos (by simp [cc]), List.map_append]
        rfl
    · refine iteF' (decide_eq_false cc) ⟨s6.trans s7, ?_⟩
      rw [take_get hg, List.filter_append, List.filter_cons_of_neg (by simp [cc])]
      rw [show ([] : List Addr).filter (fun g => decide ((c, z) ∈ ct g)) = [] from rfl, List.append_nil]
      exact s7 _ _ h6
  · rintro H6 ⟨s6, h6⟩
    rw [List.length_map, List.take_length] at h6
    exact ⟨L1, _, _, .ref f, rfl, rfl, SqL.of h6, atI_nat (j := 0) (by rw [List.getElem?_map, one]; rfl), q _ s6⟩
theorem sl_go {te : TE} {K : PySem.W.Frag} {σ : L2.St} {H : Hp} {D : Ends} (h : te σ H fun x H1 => rSortLD K [x] H1 D.rt) : tRet (tCB (rSortLD K) (tCons te tNil)) D σ H := h
def spLaw_lots : Sp := fun vs H Q _ => ∃ (b : Addr) (outs : List Pt), vs = [.ref b] ∧ LetAt H (.ref b) outs ∧ okLet outs ∧ outs.length ≤ 30 ∧ ∀ (r : Addr) (xs : List V) (L : List (List Pt)) (H' : Hp), Same H H' → H r = none → H' r = some (.lst xs) → A2 (LetAt H') xs L → LotsOk (dirs outs) L → Q (.ref r) H'
section
variable {P : Program} {w : World} {K : PySem.W.Frag} {mg : Str → Option Value} {base : Heap}
abbrev nLl : List Str := ["_law_outs_here", "_law_points", "_law_found", "_law_x", "_law_y", "_law_one", "_law_other", "_law_point", "_law_lot"]
theorem sc_ll : FnScope nLl ["_law_outs_here"] (defScope s__law_lots) := ⟨rfl, rfl, rfl, by decide +kernel, rfl, by decide +kernel, by decide +kernel⟩
theorem ok_ll {f : Addr} {fd : FuncData} (F : Fun K "_law_lots" "_law_lots" s__law_lots f fd) (T2 : Txt2 K mg) : FnOk P w K mg base CX0 1 f fd ["_law_outs_here"] spLaw_lots := by
  refine F.ok sc_ll (fun vs H Q E h => ?_) (fun cdv A outer s H vs Q E hr h => ?_)
  · obtain ⟨b, outs, rfl, _⟩ := h
    rfl
  obtain ⟨b, outs, rfl, hL, okl, l30, q⟩ := h
  have nd := sc_ll.nd
  have hu64 : (A.deeper (envOfC "_law_lots" (defScope s__law_lots) s.heap.objs.size f cdv)).units + 64 < cLine := by have := hr.un; omega
  have hu65 : (A.deeper (envOfC "_law_lots" (defScope s__law_lots) s.heap.objs.size f cdv)).units + 65 < cLine := by have := hr.un; omega
  refine ⟨_, (pss_cons (ps_set (i := 1) nd rfl (Or.inl rfl) (pe_callB (cr_sortedT rfl) (by rfl) T2.sorted (by decide +kernel) (pa_cons (pe_callTy (cr_setOfT rfl hu64) (by rfl) T2.set (by decide +kernel) (pa_cons (pe_op op_cat (pe_lc (own := [("_law_x", 3), ("_law_y", 4)]) (g := (gTup K 2 (gCons (gName 3) (gCons (gName 4) gNil)))) (tt := tYes) (te := (tTup (tCons (tC (.int 0)) (tCons (tVar 3) tNil)))) rfl nd (pi_list (pv 0)) (blkOk_by (N := nLl) (sc := defScope s__law_lots) (by decide +kernel)) (fun _ _ _ _ _ => (by exact (pg_tup (by rfl) (pgs_cons (pg_name (i := 3) nd rfl (Or.inl rfl)) (pgs_cons (pg_name (i := 4) nd rfl (Or.inl rfl)) pgs_nil))))) (fun _ _ _ _ _ => pts_nil) (fun _ _ _ _ _ => (by exact (pe_tup (pa_cons pe_int (pa_cons (pv 3) pa_nil)))))) (pe_lc (own := [("_law_x", 3), ("_law_y", 4)]) (g := (gTup K 2 (gCons (gName 3) (gCons (gName 4) gNil)))) (tt := tYes) (te := (tTup (tCons (tC (.int 1)) (tCons (tVar 4) tNil)))) rfl nd (pi_list (pv 0)) (blkOk_by (N := nLl) (sc := defScope s__law_lots) (by decide +kernel)) (fun _ _ _ _ _ => (by exact (pg_tup (by rfl) (pgs_cons (pg_name (i := 3) nd rfl (Or.inl rfl)) (pgs_cons (pg_name (i := 4) nd rfl (Or.inl rfl)) pgs_nil))))) (fun _ _ _ _ _ => pts_nil) (fun _ _ _ _ _ => (by exact (pe_tup (pa_cons pe_int (pa_cons (pv 4) pa_nil))))))) pa_nil)) pa_nil)))
    (pss_cons (ps_setLc (i := 2) (own := [("_law_point", 7)]) (g := (gName 7)) (tt := tYes) (te := (tLst (tCons (tVar 7) tNil))) rfl nd rfl rfl (sw_true rfl rfl rfl (by decide +kernel)) (pi_list (pv 1)) (blkOk_by (N := nLl) (sc := defScope s__law_lots) (by decide +kernel)) (fun _ _ _ _ _ => (by exact (pg_name (i := 7) nd rfl (Or.inl rfl)))) (fun _ _ _ _ _ => pts_nil) (fun _ _ _ _ _ => (by exact (pe_lst (pa_cons (pv 7) pa_nil)))))
    (pss_cons (ps_for PassesOwn.never (by rfl) (pi_list (pv 0)) (pg_tup (by rfl) (pgs_cons (pg_name (i := 3) nd rfl (Or.inr rfl)) (pgs_cons (pg_name (i := 4) nd rfl (Or.inr rfl)) pgs_nil)))
      (pss_cons (ps_set (i := 5) nd rfl (Or.inl rfl) (pe_ix ix_list (pe_lc (own := [("_law_lot", 8)]) (g := (gName 8)) (tt := (tTest (tOp (rInD K) (tTup (tCons (tC (.int 0)) (tCons (tVar 3) tNil))) (tVar 8)))) (te := (tVar 8)) rfl nd (pi_list (pv 2)) (blkOk_by (N := nLl) (sc := defScope s__law_lots) (by decide +kernel)) (fun _ _ _ _ _ => (by exact (pg_name (i := 8) nd rfl (Or.inl rfl)))) (fun _ _ _ _ _ => pts_one (by exact (pt_cmpR (op_inD hu65) (pe_tup (pa_cons pe_int (pa_cons (pv 3) pa_nil))) (pv 8) (by rfl)))) (fun _ _ _ _ _ => (by exact (pv 8)))) pe_int (fun _ _ => rfl)))
    (pss_cons (ps_set (i := 6) nd rfl (Or.inl rfl) (pe_ix ix_list (pe_lc (own := [("_law_lot", 8)]) (g := (gName 8)) (tt := (tTest (tOp (rInD K) (tTup (tCons (tC (.int 1)) (tCons (tVar 4) tNil))) (tVar 8)))) (te := (tVar 8)) rfl nd (pi_list (pv 2)) (blkOk_by (N := nLl) (sc := defScope s__law_lots) (by decide +kernel)) (fun _ _ _ _ _ => (by exact (pg_name (i := 8) nd rfl (Or.inl rfl)))) (fun _ _ _ _ _ => pts_one (by exact (pt_cmpR (op_inD hu65) (pe_tup (pa_cons pe_int (pa_cons (pv 4) pa_nil))) (pv 8) (by rfl)))) (fun _ _ _ _ _ => (by exact (pv 8)))) pe_int (fun _ _ => rfl)))
    (pss_one (ps_if (pt_cmpR (op_neD hr.units) (pv 5) (pv 6) (nomark _))
      (pss_cons (ps_expr (pe_bm PySem.F.plainAttrs_list PySem.F.slot_list_remove PySem.F.type_list_remove (mt_remD hu65) (pv 2) (pa_cons (pv 6) pa_nil)))
    (pss_one (ps_expr (pe_bm PySem.F.plainAttrs_list PySem.F.slot_list_extend PySem.F.type_list_extend mt_extend (pv 5) (pa_cons (pv 6) pa_nil)))))
      pss_nil)))))
    (pss_one (ps_ret (pe_callB (cr_sortLD hu64) (by rfl) T2.sorted (by decide +kernel) (pa_cons (pe_lc (own := [("_law_lot", 8)]) (g := (gName 8)) (tt := tYes) (te := (tCB (rSortU K 2 64) (tCons (tVar 8) tNil))) rfl nd (pi_list (pv 2)) (blkOk_by (N := nLl) (sc := defScope s__law_lots) (by decide +kernel)) (fun _ _ _ _ _ => (by exact (pg_name (i := 8) nd rfl (Or.inl rfl)))) (fun _ _ _ _ _ => pts_nil) (fun _ _ _ _ _ => (by exact (pe_callB (cr_sortT (d := 2) (B := 64) (by decide)) (by rfl) T2.sorted (by decide +kernel) (pa_cons (pv 8) pa_nil))))) pa_nil))))))), ?_⟩
  obtain ⟨b', xs, eb, hb, hx⟩ := hL
  cases eb
  refine seq_go (tasg_go (sset_go ?_))
  refine ⟨_, rfl, b, rfl, ⟨_, SqL.of hb⟩, fun D1 hD1 => ?_⟩
  refine list_turns (xs := xs) (fun i H' => Same H H' ∧ ∃ ys, H' D1 = some (.lst ys) ∧ A2 (TpAt H') ys ((outs.take i).map fun o => ((0 : Int), o.1))) ⟨same_new hD1 _, [], upd_same, .nil⟩ (fun i H' _ h => SqL.of (h.1 _ _ hb)) ?_ ?_
  · rintro i x H' hxi ⟨s1, ys, hy, ay⟩
    obtain ⟨o, ho, tt, rfl, htt⟩ := hx.get hxi
    have hol := (List.getElem?_eq_some_iff.mp ho).1
    refine ⟨tt, _, rfl, SqT.of (s1 _ _ htt), rfl, _, _, rfl, _, _, rfl, rfl, rfl, _, rfl, (by show 2 ≤ sizeLine; decide), fun t ht => ?_⟩
    have s2 := same_new ht (.tup [V.int 0, V.int o.1])
    refine ⟨ys, s2 _ _ hy, ?_, same_upd (s1.trans s2) hD1, _, upd_same, ?_⟩
    · rw [ay.len, List.length_map, List.length_take, sizeLine_eq]
      omega
    · rw [take_get ho, List.map_append]
      exact (ay.imp fun _ _ g => tp_upd (s2 _ _ hy) (g.mono (.same s2))).snoc (tp_upd (s2 _ _ hy) ⟨t, rfl, upd_same⟩)
  rintro H1 ⟨s1, ys, hy, ay⟩
  rw [hx.len, List.take_length] at ay
  refine ⟨_, rfl, b, rfl, ⟨_, SqL.of (s1 _ _ hb)⟩, fun D2 hD2 => ?_⟩
  refine list_turns (xs := xs) (fun i H' => Same H1 H' ∧ ∃ zs, H' D2 = some (.lst zs) ∧ A2 (TpAt H') zs ((outs.take i).map fun o => ((1 : Int), o.2))) ⟨same_new hD2 _, [], upd_same, .nil⟩ (fun i H' _ h => SqL.of (h.1 _ _ (s1 _ _ hb))) ?_ ?_
  · rintro i x H' hxi ⟨s2, zs, hz, az⟩
    obtain ⟨o, ho, tt, rfl, htt⟩ := hx.get hxi
    have hol := (List.getElem?_eq_some_iff.mp ho).1
    refine ⟨tt, _, rfl, SqT.of (s2 _ _ (s1 _ _ htt)), rfl, _, _, rfl, _, _, rfl, rfl, rfl, _, rfl, (by show 2 ≤ sizeLine; decide), fun t ht => ?_⟩
    have s3 := same_new ht (.tup [V.int 1, V.int o.2])
    refine ⟨zs, s3 _ _ hz, ?_, same_upd (s2.trans s3) hD2, _, upd_same, ?_⟩
    · rw [az.len, List.length_map, List.length_take, sizeLine_eq]
      omega
    · rw [take_get ho, List.map_append]
      exact (az.imp fun _ _ g => tp_upd (s3 _ _ hz) (g.mono (.same s3))).snoc (tp_upd (s3 _ _ hz) ⟨t, rfl, upd_same⟩)
  rintro H2 ⟨s2, zs, hz, az⟩
  rw [hx.len, List.take_length] at az
  refine ⟨D1, D2, _, _, rfl, rfl, s2 _ _ hy, hz, by rw [ay.len, az.len, List.length_map, List.length_map, sizeLine_eq]; omega, fun M hM => ?_⟩
  have s3 := same_new hM (.lst (ys ++ zs))
  have s13 := (s1.trans s2).trans s3
  refine sset_of (ms := outs.map (fun o => ((0 : Int), o.1)) ++ outs.map (fun o => ((1 : Int), o.2))) upd_same (A2.app (ay.imp fun _ _ g => g.mono (.same (s2.trans s3))) (az.imp fun _ _ g => g.mono (.same s3))) (fun p hp => isP_ok okl ((mem_pts p).mp hp)) (by rw [List.length_append, List.length_map, List.length_map]; omega) fun pr H3 ps s4 _ hps sps mps lps => ?_
  have mps : ∀ p, p ∈ ps ↔ IsP (dirs outs) p := fun p => (mps p).trans (mem_pts p)
  rw [List.length_append, List.length_map, List.length_map] at lps
  have s14 := s13.trans s4
  clear hy ay hz az s1 s2 s3 s13 s4 hD1 hD2 hM
  refine asg_go ?_
  dsimp only
  refine seq_go ?_
  -- each point alone
  obtain ⟨pr', us, epr, hpr, hus⟩ := hps
  cases epr
  refine ⟨_, rfl, pr, rfl, ⟨_, SqL.of hpr⟩, fun Fd hFd => ?_⟩
  have nFd : H Fd = none := none_of_same s14 hFd
  refine list_turns (xs := us) (fun i H' => Same H3 H' ∧ ∃ (fs : List Addr) (ct : Addr → List Pt), H' Fd = some (.lst (fs.map V.ref)) ∧ fs.length = i ∧ fs.Nodup ∧ (∀ g ∈ fs, H g = none ∧ H3 g = none ∧ g ≠ Fd ∧ LetAt H' (.ref g) (ct g)) ∧ ∀ (k : Nat) (g : Addr), fs[k]? = some g → ∃ p, ps[k]? = some p ∧ ct g = [p]) ⟨same_new hFd _, [], fun _ => [], upd_same, rfl, List.nodup_nil, fun g h => (nomatch h), fun k g e => by simp at e⟩ (fun i H' _ h => SqL.of (h.1 _ _ hpr)) ?_ ?_
  · rintro i x H' hxi ⟨s5, fs, ct, hf, lf, nf, hfs, hct⟩
    obtain ⟨p, hp, tt, rfl, htt⟩ := hus.get hxi
    refine ⟨rfl, _, rfl, (by show 1 ≤ sizeLine; decide), fun c hc => ?_⟩
    have s6 := same_new hc (.lst [V.ref tt])
    have ncF : c ≠ Fd := (ne_of_none hf hc).symm
    have hf6 := s6 _ _ hf
    have ncf : c ∉ fs := fun z => by
      obtain ⟨_, _, _, t, zs, e, h, _⟩ := hfs c z
      cases e
      rw [h] at hc
      cases hc
    have up : ∀ {v l}, (∀ a, v = .ref a → a ≠ Fd) → LetAt (upd H' c (.lst [V.ref tt])) v l → LetAt (upd (upd H' c (.lst [V.ref tt])) Fd (.lst (fs.map V.ref ++ [V.ref c]))) v l := fun {v l} ne g => by
      obtain ⟨t, zs, e, h, a⟩ := g
      exact ⟨t, zs, e, by rw [upd_ne (ne t e)]; exact h, a.imp fun _ _ g => tp_upd hf6 g⟩
    refine ⟨_, hf6, by rw [List.length_map, lf, sizeLine_eq]; have := (List.getElem?_eq_some_iff.mp hp).1; omega, same_upd (s5.trans s6) hFd, fs ++ [c], fun g => if g = c then [p] else ct g, by rw [upd_same, List.map_append]; rfl, by rw [List.length_append, lf]; rfl, ?_, fun g hg => ?_, fun k g e => ?_⟩
    · refine List.nodup_append.mpr ⟨nf, by simp, fun x hx y hy z => ?_⟩
      rw [List.mem_singleton.mp hy] at z
      exact ncf (z ▸ hx)
    · rcases List.mem_append.mp hg with hg | hg
      · obtain ⟨a1, a2, a3, a4⟩ := hfs g hg
        have ngc : g ≠ c := fun z => ncf (z ▸ hg)
        refine ⟨a1, a2, a3, ?_⟩
        dsimp only
        rw [if_neg ngc]
        exact up (fun a e => by injection e with e; rw [← e]; exact a3) (a4.mono (.same s6))
      · rw [List.mem_singleton.mp hg]
        refine ⟨none_of_same (s14.trans s5) hc, none_of_same s5 hc, ncF, ?_⟩
        dsimp only
        rw [if_pos rfl]
        exact up (fun a e => by injection e with e; rw [← e]; exact ncF) ⟨c, _, rfl, upd_same, .cons ⟨tt, rfl, s6 _ _ (s5 _ _ htt)⟩ .nil⟩
    · by_cases z : k < fs.length
      · rw [List.getElem?_append_left z] at e
        obtain ⟨p', h1, h2⟩ := hct k g e
        have ngc : g ≠ c := fun z => ncf (z ▸ List.mem_of_getElem? e)
        exact ⟨p', h1, by dsimp only; rw [if_neg ngc]; exact h2⟩
      · have c2 : k = fs.length := by
          have := (List.getElem?_eq_some_iff.mp e).1
          rw [List.length_append] at this
          have e1 : [c].length = 1 := rfl
          omega
        subst c2
        rw [List.getElem?_append_right (Nat.le_refl _), Nat.sub_self] at e
        obtain rfl : c = g := by simpa using e
        exact ⟨p, by rw [lf]; exact hp, if_pos rfl⟩
  rintro H4 ⟨s5, fs, ct, hf, lf, nf, hfs, hct⟩
  refine asg_go ?_
  dsimp only
  refine seq_go ?_
  have lfs : fs.length ≤ 60 := by
    rw [lf, hus.len]
    omega
  have ctp : ∀ g ∈ fs, ∃ p ∈ ps, ct g = [p] := fun g hg => by
    obtain ⟨k, hk⟩ := List.getElem?_of_mem hg
    obtain ⟨p, h1, h2⟩ := hct k g hk
    exact ⟨p, List.mem_of_getElem? h1, h2⟩
  have I0 : FInv (dirs outs) outs 0 fs ct := by
    refine ⟨nf, fun g hg => ?_, fun g hg p hp => ?_, fun g hg p hp q hq => ?_, fun p hp => ?_, fun g hg h hh p hp hq => ?_, fun g hg => ?_, fun o ho => (by cases ho)⟩
    · obtain ⟨p, _, e⟩ := ctp g hg
      rw [e]
      exact List.cons_ne_nil _ _
    · obtain ⟨p', h1, e⟩ := ctp g hg
      rw [e] at hp
      rw [List.mem_singleton.mp hp]
      exact (mps p').mp h1
    · obtain ⟨p', h1, e⟩ := ctp g hg
      rw [e] at hp hq
      rw [List.mem_singleton.mp hp, List.mem_singleton.mp hq]
      exact .refl
    · obtain ⟨k, hk⟩ := List.getElem?_of_mem ((mps p).mpr hp)
      have kl : k < fs.length := by
        rw [lf, hus.len]
        exact (List.getElem?_eq_some_iff.mp hk).1
      obtain ⟨p', h1, h2⟩ := hct k fs[k] (List.getElem?_eq_getElem kl)
      rw [hk] at h1
      cases h1
      exact ⟨fs[k], List.getElem_mem kl, by rw [h2]; exact List.mem_singleton.mpr rfl⟩
    · obtain ⟨k, hk⟩ := List.getElem?_of_mem hg
      obtain ⟨m, hm⟩ := List.getElem?_of_mem hh
      obtain ⟨p1, h1, e1⟩ := hct k g hk
      obtain ⟨p2, h2, e2⟩ := hct m h hm
      rw [e1] at hp
      rw [e2] at hq
      rw [List.mem_singleton.mp hp] at hq
      have hq := List.mem_singleton.mp hq
      subst hq
      obtain ⟨k1, k2⟩ := List.getElem?_eq_some_iff.mp h1
      obtain ⟨m1, m2⟩ := List.getElem?_eq_some_iff.mp h2
      have np := ltP_nodup sps
      have km : k = m := by
        rcases Nat.lt_trichotomy k m with c | c | c
        · exact absurd (k2.trans m2.symm) ((List.pairwise_iff_getElem.mp np) k m k1 m1 c)
        · exact c
        · exact absurd (m2.trans k2.symm) ((List.pairwise_iff_getElem.mp np) m k m1 k1 c)
      subst km
      rw [hk] at hm
      cases hm
      rfl
    · obtain ⟨p, _, e⟩ := ctp g hg
      rw [e]
      simp
  clear hct ctp mps hus hpr sps
  have s4 := s14.trans s5
  have lxs := hx.len
  refine ⟨_, rfl, b, rfl, ⟨_, SqL.of (s4 _ _ hb)⟩, ?_⟩
  refine for_list (xs := xs) (fun i σ H' => ∃ g3 g4 g5 g6 fs ct, σ = [some (.ref b), some (.ref pr), some (.ref Fd), g3, g4, g5, g6, none, none] ∧ Same H H' ∧ H' Fd = some (.lst (fs.map V.ref)) ∧ fs.length ≤ 60 ∧ (∀ g ∈ fs, H g = none ∧ g ≠ Fd ∧ LetAt H' (.ref g) (ct g)) ∧ FInv (dirs outs) outs i fs ct)
    ⟨_, _, _, _, fs, ct, rfl, s4, hf, lfs, fun g hg => ⟨(hfs g hg).1, (hfs g hg).2.2.1, (hfs g hg).2.2.2⟩, I0⟩ (fun i σ H' _ ⟨_, _, _, _, _, _, _, s, _⟩ => SqL.of (s _ _ hb)) ?_ ?_
  · clear hf lf nf hfs lfs I0 fs ct s4 s5 s14
    rintro i x σ H5 hxi ⟨g3, g4, g5, g6, fs, ct, rfl, s5, hf, lfs, hfs, I⟩
    obtain ⟨o, ho, tt, rfl, htt⟩ := hx.get hxi
    have hom := List.mem_of_getElem? ho
    refine ⟨tt, _, rfl, SqT.of (s5 _ _ htt), rfl, _, _, rfl, _, _, rfl, rfl, ?_⟩
    -- who holds the first, the second
    obtain ⟨fa, ha, ha0, ha1⟩ := hold_one I (p := (0, o.1)) ⟨(1, o.2), mem_dirs.mpr ⟨o, hom, .inl ⟨rfl, rfl⟩⟩⟩
    obtain ⟨fb, hb', hb0, hb1⟩ := hold_one I (p := (1, o.2)) ⟨(0, o.1), mem_dirs.mpr ⟨o, hom, .inr ⟨rfl, rfl⟩⟩⟩
    dsimp only
    refine seq_go (tasg_go (hold_go (fun _ => rfl) hf lfs (fun g hg => (hfs g hg).2.2) ha1 fun H6 s6 => ?_))
    refine asg_go ?_
    dsimp only
    have hf6 := s6 _ _ hf
    have hfs6 : ∀ g ∈ fs, LetAt H6 (.ref g) (ct g) := fun g hg => (hfs g hg).2.2.mono (.same s6)
    refine seq_go (tasg_go (hold_go (fun _ => rfl) hf6 lfs hfs6 hb1 fun H7 s7 => ?_))
    refine asg_go ?_
    dsimp only
    have s67 := s6.trans s7
    have hf7 := s7 _ _ hf6
    have hfs7 : ∀ g ∈ fs, LetAt H7 (.ref g) (ct g) := fun g hg => (hfs6 g hg).mono (.same s7)
    refine ⟨_, rfl, _, rfl, ne_let (hfs7 fa ha) (hfs7 fb hb') ⟨_, rfl, ?_⟩⟩
    by_cases c : fa = fb
    · refine iteF' (by rw [decide_eq_true ((I.diff ha hb').mpr c)]; rfl) ?_
      exact ⟨_, _, _, _, fs, ct, rfl, s5.trans s67, hf7, lfs, fun g hg => ⟨(hfs g hg).1, (hfs g hg).2.1, hfs7 g hg⟩, I.skip ho ha ha0 (by rw [c]; exact hb0)⟩
    refine iteT' (by rw [decide_eq_false (fun z => c ((I.diff ha hb').mp z))]; rfl) ?_
    obtain ⟨jb, hjb⟩ := List.getElem?_of_mem hb'
    refine seq_go (drop_rem rfl rfl hf7 hfs7 hjb I.nd (fun g hg e => (I.diff hg hb').mp e) ?_)
    dsimp only
    have mem' := mem_eraseIdx I.nd hjb
    obtain ⟨nHa, naF, ta, xa, ea, hta, hxa⟩ := (⟨(hfs fa ha).1, (hfs fa ha).2.1, hfs7 fa ha⟩ : H fa = none ∧ fa ≠ Fd ∧ LetAt H7 (.ref fa) (ct fa))
    obtain ⟨nHb, nbF, tb, xb, eb, htb, hxb⟩ := (⟨(hfs fb hb').1, (hfs fb hb').2.1, hfs7 fb hb'⟩ : H fb = none ∧ fb ≠ Fd ∧ LetAt H7 (.ref fb) (ct fb))
    cases ea
    cases eb
    have ha8 : (upd H7 Fd (.lst ((fs.eraseIdx jb).map V.ref))) fa = some (.lst xa) := by rw [upd_ne naF]; exact hta
    have hb8 : (upd H7 Fd (.lst ((fs.eraseIdx jb).map V.ref))) fb = some (.lst xb) := by rw [upd_ne nbF]; exact htb
    have lxa : xa.length ≤ 100000 ∧ xb.length ≤ 100000 := by
      have la := sub_len (I.nod fa ha) (ys := outs.map (fun o => ((0 : Int), o.1)) ++ outs.map (fun o => ((1 : Int), o.2))) fun p hp => (mem_pts p).mpr (I.isP fa ha p hp)
      have lb := sub_len (I.nod fb hb') (ys := outs.map (fun o => ((0 : Int), o.1)) ++ outs.map (fun o => ((1 : Int), o.2))) fun p hp => (mem_pts p).mpr (I.isP fb hb' p hp)
      rw [List.length_append, List.length_map, List.length_map] at la lb
      rw [hxa.len, hxb.len]
      omega
    refine ⟨_, rfl, .inl ⟨rfl, _, SqL.of ha8⟩, _, rfl, fa, fb, xa, xb, rfl, rfl, ha8, hb8, by rw [sizeLine_eq]; omega, ?_⟩
    have sA : Same H (upd H7 Fd (.lst ((fs.eraseIdx jb).map V.ref))) := same_upd (s5.trans s67) nFd
    refine ⟨_, _, _, _, fs.eraseIdx jb, fun x => if x = fa then ct fa ++ ct fb else ct x, rfl, same_upd sA nHa, by rw [upd_ne (Ne.symm naF)]; exact upd_same, Nat.le_trans (List.length_eraseIdx_le _ _) lfs, fun g hg => ?_, I.merge ho ha hb' c ha0 hb0 ((List.eraseIdx_sublist _ _).nodup I.nd) mem'⟩
    have hgf := ((mem' g).mp hg).1
    refine ⟨(hfs g hgf).1, (hfs g hgf).2.1, ?_⟩
    dsimp only
    by_cases d : g = fa
    · rw [if_pos d, d]
      refine ⟨fa, xa ++ xb, rfl, upd_same, A2.app (hxa.imp fun _ _ z => ?_) (hxb.imp fun _ _ z => ?_)⟩
      · exact tp_upd ha8 (tp_upd hf7 z)
      · exact tp_upd ha8 (tp_upd hf7 z)
    · rw [if_neg d]
      obtain ⟨t, zs, e, h1, h2⟩ := hfs7 g hgf
      cases e
      exact ⟨g, zs, rfl, by rw [upd_ne d, upd_ne (hfs g hgf).2.1]; exact h1, h2.imp fun _ _ z => tp_upd ha8 (tp_upd hf7 z)⟩
  · rintro σ H5 ⟨g3, g4, g5, g6, fs, ct, rfl, s5, hf, lfs, hfs, I⟩
    rw [lxs] at I
    dsimp only
    refine sl_go ?_
    refine ⟨_, rfl, Fd, rfl, ⟨_, SqL.of hf⟩, fun L hL => ?_⟩
    have lct : ∀ g ∈ fs, (ct g).length ≤ 60 := fun g hg => by
      have la := sub_len (I.nod g hg) (ys := outs.map (fun o => ((0 : Int), o.1)) ++ outs.map (fun o => ((1 : Int), o.2))) fun p hp => (mem_pts p).mpr (I.isP g hg p hp)
      rw [List.length_append, List.length_map, List.length_map] at la
      omega
    refine list_turns (xs := fs.map V.ref) (fun j H' => Same H5 H' ∧ ∃ us : List (Addr × List Pt), H' L = some (.lst (us.map fun u => V.ref u.1)) ∧ us.length = j ∧ (∀ u ∈ us, u.1 ≠ L ∧ LetAt H' (.ref u.1) u.2) ∧ ∀ (k : Nat) u, us[k]? = some u → ∃ g, fs[k]? = some g ∧ u.2.Perm (ct g) ∧ u.2.Pairwise ltP) ⟨same_new hL _, [], upd_same, rfl, fun u h => (nomatch h), fun k u e => by simp at e⟩ (fun j H' _ h => SqL.of (h.1 _ _ hf)) ?_ ?_
    · rintro j x H' hxj ⟨s6, us, h6, lu, hus, hk⟩
      rw [List.getElem?_map] at hxj
      obtain ⟨g, hg, rfl⟩ := Option.map_eq_some_iff.mp hxj
      have hgm := List.mem_of_getElem? hg
      obtain ⟨t, zs, e, h1, h2⟩ := (hfs g hgm).2.2.mono (.same s6)
      cases e
      have jl := (List.getElem?_eq_some_iff.mp hg).1
      refine ⟨rfl, yes_go (su_go ⟨_, rfl, sortU_any h1 h2 (I.nod g hgm) (fun p hp => isP_ok okl (I.isP g hgm p hp)) (by have := lct g hgm; omega) fun r H7 ls s7 nr hr pm ps => ?_⟩)⟩
      have nrL : r ≠ L := (ne_of_none h6 nr).symm
      have h67 := s7 _ _ h6
      have up : ∀ {a : Addr} {l : List Pt} {ys : List V}, a ≠ L → LetAt H7 (.ref a) l → LetAt (upd H7 L (.lst ys)) (.ref a) l := fun {a l ys} ne g => by
        obtain ⟨t, zs, e, h, b⟩ := g
        cases e
        exact ⟨a, zs, rfl, by rw [upd_ne ne]; exact h, b.imp fun _ _ g => tp_upd h67 g⟩
      refine ⟨_, h67, by rw [List.length_map, lu, sizeLine_eq]; omega, same_upd (s6.trans s7) hL, us ++ [(r, ls)], by rw [upd_same, List.map_append]; rfl, by rw [List.length_append, lu]; rfl, fun u hu => ?_, fun k u e => ?_⟩
      · rcases List.mem_append.mp hu with hu | hu
        · exact ⟨(hus u hu).1, up (hus u hu).1 ((hus u hu).2.mono (.same s7))⟩
        · rw [List.mem_singleton.mp hu]
          exact ⟨nrL, up nrL hr⟩
      · by_cases z : k < us.length
        · rw [List.getElem?_append_left z] at e
          exact hk k u e
        · have c2 : k = us.length := by
            have := (List.getElem?_eq_some_iff.mp e).1
            rw [List.length_append] at this
            have e1 : [(r, ls)].length = 1 := rfl
            omega
          subst c2
          rw [List.getElem?_append_right (Nat.le_refl _), Nat.sub_self] at e
          obtain rfl : (r, ls) = u := by simpa using e
          exact ⟨g, by rw [lu]; exact hg, pm, ps⟩
    rintro H6 ⟨s6, us, h6, lu, hus, hk⟩
    rw [List.length_map] at lu
    have ug : ∀ u ∈ us, ∃ g ∈ fs, u.2.Perm (ct g) ∧ u.2.Pairwise ltP := fun u hu => by
      obtain ⟨k, hk'⟩ := List.getElem?_of_mem hu
      obtain ⟨g, h1, h2, h3⟩ := hk k u hk'
      exact ⟨g, List.mem_of_getElem? h1, h2, h3⟩
    refine ⟨L, us.map (fun u => (u.1, letD u.2)), rfl, SqL.of (by rw [List.map_map]; exact h6), fun z hz => ?_, fun d hd d' hd' => ?_, .inr fun d hd => ?_, fun z hz => ?_, fun r hr => ?_⟩
    · obtain ⟨u, hu, rfl⟩ := List.mem_map.mp hz
      exact (hus u hu).2.dp
    · rw [List.map_map] at hd hd'
      obtain ⟨u, _, rfl⟩ := List.mem_map.mp hd
      obtain ⟨u', _, rfl⟩ := List.mem_map.mp hd'
      exact alike_let _ _
    · rw [List.map_map] at hd
      obtain ⟨u, _, rfl⟩ := List.mem_map.mp hd
      exact ⟨fun c => (by cases c), fun xs c => (by cases c)⟩
    · obtain ⟨u, hu, rfl⟩ := List.mem_map.mp hz
      exact Nat.le_trans (okD_pairs u.2).2 (by decide)
    have em : (us.map (fun u => (u.1, letD u.2))).mergeSort (PySem.W.dataLe false (·.2)) = (us.mergeSort fun a b => PySem.W.dataLe false (fun z : Addr × PyData => z.2) (a.1, letD a.2) (b.1, letD b.2)).map (fun u => (u.1, letD u.2)) := (List.map_mergeSort (f := fun u : Addr × List Pt => (u.1, letD u.2)) (fun a _ b _ => rfl)).symm
    rw [em, List.map_map]
    have pm := List.mergeSort_perm us (fun a b => PySem.W.dataLe false (fun z : Addr × PyData => z.2) (a.1, letD a.2) (b.1, letD b.2))
    have pw : (us.mergeSort fun a b => PySem.W.dataLe false (fun z : Addr × PyData => z.2) (a.1, letD a.2) (b.1, letD b.2)).Pairwise fun a b => PySem.W.dataLt (letD b.2) (letD a.2) = false := by
      refine (PySem.W.sort_pairwise (PySem.W.sortLe_total (PyProof.Rows.listOrd PyProof.Rows.itemOrd) false fun u : Addr × List Pt => PySem.W.keyToks (letD u.2)) us).imp fun {a b} h => ?_
      have h : (!PySem.W.dataLt (letD b.2) (letD a.2)) = true := h
      simpa using h
    generalize (us.mergeSort fun a b => PySem.W.dataLe false (fun z : Addr × PyData => z.2) (a.1, letD a.2) (b.1, letD b.2)) = ws at pm pw ⊢
    have sr := same_new hr (.lst (ws.map ((fun z : Addr × PyData => V.ref z.1) ∘ fun u => (u.1, letD u.2))))
    refine q r _ (ws.map fun u : Addr × List Pt => u.2) _ ((s5.trans s6).trans sr) (none_of_same (s5.trans s6) hr) upd_same (A2.ofMap _ (fun u : Addr × List Pt => u.2) ws fun u hu => (hus u (pm.mem_iff.mp hu)).2.mono (.same sr)) (lots_sorted pm pw (fun u hu => ?_) (fun u hu => ?_) (fun u hu p hp => ?_) (fun p hp => ?_) ?_)
    · obtain ⟨g, _, _, h⟩ := ug u hu
      exact h
    · obtain ⟨g, hg, h, _⟩ := ug u hu
      intro c
      rw [c] at h
      exact I.ne g hg h.nil_eq.symm
    · obtain ⟨g, hg, h, _⟩ := ug u hu
      have hpg := h.mem_iff.mp hp
      exact ⟨I.isP g hg p hpg, fun z => h.mem_iff.trans (I.cls hg hpg z)⟩
    · obtain ⟨g, hg, hpg⟩ := I.all p hp
      obtain ⟨k, hk'⟩ := List.getElem?_of_mem hg
      have kl : k < us.length := by
        rw [lu]
        exact (List.getElem?_eq_some_iff.mp hk').1
      obtain ⟨g', h1, h2, _⟩ := hk k us[k] (List.getElem?_eq_getElem kl)
      rw [hk'] at h1
      cases h1
      exact ⟨us[k], List.getElem_mem kl, h2.mem_iff.mpr hpg⟩
    · rw [List.pairwise_iff_getElem]
      intro k m hk1 hm1 hlt p hp hq
      obtain ⟨g, a1, a2, _⟩ := hk k us[k] (List.getElem?_eq_getElem hk1)
      obtain ⟨g', b1, b2, _⟩ := hk m us[m] (List.getElem?_eq_getElem hm1)
      have e := I.uni g (List.mem_of_getElem? a1) g' (List.mem_of_getElem? b1) p (a2.mem_iff.mp hp) (b2.mem_iff.mp hq)
      subst e
      obtain ⟨k1, k2⟩ := List.getElem?_eq_some_iff.mp a1
      obtain ⟨m1, m2⟩ := List.getElem?_eq_some_iff.mp b1
      exact (List.pairwise_iff_getElem.mp I.nd) k m k1 m1 hlt (k2.trans m2.symm)
end
end TA

set_option Elab.async false
set_option maxRecDepth 100000
set_option maxHeartbeats 4000000
namespace TA
open PySem L2 PyProof.Rows
set_option linter.unusedVariables false
/-- a new task: its lists are new, all of them -/
def NewT (C : Addr) (H H' : Hp) (p : Addr) (T : TD) : Prop := Same H H' ∧ ∃ Hx, Same H Hx ∧ NewAt C Hx H' p T
theorem NewT.task {C : Addr} {H H' : Hp} {p : Addr} {T : TD} (h : NewT C H H' p T) : TaskAt C H' p T := by
  obtain ⟨_, _, _, h⟩ := h
  exact h.task
/-- what a make leaves -/
theorem make_same {C : Addr} {M : Hp} {x dx : Addr} (nx : M x = none) (ndx : M dx = none) : Same M (upd (upd M dx (.own x)) x (.ins C dx [])) := fun b o e => by
  rw [upd_ne (ne_of_none e nx), upd_ne (ne_of_none e ndx)]
  exact e
theorem make_new {C : Addr} {M H5 : Hp} {x dx : Addr} {T : TD} (nx : M x = none) (ndx : M dx = none) (b5 : But x (upd (upd M dx (.own x)) x (.ins C dx [])) H5) (n : NewAt C (upd (upd M dx (.own x)) x (.ins C dx [])) H5 x T) : NewT C M H5 x T :=
  ⟨fun b o e => b5 _ _ (ne_of_none e nx) (make_same nx ndx _ _ e), _, make_same nx ndx, n⟩
def Kf (G H H' : Hp) : Prop := ∀ b o, H b = some o → (G b = none ∨ ((∀ xs, o ≠ .lst xs) ∧ ∀ kvs, o ≠ .dT kvs)) → H' b = some o
theorem NewAt.kf {C : Addr} {G H H' : Hp} {p : Addr} {T : TD} (h : NewAt C G H p T) (k : Kf G H H') : NewAt C G H' p T := by
  obtain ⟨dx, a, d, kvs, h1, h2, h3, hn, h4, h5⟩ := h
  have kp : Kp (nwx G p H) (nwx G p H') := fun b o _ e => by
    obtain ⟨e1, e2, e3⟩ := nwx_some e
    exact nwx_put e1 e2 (k b o e3 (.inl e1))
  refine ⟨dx, a, d, kvs, k _ _ h1 (.inr ⟨fun xs c => (nomatch c), fun xs c => (nomatch c)⟩), h2.mono kp, h3, hn, k _ _ h4 (.inl h3), h5.imp fun _ _ r => ?_⟩
  obtain ⟨r1, t, xs, e, e1, e2⟩ := r
  refine ⟨r1, t, xs, e, kp.lst e1, e2.imp fun _ _ q => ?_⟩
  obtain ⟨u, eu, hu⟩ := q
  exact ⟨u, eu, k _ _ hu (.inr ⟨fun xs c => (nomatch c), fun xs c => (nomatch c)⟩)⟩
/-- a task that is new behind the well stays while the well changes -/
theorem NewT.well {C st : Addr} {G H H' : Hp} {p : Addr} {T : TD} {zs : List V} (h : NewT C G H p T) (g : G st ≠ none) (w : H st = some (.lst zs)) (b : But st H H') : TaskAt C H' p T := by
  obtain ⟨_, Gx, sg, n⟩ := h
  refine (n.kf (H' := H') fun x o e c => b x o (fun z => ?_) e).task
  rw [z, w] at e
  injection e with e
  rcases c with c | c
  · rw [z] at c
    exact g (none_of_same sg c)
  · exact c.1 _ e.symm
theorem NewT.on {C : Addr} {G H H' : Hp} {p : Addr} {T : TD} (n : NewT C G H p T) (s : Same H H') : NewT C G H' p T := by
  obtain ⟨s1, Hx, sx, n⟩ := n
  exact ⟨s1.trans s, Hx, sx, n.kf fun b o e _ => s _ _ e⟩
theorem NewT.up {C : Addr} {G H0 H1 : Hp} {q : Addr} {S : TD} (n : NewT C H0 H1 q S) (s : Same G H0) : NewT C G H1 q S := by
  obtain ⟨s1, Hx, sx, n⟩ := n
  exact ⟨s.trans s1, Hx, s.trans sx, n⟩
structure KDef (P : Program) (w : World) (K : PySem.W.Frag) (mg : Str → Option Value) (base : Heap) (C : Addr) (x : Str) (ps : List Str) (k : Nat) (sp : Sp) (f : Addr) (fd : FuncData) : Prop where
  G : FnOk P w K mg base CX0 k f fd ps sp
  b : Binds K fd ps []
  M : Mk K C f
  m : mg x = some (.ref C)

/-- the same, with one way on -/
def spLfar1 : Sp := fun vs H Q _ => ∃ (b : Addr) (x y : Int) (outs : List Pt), vs = [.ref b, .int x, .int y] ∧ LetAt H (.ref b) outs ∧ outs.length ≤ 200 ∧ ∀ (v : V) (H' : Hp), Same H H' → LeastV outs x y v → Q v H'
theorem lfar1 (vs : List V) (H : Hp) (Q : VK) (E : XK) (h : spLfar1 vs H Q E) : spFar vs H Q E := by
  obtain ⟨b, x, y, outs, rfl, hL, hl, q⟩ := h
  exact ⟨b, x, y, outs, rfl, hL, hl, fun H' s n => q _ _ s (.inl ⟨rfl, n⟩), fun k H' s n => q _ _ s (.inr ⟨k, rfl, n⟩)⟩
theorem sameTD_self (T : TD) : sameTD T T = true := by
  unfold sameTD sameB
  rw [decide_eq_true ⟨rfl, rfl⟩, decide_eq_true rfl]
  rfl

theorem alike_lets : ∀ (L M : List (List Pt)), PySem.W.alikeAll (L.map letD) (M.map letD) = true
  | [], _ => by simp [PySem.W.alikeAll]
  | p :: l, [] => by simp [PySem.W.alikeAll]
  | p :: l, q :: m => by
    rw [List.map_cons, List.map_cons]
    simp [PySem.W.alikeAll, alike_let, alike_lets l m]
theorem eqv_lets (L : List (List Pt)) : PyData.eqv (.list (L.map letD)) (.list (L.map letD)) = true := PySem.W.eqv_refl_alike _ (by simp [PySem.W.alike, alike_lets])
theorem ok_lets (L : List (List Pt)) : SeqAt.shaped (.list (L.map letD)) = true := (ok_list (n := 3) fun d hd => by
  obtain ⟨l, _, rfl⟩ := List.mem_map.mp hd
  exact okD_pairs l).shaped (by decide)
theorem lets_all {K : PySem.W.Frag} {H : Hp} : ∀ {xs : List V} {L : List (List Pt)}, A2 (LetAt H) xs L → DpAll K H xs (L.map letD)
  | _, _, .nil => .nil
  | _, _, .cons a r => .cons a.dp (lets_all r)
/-- a list of lots -/
def LtsAt (H : Hp) (r : Addr) (L : List (List Pt)) : Prop := ∃ xs, H r = some (.lst xs) ∧ A2 (LetAt H) xs L
theorem LtsAt.same {H H' : Hp} {r : Addr} {L : List (List Pt)} (h : LtsAt H r L) (s : Same H H') : LtsAt H' r L := by
  obtain ⟨xs, e, a⟩ := h
  exact ⟨xs, s _ _ e, a.imp fun _ _ g => g.mono (.same s)⟩
theorem LtsAt.ne {K : PySem.W.Frag} {H : Hp} {r t : Addr} {L : List (List Pt)} {Q : VK} (h : LtsAt H r L) (g : LtsAt H t L) (q : Q (.bl false) H) : rNeD K (.ref r) (.ref t) H Q := by
  obtain ⟨xs, e, a⟩ := h
  obtain ⟨ys, f, b⟩ := g
  exact ⟨.list (L.map letD), .list (L.map letD), .lst (SqL.of e) (lets_all a), .lst (SqL.of f) (lets_all b), ok_lets L, ok_lets L, by rw [eqv_lets]; exact q⟩
theorem LotsOk.some {D : List (Pt × Pt)} {L : List (List Pt)} (h : LotsOk D L) {p : Pt} (g : IsP D p) : ∃ l L', L = l :: L' := by
  obtain ⟨l, hl, _⟩ := h.all p g
  cases L with
  | nil => cases hl
  | cons l L' => exact ⟨l, L', rfl⟩
/-- sorted(set(ints)) -/
theorem sseti_of {w : World} {K : PySem.W.Frag} {H : Hp} {l : Addr} {ns : List Int} {Q : VK} (e : H l = some (.lst (ns.map V.int))) (m : ns.length < 64)
    (q : ∀ (r : Addr) (H' : Hp) (ls : List Int), Same H H' → H r = none → H' r = some (.lst (ls.map V.int)) → ls.Pairwise (· < ·) → (∀ x, x ∈ ls ↔ x ∈ ns) → ls.length ≤ ns.length → Q (.ref r) H') : rSetOfI K w [.ref l] H fun c H1 => rSortedSet w [c] H1 Q := by
  refine ⟨l, ns, rfl, SqL.of e, by omega, fun c k hc hk => ?_⟩
  have s3 := same_new hc (SetO w c (fun j => decide (j ∈ ns)) k)
  refine ⟨c, _, k, rfl, upd_same, by omega, fun ms p hs hmem hlm hp => ?_⟩
  have s4 := same_new hp (.lst (ms.map V.int))
  exact q p _ ms (s3.trans s4) (none_of_same s3 hp) upd_same hs (fun x => (hmem x).trans decide_eq_true_iff) (by omega)
theorem sseti_go {K : PySem.W.Frag} {w : World} {t : TE} {σ : L2.St} {H : Hp} {Q : VK} (h : t σ H fun x H1 => rSetOfI K w [x] H1 fun c H2 => rSortedSet w [c] H2 Q) : tCB (rSortedSet w) (tCons (tCB (rSetOfI K w) (tCons t tNil)) tNil) σ H Q := h
theorem next_go {D : Ends} {σ : L2.St} {H : Hp} (h : D.nx σ H) : tNext D σ H := h
theorem cut_ints {xs : List V} {lo hi : Option Int} (h : ∀ v ∈ xs, ∃ k : Int, v = .int k) : ∀ v ∈ cutV xs lo hi, ∃ k : Int, v = .int k := fun v hv => h v (List.mem_of_mem_drop (List.mem_of_mem_take hv))
def spLaw (K : PySem.W.Frag) : Sp := fun vs H Q _ => ∃ (a : Addr) (ns : List Int), vs = [.ref a] ∧ SqL K H a (ns.map V.int) ∧ ns.length ≤ 63 ∧ ∀ H', Q (.bl true) H'
section
variable {P : Program} {w : World} {K : PySem.W.Frag} {mg : Str → Option Value} {base : Heap}
abbrev nLaw : List Str := ["_law_script", "_law_cell", "_law_well_here", "_law_alone", "_law_both", "_law_task", "_law_pair", "_law_due", "_law_told", "_law_some", "_law_x", "_law_y"]
theorem sc_law : FnScope nLaw ["_law_script"] (defScope sLaw) := ⟨rfl, rfl, rfl, by decide +kernel, rfl, by decide +kernel, by decide +kernel⟩
theorem ok_law {f g1 g2 g3 g4 g5 g6 g7 g8 g9 C : Addr} {fd d1 d2 d3 d4 d5 d6 d7 d8 d9 : FuncData} (F : Fun K "law" "law" sLaw f fd) (T : Txt K mg) (T2 : Txt2 K mg)
    (We : Def P w K mg base "_law_well" ["_law_cell"] 1 spWell g1 d1) (Dw : Def P w K mg base "_law_draw" ["_law_well_here", "_law_many"] 1 spDraw g2 d2) (Pa : Def P w K mg base "_law_parts" ["_law_well_here"] 3 spParts g3 d3) (Tk : KDef P w K mg base C "Task" ["self", "alone", "both"] 7 (spInit K C) g4 d4)
    (Lo : Def P w K mg base "lots" ["task", "pair"] 6 (spLots C) g5 d5) (Fa : Def P w K mg base "far" nFa 6 (spFar1 C) g6 d6) (Ll : Def P w K mg base "_law_lots" ["_law_outs_here"] 1 spLaw_lots g7 d7) (Lf : Def P w K mg base "_law_far" ["_law_outs_here", "_law_x", "_law_y"] 1 spLfar1 g8 d8)
    (EC : EqC K C) (EQ : EqD P w K mg base C 1 (spEq K C) g9 d9) :
    FnOk P w K mg base CX0 9 f fd ["_law_script"] (spLaw K) := by
  refine F.ok sc_law (fun vs H Q E h => ?_) (fun cdv A outer s H vs Q E hr h => ?_)
  · obtain ⟨a, ns, rfl, _⟩ := h
    rfl
  obtain ⟨a, ns, rfl, hS, hn, q⟩ := h
  have nd := sc_law.nd
  have hu := hu_of hr
  refine ⟨_, (pss_cons (ps_for PassesOwn.never (by rfl) (pi_list (pe_op op_cat (pe_lst (pa_cons pe_int (pa_cons pe_int pa_nil))) (pe_slice sl_list (pv 0) po_none (po_some pe_int)))) (pg_name (i := 1) nd rfl (Or.inl rfl))
      (pss_cons (ps_set (i := 2) nd rfl (Or.inl rfl) (pe_call We.G (hr.mono (by decide)) rfl We.m We.k We.b .nil pass0 (pa_cons (pv 1) pa_nil)))
    (pss_cons (ps_asg (pe_call Pa.G (hr.mono (by decide)) rfl Pa.m Pa.k Pa.b .nil pass0 (pa_cons (pv 2) pa_nil)) (pg_tup (by rfl) (pgs_cons (pg_name (i := 3) nd rfl (Or.inl rfl)) (pgs_cons (pg_name (i := 4) nd rfl (Or.inl rfl)) pgs_nil))))
    (pss_cons (ps_set (i := 5) nd rfl (Or.inl rfl) (pe_make Tk.M Tk.G (hr.mono (by decide)) (by rfl) Tk.m Tk.b .nil pass0 (pa_cons (pv 3) (pa_cons (pv 4) pa_nil))))
    (pss_cons (ps_for PassesOwn.never (by rfl) (pi_list (pe_slice sl_list (pe_callB (cr_sortedDT (d := 2) (B := 64) (by decide) rfl) (by rfl) T2.sorted (by decide +kernel) (pa_cons (pv 4) pa_nil)) po_none (po_some pe_int))) (pg_name (i := 6) nd rfl (Or.inl rfl))
      (pss_cons (ps_set (i := 7) nd rfl (Or.inl rfl) (pe_call Ll.G (hr.mono (by decide)) rfl Ll.m Ll.k Ll.b .nil pass0 (pa_cons (pe_dget hu (pv 4) (pv 6) (fun _ _ => rfl)) pa_nil)))
    (pss_cons (ps_set (i := 8) nd rfl (Or.inl rfl) (pe_call Lo.G (hr.mono (by decide)) rfl Lo.m Lo.k Lo.b .nil pass0 (pa_cons (pv 5) (pa_cons (pv 6) pa_nil))))
    (pss_cons (ps_if (PW.pt (pw_or (pt_cmpR (op_neD hr.units) (pv 8) (pv 7) (nomark _)) (pw_or1 (pt_not (pt_val (pe_callB call_isi (by rfl) T.isi boot_isinstance (pa_cons (pv 8) (pa_cons (pe_bltn (v := .ty "list") (by rfl) T.list boot_list rfl) pa_nil))))))))
      (pss_one (ps_ret pe_bl))
      pss_nil)
    (pss_cons (ps_expr (pe_bm0 PySem.F.plainAttrs_list PySem.F.slot_list_clear PySem.F.type_list_clear mt_clear (pe_ix ix_list (pv 8) pe_int (fun _ _ => rfl))))
    (pss_cons (ps_expr (pe_bm0 PySem.F.plainAttrs_list PySem.F.slot_list_reverse PySem.F.type_list_reverse mt_reverse (pv 8)))
    (pss_cons (ps_if (pt_cmpR (op_neD hr.units) (pe_call Lo.G (hr.mono (by decide)) rfl Lo.m Lo.k Lo.b .nil pass0 (pa_cons (pv 5) (pa_cons (pv 6) pa_nil))) (pv 7) (nomark _))
      (pss_one (ps_ret pe_bl))
      pss_nil)
    (pss_cons (ps_set (i := 9) nd rfl (Or.inl rfl) (pe_callB (cr_sortedSet rfl) (by rfl) T2.sorted (by decide +kernel) (pa_cons (pe_callTy (cr_setOfI rfl) (by rfl) T2.set (by decide +kernel) (pa_cons (pe_op op_cat (pe_lc (own := [("_law_x", 10), ("_law_y", 11)]) (g := (gTup K 2 (gCons (gName 10) (gCons (gName 11) gNil)))) (tt := tYes) (te := (tVar 10)) rfl nd (pi_list (pe_dget hu (pv 4) (pv 6) (fun _ _ => rfl))) (blkOk_by (N := nLaw) (sc := defScope sLaw) (by decide +kernel)) (fun _ _ _ _ _ => (by exact (pg_tup (by rfl) (pgs_cons (pg_name (i := 10) nd rfl (Or.inl rfl)) (pgs_cons (pg_name (i := 11) nd rfl (Or.inl rfl)) pgs_nil))))) (fun _ _ _ _ _ => pts_nil) (fun _ _ _ _ _ => (by exact (pv 10)))) (pe_lc (own := [("_law_x", 10), ("_law_y", 11)]) (g := (gTup K 2 (gCons (gName 10) (gCons (gName 11) gNil)))) (tt := tYes) (te := (tVar 11)) rfl nd (pi_list (pe_dget hu (pv 4) (pv 6) (fun _ _ => rfl))) (blkOk_by (N := nLaw) (sc := defScope sLaw) (by decide +kernel)) (fun _ _ _ _ _ => (by exact (pg_tup (by rfl) (pgs_cons (pg_name (i := 10) nd rfl (Or.inl rfl)) (pgs_cons (pg_name (i := 11) nd rfl (Or.inl rfl)) pgs_nil))))) (fun _ _ _ _ _ => pts_nil) (fun _ _ _ _ _ => (by exact (pv 11))))) pa_nil)) pa_nil)))
    (pss_cons (ps_set (i := 9) nd rfl (Or.inl rfl) (pe_op op_cat (pe_op op_cat (pe_slice sl_list (pv 9) po_none (po_some pe_int)) (pe_slice sl_list (pv 9) (po_some (pe_un un_neg pe_int)) po_none)) (pe_lst (pa_cons (pe_ix ix_list (pe_lst (pa_cons pe_int (pa_cons (pe_un un_neg pe_int) (pa_cons (pe_op op_pow pe_int pe_int) pa_nil)))) (pe_call Dw.G (hr.mono (by decide)) rfl Dw.m Dw.k Dw.b .nil pass0 (pa_cons (pv 2) (pa_cons pe_int pa_nil))) (fun _ _ => rfl)) pa_nil))))
    (pss_one (ps_for PassesOwn.never (by rfl) (pi_list (pv 9)) (pg_name (i := 10) nd rfl (Or.inl rfl))
      (pss_one (ps_for PassesOwn.never (by rfl) (pi_list (pv 9)) (pg_name (i := 11) nd rfl (Or.inl rfl))
      (pss_one (ps_if (pt_cmpR op_ne (pe_call Fa.G (hr.mono (by decide)) rfl Fa.m Fa.k Fa.b .nil pass0 (pa_cons (pv 5) (pa_cons (pv 6) (pa_cons (pv 10) (pa_cons (pv 11) pa_nil))))) (pe_call Lf.G (hr.mono (by decide)) rfl Lf.m Lf.k Lf.b .nil pass0 (pa_cons (pe_dget hu (pv 4) (pv 6) (fun _ _ => rfl)) (pa_cons (pv 10) (pa_cons (pv 11) pa_nil)))) (nomark _))
      (pss_one (ps_ret pe_bl))
      pss_nil)))))))))))))))
    (pss_one (ps_if (pt_cmpR (op_neO EQ.G EQ.at_ EC.ne EC.ob EQ.fn EQ.b (hr.mono (by decide)) pass0) (pv 5) (pe_make Tk.M Tk.G (hr.mono (by decide)) (by rfl) Tk.m Tk.b .nil pass0 (pa_cons (pv 3) (pa_cons (pv 4) pa_nil))) (nomark _))
      (pss_one (ps_ret pe_bl))
      pss_nil)))))))
    (pss_one (ps_ret pe_bl))), ?_⟩
  refine ⟨(by show 2 ≤ sizeLine; decide), fun l0 hl0 => ?_⟩
  have s0 := same_new hl0 (.lst [V.int 0, V.int 3])
  refine ⟨_, rfl, _, rfl, a, _, rfl, s0.seq hS, fun l1 hl1 => ?_⟩
  have s1 := same_new hl1 (.lst (cutV (ns.map V.int) none (some 6)))
  refine ⟨l0, l1, _, _, rfl, rfl, s1 _ _ upd_same, upd_same, ?_, fun Lc hLc => ?_⟩
  · exact Nat.le_trans (Nat.add_le_add (Nat.le_refl 2) (Nat.le_trans (cutV_length _ _ _) (by rw [List.length_map]; exact hn))) (by show 2 + 63 ≤ sizeLine; decide)
  have allI : ∀ x ∈ [V.int 0, V.int 3] ++ cutV (ns.map V.int) none (some 6), ∃ c : Int, x = .int c := fun x hx => by
    rcases List.mem_append.mp hx with hx | hx
    · rcases List.mem_cons.mp hx with rfl | hx
      · exact ⟨_, rfl⟩
      · exact ⟨3, List.mem_singleton.mp hx⟩
    · obtain ⟨c, _, rfl⟩ := List.mem_map.mp (List.mem_of_mem_drop (List.mem_of_mem_take hx))
      exact ⟨c, rfl⟩
  have eLc := upd_same (H := upd (upd H l0 (.lst [V.int 0, V.int 3])) l1 (.lst (cutV (ns.map V.int) none (some 6)))) (a := Lc) (o := .lst ([V.int 0, V.int 3] ++ cutV (ns.map V.int) none (some 6)))
  generalize [V.int 0, V.int 3] ++ cutV (ns.map V.int) none (some 6) = xs at allI eLc ⊢
  generalize upd (upd (upd H l0 (.lst [V.int 0, V.int 3])) l1 (.lst (cutV (ns.map V.int) none (some 6)))) Lc (.lst xs) = H0 at eLc ⊢
  refine ⟨Lc, rfl, ⟨_, SqL.of eLc⟩, for_list (xs := xs) (fun i σ H' => ∃ g1 g2 g3 g4 g5 g6 g7 g8 g9 g10 g11, σ = [some (.ref a), g1, g2, g3, g4, g5, g6, g7, g8, g9, g10, g11] ∧ H' Lc = some (.lst xs)) ⟨_, _, _, _, _, _, _, _, _, _, _, rfl, eLc⟩ ?_ ?_ ?_⟩
  · rintro i σ H' _ ⟨_, _, _, _, _, _, _, _, _, _, _, _, e⟩
    exact SqL.of e
  · rintro i x σ H hx ⟨g1, g2, g3, g4, g5, g6, g7, g8, g9, g10, g11, rfl, eLc⟩
    obtain ⟨cell, rfl⟩ := allI x (List.mem_of_getElem? hx)
    refine ⟨_, rfl, cell, rfl, fun wl H1 fw s1 w1 => ?_⟩
    have nL : Lc ≠ wl := ne_of_none eLc fw
    have eLc := s1 _ _ eLc
    refine ⟨_, rfl, wl, 0, rfl, w1, by decide, by decide, fun r al d D H2 b2 w2 er nr pk => ?_⟩
    refine ⟨r, _, rfl, SqT.of er, rfl, _, _, rfl, _, _, rfl, rfl, ?_⟩
    have eLc := b2 _ _ nL eLc
    refine ⟨_, rfl, _, rfl, ?_⟩
    intro x1 dx1 nx1 ndx1 nex1
    have sm := make_same (C := C) nx1 ndx1
    refine ⟨x1, dx1, al, d, D, rfl, upd_same, (pk.al.mono vw_kp).mono (.same sm), ?_, pk.wf, fun H3 b3 hnew => ⟨rfl, ?_⟩⟩
    · obtain ⟨kvs, e1, e2⟩ := pk.bo
      exact ⟨kvs, sm _ _ (vw_some e1).2, e2.imp fun _ _ q => (q.mono vw_kp).mono (.same sm)⟩
    have n1 : NewT C H2 H3 x1 D := make_new nx1 ndx1 b3 hnew
    clear hnew b3 nx1 ndx1 nex1 sm
    obtain ⟨kvs, hd0, hE0⟩ := pk.bo
    obtain ⟨ndw, hd0⟩ := vw_some hd0
    have ndw := pA_ok.mp ndw
    have hd3 := n1.1 _ _ hd0
    have w3 := w2.same n1.1
    have eLc := n1.1 _ _ eLc
    have pW := pk.wf
    -- what stays while the well changes
    have g2 : H2 wl ≠ none := by
      obtain ⟨_, _, _, e, _⟩ := w2
      rw [e]
      exact fun c => (nomatch c)
    obtain ⟨ws3, ew3⟩ := w3.lst
    have hTask : ∀ {H'}, But wl H3 H' → TaskAt C H' x1 D := fun b => n1.well g2 ew3 b
    have hB : ∀ {H'}, But wl H3 H' → A2 (EnAt H') kvs D.bo := fun b => hE0.imp fun _ _ q => (q.mono (vwA_but ((But.same n1.1).trans b))).mono vw_kp
    have hAl : ∀ {H'}, But wl H3 H' → AlAt H' (.ref al) D.al := fun b => (pk.al.mono (vwA_but ((But.same n1.1).trans b))).mono vw_kp
    have hDk : ∀ {H'}, But wl H3 H' → H' d = some (.dT kvs) := fun b => b _ _ ndw hd3
    have keq : kvs.map (·.1) = (D.bo.map (fun e => [((e.1.1 : Nat) : Int), ((e.1.2 : Nat) : Int)])).map (fun ns => ns.map fun i => (.inl i : Key)) := by
      rw [keys_of hE0, List.map_map, List.map_map]
      rfl
    have klen : (D.bo.map (fun e => [((e.1.1 : Nat) : Int), ((e.1.2 : Nat) : Int)])).length ≤ 60 := by
      rw [List.length_map]
      exact pW.many
    have krng : ∀ ns ∈ D.bo.map (fun e => [((e.1.1 : Nat) : Int), ((e.1.2 : Nat) : Int)]), ns.length = 2 ∧ ∀ m ∈ ns, 0 ≤ m ∧ m < 64 := by
      intro ns hns
      obtain ⟨e, he, rfl⟩ := List.mem_map.mp hns
      have := pW.rng e he
      have f0 := pk.few 0 (by decide)
      have f1 := pk.few 1 (by decide)
      refine ⟨rfl, fun m hm => ?_⟩
      rcases List.mem_cons.mp hm with rfl | hm
      · omega
      · rw [List.mem_singleton.mp hm]
        omega
    have lets := fun e he => pW.lets e he
    have rows := pW.row
    have rng := fun e he => pW.rng e he
    have l16 := pk.let16
    have hBo : ∀ {H'}, But wl H3 H' → BoAt H' d D.bo := fun b => ⟨kvs, b _ _ ndw hd3, hE0.imp fun _ _ q => (q.mono (vwA_but ((But.same n1.1).trans b))).mono vw_kp⟩
    clear hE0 hd0 er n1 pk
    refine ⟨_, rfl, d, kvs, _, rfl, .inl hd3, keq, Nat.lt_of_le_of_lt klen (by decide), krng, fun L lo h1 h2 h3 hlo => ?_⟩
    have s4 := same_new hlo (.lst (L.map fun q => V.ref q.1))
    have llen : L.length ≤ 60 := by
      have := h1.length_eq
      rw [List.length_map] at this
      omega
    generalize hH4 : upd H3 lo (.lst (L.map fun q => V.ref q.1)) = H4 at s4 ⊢
    have elo : H4 lo = some (.lst (L.map fun q => V.ref q.1)) := by rw [← hH4]; exact upd_same
    clear hH4
    refine ⟨_, rfl, lo, _, rfl, SqL.of elo, fun lo2 hlo2 => ?_⟩
    have mine : ∀ v ∈ cutV (L.map fun q => V.ref q.1) none (some 4), ∃ p ∈ L, v = V.ref p.1 := fun v hv => by
      obtain ⟨p, hp, e⟩ := List.mem_map.mp (List.mem_of_mem_drop (List.mem_of_mem_take hv))
      exact ⟨p, hp, e.symm⟩
    have clen : (cutV (L.map fun q => V.ref q.1) none (some 4)).length ≤ 60 := Nat.le_trans (cutV_length _ _ _) (by rw [List.length_map]; exact llen)
    have nlo : lo2 ≠ wl := fun c => by
      have := s4 _ _ ew3
      rw [← c, hlo2] at this
      cases this
    have elo2 := upd_same (H := H4) (a := lo2) (o := .lst (cutV (L.map fun q => V.ref q.1) none (some 4)))
    have s4 := s4.trans (same_new hlo2 (.lst (cutV (L.map fun q => V.ref q.1) none (some 4))))
    generalize cutV (L.map fun q => V.ref q.1) none (some 4) = qs at mine clen elo2 s4 ⊢
    generalize upd H4 lo2 (.lst qs) = H4 at elo2 s4 ⊢
    have w4 := w3.same s4
    have ew4 := s4 _ _ ew3
    have eLc := s4 _ _ eLc
    have b34 : ∀ {H'}, But wl H4 H' → But wl H3 H' := fun b => (But.same s4).trans b
    refine ⟨lo2, rfl, ⟨_, SqL.of elo2⟩, for_list (xs := qs) (fun i σ H' => ∃ g6 g7 g8 g9 g10 g11, σ = [some (.ref a), some (.int cell), some (.ref wl), some (.ref al), some (.ref d), some (.ref x1), g6, g7, g8, g9, g10, g11] ∧ But wl H4 H' ∧ WellAt H' wl (1000 + i)) ⟨_, _, _, _, _, _, rfl, But.same (Same.refl _), w4.up (by omega)⟩ ?_ ?_ ?_⟩
    · rintro i σ H' _ ⟨_, _, _, _, _, _, _, b, _⟩
      exact SqL.of (b _ _ nlo elo2)
    · rintro i z σ H5 hz ⟨g6, g7, g8, g9, g10, g11, rfl, b5, w5⟩
      obtain ⟨p, mp, rfl⟩ := mine z (List.mem_of_getElem? hz)
      have il : i < qs.length := (List.getElem?_eq_some_iff.mp hz).1
      obtain ⟨e, he, ep⟩ := List.mem_map.mp (h1.mem_iff.mp (List.mem_map_of_mem (f := (·.2)) mp))
      have tp4 := s4 _ _ (h3 p mp)
      rw [← ep] at tp4
      have np : p.1 ≠ wl := fun c => by
        rw [c, ew4] at tp4
        cases tp4
      have tp : ∀ {H'}, But wl H4 H' → TpAt H' (.ref p.1) (iI e.1) := fun b => ⟨p.1, rfl, b _ _ np tp4⟩
      obtain ⟨v, ev, lv⟩ := val_at (hB (b34 b5)) pW.srt e he
      obtain ⟨b, xo, rfl, eo, ao⟩ := id lv
      have hL : ∀ {H'}, But wl H4 H' → LetAt H' (.ref b) e.2 := fun bb => by
        obtain ⟨v', ev', lv'⟩ := val_at (hB (b34 bb)) pW.srt e he
        rw [ev] at ev'
        cases ev'
        exact lv'
      have okl := lets e he
      have le16 := l16 e he
      obtain ⟨o, ho⟩ : ∃ o, o ∈ e.2 := List.exists_mem_of_ne_nil _ (fun c => by
        have := okl.1
        rw [c] at this
        cases this)
      have hget : ∀ {H'}, But wl H4 H' → DGet H' d (.ref p.1) (some (.ref b)) := fun bb => by
        rw [← ev]
        exact DGet.t (k := kI e.1) (hDk (b34 bb)) (kZ_tp (tp bb))
      clear eo ao
      refine ⟨_, rfl, _, rfl, d, .ref b, rfl, hget b5, ?_⟩
      refine ⟨b, e.2, rfl, hL b5, okl, by omega, fun r7 xs7 L7 H7 s7 f7 e7 a7 ok7 => ?_⟩
      have b7 := b5.trans (.same s7)
      have w7 := w5.same s7
      have lt7 : LtsAt H7 r7 L7 := ⟨xs7, e7, a7⟩
      refine ⟨_, rfl, _, rfl, x1, .ref p.1, D, e, rfl, hTask (b34 b7), pW, he, tp b7, by omega, fun r8 xs8 L8 H8 s8 f8 e8 a8 ok8 => ?_⟩
      obtain rfl := ok8.one ok7
      obtain ⟨l0, L', eL⟩ := ok7.some (p := (0, o.1)) ⟨(1, o.2), mem_dirs.mpr ⟨o, ho, .inl ⟨rfl, rfl⟩⟩⟩
      have lt8 : LtsAt H8 r8 L8 := ⟨xs8, e8, a8.imp fun _ _ ⟨a, h1, _, _, h4⟩ => by rw [h1]; exact h4⟩
      refine ⟨_, rfl, _, rfl, lt8.ne (lt7.same s8) ⟨_, rfl, iteF' rfl ?_⟩⟩
      refine ⟨_, rfl, _, _, _, _, true, rfl, .ty _, .base (.lst e8), kit_ty (by decide +kernel), _, rfl, iteF' rfl ?_⟩
      obtain ⟨v0, xr, ex⟩ : ∃ v xr, xs8 = v :: xr := by
        cases xs8 with
        | nil => rw [eL] at a8; cases a8
        | cons v xr => exact ⟨v, xr, rfl⟩
      obtain ⟨a0, ea0, fa0, na0, t0, ys0, et0, ha0, _⟩ : LotRow H7 H8 r8 v0 l0 := by
        rw [ex, eL] at a8
        cases a8 with
        | cons h _ => exact h
      subst ea0
      cases et0
      have s9 := same_upd (o := .lst []) s8 fa0
      have e9 : (upd H8 a0 (.lst [])) r8 = some (.lst xs8) := by rw [upd_ne (Ne.symm na0)]; exact e8
      refine ⟨_, rfl, r8, _, 0, .ref a0, rfl, rfl, SqL.of e8, by rw [ex]; exact atI_nat (j := 0) rfl, .inl ⟨rfl, _, SqL.of ha0⟩, a0, _, rfl, rfl, ha0, ?_⟩
      generalize upd H8 a0 (.lst []) = H9 at s9 e9 ⊢
      refine ⟨_, rfl, .inl ⟨rfl, _, SqL.of e9⟩, r8, xs8, rfl, rfl, e9, ?_⟩
      have s10 := same_upd (o := .lst xs8.reverse) s9 f8
      generalize upd H9 r8 (.lst xs8.reverse) = H10 at s10 ⊢
      clear s9 e9 ha0 na0 fa0 ex xr e8 f8 a8 lt8 s8 s7 e7 f7 a7
      have b10 := b7.trans (.same s10)
      refine ⟨_, rfl, _, rfl, x1, .ref p.1, D, e, rfl, hTask (b34 b10), pW, he, tp b10, by omega, fun r11 xs11 L11 H11 s11 f11 e11 a11 ok11 => ?_⟩
      obtain rfl := ok11.one ok7
      have s711 := s10.trans s11
      have lt11 : LtsAt H11 r11 L11 := ⟨xs11, e11, a11.imp fun _ _ ⟨a, h1, _, _, h4⟩ => by rw [h1]; exact h4⟩
      refine ⟨_, rfl, lt11.ne (lt7.same s711) ⟨_, rfl, iteF' rfl ?_⟩⟩
      have b11 := b7.trans (.same s711)
      have w11 := w7.same s711
      clear lt11 lt7 e11 a11 f11 s11 s10 s711 b10 b7 w7 ok7 ok8 ok11 eL
      -- the numbers
      obtain ⟨bx, xo, eb, eo, ao⟩ := hL b11
      cases eb
      refine next_go ?_
      dsimp only
      refine seq_go (tasg_go (sseti_go ?_))
      refine ⟨_, rfl, _, rfl, d, .ref b, rfl, hget b11, b, rfl, ⟨_, SqL.of eo⟩, fun D1 hD1 => ?_⟩
      refine list_turns (xs := xo) (fun i H' => Same H11 H' ∧ H' D1 = some (.lst (((e.2.take i).map fun o => o.1).map V.int))) ⟨same_new hD1 _, upd_same⟩ (fun i H' _ h => SqL.of (h.1 _ _ eo)) ?_ ?_
      · rintro i x H' hxi ⟨s1, ys⟩
        obtain ⟨o, ho, tt, rfl, htt⟩ := ao.get hxi
        have hol := (List.getElem?_eq_some_iff.mp ho).1
        refine ⟨tt, _, rfl, SqT.of (s1 _ _ htt), rfl, _, _, rfl, _, _, rfl, rfl, rfl, _, rfl, _, ys, ?_, same_upd s1 hD1, ?_⟩
        · rw [List.length_map, List.length_map, List.length_take, sizeLine_eq]
          omega
        · rw [take_get ho, List.map_append, List.map_append]
          exact upd_same
      rintro H12 ⟨s12, ys⟩
      have b12 := b11.trans (.same s12)
      rw [ao.len, List.take_length] at ys
      refine ⟨_, rfl, _, rfl, d, .ref b, rfl, hget b12, b, rfl, ⟨_, SqL.of (s12 _ _ eo)⟩, fun D2 hD2 => ?_⟩
      refine list_turns (xs := xo) (fun i H' => Same H12 H' ∧ H' D2 = some (.lst (((e.2.take i).map fun o => o.2).map V.int))) ⟨same_new hD2 _, upd_same⟩ (fun i H' _ h => SqL.of (h.1 _ _ (s12 _ _ eo))) ?_ ?_
      · rintro i x H' hxi ⟨s1, zs⟩
        obtain ⟨o, ho, tt, rfl, htt⟩ := ao.get hxi
        have hol := (List.getElem?_eq_some_iff.mp ho).1
        refine ⟨tt, _, rfl, SqT.of (s1 _ _ (s12 _ _ htt)), rfl, _, _, rfl, _, _, rfl, rfl, rfl, _, rfl, _, zs, ?_, same_upd s1 hD2, ?_⟩
        · rw [List.length_map, List.length_map, List.length_take, sizeLine_eq]
          omega
        · rw [take_get ho, List.map_append, List.map_append]
          exact upd_same
      rintro H13 ⟨s13, zs⟩
      rw [ao.len, List.take_length] at zs
      have b13 := b12.trans (.same s13)
      refine ⟨D1, D2, _, _, rfl, rfl, s13 _ _ ys, zs, ?_, fun D3 hD3 => ?_⟩
      · rw [List.length_map, List.length_map, List.length_map, List.length_map, sizeLine_eq]
        omega
      have s14 := same_new hD3 (.lst ((e.2.map fun o => o.1).map V.int ++ (e.2.map fun o => o.2).map V.int))
      have e14 : (upd H13 D3 (.lst ((e.2.map fun o => o.1).map V.int ++ (e.2.map fun o => o.2).map V.int))) D3 = some (.lst (((e.2.map fun o => o.1) ++ e.2.map fun o => o.2).map V.int)) := by
        rw [List.map_append]
        exact upd_same
      have l14 : ((e.2.map fun o => o.1) ++ e.2.map fun o => o.2).length < 64 := by
        rw [List.length_append, List.length_map, List.length_map]
        omega
      generalize upd H13 D3 (.lst ((e.2.map fun o => o.1).map V.int ++ (e.2.map fun o => o.2).map V.int)) = H14 at s14 e14 ⊢
      have b14 := b13.trans (.same s14)
      have w14 := ((w11.same s12).same s13).same s14
      generalize ((e.2.map fun o => o.1) ++ e.2.map fun o => o.2) = is at e14 l14
      refine sseti_of e14 l14 fun r15 H15 ls s15 f15 e15 _ _ l15 => ?_
      refine asg_go ?_
      dsimp only
      have b15 := b14.trans (.same s15)
      have w15 := w14.same s15
      clear f15 e14 s14 s13 s12 ys zs hD1 hD2 hD3 b14 b13 b12 w14 w11
      -- some
      have len3 : ∀ lo hi : Option Int, (cutV (ls.map V.int) lo hi).length ≤ 63 := fun lo hi => Nat.le_trans (cutV_length _ _ _) (by rw [List.length_map]; omega)
      refine ⟨_, rfl, _, rfl, r15, _, rfl, SqL.of e15, fun r16 h16 => ?_⟩
      have s16 := same_new h16 (.lst (cutV (ls.map V.int) none (some 3)))
      have e16 := upd_same (H := H15) (a := r16) (o := .lst (cutV (ls.map V.int) none (some 3)))
      generalize upd H15 r16 (.lst (cutV (ls.map V.int) none (some 3))) = H16 at s16 e16 ⊢
      refine ⟨_, rfl, _, rfl, _, rfl, r15, _, rfl, SqL.of (s16 _ _ e15), fun r17 h17 => ?_⟩
      have s17 := same_new h17 (.lst (cutV (ls.map V.int) (some (-3)) none))
      have e17 := upd_same (H := H16) (a := r17) (o := .lst (cutV (ls.map V.int) (some (-3)) none))
      generalize upd H16 r17 (.lst (cutV (ls.map V.int) (some (-3)) none)) = H17 at s17 e17 ⊢
      refine ⟨r16, r17, _, _, rfl, rfl, s17 _ _ e16, e17, Nat.le_trans (Nat.add_le_add (len3 _ _) (len3 _ _)) (by show 126 ≤ sizeLine; decide), fun r18 h18 => ?_⟩
      have i18 : ∀ v ∈ cutV (ls.map V.int) none (some 3) ++ cutV (ls.map V.int) (some (-3)) none, ∃ k : Int, v = .int k := fun v hv => by
        have al : ∀ v ∈ ls.map V.int, ∃ k : Int, v = .int k := fun v hv => by
          obtain ⟨k, _, rfl⟩ := List.mem_map.mp hv
          exact ⟨k, rfl⟩
        rcases List.mem_append.mp hv with hv | hv
        · exact cut_ints al v hv
        · exact cut_ints al v hv
      have l18 : (cutV (ls.map V.int) none (some 3) ++ cutV (ls.map V.int) (some (-3)) none).length ≤ 126 := by
        rw [List.length_append]
        have := len3 none (some 3)
        have := len3 (some (-3)) none
        omega
      generalize cutV (ls.map V.int) none (some 3) ++ cutV (ls.map V.int) (some (-3)) none = cs at i18 l18 h18 ⊢
      have s18 := same_new h18 (.lst cs)
      have e18 := upd_same (H := H17) (a := r18) (o := .lst cs)
      have n18 : r18 ≠ wl := ((w15.same (s16.trans s17)).ne h18).symm
      generalize upd H17 r18 (.lst cs) = H18 at s18 e18 ⊢
      have s1518 := (s16.trans s17).trans s18
      have b18 := b15.trans (.same s1518)
      have w18 := w15.same s1518
      clear s16 s17 s18 s1518 h16 h17 h18 e16 e17 e15 len3 l15
      refine ⟨_, rfl, _, _, rfl, rfl, ⟨by decide, by decide, by decide⟩, (by show 3 ≤ sizeLine; decide), fun r19 h19 => ?_⟩
      have s19 := same_new h19 (.lst [V.int 99, V.int (-1), V.int (10 ^ (30 : Int).toNat)])
      have e19 := upd_same (H := H18) (a := r19) (o := .lst [V.int 99, V.int (-1), V.int (10 ^ (30 : Int).toNat)])
      refine ⟨_, rfl, wl, _, 3, rfl, w18.same s19, by omega, by decide, by decide, fun dr H20 dr0 dr1 b20 w20 => ?_⟩
      obtain ⟨z, hz⟩ : ∃ z : Int, atI [V.int 99, V.int (-1), V.int (10 ^ (30 : Int).toNat)] dr = some (.int z) := by
        obtain rfl | rfl | rfl : dr = 0 ∨ dr = 1 ∨ dr = 2 := by omega
        · exact ⟨_, rfl⟩
        · exact ⟨_, rfl⟩
        · exact ⟨_, rfl⟩
      have n19 : r19 ≠ wl := (w18.ne h19).symm
      refine ⟨r19, _, dr, .int z, rfl, rfl, SqL.of (b20 _ _ n19 e19), hz, (by show 1 ≤ sizeLine; decide), fun r21 h21 => ?_⟩
      have s21 := same_new h21 (.lst [V.int z])
      have e21 := upd_same (H := H20) (a := r21) (o := .lst [V.int z])
      refine ⟨r18, r21, _, _, rfl, rfl, s21 _ _ (b20 _ _ n18 (s19 _ _ e18)), e21, by rw [sizeLine_eq]; show cs.length + 1 ≤ _; omega, fun r22 h22 => ?_⟩
      have iz : ∀ v ∈ cs ++ [V.int z], ∃ k : Int, v = .int k := fun v hv => by
        rcases List.mem_append.mp hv with hv | hv
        · exact i18 v hv
        · exact ⟨z, List.mem_singleton.mp hv⟩
      have b22 := (b18.trans (.same s19)).trans (b20.trans (.same s21))
      have w22 := w20.same s21
      have s22 := same_new h22 (.lst (cs ++ [V.int z]))
      have e22 := upd_same (H := upd H20 r21 (.lst [V.int z])) (a := r22) (o := .lst (cs ++ [V.int z]))
      generalize cs ++ [V.int z] = zs at iz s22 e22 ⊢
      generalize upd H20 r21 (.lst [V.int z]) = H21 at b22 w22 s22 e22 ⊢
      generalize upd H21 r22 (.lst zs) = H22 at s22 e22 ⊢
      have b22 := b22.trans (.same s22)
      have w22 := w22.same s22
      clear s22 hz dr0 dr1 i18 l18
      refine ⟨_, rfl, r22, rfl, ⟨_, SqL.of e22⟩, for_list (xs := zs) (fun j σ H' => ∃ g10 g11, σ = [some (.ref a), some (.int cell), some (.ref wl), some (.ref al), some (.ref d), some (.ref x1), some (.ref p.1), some (.ref r7), some (.ref r8), some (.ref r22), g10, g11] ∧ Same H22 H') ⟨_, _, rfl, Same.refl _⟩ ?_ ?_ ?_⟩
      · rintro j σ H' _ ⟨_, _, _, s⟩
        exact SqL.of (s _ _ e22)
      · rintro j x σ H' hx ⟨g10, g11, rfl, s⟩
        obtain ⟨X, rfl⟩ := iz x (List.mem_of_getElem? hx)
        refine ⟨_, rfl, r22, rfl, ⟨_, SqL.of (s _ _ e22)⟩, for_list (xs := zs) (fun k σ H' => ∃ g11, σ = [some (.ref a), some (.int cell), some (.ref wl), some (.ref al), some (.ref d), some (.ref x1), some (.ref p.1), some (.ref r7), some (.ref r8), some (.ref r22), some (.int X), g11] ∧ Same H22 H') ⟨_, rfl, s⟩ ?_ ?_ ?_⟩
        · rintro k σ H' _ ⟨_, _, s⟩
          exact SqL.of (s _ _ e22)
        · rintro k y σ H' hy ⟨g11, rfl, s⟩
          obtain ⟨Y, rfl⟩ := iz y (List.mem_of_getElem? hy)
          have bb := b22.trans (.same s)
          refine ⟨_, rfl, _, rfl, _, rfl, _, rfl, x1, .ref p.1, D, X, Y, rfl, hTask (b34 bb), pW, e, he, tp bb, fun u G1 t1 hu => ?_⟩
          have bc := bb.trans (.same t1)
          refine ⟨_, rfl, _, rfl, d, .ref b, rfl, hget bc, _, rfl, _, rfl, b, X, Y, e.2, rfl, hL bc, by omega, fun v G2 t2 hv => ?_⟩
          obtain rfl := hu.one hv
          have st := (s.trans t1).trans t2
          rcases hu with ⟨rfl, _⟩ | ⟨n, rfl, _⟩
          · exact ⟨rfl, _, rfl, iteF' rfl ⟨_, rfl, st⟩⟩
          · exact ⟨rfl, _, rfl, iteF' (by rw [decide_eq_true (rfl : V.int (n : Int) = V.int (n : Int))]; rfl) ⟨_, rfl, st⟩⟩
        · rintro σ H' ⟨g11, rfl, s⟩
          exact ⟨_, _, rfl, s⟩
      · rintro σ H' ⟨g10, g11, rfl, s⟩
        exact ⟨_, _, _, _, _, _, rfl, b22.trans (.same s), (w22.same s).up (by omega)⟩
    · rintro σ H' ⟨g6, g7, g8, g9, g10, g11, rfl, bE, wE⟩
      have bE3 := b34 bE
      refine ⟨_, rfl, _, rfl, _, rfl, ?_⟩
      intro x2 dx2 nx2 ndx2 nex2
      have sm := make_same (C := C) nx2 ndx2
      refine ⟨x2, dx2, al, d, D, rfl, upd_same, (hAl bE3).mono (.same sm), (hBo bE3).mono sm, pW, fun K3 b3 hnew => ⟨rfl, ?_⟩⟩
      have n2 : NewT C H' K3 x2 D := make_new nx2 ndx2 b3 hnew
      have t2 := n2.task
      have t1 := (hTask bE3).mono n2.1
      obtain ⟨e1, _, _, h1, _⟩ := id t1
      obtain ⟨e2, _, _, h2, _⟩ := id t2
      refine ⟨x1, e1, _, x2, e2, _, rfl, rfl, h1, h2, x1, .ref x2, D, rfl, t1, pW.srt, .inl ⟨x2, D, rfl, t2, pW.srt, ?_⟩⟩
      rw [sameTD_self]
      exact ⟨true, rfl, _, rfl, iteF' rfl ⟨_, _, _, _, _, _, _, _, _, _, _, rfl, n2.1 _ _ (bE _ _ nL eLc)⟩⟩
  · rintro σ H' ⟨_, _, _, _, _, _, _, _, _, _, _, rfl, _⟩
    exact q _
end
end TA

set_option Elab.async false
set_option maxRecDepth 100000
set_option maxHeartbeats 4000000
set_option linter.unusedVariables false
namespace TA
open PySem PySem.Spec L2 PyProof.Rows
def raiseB (K : PySem.W.Frag) (C : Addr) : Bool := decide (PySem.W.subIn K (.ref C) (.type "BaseException") = some true) && decide (PySem.W.typeIn K (.ref C) = some (.type "type"))
theorem raiseB_ok {K : PySem.W.Frag} {mg : Str → Option Value} {n : Str} {C : Addr} (h : raiseB K C = true) (m : mg n = some (.ref C)) (x : PySem.W.excIn K C [.type "ValueError", .type "Exception", .type "BaseException", .type "object"] "ValueError.__new__" = true) (k : PySem.W.keepIn K (.ref C) = true) : RaiseC K mg n C := by
  obtain ⟨a, b⟩ := Bool.and_eq_true_iff.mp h
  exact ⟨m, x, k, of_decide_eq_true a, of_decide_eq_true b⟩
def excB (K : PySem.W.Frag) (D : Addr) : Bool :=
  decide (PySem.W.findIn K (.ref D) "__getattribute__" = some (some (.builtin "BaseException.__getattribute__"))) && (decide (PySem.W.findIn K (.ref D) "__getattr__" = some none) && (decide (PySem.W.subIn K (.ref D) (.type "BaseException") = some true) &&
  (PySem.W.hasDictIn K D && (decide (PySem.W.findIn K (.ref D) "__class__" = some (some (.builtin "object.__class__"))) && (decide (PySem.W.specialIn K (.builtin "object.__class__") "__get__" = some (some (.builtin "getset_descriptor.__get__"))) &&
  (decide (PySem.W.takesIn K (.builtin "object.__class__") = some true) && decide (PySem.W.mroIn K D (.type "object") = some true)))))))
theorem excB_ok {K : PySem.W.Frag} {D : Addr} (h : excB K D = true) : ExcC K D := by
  obtain ⟨a, h⟩ := Bool.and_eq_true_iff.mp h
  obtain ⟨b, h⟩ := Bool.and_eq_true_iff.mp h
  obtain ⟨c, h⟩ := Bool.and_eq_true_iff.mp h
  obtain ⟨d, h⟩ := Bool.and_eq_true_iff.mp h
  obtain ⟨e, h⟩ := Bool.and_eq_true_iff.mp h
  obtain ⟨f, h⟩ := Bool.and_eq_true_iff.mp h
  obtain ⟨g, h⟩ := Bool.and_eq_true_iff.mp h
  exact ⟨of_decide_eq_true a, of_decide_eq_true b, of_decide_eq_true c, d, of_decide_eq_true e, of_decide_eq_true f, of_decide_eq_true g, of_decide_eq_true h⟩
def beB (K : PySem.W.Frag) (C : Addr) : Bool := ["NoneType", "list", "tuple", "dict"].all fun n => decide (PySem.W.kitOne K (.type n) (.ref C) = some false)
theorem beB_ok {K : PySem.W.Frag} {C : Addr} (h : beB K C = true) : PySem.W.kitOne K (.type "NoneType") (.ref C) = some false ∧ PySem.W.kitOne K (.type "list") (.ref C) = some false ∧ PySem.W.kitOne K (.type "tuple") (.ref C) = some false ∧ PySem.W.kitOne K (.type "dict") (.ref C) = some false := by
  have all := fun n hn => of_decide_eq_true (List.all_eq_true.mp h n hn)
  exact ⟨all _ (by simp), all _ (by simp), all _ (by simp), all _ (by simp)⟩
theorem all_mk {l : PySem.W.OpenLaw} {w : World} {K : PySem.W.Frag} {h : Heap} {mg : Str → Option Value} {fa f1 f2 f3 f4 f5 f6 f7 f8 f9 f10 f11 f12 f13 f14 f15 f16 f17 f18 f19 f20 f21 f22 f23 f24 f25 f26 f27 hA0 cI C y1 y2 : Addr} (X : K.In h) (G : h.Ns mainGlobals mg) (hfa : mg "law" = some (.ref fa))
    {od1 an1 od2 an2 od3 an3 od4 an4 od5 an5 od6 an6 od7 an7 od8 an8 od9 an9 od10 an10 od11 an11 od12 an12 od13 an13 od14 an14 od15 an15 od16 an16 od17 an17 od18 an18 od19 an19 od20 an20 od21 an21 od22 an22 od23 an23 od24 an24 od25 an25 od26 an26 od27 an27 odH0 : Option Addr} {sl1 sl2 sl3 sl4 sl5 sl6 sl7 sl8 sl9 sl10 sl11 sl12 sl13 sl14 sl15 sl16 sl17 sl18 sl19 sl20 sl21 sl22 sl23 sl24 sl25 sl26 sl27 slH0 : Array (Option Value)} {oc1 kV1 dc1 pm1 cd1 ct1 oc2 kV2 dc2 pm2 cd2 ct2 oc3 kV3 dc3 pm3 cd3 ct3 oc4 kV4 dc4 pm4 cd4 ct4 oc5 kV5 dc5 pm5 cd5 ct5 oc6 kV6 dc6 pm6 cd6 ct6 oc7 kV7 dc7 pm7 cd7 ct7 oc8 kV8 dc8 pm8 cd8 ct8 oc9 kV9 dc9 pm9 cd9 ct9 oc10 kV10 dc10 pm10 cd10 ct10 oc11 kV11 dc11 pm11 cd11 ct11 oc12 kV12 dc12 pm12 cd12 ct12 oc13 kV13 dc13 pm13 cd13 ct13 oc14 kV14 dc14 pm14 cd14 ct14 oc15 kV15 dc15 pm15 cd15 ct15 oc16 kV16 dc16 pm16 cd16 ct16 oc17 kV17 dc17 pm17 cd17 ct17 oc18 kV18 dc18 pm18 cd18 ct18 oc19 kV19 dc19 pm19 cd19 ct19 oc20 kV20 dc20 pm20 cd20 ct20 oc21 kV21 dc21 pm21 cd21 ct21 oc22 kV22 dc22 pm22 cd22 ct22 oc23 kV23 dc23 pm23 cd23 ct23 oc24 kV24 dc24 pm24 cd24 ct24 oc25 kV25 dc25 pm25 cd25 ct25 oc26 kV26 dc26 pm26 cd26 ct26 oc27 kV27 dc27 pm27 cd27 ct27 : Value} {tI0 tT0_0 tT0_1 : Tok} {nH0 : Nat}
    {yod1 yan1 yod2 yan2 : Option Addr} {ysl1 ysl2 : Array (Option Value)} {yoc1 ykV1 ydc1 ypm1 ycd1 yct1 yoc2 ykV2 ydc2 ypm2 ycd2 yct2 : Value}
    (aC : PySem.W.nsIn K mainGlobals "Task" = some (some (.ref C)))
    (ya1 : PySem.W.findIn K (.ref C) "__init__" = some (some (.ref y1))) (yi1 : PySem.W.isFn K (.ref y1) = true) (yl1 : K.lookup y1 = some ⟨yoc1, yod1, .func (PySem.W.fnOf "__init__" "Task.__init__" (defArgs s_init) (defBody s_init) (defScope s_init) .none ykV1 ydc1 ypm1 yan1 ycd1 yct1), ysl1⟩) (yc1 : PySem.W.codeIn K ycd1 "Task.__init__" = true) (yk1 : PySem.W.keepIn K (.ref y1) = true)
    (ya2 : PySem.W.findIn K (.ref C) "__eq__" = some (some (.ref y2))) (yi2 : PySem.W.isFn K (.ref y2) = true) (yl2 : K.lookup y2 = some ⟨yoc2, yod2, .func (PySem.W.fnOf "__eq__" "Task.__eq__" (defArgs s_eq) (defBody s_eq) (defScope s_eq) .none ykV2 ydc2 ypm2 yan2 ycd2 yct2), ysl2⟩) (yc2 : PySem.W.codeIn K ycd2 "Task.__eq__" = true) (yk2 : PySem.W.keepIn K (.ref y2) = true)
    (pg : PySem.W.plainGet K C Str.empty = true) (hd : PySem.W.hasDictIn K C = true) (po : PySem.W.plainOver K C = true) (sa : PySem.W.findIn K (.ref C) "__setattr__" = some (some (.builtin "object.__setattr__"))) (mkC : PySem.W.makesIn K C = true) (kC : PySem.W.keepIn K (.ref C) = true) (nA : PySem.W.findIn K (.ref C) "alone" = some none) (nB : PySem.W.findIn K (.ref C) "both" = some none)
    (a1 : PySem.W.nsIn K mainGlobals "is_whole" = some (some (.ref f1))) (l1 : K.lookup f1 = some ⟨oc1, od1, .func (PySem.W.fnOf "is_whole" "is_whole" (defArgs sWhole) (defBody sWhole) (defScope sWhole) .none kV1 dc1 pm1 an1 cd1 ct1), sl1⟩) (c1 : PySem.W.codeIn K cd1 "is_whole" = true) (k1 : PySem.W.keepIn K (.ref f1) = true)
    (a2 : PySem.W.nsIn K mainGlobals "is_whole_within" = some (some (.ref f2))) (l2 : K.lookup f2 = some ⟨oc2, od2, .func (PySem.W.fnOf "is_whole_within" "is_whole_within" (defArgs sWithin) (defBody sWithin) (defScope sWithin) .none kV2 dc2 pm2 an2 cd2 ct2), sl2⟩) (c2 : PySem.W.codeIn K cd2 "is_whole_within" = true) (k2 : PySem.W.keepIn K (.ref f2) = true)
    (a3 : PySem.W.nsIn K mainGlobals "is_rising" = some (some (.ref f3))) (l3 : K.lookup f3 = some ⟨oc3, od3, .func (PySem.W.fnOf "is_rising" "is_rising" (defArgs s_is_rising) (defBody s_is_rising) (defScope s_is_rising) .none kV3 dc3 pm3 an3 cd3 ct3), sl3⟩) (c3 : PySem.W.codeIn K cd3 "is_rising" = true) (k3 : PySem.W.keepIn K (.ref f3) = true)
    (a4 : PySem.W.nsIn K mainGlobals "is_output" = some (some (.ref f4))) (l4 : K.lookup f4 = some ⟨oc4, od4, .func (PySem.W.fnOf "is_output" "is_output" (defArgs s_is_output) (defBody s_is_output) (defScope s_is_output) .none kV4 dc4 pm4 an4 cd4 ct4), sl4⟩) (c4 : PySem.W.codeIn K cd4 "is_output" = true) (k4 : PySem.W.keepIn K (.ref f4) = true)
    (a5 : PySem.W.nsIn K mainGlobals "is_outputs" = some (some (.ref f5))) (l5 : K.lookup f5 = some ⟨oc5, od5, .func (PySem.W.fnOf "is_outputs" "is_outputs" (defArgs s_is_outputs) (defBody s_is_outputs) (defScope s_is_outputs) .none kV5 dc5 pm5 an5 cd5 ct5), sl5⟩) (c5 : PySem.W.codeIn K cd5 "is_outputs" = true) (k5 : PySem.W.keepIn K (.ref f5) = true)
    (a6 : PySem.W.nsIn K mainGlobals "is_rows" = some (some (.ref f6))) (l6 : K.lookup f6 = some ⟨oc6, od6, .func (PySem.W.fnOf "is_rows" "is_rows" (defArgs s_is_rows) (defBody s_is_rows) (defScope s_is_rows) .none kV6 dc6 pm6 an6 cd6 ct6), sl6⟩) (c6 : PySem.W.codeIn K cd6 "is_rows" = true) (k6 : PySem.W.keepIn K (.ref f6) = true)
    (a7 : PySem.W.nsIn K mainGlobals "is_alone" = some (some (.ref f7))) (l7 : K.lookup f7 = some ⟨oc7, od7, .func (PySem.W.fnOf "is_alone" "is_alone" (defArgs s_is_alone) (defBody s_is_alone) (defScope s_is_alone) .none kV7 dc7 pm7 an7 cd7 ct7), sl7⟩) (c7 : PySem.W.codeIn K cd7 "is_alone" = true) (k7 : PySem.W.keepIn K (.ref f7) = true)
    (a8 : PySem.W.nsIn K mainGlobals "is_output_pair" = some (some (.ref f8))) (l8 : K.lookup f8 = some ⟨oc8, od8, .func (PySem.W.fnOf "is_output_pair" "is_output_pair" (defArgs s_is_output_pair) (defBody s_is_output_pair) (defScope s_is_output_pair) .none kV8 dc8 pm8 an8 cd8 ct8), sl8⟩) (c8 : PySem.W.codeIn K cd8 "is_output_pair" = true) (k8 : PySem.W.keepIn K (.ref f8) = true)
    (a9 : PySem.W.nsIn K mainGlobals "is_let" = some (some (.ref f9))) (l9 : K.lookup f9 = some ⟨oc9, od9, .func (PySem.W.fnOf "is_let" "is_let" (defArgs s_is_let) (defBody s_is_let) (defScope s_is_let) .none kV9 dc9 pm9 an9 cd9 ct9), sl9⟩) (c9 : PySem.W.codeIn K cd9 "is_let" = true) (k9 : PySem.W.keepIn K (.ref f9) = true)
    (a10 : PySem.W.nsIn K mainGlobals "is_input_pair" = some (some (.ref f10))) (l10 : K.lookup f10 = some ⟨oc10, od10, .func (PySem.W.fnOf "is_input_pair" "is_input_pair" (defArgs s_is_input_pair) (defBody s_is_input_pair) (defScope s_is_input_pair) .none kV10 dc10 pm10 an10 cd10 ct10), sl10⟩) (c10 : PySem.W.codeIn K cd10 "is_input_pair" = true) (k10 : PySem.W.keepIn K (.ref f10) = true)
    (a11 : PySem.W.nsIn K mainGlobals "each_comes" = some (some (.ref f11))) (l11 : K.lookup f11 = some ⟨oc11, od11, .func (PySem.W.fnOf "each_comes" "each_comes" (defArgs s_each_comes) (defBody s_each_comes) (defScope s_each_comes) .none kV11 dc11 pm11 an11 cd11 ct11), sl11⟩) (c11 : PySem.W.codeIn K cd11 "each_comes" = true) (k11 : PySem.W.keepIn K (.ref f11) = true)
    (a12 : PySem.W.nsIn K mainGlobals "is_both" = some (some (.ref f12))) (l12 : K.lookup f12 = some ⟨oc12, od12, .func (PySem.W.fnOf "is_both" "is_both" (defArgs s_is_both) (defBody s_is_both) (defScope s_is_both) .none kV12 dc12 pm12 an12 cd12 ct12), sl12⟩) (c12 : PySem.W.codeIn K cd12 "is_both" = true) (k12 : PySem.W.keepIn K (.ref f12) = true)
    (a13 : PySem.W.nsIn K mainGlobals "is_pair" = some (some (.ref f13))) (l13 : K.lookup f13 = some ⟨oc13, od13, .func (PySem.W.fnOf "is_pair" "is_pair" (defArgs s_is_pair) (defBody s_is_pair) (defScope s_is_pair) .none kV13 dc13 pm13 an13 cd13 ct13), sl13⟩) (c13 : PySem.W.codeIn K cd13 "is_pair" = true) (k13 : PySem.W.keepIn K (.ref f13) = true)
    (a14 : PySem.W.nsIn K mainGlobals "ties_of" = some (some (.ref f14))) (l14 : K.lookup f14 = some ⟨oc14, od14, .func (PySem.W.fnOf "ties_of" "ties_of" (defArgs s_ties_of) (defBody s_ties_of) (defScope s_ties_of) .none kV14 dc14 pm14 an14 cd14 ct14), sl14⟩) (c14 : PySem.W.codeIn K cd14 "ties_of" = true) (k14 : PySem.W.keepIn K (.ref f14) = true)
    (a15 : PySem.W.nsIn K mainGlobals "distances" = some (some (.ref f15))) (l15 : K.lookup f15 = some ⟨oc15, od15, .func (PySem.W.fnOf "distances" "distances" (defArgs s_distances) (defBody s_distances) (defScope s_distances) .none kV15 dc15 pm15 an15 cd15 ct15), sl15⟩) (c15 : PySem.W.codeIn K cd15 "distances" = true) (k15 : PySem.W.keepIn K (.ref f15) = true)
    (a16 : PySem.W.nsIn K mainGlobals "ties_for" = some (some (.ref f16))) (l16 : K.lookup f16 = some ⟨oc16, od16, .func (PySem.W.fnOf "ties_for" "ties_for" (defArgs s_ties_for) (defBody s_ties_for) (defScope s_ties_for) .none kV16 dc16 pm16 an16 cd16 ct16), sl16⟩) (c16 : PySem.W.codeIn K cd16 "ties_for" = true) (k16 : PySem.W.keepIn K (.ref f16) = true)
    (a17 : PySem.W.nsIn K mainGlobals "lots" = some (some (.ref f17))) (l17 : K.lookup f17 = some ⟨oc17, od17, .func (PySem.W.fnOf "lots" "lots" (defArgs s_lots) (defBody s_lots) (defScope s_lots) .none kV17 dc17 pm17 an17 cd17 ct17), sl17⟩) (c17 : PySem.W.codeIn K cd17 "lots" = true) (k17 : PySem.W.keepIn K (.ref f17) = true)
    (a18 : PySem.W.nsIn K mainGlobals "far" = some (some (.ref f18))) (l18 : K.lookup f18 = some ⟨oc18, od18, .func (PySem.W.fnOf "far" "far" (defArgs s_far) (defBody s_far) (defScope s_far) .none kV18 dc18 pm18 an18 cd18 ct18), sl18⟩) (c18 : PySem.W.codeIn K cd18 "far" = true) (k18 : PySem.W.keepIn K (.ref f18) = true)
    (a19 : PySem.W.nsIn K mainGlobals "_law_well" = some (some (.ref f19))) (l19 : K.lookup f19 = some ⟨oc19, od19, .func (PySem.W.fnOf "_law_well" "_law_well" (defArgs sWell) (defBody sWell) (defScope sWell) .none kV19 dc19 pm19 an19 cd19 ct19), sl19⟩) (c19 : PySem.W.codeIn K cd19 "_law_well" = true) (k19 : PySem.W.keepIn K (.ref f19) = true)
    (a20 : PySem.W.nsIn K mainGlobals "_law_draw" = some (some (.ref f20))) (l20 : K.lookup f20 = some ⟨oc20, od20, .func (PySem.W.fnOf "_law_draw" "_law_draw" (defArgs sDraw) (defBody sDraw) (defScope sDraw) .none kV20 dc20 pm20 an20 cd20 ct20), sl20⟩) (c20 : PySem.W.codeIn K cd20 "_law_draw" = true) (k20 : PySem.W.keepIn K (.ref f20) = true)
    (a21 : PySem.W.nsIn K mainGlobals "_law_pairs" = some (some (.ref f21))) (l21 : K.lookup f21 = some ⟨oc21, od21, .func (PySem.W.fnOf "_law_pairs" "_law_pairs" (defArgs s__law_pairs) (defBody s__law_pairs) (defScope s__law_pairs) .none kV21 dc21 pm21 an21 cd21 ct21), sl21⟩) (c21 : PySem.W.codeIn K cd21 "_law_pairs" = true) (k21 : PySem.W.keepIn K (.ref f21) = true)
    (a22 : PySem.W.nsIn K mainGlobals "_law_outs" = some (some (.ref f22))) (l22 : K.lookup f22 = some ⟨oc22, od22, .func (PySem.W.fnOf "_law_outs" "_law_outs" (defArgs s__law_outs) (defBody s__law_outs) (defScope s__law_outs) .none kV22 dc22 pm22 an22 cd22 ct22), sl22⟩) (c22 : PySem.W.codeIn K cd22 "_law_outs" = true) (k22 : PySem.W.keepIn K (.ref f22) = true)
    (a23 : PySem.W.nsIn K mainGlobals "_law_chain" = some (some (.ref f23))) (l23 : K.lookup f23 = some ⟨oc23, od23, .func (PySem.W.fnOf "_law_chain" "_law_chain" (defArgs s__law_chain) (defBody s__law_chain) (defScope s__law_chain) .none kV23 dc23 pm23 an23 cd23 ct23), sl23⟩) (c23 : PySem.W.codeIn K cd23 "_law_chain" = true) (k23 : PySem.W.keepIn K (.ref f23) = true)
    (a24 : PySem.W.nsIn K mainGlobals "_law_parts" = some (some (.ref f24))) (l24 : K.lookup f24 = some ⟨oc24, od24, .func (PySem.W.fnOf "_law_parts" "_law_parts" (defArgs s__law_parts) (defBody s__law_parts) (defScope s__law_parts) .none kV24 dc24 pm24 an24 cd24 ct24), sl24⟩) (c24 : PySem.W.codeIn K cd24 "_law_parts" = true) (k24 : PySem.W.keepIn K (.ref f24) = true)
    (a25 : PySem.W.nsIn K mainGlobals "_law_far" = some (some (.ref f25))) (l25 : K.lookup f25 = some ⟨oc25, od25, .func (PySem.W.fnOf "_law_far" "_law_far" (defArgs s__law_far) (defBody s__law_far) (defScope s__law_far) .none kV25 dc25 pm25 an25 cd25 ct25), sl25⟩) (c25 : PySem.W.codeIn K cd25 "_law_far" = true) (k25 : PySem.W.keepIn K (.ref f25) = true)
    (a26 : PySem.W.nsIn K mainGlobals "_law_lots" = some (some (.ref f26))) (l26 : K.lookup f26 = some ⟨oc26, od26, .func (PySem.W.fnOf "_law_lots" "_law_lots" (defArgs s__law_lots) (defBody s__law_lots) (defScope s__law_lots) .none kV26 dc26 pm26 an26 cd26 ct26), sl26⟩) (c26 : PySem.W.codeIn K cd26 "_law_lots" = true) (k26 : PySem.W.keepIn K (.ref f26) = true)
    (a27 : PySem.W.nsIn K mainGlobals "law" = some (some (.ref f27))) (l27 : K.lookup f27 = some ⟨oc27, od27, .func (PySem.W.fnOf "law" "law" (defArgs sLaw) (defBody sLaw) (defScope sLaw) .none kV27 dc27 pm27 an27 cd27 ct27), sl27⟩) (c27 : PySem.W.codeIn K cd27 "law" = true) (k27 : PySem.W.keepIn K (.ref f27) = true)
    (z0 : PySem.W.nsIn K mainGlobals "isinstance" = some none)
    (z1 : PySem.W.nsIn K mainGlobals "int" = some none)
    (z2 : PySem.W.nsIn K mainGlobals "bool" = some none)
    (z3 : PySem.W.nsIn K mainGlobals "len" = some none)
    (z4 : PySem.W.nsIn K mainGlobals "range" = some none)
    (z5 : PySem.W.nsIn K mainGlobals "list" = some none)
    (z6 : PySem.W.nsIn K mainGlobals "tuple" = some none)
    (z7 : PySem.W.nsIn K mainGlobals "all" = some none)
    (z8 : PySem.W.nsIn K mainGlobals "sum" = some none)
    (z9 : PySem.W.nsIn K mainGlobals "min" = some none)
    (z10 : PySem.W.nsIn K mainGlobals "sorted" = some none)
    (z11 : PySem.W.nsIn K mainGlobals "set" = some none)
    (z12 : PySem.W.nsIn K mainGlobals "max" = some none)
    (z13 : PySem.W.nsIn K mainGlobals "zip" = some none)
    (z14 : PySem.W.nsIn K mainGlobals "dict" = some none)
    (i0 : PySem.W.nsIn K mainGlobals "MOST_OUTPUT" = some (some (.int 63 tI0)))
    (t0 : PySem.W.nsIn K mainGlobals "HANDS" = some (some (.ref hA0))) (u0 : K.lookup hA0 = some ⟨.type "tuple", odH0, .seq (Array.mk [.int 0 tT0_0, .int 1 tT0_1]) nH0, slH0⟩)
    (n0 : PySem.W.nsIn K mainGlobals "NoInputs" = some (some (.ref cI)))
    (q_cI : PySem.W.excIn K cI [.type "ValueError", .type "Exception", .type "BaseException", .type "object"] "ValueError.__new__" = true) (kk_cI : PySem.W.keepIn K (.ref cI) = true) (r_cI : raiseB K cI = true)
    (q1 : PySem.W.findIn K (.ref C) "__class__" = some (some (.builtin "object.__class__")))
    (q2 : PySem.W.specialIn K (.builtin "object.__class__") "__get__" = some (some (.builtin "getset_descriptor.__get__")))
    (q3 : PySem.W.takesIn K (.builtin "object.__class__") = some true)
    (q4 : PySem.W.mroIn K C (.type "object") = some true)
    (q5 : PySem.W.findIn K (.ref C) "__ne__" = some (some (.builtin "object.__ne__")))
    (q6 : PySem.W.subIn K (.ref C) (.type "object") = some true)
    (q7 : beB K C = true)
    : ∃ fd : FuncData, (∀ (s : Shared) (v : Value), BindsTo s fd ⟨[v], []⟩ [("_law_script", v)]) ∧ ∀ base : Heap, K.In base → base.Ns mainGlobals mg → FnOk l.prog w K mg base CX0 9 fa fd ["_law_script"] (spLaw K) := by
  have e := hfa.symm.trans (PySem.W.mg_of X G a27)
  cases e
  have F1 := fun_mk (st := sWhole) l1 c1 k1
  have b1 := F1.binds (ps := ["thing"]) fun _ _ _ _ _ _ us hl => match us, hl with | [_], _ => rfl
  have F2 := fun_mk (st := sWithin) l2 c2 k2
  have b2 := F2.binds (ps := ["thing", "least", "most"]) fun _ _ _ _ _ _ us hl => match us, hl with | [_, _, _], _ => rfl
  have F3 := fun_mk (st := s_is_rising) l3 c3 k3
  have b3 := F3.binds (ps := ["things"]) fun _ _ _ _ _ _ us hl => match us, hl with | [_], _ => rfl
  have F4 := fun_mk (st := s_is_output) l4 c4 k4
  have b4 := F4.binds (ps := ["thing"]) fun _ _ _ _ _ _ us hl => match us, hl with | [_], _ => rfl
  have F5 := fun_mk (st := s_is_outputs) l5 c5 k5
  have b5 := F5.binds (ps := ["thing"]) fun _ _ _ _ _ _ us hl => match us, hl with | [_], _ => rfl
  have F6 := fun_mk (st := s_is_rows) l6 c6 k6
  have b6 := F6.binds (ps := ["thing"]) fun _ _ _ _ _ _ us hl => match us, hl with | [_], _ => rfl
  have F7 := fun_mk (st := s_is_alone) l7 c7 k7
  have b7 := F7.binds (ps := ["thing"]) fun _ _ _ _ _ _ us hl => match us, hl with | [_], _ => rfl
  have F8 := fun_mk (st := s_is_output_pair) l8 c8 k8
  have b8 := F8.binds (ps := ["thing"]) fun _ _ _ _ _ _ us hl => match us, hl with | [_], _ => rfl
  have F9 := fun_mk (st := s_is_let) l9 c9 k9
  have b9 := F9.binds (ps := ["thing"]) fun _ _ _ _ _ _ us hl => match us, hl with | [_], _ => rfl
  have F10 := fun_mk (st := s_is_input_pair) l10 c10 k10
  have b10 := F10.binds (ps := ["thing", "alone"]) fun _ _ _ _ _ _ us hl => match us, hl with | [_, _], _ => rfl
  have F11 := fun_mk (st := s_each_comes) l11 c11 k11
  have b11 := F11.binds (ps := ["both", "alone", "hand"]) fun _ _ _ _ _ _ us hl => match us, hl with | [_, _, _], _ => rfl
  have F12 := fun_mk (st := s_is_both) l12 c12 k12
  have b12 := F12.binds (ps := ["thing", "alone"]) fun _ _ _ _ _ _ us hl => match us, hl with | [_, _], _ => rfl
  have F13 := fun_mk (st := s_is_pair) l13 c13 k13
  have b13 := F13.binds (ps := ["task", "thing"]) fun _ _ _ _ _ _ us hl => match us, hl with | [_, _], _ => rfl
  have F14 := fun_mk (st := s_ties_of) l14 c14 k14
  have b14 := F14.binds (ps := ["let"]) fun _ _ _ _ _ _ us hl => match us, hl with | [_], _ => rfl
  have F15 := fun_mk (st := s_distances) l15 c15 k15
  have b15 := F15.binds (ps := ["ties", "start"]) fun _ _ _ _ _ _ us hl => match us, hl with | [_, _], _ => rfl
  have F16 := fun_mk (st := s_ties_for) l16 c16 k16
  have b16 := F16.binds (ps := ["task", "pair"]) fun _ _ _ _ _ _ us hl => match us, hl with | [_, _], _ => rfl
  have F17 := fun_mk (st := s_lots) l17 c17 k17
  have b17 := F17.binds (ps := ["task", "pair"]) fun _ _ _ _ _ _ us hl => match us, hl with | [_, _], _ => rfl
  have F18 := fun_mk (st := s_far) l18 c18 k18
  have b18 := F18.binds (ps := ["task", "pair", "x", "y"]) fun _ _ _ _ _ _ us hl => match us, hl with | [_, _, _, _], _ => rfl
  have F19 := fun_mk (st := sWell) l19 c19 k19
  have b19 := F19.binds (ps := ["_law_cell"]) fun _ _ _ _ _ _ us hl => match us, hl with | [_], _ => rfl
  have F20 := fun_mk (st := sDraw) l20 c20 k20
  have b20 := F20.binds (ps := ["_law_well_here", "_law_many"]) fun _ _ _ _ _ _ us hl => match us, hl with | [_, _], _ => rfl
  have F21 := fun_mk (st := s__law_pairs) l21 c21 k21
  have b21 := F21.binds (ps := ["_law_well_here", "_law_sizes"]) fun _ _ _ _ _ _ us hl => match us, hl with | [_, _], _ => rfl
  have F22 := fun_mk (st := s__law_outs) l22 c22 k22
  have b22 := F22.binds (ps := ["_law_well_here", "_law_few", "_law_size"]) fun _ _ _ _ _ _ us hl => match us, hl with | [_, _, _], _ => rfl
  have F23 := fun_mk (st := s__law_chain) l23 c23 k23
  have b23 := F23.binds (ps := ["_law_well_here", "_law_length"]) fun _ _ _ _ _ _ us hl => match us, hl with | [_, _], _ => rfl
  have F24 := fun_mk (st := s__law_parts) l24 c24 k24
  have b24 := F24.binds (ps := ["_law_well_here"]) fun _ _ _ _ _ _ us hl => match us, hl with | [_], _ => rfl
  have F25 := fun_mk (st := s__law_far) l25 c25 k25
  have b25 := F25.binds (ps := ["_law_outs_here", "_law_x", "_law_y"]) fun _ _ _ _ _ _ us hl => match us, hl with | [_, _, _], _ => rfl
  have F26 := fun_mk (st := s__law_lots) l26 c26 k26
  have b26 := F26.binds (ps := ["_law_outs_here"]) fun _ _ _ _ _ _ us hl => match us, hl with | [_], _ => rfl
  have F27 := fun_mk (st := sLaw) l27 c27 k27
  have Zc : TxtC K mg C := ⟨⟨pg, hd, po, sa⟩, nA, nB, PySem.W.mg_of X G aC⟩
  have Y1 := fun_mk (st := s_init) yl1 yc1 yk1
  have yb1 := Y1.binds (ps := ["self", "alone", "both"]) fun _ _ _ _ _ _ us hl => match us, hl with | [_, _, _], _ => rfl
  have Y2 := fun_mk (st := s_eq) yl2 yc2 yk2
  have yb2 := Y2.binds (ps := ["self", "other"]) fun _ _ _ _ _ _ us hl => match us, hl with | [_, _], _ => rfl
  have m := fun {n : Str} {v : Value} (e : PySem.W.nsIn K mainGlobals n = some (some v)) => PySem.W.mg_of X G e
  have mz := fun {n : Str} (e : PySem.W.nsIn K mainGlobals n = some none) => PySem.W.mg_none_of X G e
  have T : Txt K mg := ⟨mz z0, mz z1, mz z2, mz z3, mz z4, mz z5, mz z6, mz z7, mz z8, mz z9⟩
  have T2 : Txt2 K mg := ⟨mz z10, mz z11, mz z12, mz z13, mz z14⟩
  have U : TxtH K mg := ⟨_, m t0, fun H => .inr ⟨_, _, _, u0, rfl, rfl, (by show 2 ≤ sizeLine; decide), .cons ⟨_, rfl⟩ (.cons ⟨_, rfl⟩ .nil)⟩⟩
  obtain ⟨k1_, k2_, k3_, k4_⟩ := beB_ok q7
  have EC : EqC K C := ⟨q1, q2, q3, q4, q5, q6, k1_, k2_, k3_, k4_⟩
  have RI : RaiseC K mg "NoInputs" cI := raiseB_ok (mg := mg) r_cI (m n0) q_cI kk_cI
  refine ⟨PySem.W.fnOf "law" "law" (defArgs sLaw) (defBody sLaw) (defScope sLaw) .none kV27 dc27 pm27 an27 cd27 ct27, fun s v => .of_eq rfl, fun base _ _ => ?_⟩
  have e1 : Def l.prog w K mg base "is_whole" ["thing"] 1 (spWholeG K) f1 _ := ⟨ok_wholeG F1 T, b1, k1, m a1⟩
  have e2 : Def l.prog w K mg base "is_whole_within" ["thing", "least", "most"] 2 (spWithinG K) f2 _ := ⟨ok_withinG F2 e1, b2, k2, m a2⟩
  have eRI : Def l.prog w K mg base "is_rising" ["things"] 1 (spRisI K) f3 _ := ⟨ok_risI F3 T, b3, k3, m a3⟩
  have eRP : Def l.prog w K mg base "is_rising" ["things"] 1 (spRisP K) f3 _ := ⟨ok_risP F3 T, b3, k3, m a3⟩
  have e4 : Def l.prog w K mg base "is_output" ["thing"] 3 (spOut K) f4 _ := ⟨ok_out F4 (m i0) e2, b4, k4, m a4⟩
  have e5 : Def l.prog w K mg base "is_outputs" ["thing"] 4 (spOuts K) f5 _ := ⟨ok_outs F5 T e4 eRI, b5, k5, m a5⟩
  have e6 : Def l.prog w K mg base "is_rows" ["thing"] 5 (spRows K) f6 _ := ⟨ok_rows F6 T e5, b6, k6, m a6⟩
  have e7 : Def l.prog w K mg base "is_alone" ["thing"] 6 (spAlone K) f7 _ := ⟨ok_alone F7 T e6, b7, k7, m a7⟩
  have e8 : Def l.prog w K mg base "is_output_pair" ["thing"] 4 (spPairB K) f8 _ := ⟨ok_outpair F8 T e4, b8, k8, m a8⟩
  have e9 : Def l.prog w K mg base "is_let" ["thing"] 5 (spLetB K) f9 _ := ⟨ok_let F9 T e8 eRP, b9, k9, m a9⟩
  have e10 : Def l.prog w K mg base "is_input_pair" ["thing", "alone"] 3 (spInp K) f10 _ := ⟨ok_inp F10 T U e2, b10, k10, m a10⟩
  have e11 : Def l.prog w K mg base "each_comes" ["both", "alone", "hand"] 1 (spEach K) f11 _ := ⟨ok_each F11 T T2, b11, k11, m a11⟩
  have e12 : Def l.prog w K mg base "is_both" ["thing", "alone"] 6 (spBoth K) f12 _ := ⟨ok_both F12 T T2 U e10 e9 e11, b12, k12, m a12⟩
  have tk : KDef l.prog w K mg base C "Task" ["self", "alone", "both"] 7 (spInit K C) y1 _ := ⟨ok_init Y1 T T2 Zc e7 e12, yb1, ⟨mkC, ya1, yi1, kC⟩, Zc.mg⟩
  have eq : EqD l.prog w K mg base C 1 (spEq K C) y2 _ := ⟨ok_eq Y2 T Zc EC, yb2, ya2, yi2⟩
  have e13 : Def l.prog w K mg base "is_pair" ["task", "thing"] 4 (spIsP K C) f13 _ := ⟨ok_isp F13 T Zc e10, b13, k13, m a13⟩
  have e14 : Def l.prog w K mg base "ties_of" ["let"] 1 spTies f14 _ := ⟨ok_ties F14, b14, k14, m a14⟩
  have e15 : Def l.prog w K mg base "distances" ["ties", "start"] 1 spDist f15 _ := ⟨ok_dist F15 T, b15, k15, m a15⟩
  have e16 : FDX l.prog w K mg base "ties_for" nTf 5 (spTf K C cI) f16 _ := ⟨ok_tf F16 Zc RI e13 e14, b16, k16, m a16⟩
  have tf1_ : Def l.prog w K mg base "ties_for" nTf 5 (spTf1 C) f16 _ := ⟨lower (ok_tf F16 Zc RI e13 e14) tf1, b16, k16, m a16⟩
  have e17 : Def l.prog w K mg base "lots" ["task", "pair"] 6 (spLots C) f17 _ := ⟨ok_lots F17 T2 tf1_ e15, b17, k17, m a17⟩
  have e18 : Def l.prog w K mg base "far" nFa 6 (spFar1 C) f18 _ := ⟨lower (ok_farX F18 e16 e15) far1, b18, k18, m a18⟩
  have e19 : Def l.prog w K mg base "_law_well" ["_law_cell"] 1 spWell f19 _ := ⟨ok_well F19 T, b19, k19, m a19⟩
  have e20 : Def l.prog w K mg base "_law_draw" ["_law_well_here", "_law_many"] 1 spDraw f20 _ := ⟨ok_draw F20, b20, k20, m a20⟩
  have e21 : Def l.prog w K mg base "_law_pairs" ["_law_well_here", "_law_sizes"] 2 spPr f21 _ := ⟨ok_pr F21 T T2 e20, b21, k21, m a21⟩
  have e22 : Def l.prog w K mg base "_law_outs" ["_law_well_here", "_law_few", "_law_size"] 2 spOs f22 _ := ⟨ok_os F22 T T2 e20, b22, k22, m a22⟩
  have e23 : Def l.prog w K mg base "_law_chain" ["_law_well_here", "_law_length"] 2 spCn f23 _ := ⟨ok_cn F23 T T2 e20, b23, k23, m a23⟩
  have e24 : Def l.prog w K mg base "_law_parts" ["_law_well_here"] 3 spParts f24 _ := ⟨ok_parts F24 T T2 e20 e21 e22 e23, b24, k24, m a24⟩
  have e25 : Def l.prog w K mg base "_law_far" ["_law_outs_here", "_law_x", "_law_y"] 1 spLfar1 f25 _ := ⟨respec (ok_lfar F25 T) lfar1, b25, k25, m a25⟩
  have e26 : Def l.prog w K mg base "_law_lots" ["_law_outs_here"] 1 spLaw_lots f26 _ := ⟨ok_ll F26 T2, b26, k26, m a26⟩
  exact ok_law F27 T T2 e19 e20 e24 tk e17 e18 e26 e25 EC eq
theorem walk {l : PySem.W.OpenLaw} {q : Program} {loose : List Str} {XP : (Str → Option Value) → Heap → Prop} {YP : World → Heap → Prop} {d : DefRec} {K : Params → PySem.W.Frag} (hn : l.most = some 63) (hdf : d.params.defaults = [])
    (hY : ∀ (w : World) (h : Heap), YP w h → (K w.params).In h)
    (F : ∀ (w : World) (mg : Str → Option Value) (fa : Addr) (h : Heap), (K w.params).In h → h.Ns mainGlobals mg → mg d.name = some (.ref fa) →
      ∃ fd : FuncData, (∀ (s : Shared) (u : Value), BindsTo s fd ⟨[u], []⟩ [("_law_script", u)]) ∧ ∀ base : Heap, (K w.params).In base → base.Ns mainGlobals mg → FnOk l.prog w (K w.params) mg base CX0 9 fa fd ["_law_script"] (spLaw (K w.params))) :
    PySem.W.WalkO q loose XP YP l.row.toRowW d [] (fun f vs => PySem.call f vs) :=
  L2.walk_of (n := 63) (k := 9) (x := "_law_script") (CX := fun _ => CX0) (sp := fun w => spLaw (K w.params)) hn (by decide) hdf ⟨rfl, by decide, by decide⟩ hY F (fun _ _ a ns hl _ hS => ⟨a, ns, rfl, hS, hl, fun _ => rfl⟩) fun _ _ _ _ _ z => z
end TA
open PySem PySem.W PyProof.Rows
set_option maxRecDepth 100000 in
set_option maxHeartbeats 0 in
theorem PySem.Challenge.cw_twoalone_k41_lots_and_far_holds : PySem.Challenge.rw_twoalone_k41_lots_and_far.Holds := by
  w_on; o_law; k_head; (case hw => w_witness2)
  k_fill
  refine TA.walk (l := PySem.Challenge.rw_twoalone_k41_lots_and_far) rfl rfl (fun w h Y => PySem.W.kIn_of Y) ?F
  case F =>
    intro w mg fa h KX G hmg
    refine' TA.all_mk KX G hmg ?aC ?ya1 ?yi1 ?yl1 ?yc1 ?yk1 ?ya2 ?yi2 ?yl2 ?yc2 ?yk2 ?pg ?hd ?po ?sa ?mkC ?kC ?nA ?nB ?a1 ?l1 ?c1 ?k1 ?a2 ?l2 ?c2 ?k2 ?a3 ?l3 ?c3 ?k3 ?a4 ?l4 ?c4 ?k4 ?a5 ?l5 ?c5 ?k5 ?a6 ?l6 ?c6 ?k6 ?a7 ?l7 ?c7 ?k7 ?a8 ?l8 ?c8 ?k8 ?a9 ?l9 ?c9 ?k9 ?a10 ?l10 ?c10 ?k10 ?a11 ?l11 ?c11 ?k11 ?a12 ?l12 ?c12 ?k12 ?a13 ?l13 ?c13 ?k13 ?a14 ?l14 ?c14 ?k14 ?a15 ?l15 ?c15 ?k15 ?a16 ?l16 ?c16 ?k16 ?a17 ?l17 ?c17 ?k17 ?a18 ?l18 ?c18 ?k18 ?a19 ?l19 ?c19 ?k19 ?a20 ?l20 ?c20 ?k20 ?a21 ?l21 ?c21 ?k21 ?a22 ?l22 ?c22 ?k22 ?a23 ?l23 ?c23 ?k23 ?a24 ?l24 ?c24 ?k24 ?a25 ?l25 ?c25 ?k25 ?a26 ?l26 ?c26 ?k26 ?a27 ?l27 ?c27 ?k27 ?z0 ?z1 ?z2 ?z3 ?z4 ?z5 ?z6 ?z7 ?z8 ?z9 ?z10 ?z11 ?z12 ?z13 ?z14 ?i0 ?t0 ?u0 ?n0 ?q_cI ?kk_cI ?r_cI ?q1 ?q2 ?q3 ?q4 ?q5 ?q6 ?q7
    (case aC => k_is); (case ya1 => k_is); (case yi1 => k_is); (case yl1 => k_is); (case yc1 => k_is); (case yk1 => k_is); (case ya2 => k_is); (case yi2 => k_is); (case yl2 => k_is); (case yc2 => k_is); (case yk2 => k_is); (case pg => k_is); (case hd => k_is); (case po => k_is); (case sa => k_is); (case mkC => k_is); (case kC => k_is); (case nA => k_is); (case nB => k_is)
    (case a1 => k_is); (case l1 => k_is); (case c1 => k_is); (case k1 => k_is); (case a2 => k_is); (case l2 => k_is); (case c2 => k_is); (case k2 => k_is); (case a3 => k_is); (case l3 => k_is); (case c3 => k_is); (case k3 => k_is); (case a4 => k_is); (case l4 => k_is); (case c4 => k_is); (case k4 => k_is); (case a5 => k_is); (case l5 => k_is); (case c5 => k_is); (case k5 => k_is); (case a6 => k_is); (case l6 => k_is); (case c6 => k_is); (case k6 => k_is); (case a7 => k_is); (case l7 => k_is); (case c7 => k_is); (case k7 => k_is); (case a8 => k_is); (case l8 => k_is); (case c8 => k_is); (case k8 => k_is); (case a9 => k_is); (case l9 => k_is); (case c9 => k_is); (case k9 => k_is); (case a10 => k_is); (case l10 => k_is); (case c10 => k_is); (case k10 => k_is); (case a11 => k_is); (case l11 => k_is); (case c11 => k_is); (case k11 => k_is); (case a12 => k_is); (case l12 => k_is); (case c12 => k_is); (case k12 => k_is); (case a13 => k_is); (case l13 => k_is); (case c13 => k_is); (case k13 => k_is); (case a14 => k_is); (case l14 => k_is); (case c14 => k_is); (case k14 => k_is); (case a15 => k_is); (case l15 => k_is); (case c15 => k_is); (case k15 => k_is); (case a16 => k_is); (case l16 => k_is); (case c16 => k_is); (case k16 => k_is); (case a17 => k_is); (case l17 => k_is); (case c17 => k_is); (case k17 => k_is); (case a18 => k_is); (case l18 => k_is); (case c18 => k_is); (case k18 => k_is); (case a19 => k_is); (case l19 => k_is); (case c19 => k_is); (case k19 => k_is); (case a20 => k_is); (case l20 => k_is); (case c20 => k_is); (case k20 => k_is); (case a21 => k_is); (case l21 => k_is); (case c21 => k_is); (case k21 => k_is); (case a22 => k_is); (case l22 => k_is); (case c22 => k_is); (case k22 => k_is); (case a23 => k_is); (case l23 => k_is); (case c23 => k_is); (case k23 => k_is); (case a24 => k_is); (case l24 => k_is); (case c24 => k_is); (case k24 => k_is); (case a25 => k_is); (case l25 => k_is); (case c25 => k_is); (case k25 => k_is); (case a26 => k_is); (case l26 => k_is); (case c26 => k_is); (case k26 => k_is); (case a27 => k_is); (case l27 => k_is); (case c27 => k_is); (case k27 => k_is); (case z0 => k_is); (case z1 => k_is); (case z2 => k_is); (case z3 => k_is); (case z4 => k_is); (case z5 => k_is); (case z6 => k_is); (case z7 => k_is); (case z8 => k_is); (case z9 => k_is); (case z10 => k_is); (case z11 => k_is); (case z12 => k_is); (case z13 => k_is); (case z14 => k_is); (case i0 => k_is); (case t0 => k_is); (case u0 => k_is); (case n0 => k_is); (case q_cI => k_exc); (case kk_cI => k_is); (case r_cI => kernel_rfl); (case q1 => k_is); (case q2 => k_is); (case q3 => k_is); (case q4 => k_is); (case q5 => k_is); (case q6 => k_is); (case q7 => kernel_rfl)
