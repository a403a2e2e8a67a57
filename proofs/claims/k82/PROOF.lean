import PyProof.Rows.All
import Wide.All
import OpenK.AllK
import Wide.FinOn
import HandS.ForMost
import HandS.IsInst
import HandS.DictTup
import HandS.Conv
import HandS.TupSets
import HandS.Walk
import HandS.SetBool
import HandS.DictComp
import HandS.Strs
import HandS.SetFor
import KE.KDictCopyH
import KE.KDictDisplayH
import PyProof.ReprRoads
import PyProof.CallFns
import PyProof.ReprLen
import KE.DataFind
import HandS.Lambda
import HandS.EndTab
import KE.KDictOf
import PyProof.DictMoreH
import PyProof.DictFindH
import PyProof.P3Eq
import HandS.TupLen
import HandS.DictEq
import HandS.ListEq
import HandS.OwnEq
import HandS.Defaults
import HandS.MakeKwOnly
import KE.KDictPairs
import HandS.Style
import HandS.Deep
import HandS.NoneIn
import KE.KDictWalk
import HandS.SortRule
import HandS.SortOrd
import HandS.Wide
import HandS.ExcIs
import HandS.ForExc
import HandS.More
import HandS.EndBits
import KE.KNestM
import PyProof.ReprText
import PySem.Challenge.RW_twoalone_k82_boxed_ones_judged
set_option Elab.async false
set_option maxRecDepth 100000
set_option maxHeartbeats 4000000
namespace L2
open PySem PySem.Spec PyProof.Rows
set_option linter.unusedVariables false
/-! dicts with tuple keys: their items walked, their keys sorted -/
section
variable {X : Cx} {pins : List (Addr × Obj)} {σ : St} {H : Hp} {s : Shared} {d : Addr} {o : Obj}
/-- a locked dict of tuple keys as it lies: its entries, the keys' tuples, the values -/
theorem Inv.entriesT {kvs : List (List Key × V)} (I : Inv X pins σ H s) (locked : H d = some (.frz o (.dT kvs))) :
    (d == sysModules) = false ∧ ∃ (es : Array DictEntry) (ep : Nat), o.data = .dict es ep ∧ DT.Raw s.heap d es ep ∧ es.size = kvs.length ∧
      ∀ (i : Nat) (k : List Key) (v : V), kvs[i]? = some (k, v) → ∃ (hi : i < es.size) (q : Addr), es[i].key = .ref q ∧ H q = some (.tup (k.map kV)) ∧ RelV v es[i].val := by
  obtain ⟨there, _, notSys, xs, pairs, o', es, ep, found, exact', data, rows, _⟩ := I.hok d _ locked
  rw [there] at found
  cases found
  have sizes : es.size = kvs.length := (size_of_entries rows).trans (Paired.length pairs).symm
  refine ⟨notSys, es, ep, data, ⟨o, there, exact', data⟩, sizes, fun i k v e => ?_⟩
  obtain ⟨b, hb, e1, e2, e3⟩ := paired_get pairs e
  have hi : i < es.size := by rw [sizes]; exact (List.getElem?_eq_some_iff.mp e).1
  have q := entry_at rows i
  rw [hb, Array.getElem?_eq_getElem hi] at q
  have q' : es[i] = entryOfKey (tupleKind (mixKind X.prog X.w)) b := Option.some.inj q
  exact ⟨hi, b.2.1, by rw [q']; rfl, e2, by rw [q']; exact e3⟩
end
/-- the items of the locked dict at d: each a new pair of the key's own tuple and the value -/
def Itit (d : Addr) (o : Obj) (kvs : List (List Key × V)) : It :=
  ⟨fun i H => H d = some (.frz o (.dT kvs)) ∧ i < kvs.length,
   fun i H x H' => ∃ (T q : Addr) (k : List Key) (v : V), kvs[i]? = some (k, v) ∧ H q = some (.tup (k.map kV)) ∧ x = .ref T ∧ H T = none ∧ H' = upd H T (.tup [.ref q, v]),
   fun i H => H d = some (.frz o (.dT kvs)) ∧ kvs.length ≤ i⟩
theorem turn_itemsT {P : Program} {w : World} {K : PySem.W.Frag} {d : Addr} {o : Obj} {es : Array DictEntry} {ep : Nat} {kvs : List (List Key × V)} {elts : List Expr} {kk : Nat} {tpos : Pos} (it : Addr) (hod : o.data = .dict es ep) :
    Turn P w K (.Tuple elts kk tpos) (Itit d o kvs) [it] it (fun i h => ∃ ok ov, IsItemIter h it d i kvs.length ep ok ov) where
  mem := by simp
  obj := fun i h ⟨ok, ov, e⟩ b hb => by
    rw [List.mem_singleton.mp hb]
    exact ⟨_, e, fun v z => nomatch z⟩
  keep := fun i h h' ⟨ok, ov, e⟩ k => ⟨ok, ov, k it (by simp) _ e⟩
  item := by
    rintro X rfl rfl rfl hc i pins s σ H E I hf ⟨ok, ov, he⟩ ⟨hd, hi⟩
    obtain ⟨_, es', ep', hdt, raw, hsz, ent⟩ := I.entriesT hd
    obtain ⟨rfl, rfl⟩ := dict_ep hod hdt
    obtain ⟨⟨k, v⟩, hkv⟩ : ∃ p, kvs[i]? = some p := ⟨kvs[i], List.getElem?_eq_getElem hi⟩
    obtain ⟨hi', q, hkey, hq, rv⟩ := ent i k v hkv
    rw [← hsz] at he
    have hlt : it < s.heap.objs.size := Heap.lt_size he
    refine DT.nextI he raw hi' fun h' out laid grown kept => ?_
    refine ⟨_, rfl, wpAny_letOwnedTupleGo_items (s := { s with heap := h' }) out fun h'' he' sb => ?_⟩
    have laid2 : h''.get? s.heap.objs.size = some { cls := .type "tuple", data := .seq #[es'[i].key, es'[i].val] } := (sb.2 _ (Nat.ne_of_gt hlt)).trans laid
    have pair : ObjOk X.prog X.w (upd H s.heap.objs.size (.tup [.ref q, v])) h'' s.heap.objs.size (.tup [.ref q, v]) :=
      ⟨by show 2 ≤ sizeLine; decide, [es'[i].key, es'[i].val], .cons hkey (.cons rv .nil), ⟨_, laid2, rfl, _, rfl⟩⟩
    have I1 : Inv X pins σ (upd H s.heap.objs.size (.tup [.ref q, v])) { s with heap := h'' } :=
      I.turnedNew (t' := s.toks) (ch := [it]) (fun b ob hb e => (sb.2 b (fun z => hb (List.mem_singleton.mpr z))).trans (kept b ob (fun z => hb (List.mem_singleton.mpr z)) e)) hf (Nat.le_refl _) pair
    refine ⟨.ref s.heap.objs.size, _, I1, rfl, ⟨_, q, k, v, hkv, hq, rfl, I.hok.fresh (Nat.le_refl _), rfl⟩, ⟨es'[i].key, es'[i].val, by rw [← hsz]; exact he'⟩, fun b hb => ?_⟩
    rw [List.mem_singleton.mp hb, upd_ne (Nat.ne_of_lt hlt)]
    exact (hf it (by simp)).1
  done := by
    rintro X rfl rfl rfl hc i pins s σ H E I hf ⟨ok, ov, he⟩ ⟨hd, hi⟩
    obtain ⟨f0, f1, f2, f3, f4, f5⟩ := hf it (by simp)
    obtain ⟨_, es', ep', hdt, raw, hsz, ent⟩ := I.entriesT hd
    obtain ⟨rfl, rfl⟩ := dict_ep hod hdt
    rw [← hsz] at he
    exact DT.endI (I.ok.hd hc) he raw (by omega) fun h' eb => ⟨rfl, I.turned (t' := s.toks) (fun b ob hb e => eb b ob hb e) f0 f1 f3 f4 f5⟩
  self := fun A i s Q E ⟨_, _, e⟩ h => PySem.W.kcp_self e h
/-- for a, b in e.items(): e a locked dict of tuple keys -/
def iItemsT (td : TE) : TI := fun σ H R => td σ H fun x H1 => ∃ d o kvs, x = .ref d ∧ H1 d = some (.frz o (.dT kvs)) ∧ R (Itit d o kvs) H1
theorem pi_itemsT {X : Cx} {e : Expr} {td : TE} {apos cpos : Pos} {elts : List Expr} {kk : Nat} {tpos : Pos} (he : PE X e td) (hbase : attributeBase e "items" X.env (eval e X.env) = eval e X.env := by rfl) (hline : (apos.endLine == cpos.line) = true := by rfl) :
    PI X (.Tuple elts kk tpos) (.Call (.Attribute e "items" apos) [] [] cpos) (iItemsT td) := by
  refine ⟨fun pins s σ H R I h => ?_⟩
  refine wpAny_Call_method (T := "dict") (id := "dict.items") hbase rfl hline F.plainAttrs_dict F.slot_dict_items F.type_dict_items (thn (he.run pins s σ H _ I h) fun u s1 ⟨x, H1, I1, rx, d, o, kvs, ex, hd, q⟩ => ?_)
  subst ex
  obtain rfl : u = Value.ref d := rx
  obtain ⟨notSys, es, ep, hdt, raw, hsz, ent⟩ := I1.entriesT hd
  refine ⟨raw.typeIs, fun b z => ?_, ?_⟩
  · cases z
    obtain ⟨ob, h1, h2, h3⟩ := raw
    exact ⟨ob, h1, h2.2.1⟩
  have I2 : Inv X pins σ H1 { s1 with heap := s1.heap.push { cls := .type "dict_items", data := .fields #[.ref d] } } := I1.kept (t' := s1.toks) fun b ob q => Heap.get?_push_of_some _ q
  have walk : wpAny (model X.prog X.w) X.A (pyIter (.ref s1.heap.objs.size)) (PIE X pins σ (.Tuple elts kk tpos) R) X.xe { s1 with heap := s1.heap.push { cls := .type "dict_items", data := .fields #[.ref d] } } := by
    refine DT.iterI (d := d) ⟨_, Heap.get?_push_size _ rfl, rfl, rfl⟩ (raw.push _) (pi_one (tk := s1.toks) I2 _ (turn_itemsT _ hdt) ⟨.none, .none, ?_⟩ q)
    rw [← hsz]
    exact Heap.get?_push_size _ rfl
  show wpAny _ _ (callWith cpos (.builtin "dict.items") [.ref d] [] []) _ X.xe s1
  exact method_meetsIn F.slot_dict_items F.entry_dict_items rfl (PySem.evalArgs_none ⟨rfl, raw.typeIs, F.args_dict_items_1 _, _, DT.meetsItems (es := es) (ep := ep) notSys, raw, walk⟩)
end L2

set_option Elab.async false
set_option maxRecDepth 100000
set_option maxHeartbeats 4000000
namespace L2
open PySem PySem.Spec PyProof.Rows
set_option linter.unusedVariables false
/-! one core for comprehensions that gather into any thing: what is laid first, and what a turn adds, are parameters -/
section
variable {X : Cx}
/-- the walk of a comprehension that gathers at D: o0 is what stands there first; add says what one turn does to it -/
def tGather (o0 : Addr → HO) (wi : TI) (g : TG) (tt : TT) (add : Addr → St → Hp → (Hp → Prop) → Prop) (vs : List Nat) : TE := fun σ H Q =>
  wi σ H fun J H1 => ∀ D, H1 D = none → ∃ W : Nat → Nat → Hp → Prop, (∃ m, W 0 m (upd H1 D (o0 D))) ∧ ∀ i m H, W i m H →
    (J.stop i H ∧ Q (.ref D) H) ∨
    (J.go i H ∧ ∃ Nx : Hp → Prop, (∀ H', Nx H' → ∃ m', m' < m ∧ W (i + 1) m' H') ∧
      ∀ x H', J.yld i H x H' → g x (wipe σ vs) H' fun σ2 H2 => wipe σ2 vs = wipe σ vs ∧ tt σ2 H2 fun b H3 => if b = true then add D σ2 H3 Nx else Nx H3)
/-- one turn as the machine does it: the next thing, the target, the tests, then Body or the way back -/
def TurnIs (P : Program) (w : World) (A : Around) (target iter : Expr) (ifs : List Expr) (it : Value) (env : Env) (R : Result → Shared → Prop) (Body : (Shared → Prop) → Shared → Prop) (back : Shared → Prop) (s : Shared) : Prop :=
  wpAny (model P w) A (pyNext it) (fun r s₁ => match r with
    | none => R (.ok .next) s₁
    | some v => wpAny (model P w) A (letOwnedTupleGo target it v) (fun _ s₁' =>
        wpAny (model P w) A (assign target env v) (fun _ s₂ =>
          wpAny (model P w) A (forIn ifs true fun c r => if r = true then do let ok ← isTrue c env (eval c env); pure (ForInStep.yield ok) else pure (ForInStep.yield r))
            (fun ok s₃ => if ok = true then Body back s₃ else back s₃) (notedBy (model P w) A env fun e s' => R (.error e) s') s₂)
          (notedBy (model P w) A env fun e s' => R (.error e) s') s₁')
        (notedBy (model P w) A env fun e s' => R (.error e) s') s₁)
    (notedBy (model P w) A env fun e s' => R (.error e) s') s
variable {pins : List (Addr × Obj)} {s : Shared} {σ : L2.St} {H : Hp} {Q : VK} {node tg iter : Expr} {ifs : List Expr} {scope : Scope} {own : List (PySem.Str × Nat)} {pos' : Pos} {wi : TI} {g : TG} {tt : TT}
  {add : Addr → L2.St → Hp → (Hp → Prop) → Prop} {o0 : Addr → HO} {ob : Obj} {mk : Sem Value} {use : Option (Value → Sem Unit)} {Qf : Value → Shared → Prop} {Body : Value → Env → (Result → Shared → Prop) → (Shared → Prop) → Shared → Prop}
theorem gather_core (hc : X.calm = true) (hN : X.N.Nodup) (I : Inv X pins σ H s) (hi : PI X tg iter wi) (ok : BlkOk X.N X.env.scope scope own) (hcl : clausesOf node = [⟨tg, iter, ifs, 0⟩])
    (hmk : ∀ (A : Around) (E : Value → Shared → Prop) (s : Shared) (Q : Value → Shared → Prop), Q (.ref s.heap.objs.size) { s with heap := s.heap.push ob } → wpAny (model X.prog X.w) A mk Q E s)
    (hob : ∀ (h : Heap) (H : Hp), sysModules < h.objs.size → ObjOk X.prog X.w H (h.push ob) h.objs.size (o0 h.objs.size))
    (hloop : ∀ (it : Value) (D : Addr) (env : Env) (R : Result → Shared → Prop) (I : Nat → Shared → Prop), (∀ n s, I n s → TurnIs X.prog X.w X.A tg iter ifs it env R (Body (.ref D) env R) (fun s' => ∃ m, m < n ∧ I m s') s) →
      ∀ n s, I n s → codeAny (model X.prog X.w) X.A (.compLoop node 0 it (.ref D) env) R s)
    (hstart : ∀ (it acc : Value) (env : Env) (R : Result → Shared → Prop) (s : Shared), codeAny (model X.prog X.w) X.A (.compLoop node 0 it acc env) R s →
      wpAny (model X.prog X.w) X.A (pyIter it) (fun it' s' => codeAny (model X.prog X.w) X.A (.compLoop node 0 it' acc env) R s') (notedBy (model X.prog X.w) X.A env fun x s' => R (.error x) s') s →
      codeAny (model X.prog X.w) X.A (.compStart node 0 it acc env) R s)
    (hg : ∀ (s : Shared) (H : Hp) (C : Addr) (cl : List (PySem.Str × Addr)) (fp : List Addr), PG (X.blk s H scope (compEnvC scope cl C X.env) fp) tg g)
    (ht : ∀ (s : Shared) (H : Hp) (C : Addr) (cl : List (PySem.Str × Addr)) (fp : List Addr), PTs (X.blk s H scope (compEnvC scope cl C X.env) fp) ifs tt)
    (hadd : ∀ (s : Shared) (H : Hp) (C : Addr) (cl : List (PySem.Str × Addr)) (fp : List Addr) (D : Addr) (R : Result → Shared → Prop) (Nx : Hp → Prop) (back : Shared → Prop) (pins' : List (Addr × Obj)) (σ2 : L2.St) (H3 : Hp) (s3 : Shared),
      Inv (X.blk s H scope (compEnvC scope cl C X.env) fp) pins' σ2 H3 s3 → add D σ2 H3 Nx → (∀ s' H', Inv (X.blk s H scope (compEnvC scope cl C X.env) fp) pins' σ2 H' s' → Nx H' → back s') → Body (.ref D) (compEnvC scope cl C X.env) R back s3)
    (hs : ∀ x, foldedSetIterable iter X.env x = pure x) (h : tGather o0 wi g tt add (own.map (·.2)) σ H Q)
    (hRR : ∀ D C s' m H', Inv X pins σ H' s' → Q (.ref D) H' → s'.heap.Ns C m → FpOk X pins H' C → compPost (model X.prog X.w) X.A X.xe use Qf (.ref D) C (.ok .next) s') :
    wpAny (model X.prog X.w) X.A (comprehension node scope X.env pos' mk false (eval iter X.env) use) Qf X.xe s := by
  have free : ∀ y ∈ scope.names, y.2 = .free → ∃ c, X.env.cells.lookup y.1 = some c := fun y hy e => (ok.free y hy e).elim (fun k => I.ok.has _ (.inl k)) (fun k => I.ok.has _ (.inr k))
  refine wpAny_comprehension_free (use := use) hcl hs (closure_ok free) ok.kind (fun y hy e => by rw [ok.uniq y hy, e]) (thn (hi.run pins s σ H _ I h) fun xv s1 hx => thn hx fun itv s2 h2 => ?_)
  obtain ⟨it, fp, tn, J, H2, e, I2, T, st2, f2, q⟩ := h2
  subst e
  refine hmk _ _ _ _ (newEnv_comp ?_)
  obtain ⟨W, ⟨m0, w0⟩, turn⟩ := q s2.heap.objs.size (I2.hok.fresh (Nat.le_refl _))
  have I3 : Inv X pins σ (upd H2 s2.heap.objs.size (o0 s2.heap.objs.size)) ({ s2 with heap := s2.heap.push ob } : Shared) :=
    I2.laid (t' := s2.toks) (fun b o e => Heap.get?_push_of_some _ e) (Nat.le_refl _) (hob _ _ I2.big)
  have f3 : ∀ b ∈ fp, FpOk X pins (upd H2 s2.heap.objs.size (o0 s2.heap.objs.size)) b ∧ b < (s2.heap.push ob).objs.size := fun b hb => by
    obtain ⟨o, e, _⟩ := T.obj _ _ st2 b hb
    have lt := Heap.lt_size e
    exact ⟨⟨by rw [upd_ne (Nat.ne_of_lt lt)]; exact (f2 b hb).1, (f2 b hb).2⟩, by rw [Heap.size_push]; exact Nat.lt_succ_of_lt lt⟩
  have st3 : tn 0 (s2.heap.push ob) := T.keep _ _ _ st2 fun b _ o e => Heap.get?_push_of_some _ e
  generalize hD : s2.heap.objs.size = D at I3 w0 turn f3 ⊢
  generalize hs3 : ({ s2 with heap := s2.heap.push ob } : Shared) = s3 at I3 ⊢
  have h3 : s3.heap = s2.heap.push ob := by rw [← hs3]
  rw [← h3] at f3 st3
  generalize upd H2 D (o0 D) = H3 at I3 w0 f3
  have I4 := block_start I3 ok hN f3
  have pg := hg s3 H3 s3.heap.objs.size (cellsFrom (s3.heap.objs.size + 1) scope.names (cloFrom X.env.cells scope.names [])) fp
  have pt := ht s3 H3 s3.heap.objs.size (cellsFrom (s3.heap.objs.size + 1) scope.names (cloFrom X.env.cells scope.names [])) fp
  have pa := hadd s3 H3 s3.heap.objs.size (cellsFrom (s3.heap.objs.size + 1) scope.names (cloFrom X.env.cells scope.names [])) fp
  show codeAny _ _ (.compStart node 0 (.ref it) (.ref D) (compEnvC scope (cellsFrom (s3.heap.objs.size + 1) scope.names (cloFrom X.env.cells scope.names [])) s3.heap.objs.size X.env)) (compPost (model X.prog X.w) X.A X.xe use Qf (.ref D) s3.heap.objs.size) { s3 with heap := pushCells (s3.heap.push { cls := .type "dict", data := .dict #[] }) scope.names }
  generalize hce : compEnvC scope (cellsFrom (s3.heap.objs.size + 1) scope.names (cloFrom X.env.cells scope.names [])) s3.heap.objs.size X.env = ce at I4 pg pt pa ⊢
  have cL : ce.locals = s3.heap.objs.size := by subst hce; rfl
  generalize hs4 : ({ s3 with heap := pushCells (s3.heap.push { cls := .type "dict", data := .dict #[] }) scope.names } : Shared) = s4 at I4 ⊢
  have st4 : tn 0 s4.heap := T.keep _ _ _ st3 fun b _ o e => by rw [← hs4]; exact pushCells_keeps _ _ _ _ (Heap.get?_push_of_some _ e)
  have still : ∀ {σ' : L2.St} {H' : Hp} {s' : Shared}, Inv (X.blk s3 H3 scope ce fp) [] σ' H' s' → (∀ b ∈ fp, H' b = none) → ∀ b ∈ fp, FpOk (X.blk s3 H3 scope ce fp) [] H' b := fun I' hn b hb =>
    ⟨hn b hb, (I'.ok.exf b hb).1, I'.ok.exfs b hb, .inl hb, fun x c e => (I'.ok.exf b hb).2 x c e, fun p hp => absurd (show p ∈ ([] : List (Addr × Obj)) ++ [] from hp) (by simp)⟩
  have loop := hloop (.ref it) D ce (compPost (model X.prog X.w) X.A X.xe use Qf (.ref D) s3.heap.objs.size)
    (fun n s' => ∃ i H', Inv (X.blk s3 H3 scope ce fp) [] (wipe σ (own.map (·.2))) H' s' ∧ tn i s'.heap ∧ (∀ b ∈ fp, H' b = none) ∧ W i n H') ?_ m0 s4 ⟨0, H3, I4, st4, fun b hb => (f3 b hb).1.1, w0⟩
  · exact hstart _ _ _ _ _ loop (T.self X.A 0 _ _ _ st4 loop)
  rintro n s5 ⟨i, H5, I5, st5, n5, w5⟩
  rcases turn i n H5 w5 with ⟨stop, qq⟩ | ⟨go, Nx, hNx, step⟩
  · refine thnF (T.done (X.blk s3 H3 scope ce fp) rfl rfl rfl hc i [] s5 _ H5 (fun _ _ => False) I5 (still I5 n5) st5 stop) fun r s6 ⟨hr, I6⟩ => ?_
    subst hr
    have I7 : Inv X pins σ H5 s6 := I3.call' (ch := fp) I6.os I6.base I6.hok I6.bare fun b hb => ⟨(f3 b hb).1.2.2.2.1, (f3 b hb).1.2.1, (f3 b hb).1.2.2.2.2.1, (f3 b hb).1.2.2.2.2.2⟩
    have nC : H5 s3.heap.objs.size = none := by
      have z : H5 ce.locals = none := I6.free
      rwa [cL] at z
    obtain ⟨m, hn, _⟩ := I6.loc
    have hn : s6.heap.Ns ce.locals m := hn
    rw [cL] at hn
    exact hRR D s3.heap.objs.size s6 m H5 I7 qq hn (I3.fpOk (Nat.le_refl _) nC)
  · refine thnF (T.item (X.blk s3 H3 scope ce fp) rfl rfl rfl hc i [] s5 _ H5 (fun _ _ => False) I5 (still I5 n5) st5 go) fun r s6 ⟨u, hr, h6⟩ => ?_
    subst hr
    refine thnF h6 fun _ s7 ⟨x, H7, I7, r7, y7, st7, n7⟩ => ?_
    refine thnF (pg.run _ s7 _ H7 x u _ (I7.pinned (still I7 n7) (T.obj _ _ st7)) r7 (step x H7 y7)) fun _ s8 ⟨σ8, H8, I8, hw8, q8⟩ => ?_
    refine thnF (pt.run _ s8 σ8 H8 _ I8 q8) fun b s9 ⟨H9, I9, q9⟩ => ?_
    have again : ∀ (s' : Shared) (H' : Hp), Inv (X.blk s3 H3 scope ce fp) ([] ++ pinsAt fp s7.heap) σ8 H' s' → Nx H' → ∃ m, m < n ∧ ∃ i H', Inv (X.blk s3 H3 scope ce fp) [] (wipe σ (own.map (·.2))) H' s' ∧ tn i s'.heap ∧ (∀ b ∈ fp, H' b = none) ∧ W i m H' := fun s' H' I' nx => by
      obtain ⟨m', hm, w'⟩ := hNx H' nx
      have stands : ∀ b ∈ fp, ∀ o, s7.heap.get? b = some o → s'.heap.get? b = some o ∧ H' b = none := fun b hb o e =>
        let z := I'.pin (b, o) (List.mem_append_right _ (List.mem_append_right _ (mem_pinsAt hb e)))
        ⟨z.1, z.2.1⟩
      refine ⟨m', hm, i + 1, H', (I'.unpinned (pins := [])).weak (by rw [← hw8, wipe_length]) (fun j v e => ?_), T.keep _ _ _ st7 fun b hb o e => (stands b hb o e).1, fun b hb => ?_, w'⟩
      · rw [← hw8] at e
        exact (wipe_some e).1
      · obtain ⟨o, e, _⟩ := T.obj _ _ st7 b hb
        exact (stands b hb o e).2
    cases b with
    | false => exact again s9 H9 I9 q9
    | true => exact pa D _ Nx _ _ σ8 H9 s9 I9 q9 again
end
end L2

set_option Elab.async false
set_option maxRecDepth 100000
set_option maxHeartbeats 4000000
namespace L2
open PySem PySem.Spec PyProof.Rows PpSet
set_option linter.unusedVariables false
/-! the core taken twice: sets of ints, dicts with tuple keys; len of a set -/
/-- a set as it is made -/
abbrev bareSet (w : World) : Obj := { cls := .type "set", dict := none, data := .set #[] 0 (.fresh 0 0 (!w.params.followText "set-order")) }
section
variable {X : Cx}
/-- a turn of {e for ..}, e an int -/
def addI (w : World) (te : TE) : Addr → L2.St → Hp → (Hp → Prop) → Prop := fun D σ H Nx => te σ H fun y H1 => ∃ (k : Int) (S : Int → Bool) (n : Nat), y = .int k ∧ H1 D = some (SetO w D S n) ∧ n + 1 < scanBound ∧
  Nx (upd H1 D (SetO w D (fun j => S j || decide (j = k)) (if S k = true then n else n + 1)))
theorem pe_scI {elt tg iter : Expr} {ifs : List Expr} {scope : Scope} {own : List (PySem.Str × Nat)} {pos : Pos} {wi : TI} {g : TG} {tt : TT} {te : TE} (hc : X.calm = true) (hN : X.N.Nodup) (hi : PI X tg iter wi) (ok : BlkOk X.N X.env.scope scope own)
    (hg : ∀ (s : Shared) (H : Hp) (C : Addr) (cl : List (PySem.Str × Addr)) (fp : List Addr), PG (X.blk s H scope (compEnvC scope cl C X.env) fp) tg g)
    (ht : ∀ (s : Shared) (H : Hp) (C : Addr) (cl : List (PySem.Str × Addr)) (fp : List Addr), PTs (X.blk s H scope (compEnvC scope cl C X.env) fp) ifs tt)
    (he : ∀ (s : Shared) (H : Hp) (C : Addr) (cl : List (PySem.Str × Addr)) (fp : List Addr), PE (X.blk s H scope (compEnvC scope cl C X.env) fp) elt te)
    (hs : ∀ x, foldedSetIterable iter X.env x = pure x := by intro _; rfl) :
    PE X (.SetComp elt [⟨tg, iter, ifs, 0⟩] scope pos) (tGather (fun D => SetO X.w D (fun _ => false) 0) wi g tt (addI X.w te) (own.map (·.2))) := by
  refine ⟨fun pins s σ H Q I h => ?_⟩
  rw [eval_SetComp]
  refine gather_core (ob := bareSet X.w) (mk := newSet (.type "set")) (o0 := fun D => SetO X.w D (fun _ => false) 0) (add := addI X.w te)
    (Body := fun acc env R back s => wpAny (model X.prog X.w) X.A (eval elt env) (fun x s4 => wpAny (model X.prog X.w) X.A (call (.builtin "set.add") [acc, x]) (fun _ s5 => back s5) (notedBy (model X.prog X.w) X.A env fun e s' => R (.error e) s') s4)
      (notedBy (model X.prog X.w) X.A env fun e s' => R (.error e) s') s)
    hc hN I hi ok rfl (fun A E s Q q => newSet_ok q) (fun h H hb => setO_new (setR_fresh X.w)) (fun it D env R I turn n s => compLoopS_any I turn n) (fun it acc env R s a b => codeAny_compStart_set a b) hg ht ?_ hs h ?_
  · intro s H C cl fp D R Nx back pins' σ2 H3 s3 I3 q3 k
    refine thnF ((he s H C cl fp).run _ s3 σ2 H3 _ I3 q3) fun z s4 ⟨yv, H4, I4, r4, n, S, m, ey, hD, room, nx⟩ => ?_
    subst ey
    obtain ⟨tk, rfl⟩ := r4
    refine setR_add (setO_get (X := X.blk s H scope (compEnvC scope cl C X.env) fp) I4 hD) room fun h' sb new => k _ _ (I4.write (e := D) (t' := s4.toks + 1) (by rw [hD]; trivial) (.inl rfl) (fun b u hb hu => (sb.2 b hb).trans hu) ?_ (setO_new new)) nx
    have ⟨o, _, _, _, ho, _⟩ := new
    exact ⟨o, ho⟩
  · intro D C s' m H' I' q hn ⟨f0, f1, f2, f3, f4, f5⟩
    exact ⟨m, hn, fun h'' sb => ⟨.ref D, H', I'.turned (t' := s'.toks) (fun b o hb e => (sb.2 b hb).trans e) f0 f1 f3 f4 f5, rfl, q⟩⟩
/-- len of such a set -/
def rLenSI (w : World) : List V → Hp → VK → Prop := fun xs H Q => ∃ (a : Addr) (S : Int → Bool) (n : Nat), xs = [.ref a] ∧ H a = some (SetO w a S n) ∧ Q (.int (n : Int)) H
theorem call_len_SI : CallR X (.builtin "len") (rLenSI X.w) := by
  intro pins s σ H vs us Q I r h
  obtain ⟨a, S, n, rfl, ha, q⟩ := h
  rw [Vals.ref1 r]
  obtain ⟨o, es, ep, t, ho, hex, hd, _, _, _, small, fits, hn, _⟩ := setO_get I ha
  have lim : es.size < 2 ^ 62 := Nat.lt_trans small (by unfold scanBound; decide)
  refine call_len_set ho hex hd fits (by omega) ⟨.int n, H, (I.tok _).tok _, ⟨_, by rw [hn]⟩, q⟩
/-- a turn of {k: e for ..}, k a tuple of ints and texts -/
def addT (tk tv : TE) : Addr → L2.St → Hp → (Hp → Prop) → Prop := fun D σ H Nx => tk σ H fun y H1 => tv σ H1 fun z H2 => ∃ (kvs : List (List Key × V)) (k : List Key) (b : Addr), y = .ref b ∧ H2 b = some (.tup (k.map kV)) ∧ H2 D = some (.dT kvs) ∧ kvs.length < sizeLine ∧
  Nx (upd H2 D (.dT (putK kvs k z)))
theorem pe_dcT {kx vx tg iter : Expr} {ifs : List Expr} {scope : Scope} {own : List (PySem.Str × Nat)} {pos : Pos} {wi : TI} {g : TG} {tt : TT} {tk tv : TE} (hu : X.A.units + 1 < cLine) (hc : X.calm = true) (hN : X.N.Nodup) (hi : PI X tg iter wi) (ok : BlkOk X.N X.env.scope scope own)
    (hg : ∀ (s : Shared) (H : Hp) (C : Addr) (cl : List (PySem.Str × Addr)) (fp : List Addr), PG (X.blk s H scope (compEnvC scope cl C X.env) fp) tg g)
    (ht : ∀ (s : Shared) (H : Hp) (C : Addr) (cl : List (PySem.Str × Addr)) (fp : List Addr), PTs (X.blk s H scope (compEnvC scope cl C X.env) fp) ifs tt)
    (hk : ∀ (s : Shared) (H : Hp) (C : Addr) (cl : List (PySem.Str × Addr)) (fp : List Addr), PE (X.blk s H scope (compEnvC scope cl C X.env) fp) kx tk)
    (he : ∀ (s : Shared) (H : Hp) (C : Addr) (cl : List (PySem.Str × Addr)) (fp : List Addr), PE (X.blk s H scope (compEnvC scope cl C X.env) fp) vx tv)
    (hs : ∀ x, foldedSetIterable iter X.env x = pure x := by intro _; rfl) :
    PE X (.DictComp kx vx [⟨tg, iter, ifs, 0⟩] scope pos) (tGather (fun _ => .dT []) wi g tt (addT tk tv) (own.map (·.2))) := by
  refine ⟨fun pins s σ H Q I h => ?_⟩
  rw [arm_eval_DictComp]
  refine gather_core (ob := { cls := .type "dict", data := .dict #[] }) (mk := newDict) (o0 := fun _ => .dT []) (add := addT tk tv)
    (Body := fun acc env R back s => match acc with
      | .ref D => wpAny (model X.prog X.w) X.A (eval kx env) (fun kv s4 => wpAny (model X.prog X.w) X.A (eval vx env) (fun vv s5 => wpAny (model X.prog X.w) X.A (dictSet D kv vv) (fun _ s6 => back s6) (notedBy (model X.prog X.w) X.A env fun e s' => R (.error e) s') s5)
          (notedBy (model X.prog X.w) X.A env fun e s' => R (.error e) s') s4) (notedBy (model X.prog X.w) X.A env fun e s' => R (.error e) s') s
      | _ => False)
    hc hN I hi ok rfl (fun A E s Q q => wpAny_newObj_type q) (fun h H hb => dt_empty h hb) (fun it D env R I turn n s => compLoop_anyD I turn n) (fun it acc env R s a b => codeAny_compStart_dict a b) hg ht ?_ hs h ?_
  · intro s H C cl fp D R Nx back pins' σ2 H3 s3 I3 q3 k
    refine thnF ((hk s H C cl fp).run _ s3 σ2 H3 _ I3 q3) fun z s4 ⟨yk, H4, I4, r4, q4⟩ => ?_
    refine thnF ((he s H C cl fp).run _ s4 σ2 H4 _ I4 q4) fun z2 s5 ⟨yv, H5, I5, r5, kvs, ks, b, ey, hb, hD, hz, nx⟩ => ?_
    subst ey
    cases (show z = Value.ref b from r4)
    obtain ⟨hl, hd, xs, rel, dd⟩ := dt_of I5.hok hD
    have hz' : xs.length ≤ sizeLine := by rw [← Paired.length rel]; exact hl
    have grown : (putK kvs ks yv).length ≤ sizeLine := by have := length_putK kvs ks yv; omega
    refine wpAny_dictSet_heap (hsz := hz') (show X.A.units < cLine by omega) (key_of I5.hok hb) dd fun h' dd' same => k _ _ ?_ nx
    obtain ⟨q, es, ep, hq, h2, h3, h4, _, h5⟩ := dd'
    refine d_write I5 (by rw [hD]; exact True.intro) same ⟨q, hq⟩ ⟨grown, hd, _, (rel.put ks hb r5).keeps fun c ys ec => ?_, q, es, ep, hq, h2, h3, h4, h5⟩
    rw [upd_ne (ne_of ec hD (fun z => nomatch z))]
    exact ec
  · intro D C s' m H' I' q hn ⟨f0, f1, f2, f3, f4, f5⟩
    exact ⟨m, hn, fun h'' sb => ⟨.ref D, H', I'.turned (t' := s'.toks) (fun b o hb e => (sb.2 b hb).trans e) f0 f1 f3 f4 f5, rfl, q⟩⟩
end
end L2

set_option Elab.async false
set_option maxRecDepth 100000
set_option maxHeartbeats 4000000
namespace L2
open PySem PySem.Spec PyProof.Rows
set_option linter.unusedVariables false
/-! sorted(d), d a dict whose keys are tuples of ints -/
def rSortDT (d : Nat) (B : Int) : List V → Hp → VK → Prop := fun vs H Q => ∃ (a : Addr) (kvs : List (List Key × V)) (nss : List (List Int)), vs = [V.ref a] ∧ Rd H a (.dT kvs) ∧ kvs.map (·.1) = nss.map (fun ns => ns.map Sum.inl) ∧ nss.length < 64 ∧
  (∀ ns ∈ nss, ns.length = d ∧ TS.Bd B ns) ∧
  ∀ (L : List (Addr × List Int)) (p : Addr), (L.map (·.2)).Perm nss → L.Pairwise (fun q r => TS.code B q.2 ≤ TS.code B r.2) → (∀ q ∈ L, H q.1 = some (.tup (q.2.map V.int))) → H p = none → Q (.ref p) (upd H p (.lst (L.map fun q => V.ref q.1)))
theorem inl_inj : ∀ {a b : List Int}, a.map (Sum.inl : Int → Key) = b.map Sum.inl → a = b
  | [], [], _ => rfl
  | x :: a, y :: b, e => by
    rw [List.map_cons, List.map_cons] at e
    injection e with e1 e2
    rw [Sum.inl.inj e1, inl_inj e2]
  | [], _ :: _, e => by cases e
  | _ :: _, [], e => by cases e
section
variable {X : Cx}
theorem cr_sortedDT {d : Nat} {B : Int} (hd1 : 1 ≤ d) (hc : X.calm = true) : CallR X (.builtin "sorted") (rSortDT d B) := by
  intro pins s σ H vs us Q I r h
  obtain ⟨a, kvs, nss, rfl, hR, hkeys, few, hB, q⟩ := h
  rw [Vals.ref1 r]
  obtain ⟨hz, notSys, ks, pairs, o, es, ep, ho, hx, hdt, rows, nd⟩ := (show ObjOk X.prog X.w H s.heap a (.dT kvs) from hR.ok I.hok)
  have l1 : es.size = ks.length := size_of_entries rows
  have l2 : kvs.length = ks.length := Paired.length pairs
  have l3 : kvs.length = nss.length := by have e := congrArg List.length hkeys; rwa [List.length_map, List.length_map] at e
  -- each row: its tuple, by number
  have row : ∀ (j : Nat) (x : List Key × Addr × Value), ks[j]? = some x → ∃ ns, nss[j]? = some ns ∧ H x.2.1 = some (.tup (ns.map V.int)) := fun j x hj => by
    have lt : j < kvs.length := by have := (List.getElem?_eq_some_iff.mp hj).1; omega
    obtain ⟨b, hb, e1, e2, _⟩ := paired_get pairs (List.getElem?_eq_getElem lt)
    rw [hj] at hb
    cases hb
    have e3 : (kvs.map (·.1))[j]? = some kvs[j].1 := by rw [List.getElem?_map, List.getElem?_eq_getElem lt]; rfl
    rw [hkeys, List.getElem?_map] at e3
    obtain ⟨ns, hns, e4⟩ := Option.map_eq_some_iff.mp e3
    refine ⟨ns, hns, ?_⟩
    rw [e2, ← e4, List.map_map]
    rfl
  refine Calls.call_function_entry kind_sorted plain_sorted entry_sorted (args_sorted1 _) ?_
  unfold Builtin.«sorted»
  refine wpAny_bind (m := checkCount "sorted" 1 1 _) (wpAny_pure ?_)
  refine wpAny_bind (PySem.W.kdu_collect (A := X.A.in1) (kdl_raw notSys hx hdt) (I.ok.hd hc) ho (by omega) fun h' tk acc kept its => ?_)
  have eq : acc.toList = ks.map fun x => Value.ref x.2.1 := by
    apply List.ext_getElem?
    intro j
    rw [List.getElem?_map]
    rcases Nat.lt_or_ge j ks.length with lt | ge
    · have hacc : j < acc.toList.length := by rw [Array.length_toList, its.1, l1]; exact lt
      obtain ⟨en, hen, hv⟩ := its.2 j acc.toList[j] (by rw [← Array.getElem?_toList]; exact List.getElem?_eq_getElem hacc)
      have qe := entry_at rows j
      rw [hen, List.getElem?_eq_getElem lt] at qe
      have e2 : en = entryOfKey (tupleKind (mixKind X.prog X.w)) ks[j] := Option.some.inj qe
      rw [List.getElem?_eq_getElem hacc, List.getElem?_eq_getElem lt, hv, e2]
      rfl
    · rw [List.getElem?_eq_none (by rw [Array.length_toList, its.1, l1]; exact ge), List.getElem?_eq_none ge]
      rfl
  have I1 : Inv X pins σ H { s with heap := h', toks := tk } := I.kept kept
  refine wpAny_bind (wpAny_newList ?_ (by rw [eq, List.length_map, sizeLine_eq]; omega))
  have made : (h'.push (seqObj "list" acc.toList.toArray 0)).get? h'.objs.size = some (seqObj "list" acc.toList.toArray 0) := Heap.get?_push_size _ rfl
  generalize hvs : acc.toList = vs at made eq ⊢
  have I2 : Inv X pins σ H { s with heap := h'.push (seqObj "list" vs.toArray 0), toks := tk } := I1.kept (t' := tk) fun b o e => Heap.get?_push_of_some _ e
  have tups : ∀ v ∈ vs, ∃ (b : Addr) (ns : List Int), v = .ref b ∧ ns ∈ nss ∧ H b = some (.tup (ns.map V.int)) ∧ TS.TupInts (h'.push (seqObj "list" vs.toArray 0)) v ns := fun v hv => by
    rw [eq] at hv
    obtain ⟨x, hx, rfl⟩ := List.mem_map.mp hv
    obtain ⟨j, hj⟩ := List.getElem?_of_mem hx
    obtain ⟨ns, h1, h2⟩ := row j x hj
    obtain ⟨_, ws, rv, it⟩ := (show ObjOk X.prog X.w H (h'.push (seqObj "list" vs.toArray 0)) x.2.1 (.tup (ns.map V.int)) from I2.hok _ _ h2)
    exact ⟨_, ns, rfl, List.mem_of_getElem? h1, h2, _, ws.toArray, rfl, it, by simpa using rv.ints⟩
  show wpAny _ _ _ _ _ { s with heap := h'.push (seqObj "list" vs.toArray 0), toks := tk }
  refine wpAny_bind (wpAny_holding (TS.call_sort_tups (d := d) (B := B) (s := { s with heap := h'.push (seqObj "list" vs.toArray 0), toks := tk }) made (by rw [eq, List.length_map]; omega) hd1 (fun v hv => ?_) fun out a1 a2 => ?_))
  · obtain ⟨b, ns, _, h1, _, h2⟩ := tups v hv
    exact ⟨ns, h2, (hB ns h1).1, (hB ns h1).2⟩
  obtain ⟨e', he'⟩ := sortedHeap_at (vs := vs) (out := out) made
  have kept2 : ∀ b u, h'.get? b = some u → (sortedHeap (h'.push (seqObj "list" vs.toArray 0)) h'.objs.size vs out).get? b = some u := fun b u e => by
    have hb : b < h'.objs.size := Heap.lt_size e
    rw [sortedHeap_old (Nat.ne_of_lt hb) (by rw [size_push']; exact Nat.lt_succ_of_lt hb)]
    exact Heap.get?_push_of_some _ e
  -- the rows that come out
  have L0 : ∀ ws : List Value, (∀ v ∈ ws, v ∈ vs) → ∃ L : List (Addr × List Int), ws = L.map (fun q => Value.ref q.1) ∧ L.map (·.2) = ws.map (TS.intsOf (h'.push (seqObj "list" vs.toArray 0))) ∧ ∀ q ∈ L, H q.1 = some (.tup (q.2.map V.int)) := by
    intro ws
    induction ws with
    | nil => intro _; exact ⟨[], rfl, rfl, fun q hq => by cases hq⟩
    | cons v ws ih =>
      intro hv
      obtain ⟨b, ns, e, _, h2, h3⟩ := tups v (hv v List.mem_cons_self)
      obtain ⟨L, e1, e2, e3⟩ := ih fun u hu => hv u (List.mem_cons_of_mem _ hu)
      refine ⟨(b, ns) :: L, by rw [List.map_cons, e, e1], by rw [List.map_cons, List.map_cons, e2, h3.ints], fun q hq => ?_⟩
      rcases List.mem_cons.mp hq with rfl | z
      · exact h2
      · exact e3 q z
  obtain ⟨L, e1, e2, e3⟩ := L0 out.toList fun v hv => a1.mem_iff.mp hv
  have lenL : (L.map fun q => V.ref q.1).length ≤ sizeLine := by
    have e4 := a1.length_eq
    rw [e1, eq, List.length_map, List.length_map] at e4
    rw [List.length_map, e4, sizeLine_eq]; omega
  refine wpAny_pure ⟨_, rfl, .ref h'.objs.size, upd H h'.objs.size (.lst (L.map fun q => V.ref q.1)), I1.laid (t' := tk) kept2 (Nat.le_refl _)
    (show ObjOk X.prog X.w _ _ _ (.lst (L.map fun q => V.ref q.1)) from ⟨lenL, out.toList, e', by rw [e1]; exact vals_of_refs L, he'⟩), rfl, q L _ ?_ ?_ e3 (I1.hok.fresh (Nat.le_refl _))⟩
  · rw [e2]
    have all : ∀ F : Value → List Int, (∀ (j : Nat) (x : List Key × Addr × Value), ks[j]? = some x → nss[j]? = some (F (.ref x.2.1))) → vs.map F = nss := fun F hF => by
      rw [eq, List.map_map]
      apply List.ext_getElem?
      intro j
      rw [List.getElem?_map]
      cases hj : ks[j]? with
      | none => rw [List.getElem?_eq_none (by have := List.getElem?_eq_none_iff.mp hj; omega)]; rfl
      | some x => rw [hF j x hj]; rfl
    refine (a1.map _).trans (List.Perm.of_eq (all _ fun j x hj => ?_))
    obtain ⟨ns, h1, h2⟩ := row j x hj
    obtain ⟨_, ws, rv, it⟩ := (show ObjOk X.prog X.w H (h'.push (seqObj "list" vs.toArray 0)) x.2.1 (.tup (ns.map V.int)) from I2.hok _ _ h2)
    rw [h1]
    exact congrArg some (show TS.TupInts (h'.push (seqObj "list" vs.toArray 0)) (.ref x.2.1) ns from ⟨_, ws.toArray, rfl, it, by simpa using rv.ints⟩).ints.symm
  · rw [e1, List.pairwise_map] at a2
    have e5 : ∀ q ∈ L, TS.intsOf (h'.push (seqObj "list" vs.toArray 0)) (.ref q.1) = q.2 := fun q hq => by
      obtain ⟨_, ws, rv, it⟩ := (show ObjOk X.prog X.w H (h'.push (seqObj "list" vs.toArray 0)) q.1 (.tup (q.2.map V.int)) from I2.hok _ _ (e3 q hq))
      exact (show TS.TupInts (h'.push (seqObj "list" vs.toArray 0)) (.ref q.1) q.2 from ⟨_, ws.toArray, rfl, it, by simpa using rv.ints⟩).ints
    refine List.Pairwise.imp_of_mem (fun {x y} hx hy hle => ?_) a2
    rw [← e5 x hx, ← e5 y hy]
    exact hle
end
end L2

set_option Elab.async false
set_option maxRecDepth 100000
set_option maxHeartbeats 4000000
namespace L2
open PySem PySem.Spec PyProof.Rows
set_option linter.unusedVariables false
/-! set(xs), xs a list of ints, as a set that can be sorted -/
section
variable {P : Program} {w : World} {A : Around} {E : Value → Shared → Prop} {s : Shared}
theorem set_of_list {l : Addr} {items : Array Value} (ns : List Int) {Q : Value → Shared → Prop} (hh : A.handled = none) (hl : s.heap.IsList l items) (hit : IntsAre items.toList ns) (hb : ns.length + 1 < scanBound)
    (h : ∀ (h' : Heap) (tk c : Nat), SetR w h' s.heap.objs.size (fun j => decide (j ∈ ns)) c → c ≤ ns.length → (∀ b o, s.heap.get? b = some o → h'.get? b = some o) → Q (.ref s.heap.objs.size) { s with heap := h', toks := tk }) :
    wpAny (model P w) A (call (.type "set") [.ref l]) Q E s := by
  have sizes : items.size = ns.length := by rw [← Array.length_toList]; exact IntsAre.length hit
  obtain ⟨c, tl, hmro⟩ := F.called_set.mro
  have hmade := F.called_set.made
  have hsub := F.called_set.sub
  refine wpAny_call (codeAny_of_tree ?_)
  show wpAny (model P w) _ (callAny (.type "set") _) _ _ s
  refine wpAny_pure ⟨Code.quiet_builtin _ (by decide +kernel), codeAny_builtin F.entry_type_call ?_⟩
  rw [Around.under_plain (weight_type_call_type "set" [.ref l] []) rfl]
  have h1 := F.called_set.notType
  have h2 := F.called_set.canCreate
  have hct := F.typeCall_set_1 (.ref l)
  repeat (any_goals (first | assumption | wp_step))
  refine codeAny_mono (code_set_led1 (.ref l) (E := E) (Q₁ := fun obj s₁ => obj = .ref s.heap.objs.size ∧ s₁ = { s with heap := s.heap.push (bareSet w) }) ⟨rfl, rfl⟩) fun r s₁ hr => ?_
  match r, hr with
  | .error e, hr => exact hr
  | .ok .next, hr | .ok .brk, hr | .ok .cont, hr => exact hr.elim
  | .ok (.ret obj), hr =>
    obtain ⟨rfl, rfl⟩ := hr
    have laid : (s.heap.push (bareSet w)).get? s.heap.objs.size = some (bareSet w) := Heap.get?_push_size _ rfl
    have hT : Shared.TypeIs { s with heap := s.heap.push (bareSet w) } (.ref s.heap.objs.size) "set" := ⟨_, laid, rfl⟩
    have hli := F.called_set.init.lookup
    have hbi := F.called_set.init.bind (.ref s.heap.objs.size)
    repeat (any_goals (first | assumption | wp_step))
    refine codeAny_mono (codeAny_call_builtin (R := wants (fun r s₂ => r = .none ∧ ∃ h' tk c, s₂ = { s with heap := h', toks := tk } ∧ SetR w h' s.heap.objs.size (fun j => decide (j ∈ ns)) c ∧ c ≤ ns.length ∧
        (∀ b o, s.heap.get? b = some o → h'.get? b = some o)) E) F.called_set.init.plain F.entry_set_init (check_set_init_1 hT ?_)) fun r₂ s₂ hr₂ => ?_
    · obtain ⟨⟨ocls, odict, odata, oslots⟩, hol, hcl, nl, hdl⟩ := hl
      simp only at hcl hdl
      subst hcl; subst hdl
      have lS : l < s.heap.objs.size := Heap.lt_size hol
      have hol' : (s.heap.push (bareSet w)).get? l = some { cls := .type "list", dict := odict, data := .seq items nl, slots := oslots } := Heap.get?_push_of_some _ hol
      have hsls := F.sub_list_set
      have hslf := F.sub_list_frozenset
      have hne : (Value.type "list" == Value.type "dict") = false := by decide
      have hl1 : (s.heap.push (bareSet w)).IsList l items := ⟨_, hol', rfl, nl, rfl⟩
      unfold Builtin.«set.__init__» noKeywords Builtin.Frozenset.updateFrom
      generalize hPI : pyIter = PI
      wp_walk
      subst hPI
      refine wpAny_pyIter_list hl1 ?_
      refine wpAny_bind (wpAny_runValue ?_)
      have hh3 : A.in1.in1.in1.handled = none := by simp [hh]
      have pz : (s.heap.push (bareSet w)).objs.size = s.heap.objs.size + 1 := Heap.size_push ..
      have hneI : l ≠ (s.heap.push (bareSet w)).objs.size := by rw [pz]; exact Nat.ne_of_lt (Nat.lt_succ_of_lt lS)
      have away : s.heap.objs.size ∉ [(s.heap.push (bareSet w)).objs.size, l] := by
        rw [pz]; simp only [List.mem_cons, List.not_mem_nil, or_false, not_or]
        exact ⟨Nat.ne_of_lt (Nat.lt_succ_self _), Nat.ne_of_gt lS⟩
      have hval : ∀ (i : Nat) (v : Value), items[i]? = some v → ∃ k t, ns[i]? = some k ∧ v = .int k t := fun i v hv => by
        have hi : i < ns.length := by rw [← sizes]; exact (Array.getElem?_eq_some_iff.mp hv).1
        obtain ⟨t, e⟩ := IntsAre.int_at hit i v (by rw [Array.getElem?_toList]; exact hv)
        refine ⟨ns[i], t, List.getElem?_eq_getElem hi, ?_⟩
        rw [e, List.getD_eq_getElem?_getD, List.getElem?_eq_getElem hi]
        rfl
      refine set_update_ints ((Walks.list hh3 _ l hneI items).toS) s.heap.objs.size away ns sizes hb hval (items.size - 0) 0 _ (by omega) (Nat.zero_le _) ⟨⟨_, Heap.get?_push_size _ rfl, rfl, rfl⟩, (hl1.push _)⟩ ⟨0, Nat.le_refl 0, setR_new_at (Heap.get?_push_of_some _ laid)⟩ ?_
      intro s' c' hm hc' hS'
      obtain ⟨h', g2, d', tk', os'⟩ := s'
      cases (hm.gens : g2 = s.gens); cases (hm.drawn : d' = s.drawn); cases (hm.os : os' = s.os)
      show wpAny (model P w) _ _ _ _ _
      refine wpAny_pure ?_
      show wpAny (model P w) _ (ret Value.none) _ _ _
      rw [sizes] at hc'
      refine wpAny_pure ⟨rfl, h', tk', c', rfl, hS', hc', fun b o e => ?_⟩
      have b0 : b < s.heap.objs.size := Heap.lt_size e
      have b2 : b ≠ (s.heap.push (bareSet w)).objs.size := by rw [pz]; exact Nat.ne_of_lt (Nat.lt_succ_of_lt b0)
      exact hm.heap b o (by simp only [List.mem_cons, List.not_mem_nil, or_false, not_or]; exact ⟨Nat.ne_of_lt b0, b2⟩) (Heap.get?_push_of_some _ (Heap.get?_push_of_some _ e))
    · match r₂, hr₂ with
      | .error e, hr₂ => exact hr₂
      | .ok .next, hr₂ | .ok .brk, hr₂ | .ok .cont, hr₂ => exact hr₂.elim
      | .ok (.ret r), hr₂ =>
        obtain ⟨rfl, h', tk, c', rfl, hS', hc', hk'⟩ := hr₂
        repeat (any_goals (first | assumption | wp_step))
        exact h _ _ _ hS' hc' hk'
end
section
variable {X : Cx}
/-- set(xs), xs a list of ints -/
def rSetOfI (K : PySem.W.Frag) (w : World) : List V → Hp → VK → Prop := fun vs H Q => ∃ (l : Addr) (ns : List Int), vs = [V.ref l] ∧ SqL K H l (ns.map V.int) ∧ ns.length ≤ 1000 ∧
  ∀ (a : Addr) (c : Nat), H a = none → c ≤ ns.length → Q (.ref a) (upd H a (SetO w a (fun j => decide (j ∈ ns)) c))
theorem cr_setOfI (hc : X.calm = true) : CallR X (.type "set") (rSetOfI X.K X.w) := by
  intro pins s σ H vs us Q I r h
  obtain ⟨l, ns, rfl, hl, few, q⟩ := h
  rw [Vals.ref1 r]
  obtain ⟨its, rv, pl, hz⟩ := I.list hl
  refine set_of_list ns (I.ok.hd hc) pl.isList (by simpa using rv.ints) (by unfold scanBound; omega) fun h' tk c R hle kept => ?_
  exact ⟨.ref s.heap.objs.size, upd H s.heap.objs.size (SetO X.w s.heap.objs.size (fun j => decide (j ∈ ns)) c), I.laid (t' := tk) kept (Nat.le_refl _) (setO_new R), rfl, q _ c (I.hok.fresh (Nat.le_refl _)) hle⟩
end
end L2

set_option Elab.async false
set_option maxRecDepth 100000
set_option maxHeartbeats 4000000
namespace L2
open PySem PySem.Spec PyProof.Rows
set_option linter.unusedVariables false
/-! d.clear() of a dict with tuple keys -/
def rClearT : V → List V → Hp → VK → Prop := fun x vs H Q => ∃ (a : Addr) (kvs : List (List Key × V)), x = .ref a ∧ vs = [] ∧ H a = some (.dT kvs) ∧ Q .non (upd H a (.dT []))
theorem mt_clearT {X : Cx} : MtR X "dict.clear" rClearT := by
  intro pins s σ H x vs v us Q I rx rv h
  obtain ⟨a, kvs, ex, ev, e, q⟩ := h
  subst ex
  subst ev
  obtain rfl : v = Value.ref a := rx
  have hus := rv.zero
  subst hus
  obtain ⟨hz, notSys, ks, pairs, o, es, ep, ho, hx, hdt, rows, nd⟩ := (show ObjOk X.prog X.w H s.heap a (.dT kvs) from I.hok a _ e)
  have l1 : es.size = ks.length := size_of_entries rows
  have l2 : kvs.length = ks.length := Paired.length pairs
  have raw : s.heap.DictRaw a es ep := ⟨o, ho, hx, hdt⟩
  refine call_meetsIn PySem.F.slot_dict_clear raw.typeIs PySem.F.entry_dict_clear (PySem.F.args_dict_clear_1 _) (meets_dict_clear_raw a) ⟨es, ep, raw, by omega, fun h' dd' hs => ?_⟩
  obtain ⟨o', h1, h2, h3⟩ := dd'
  refine ⟨.non, _, d_write (ob := .dT []) (t' := s.toks) I (by rw [e]; exact True.intro) hs ⟨o', h1⟩ ⟨Nat.zero_le _, notSys, [], .nil, o', #[], ep + 1, h1, h2, h3, rfl, List.nodup_nil⟩, rfl, q⟩
end L2

set_option Elab.async false
set_option maxRecDepth 100000
set_option maxHeartbeats 4000000
namespace L2
open PySem PySem.Spec PyProof.Rows PpSet
set_option linter.unusedVariables false
/-! a display with tuples as keys -/
/-- the pairs that were made, as keys and values -/
abbrev PDt (H : Hp) : List (V × V) → List (List Key × V) → Prop := Paired fun p q => (∃ b, p.1 = .ref b ∧ H b = some (.tup (q.1.map kV))) ∧ p.2 = q.2
def mergeT (kvs more : List (List Key × V)) : List (List Key × V) := more.foldl (fun acc kv => putK acc kv.1 kv.2) kvs
theorem length_mergeT : ∀ (more kvs : List (List Key × V)), (mergeT kvs more).length ≤ kvs.length + more.length
  | [], kvs => by show kvs.length ≤ kvs.length + 0; omega
  | p :: r, kvs => by
    have a := length_mergeT r (putK kvs p.1 p.2)
    have b := length_putK kvs p.1 p.2
    show (mergeT (putK kvs p.1 p.2) r).length ≤ _
    rw [List.length_cons]; omega
theorem KT.merge {H : Hp} : ∀ {more : List (List Key × V)} {rs : List (List Key × Addr × Value)} {kvs : List (List Key × V)} {xs : List (List Key × Addr × Value)}, KT H more rs → KT H kvs xs → KT H (mergeT kvs more) (storedAllH xs rs) := by
  intro more rs kvs xs r
  unfold KT at r
  induction r generalizing kvs xs with
  | nil => intro q; exact q
  | @cons p q ps qs h t ih =>
    intro r0
    have e : KT H (putK kvs p.1 p.2) (storedH xs q.1 q.2.1 q.2.2) := by
      rw [← h.1]
      exact r0.put p.1 h.2.1 h.2.2
    exact ih e
theorem carriesT_of {P : Program} {w : World} {H : Hp} {h : Heap} (ok : HOk P w H h) : ∀ {ps : List (V × V)} {kvs : List (List Key × V)} {ws : List (Value × Value)}, VV ps ws → PDt H ps kvs → ∃ rs, CarriesH (tupleKind (mixKind P w)) h ws rs ∧ KT H kvs rs := by
  intro ps kvs ws r
  induction r generalizing kvs with
  | nil =>
    intro q
    cases q
    exact ⟨[], True.intro, .nil⟩
  | @cons p v ps vs hv t ih =>
    intro q
    cases q with
    | @cons _ kv _ kvs hk tk =>
      obtain ⟨rs, c, z⟩ := ih tk
      obtain ⟨⟨b, e1, hb⟩, e2⟩ := hk
      obtain ⟨v1, v2⟩ := v
      obtain ⟨r1, r2⟩ := hv
      rw [e1] at r1
      cases (show v1 = Value.ref b from r1)
      exact ⟨(kv.1, b, v2) :: rs, ⟨rfl, rfl, key_of ok hb, c⟩, .cons ⟨rfl, hb, e2 ▸ r2⟩ z⟩
/-- {(a, b): v, ..}; the new dict stands empty while the pairs are made -/
def tDispT (trs : List (TE × TE)) : TE := fun σ H Q => ∀ p, H p = none → tPairs trs σ (upd H p (.dT [])) fun ps H2 => H2 p = some (.dT []) ∧ ∃ kvs : List (List Key × V), PDt H2 ps kvs ∧ kvs.length ≤ 15 ∧ Q (.ref p) (upd H2 p (.dT (mergeT [] kvs)))
theorem pe_dispT {X : Cx} {pos : Pos} {keys : List (Option Expr)} {values : List Expr} {trs : List (TE × TE)} (hu : X.A.units + 1 < cLine) (h : PPs X pos keys values trs) (hall : keys.all (·.isSome) = true) (hl : keys.length = values.length) (h0 : keys ≠ [])
    (h15 : keys.length ≤ 15) : PE X (.Dict keys values pos) (tDispT trs) := by
  refine ⟨fun pins s σ H Q I q => ?_⟩
  have hn := I.hok.fresh (Nat.le_refl s.heap.objs.size)
  have I1 := I.laid (a := s.heap.objs.size) (o := .dT []) (h' := s.heap.push { cls := .type "dict", data := .dict #[] }) (t' := s.toks) (fun _ _ q => Heap.get?_push_of_some _ q) (Nat.le_refl _) (dt_empty s.heap I.big)
  have hlen := pairTrees_length keys values X.env pos hall hl
  have hne : pairTrees keys values X.env pos ≠ [] := fun he => by
    rw [he] at hlen
    exact h0 (List.length_eq_zero_iff.mp hlen.symm)
  rw [arm_eval_Dict, zip_pairTrees keys values X.env pos hall hl, dictDisplay_pairs _ hne (by omega)]
  refine wpAny_bind (wpAny_standAt (wpAny_bind (wpAny_subDictH (knd := tupleKind (mixKind X.prog X.w)) (show X.A.units < cLine by omega) (by omega) (thn (h.run pins _ σ _ _ I1 (q _ hn)) fun ws s2 ⟨ps, H2, I2, rel, e, kvs, pt, lk, q2⟩ => ?_))))
  obtain ⟨rs, c, rk⟩ := carriesT_of I2.hok rel pt
  obtain ⟨z, hd, vs0, r0, dd⟩ := dt_of I2.hok e
  cases r0
  refine ⟨rs, c, dd, fun h' tk dd' hs => wpAny_pure ⟨.ref s.heap.objs.size, _, ?_, rfl, q2⟩⟩
  have hz : (mergeT [] kvs).length ≤ sizeLine := by
    have h1 := length_mergeT kvs []
    rw [List.length_nil] at h1
    rw [sizeLine_eq]; omega
  obtain ⟨o, es, ep, ho, h2, h3, h4, _, h5⟩ := dd'
  refine d_write I2 (by rw [e]; exact True.intro) hs ⟨o, ho⟩ ⟨hz, hd, _, (rk.merge .nil).keeps fun c ys ec => ?_, o, es, ep, ho, h2, h3, h4, h5⟩
  rw [upd_ne (ne_of ec e (fun z => nomatch z))]
  exact ec
end L2

set_option Elab.async false
set_option maxRecDepth 100000
set_option maxHeartbeats 4000000
namespace L2
open PySem PySem.Spec PyProof.Rows
set_option linter.unusedVariables false
/-! t in s, s a set of tuples of ints that stands still -/
section
variable {P : Program} {w : World} {A : Around} {E : Value → Shared → Prop} {s : Shared}
variable {a : Addr} {L : List (Addr × List Int)} {es : Array (Int × Value)} {ep : Nat} {t : SetTable}
theorem nth_dummy (m : Nat) : ∀ (c : Nat) (q : SetTable.Probe), q.dummy = none → (nth m q c).dummy = none
  | 0, q, e => e
  | c + 1, q, e => nth_dummy m c (adv m q) (by unfold adv; split <;> exact e)
theorem seek {x : Addr} {k : List Int} (R : SetTR P w s.heap a L es ep t) (mine : IsT P w s.heap k x) (few : A.units < cLine) {end_ : Nat} {Q : SetFound → Shared → Prop}
    (ends : end_ < 10 * SetTable.turns t.mask) (free : way t.mask (thash P w k) end_ ∉ t.place.toList) (full : ∀ c, c < end_ → way t.mask (thash P w k) c ∈ t.place.toList)
    (yes : k ∈ L.map (·.2) → ∀ i, Q (.there (some i)) s) (no : k ∉ L.map (·.2) → ∀ j, Q (.free j false) s) :
    ∀ (fuel c : Nat) (at_ : Option SetTable.Probe), at_.getD (t.probeStart (thash P w k)) = nth t.mask (t.probeStart (thash P w k)) c → c ≤ end_ → end_ - c < fuel →
      (∀ (i : Nat) q, L[i]? = some q → q.2 = k → ∃ d, c ≤ d ∧ d < end_ ∧ t.place.toList[i]? = some (way t.mask (thash P w k) d)) →
      wpAny (model P w) A (setSearchFrom a (.ref x) (thash P w k) false fuel at_) Q E s := by
  intro fuel
  induction fuel with
  | zero => exact fun c at_ _ _ lt _ => absurd lt (Nat.not_lt_zero _)
  | succ n again =>
    intro c at_ here cle lt ahead
    obtain ⟨ob, got, exact_, dat⟩ := R.ob
    rw [setSearchFrom_succ]
    apply wpAny_bind
    apply wpAny_setState_of got dat R.fits
    dsimp only
    apply wp_if_neg R.gw
    try (apply wpAny_bind; apply wpAny_pure)
    have plain0 := nth_dummy t.mask c (t.probeStart (thash P w k)) rfl
    have join : ∀ d, nth t.mask (nth t.mask (t.probeStart (thash P w k)) c) d = nth t.mask (t.probeStart (thash P w k)) (c + d) := fun d => (nth_add t.mask c _ d).symm
    have spot : ∀ d, (nth t.mask (nth t.mask (t.probeStart (thash P w k)) c) d).j = way t.mask (thash P w k) (c + d) := fun d => congrArg (·.j) (join d)
    have hash_ : ∀ (i : Nat) q, L[i]? = some q → ((es[i]?.map (·.1)).getD 0) = thash P w q.2 := fun i q e => by
      rw [R.entry e] <;> rfl
    rcases go_spec t R.tab.ris R.tab.dm (fun i => (es[i]?.map (·.1)).getD 0) (thash P w k) (10 * SetTable.turns t.mask) (end_ - c) _ plain0 (by omega) (fun d lt => by rw [spot]; exact full _ (by omega)) (by rw [spot, Nat.add_sub_cancel' cle]; exact free) with ⟨d, i, dlt, at_i, hi, before, probe⟩ | ⟨before, probe⟩
    · rw [spot] at at_i probe
      rw [join] at probe
      have probe' : t.probe (fun i => (es[i]?.map (·.1)).getD 0) (thash P w k) (at_.getD (t.probeStart (thash P w k))) = some (.candidate (way t.mask (thash P w k) (c + d)) i (nth t.mask (t.probeStart (thash P w k)) (c + (d + 1)))) := by rw [here]; exact probe
      rw [probe']
      dsimp only
      have il : i < L.length := by
        have z1 := (List.getElem?_eq_some_iff.mp at_i).1
        have z2 := R.tab.sz
        rw [List.length_map] at z2
        rwa [Array.length_toList, z2] at z1
      obtain ⟨q, eq⟩ : ∃ q, L[i]? = some q := ⟨_, List.getElem?_eq_getElem il⟩
      have qm := List.mem_of_getElem? eq
      have inner : wpAny (model P w) A (searchRest a (.ref x) (thash P w k) false n es t (way t.mask (thash P w k) (c + d)) i (nth t.mask (t.probeStart (thash P w k)) (c + (d + 1)))) Q E s := by
        unfold searchRest
        rw [R.entry eq]
        dsimp only
        apply wpAny_bind
        apply wpAny_holding
        apply wpAny_eqBool_tuple few (R.tup q qm) mine
        apply wpAny_bind
        apply wpAny_setState_of got dat R.fits
        dsimp only
        apply wp_if_neg (by simp)
        try (apply wpAny_bind; apply wpAny_pure)
        rw [sameMem]
        dsimp only
        have live := slot_live R.tab.ris at_i
        simp only [if_true, live, R.entry eq]
        apply wpAny_bind
        apply wpAny_isSame_ref_self
        apply wpAny_bind
        apply wpAny_pure
        simp only [if_true]
        by_cases same : q.2 = k
        · apply wp_if_pos (by simp [same])
          exact wpAny_pure (yes (List.mem_map.mpr ⟨q, qm, same⟩) i)
        · apply wp_if_neg (by simp [same])
          apply again (c + (d + 1)) _ rfl (by omega) (by omega)
          intro i0 q0 e0 k0
          obtain ⟨d', l1, l2, l3⟩ := ahead i0 q0 e0 k0
          refine ⟨d', ?_, l2, l3⟩
          by_cases z : d' < c + d
          · refine absurd ((hash_ i0 q0 e0).trans (congrArg (thash P w) k0)) (before (d' - c) i0 (by omega) ?_)
            rw [spot, Nat.add_sub_cancel' l1]
            exact l3
          · by_cases y : d' = c + d
            · exfalso
              rw [y] at l3
              have live0 := slot_live R.tab.ris l3
              rw [live] at live0
              injection live0 with live0
              rw [← live0, eq] at e0
              cases e0
              exact same k0
            · omega
      by_cases led : t.led = true
      · apply wp_if_neg (by simp [led])
        try (apply wpAny_bind; apply wpAny_pure)
        exact inner
      · apply wp_if_pos (by simp [led])
        apply wpAny_bind
        apply seen_tup mine
        · intro y hy
          obtain ⟨e, me, rfl⟩ := List.mem_map.mp hy
          have me1 : e ∈ es.toList := (show e ∈ es ∧ _ by simpa using me).1.val
          rw [R.rows] at me1
          obtain ⟨q2, m2, rfl⟩ := List.mem_map.mp me1
          exact ⟨q2.2, q2.1, rfl, R.tup q2 m2⟩
        · apply wp_if_neg (by decide)
          try (apply wpAny_bind; apply wpAny_pure)
          exact inner
    · have probe' : t.probe (fun i => (es[i]?.map (·.1)).getD 0) (thash P w k) (at_.getD (t.probeStart (thash P w k))) = some (.empty (nth t.mask (nth t.mask (t.probeStart (thash P w k)) c) (end_ - c)).j none) := by rw [here]; exact probe
      rw [probe']
      dsimp only
      apply wpAny_pure
      apply no
      intro hm
      obtain ⟨q0, m0, k0⟩ := List.mem_map.mp hm
      obtain ⟨i0, e0⟩ := List.getElem?_of_mem m0
      obtain ⟨d', l1, l2, l3⟩ := ahead i0 q0 e0 k0
      refine before (d' - c) i0 (by omega) ?_ ((hash_ i0 q0 e0).trans (congrArg (thash P w) k0))
      rw [spot, Nat.add_sub_cancel' l1]
      exact l3
theorem seek_all {x : Addr} {k : List Int} (R : SetTR P w s.heap a L es ep t) (mine : IsT P w s.heap k x) (few : A.units < cLine) {Q : SetFound → Shared → Prop}
    (yes : k ∈ L.map (·.2) → ∀ i, Q (.there (some i)) s) (no : k ∉ L.map (·.2) → ∀ j, Q (.free j false) s) : wpAny (model P w) A (setSearch a (.ref x) (thash P w k)) Q E s := by
  have room := R.room
  obtain ⟨end_, ends, free, full⟩ := R.tab.first (by rw [List.length_map]; omega) (thash P w k)
  have turns : 10 * SetTable.turns t.mask ≤ 1420 := by
    unfold SetTable.turns
    rcases R.tab.mok with z | z | z <;> omega
  unfold setSearch
  apply seek R mine few ends free full yes no 100000 0 none rfl (Nat.zero_le _) (by omega)
  intro i q e hk
  have e' : (L.map fun p => thash P w p.2)[i]? = some (thash P w k) := by rw [List.getElem?_map, e, ← hk] <;> rfl
  have il : i < t.place.toList.length := by
    have z1 := (List.getElem?_eq_some_iff.mp e).1
    have z2 := R.tab.sz
    rw [List.length_map] at z2
    rw [Array.length_toList]
    omega
  obtain ⟨d, dlt, de⟩ := R.tab.before free e' (List.getElem?_eq_getElem il)
  exact ⟨d, Nat.zero_le _, dlt, by rw [List.getElem?_eq_getElem il, de]⟩
theorem find_tup {x : Addr} {k : List Int} (R : SetTR P w s.heap a L es ep t) (mine : IsT P w s.heap k x) (few : A.units < cLine) {Q : Option Nat → Shared → Prop} (h : ∀ r : Option Nat, r.isSome = decide (k ∈ L.map (·.2)) → Q r s) :
    wpAny (model P w) A (setFind a (.ref x) (thash P w k)) Q E s := by
  obtain ⟨ob, got, exact_, dat⟩ := R.ob
  unfold setFind setFindIn
  apply wpAny_bind
  apply wpAny_setState_of got dat R.fits
  dsimp only
  apply wp_if_neg (by simp [byScan, Value.scannable])
  try (apply wpAny_bind; apply wpAny_pure)
  apply wpAny_bind
  apply seek_all R mine few
  · intro m i
    exact wpAny_pure (h (some i) (by rw [decide_eq_true m]; rfl))
  · intro m j
    exact wpAny_pure (h none (by rw [decide_eq_false m]; rfl))
theorem holds_tup (neg : Bool) {x : Addr} {k : List Int} (R : SetTR P w s.heap a L es ep t) (mine : IsT P w s.heap k x) (few : A.units + 64 < cLine) {Q : Value → Shared → Prop} (h : ∀ tk, Q (.bool (if neg = true then !decide (k ∈ L.map (·.2)) else decide (k ∈ L.map (·.2)))) { s with toks := tk }) :
    wpAny (model P w) A (compareOp (if neg = true then .NotIn else .In) (.ref x) (.ref a)) Q E s := by
  have isSet : s.TypeIs (.ref a) "set" := by
    obtain ⟨ob, got, exact_, _⟩ := R.ob
    exact ⟨ob, got, exact_.1⟩
  have core : ∀ {Q' : Bool → Shared → Prop}, (∀ tk, Q' (decide (k ∈ L.map (·.2))) { s with toks := tk }) → wpAny (model P w) A (contains (.ref a) (.ref x)) Q' E s := by
    intro Q' h'
    unfold contains
    try with_reducible apply wpAny_holding
    apply wpAny_bind
    apply wpAny_specialOf isSet F.slot_set_contains.lookup
    show wpAny _ _ (if (some (Value.builtin "set.__contains__") == some Value.none) = true then _ else _) _ E s
    rw [if_neg (by rw [beq_builtin_none]; decide)]
    apply wpAny_bind
    apply wpAny_callSpecialUnlessNone?_slot (name := Str.ofString "__contains__") isSet F.slot_set_contains
    apply wpAny_call_entry F.slot_set_contains isSet entry_set_contains ?_ (F.args_set_contains_2 _ _)
    unfold Builtin.«frozenset.__contains__» Builtin.Frozenset.oneOther
    simp only [List.isEmpty_nil, bind_assoc]
    unfold Builtin.Frozenset.addrOf Builtin.Frozenset.withSetAsKey setContains
    apply wpAny_bind
    apply wpAny_pure
    try dsimp only
    apply wpAny_bind
    apply wpAny_pure
    try dsimp only
    apply wpAny_bind
    apply wpAny_tryCatch
    apply wpAny_holding
    apply wpAny_bind
    apply wpAny_pyHash_tuple ?_ mine
    apply wpAny_bind
    apply find_tup (s := { s with toks := s.toks + (k.length + 1) }) R mine ?_
    · intro r er
      apply wpAny_pure
      show wpAny _ _ (ret (Value.bool r.isSome)) _ _ _
      rw [er]
      exact wpAny_pure ⟨_, rfl, wpAny_truthy_bool (h' _)⟩
    all_goals (show A.units + 1 < cLine; omega)
  cases neg with
  | true =>
    show wpAny _ _ (do return .bool (!(← contains (.ref a) (.ref x)))) Q E s
    apply wpAny_bind
    exact core fun tk => wpAny_pure (h tk)
  | false =>
    show wpAny _ _ (do return .bool (← contains (.ref a) (.ref x))) Q E s
    apply wpAny_bind
    exact core fun tk => wpAny_pure (h tk)
end
section
variable {X : Cx}
/-- x in s, s a set of tuples of ints -/
def rInSetT (neg : Bool) (K : PySem.W.Frag) (P : Program) (w : World) : R2 := fun x y H Q => ∃ (b a : Addr) (k : List Int) (L : List (Addr × List Int)), x = .ref b ∧ y = .ref a ∧ SqT K H b (k.map V.int) ∧ H a = some (SetTO P w a L) ∧ (∀ q ∈ L, SqT K H q.1 (q.2.map V.int)) ∧ Q (.bl (if neg = true then !decide (k ∈ L.map (·.2)) else decide (k ∈ L.map (·.2)))) H
theorem or_setT (neg : Bool) (hu : X.A.units + 64 < cLine) : OpR X (compareOp (if neg = true then .NotIn else .In)) (rInSetT neg X.K X.prog X.w) := by
  intro pins s σ H x y v u Q I rx ry h
  obtain ⟨b, a, k, L, rfl, rfl, tup, isSet, rows, q⟩ := h
  cases rx
  cases ry
  have R0 : SetT0 X.prog X.w s.heap a L := (I.hok a _ isSet).1
  obtain ⟨es, ep, t, R⟩ := R0.full fun p hp => I.isT (rows p hp)
  exact holds_tup neg R (I.isT tup) hu fun tk => ⟨.bl _, H, I.tok tk, rfl, q⟩
theorem op_inSetT (hu : X.A.units + 64 < cLine) : OpR X (compareOp .In) (rInSetT false X.K X.prog X.w) := or_setT false hu
theorem op_notInSetT (hu : X.A.units + 64 < cLine) : OpR X (compareOp .NotIn) (rInSetT true X.K X.prog X.w) := or_setT true hu
end
end L2

set_option Elab.async false
set_option maxRecDepth 100000
set_option maxHeartbeats 4000000
namespace L2
open PySem PySem.Spec PyProof.Rows
set_option linter.unusedVariables false
/-! data in which dicts with tuple keys may stand -/
def keyD1 : Key → PyData
  | .inl i => .int i
  | .inr s => .str s
def keyD (k : List Key) : PyData := .tuple (k.map keyD1)
mutual
inductive DX (K : PySem.W.Frag) (H : Hp) : V → PyData → Prop
  | flat {v : V} {d : PyData} : Dp K H v d → d.hasDict = false → DX K H v d
  | lst {a : Addr} {xs : List V} {ds : List PyData} : SqL K H a xs → DXs K H xs ds → DX K H (.ref a) (.list ds)
  | tup {a : Addr} {xs : List V} {ds : List PyData} : SqT K H a xs → DXs K H xs ds → DX K H (.ref a) (.tuple ds)
  | dic {a : Addr} {kvs : List (List Key × V)} {vs : List V} {ds : List PyData} {es : List (PyData × PyData)} : H a = some (.dT kvs) → vs = kvs.map (·.2) → DXs K H vs ds → es.map (·.1) = kvs.map (fun kv => keyD kv.1) → es.map (·.2) = ds → DX K H (.ref a) (.dict es)
inductive DXs (K : PySem.W.Frag) (H : Hp) : List V → List PyData → Prop
  | nil : DXs K H [] []
  | cons {v : V} {vs : List V} {d : PyData} {ds : List PyData} : DX K H v d → DXs K H vs ds → DXs K H (v :: vs) (d :: ds)
end
theorem keyD1_dp {K : PySem.W.Frag} {H : Hp} : ∀ k : List Key, DpAll K H (k.map kV) (k.map keyD1)
  | [] => .nil
  | .inl i :: k => .cons (.int i) (keyD1_dp k)
  | .inr s :: k => .cons (.str s) (keyD1_dp k)
theorem keyD1_no : ∀ k : List Key, PyData.hasDictAll (k.map keyD1) = false
  | [] => rfl
  | .inl i :: k => by
    show (false || PyData.hasDictAll (k.map keyD1)) = false
    rw [keyD1_no k]
    rfl
  | .inr s :: k => by
    show (false || PyData.hasDictAll (k.map keyD1)) = false
    rw [keyD1_no k]
    rfl
section
variable {X : Cx} {pins : List (Addr × Obj)} {σ : L2.St} {H : Hp} {s : Shared}
/-- what may be shown of a value -/
def Shw (P : Program) (w : World) (h : Heap) (u : Value) (d : PyData) : Prop := (∃ as, Reads h u d as) ∧ (d.showable = true → d.shown.length ≤ sizeLine → ∃ bs, ReadAtMost h d.depth bs ∧ ReprK P w bs h d.depth u d.shown)
def ShwS (P : Program) (w : World) (h : Heap) (us : List Value) (ds : List PyData) : Prop := (∃ as, ReadsAll h us ds as) ∧ (PyData.showableAll ds = true → (∀ t ∈ PyData.shownAll ds, t.length ≤ sizeLine) → ∃ bs, ReadAtMost h (PyData.depthAll ds) bs ∧ ReprAllK P w bs h (PyData.depthAll ds) us (PyData.shownAll ds))
theorem shw_nil {P : Program} {w : World} {h : Heap} : ShwS P w h [] [] := ⟨⟨_, .nil⟩, fun _ _ => ⟨[], fun _ m => (nomatch m), by rw [PyData.shownAll]; exact .nil⟩⟩
theorem shw_cons {P : Program} {w : World} {h : Heap} {u : Value} {us : List Value} {d : PyData} {ds : List PyData} (a : Shw P w h u d) (b : ShwS P w h us ds) : ShwS P w h (u :: us) (d :: ds) := by
  obtain ⟨⟨as, ra⟩, ga⟩ := a
  obtain ⟨⟨bs, rb⟩, gb⟩ := b
  refine ⟨⟨_, .cons ra rb⟩, fun hs hz => ?_⟩
  rw [PyData.showableAll, Bool.and_eq_true] at hs
  rw [PyData.shownAll] at hz
  obtain ⟨p, p1, p2⟩ := ga hs.1 (hz _ List.mem_cons_self)
  obtain ⟨q, q1, q2⟩ := gb hs.2 fun t m => hz t (List.mem_cons_of_mem _ m)
  rw [PyData.depthAll, PyData.shownAll]
  exact ⟨p ++ q, (p1.mono (Nat.le_max_left _ _)).append (q1.mono (Nat.le_max_right _ _)), .cons ((p2.more fun _ m => List.mem_append_left _ m).level_le (Nat.le_max_left _ _)) (q2.more_le (fun _ m => List.mem_append_right _ m) (Nat.le_max_right _ _))⟩
theorem shw_seq {P : Program} {w : World} {h : Heap} {u : Value} {d : PyData} {as : List Addr} (r : Reads h u d as) (n : d.hasDict = false) : Shw P w h u d := ⟨⟨as, r⟩, fun hs hz => ReprK.of_reads r hs (PyData.noDict_hsm n) hz⟩
theorem shw_lst {P : Program} {w : World} {h : Heap} {a : Addr} {o : Obj} {its : Array Value} {n : Nat} {ds : List PyData} (ha : h.get? a = some o) (hc : o.cls = .type "list") (hd : o.data = .seq its n) (g : ShwS P w h its.toList ds) : Shw P w h (.ref a) (.list ds) := by
  obtain ⟨⟨as, ra⟩, g⟩ := g
  have rd : Reads h (.ref a) (.list ds) _ := .list ha hc hd ra
  refine ⟨⟨_, rd⟩, fun hs hz => ?_⟩
  rw [PyData.showable] at hs
  rw [PyData.shown] at hz ⊢
  obtain ⟨bs, b1, b2⟩ := g hs fun t m => Nat.le_trans (listText_mem_le m) hz
  have out : a ∉ bs := not_mem_of_deeper rd (by rw [PyData.depth]; omega) b1
  refine ⟨a :: bs, b1.cons rd (by rw [PyData.depth]; omega), ?_⟩
  rw [PyData.depth]
  obtain ⟨l⟩ := its
  cases l with
  | nil =>
    cases ra
    rw [PyData.shownAll, listText_nil]
    exact .listEmpty ha hc hd
  | cons x l => exact .list ha hc hd out (by simpa using b2.length_eq) fun i y e => b2.item i y (by simpa using e)
theorem shw_tup {P : Program} {w : World} {h : Heap} {a : Addr} {o : Obj} {its : Array Value} {n : Nat} {ds : List PyData} (ha : h.get? a = some o) (hc : o.cls = .type "tuple") (hd : o.data = .seq its n) (g : ShwS P w h its.toList ds) : Shw P w h (.ref a) (.tuple ds) := by
  obtain ⟨⟨as, ra⟩, g⟩ := g
  have rd : Reads h (.ref a) (.tuple ds) _ := .tuple ha hc hd ra
  refine ⟨⟨_, rd⟩, fun hs hz => ?_⟩
  rw [PyData.showable] at hs
  rw [PyData.shown] at hz ⊢
  obtain ⟨bs, b1, b2⟩ := g hs fun t m => Nat.le_trans (tupleText_mem_le m) hz
  refine ⟨a :: bs, b1.cons rd (by rw [PyData.depth]; omega), ?_⟩
  rw [PyData.depth]
  exact .tuple ha hc hd (not_mem_of_deeper rd (by rw [PyData.depth]; omega) b1) b2
theorem shw_dic {P : Program} {w : World} {h : Heap} {a : Addr} {o : Obj} {es : Array DictEntry} {n : Nat} {kvs : List (PyData × PyData)} (ha : h.get? a = some o) (hc : o.cls = .type "dict") (hd : o.data = .dict es n) (hy : (a == sysModules) = false) (gk : ShwS P w h (es.toList.map (·.key)) (kvs.map (·.1))) (gv : ShwS P w h (es.toList.map (·.val)) (kvs.map (·.2))) : Shw P w h (.ref a) (.dict kvs) := by
  obtain ⟨⟨as, ra⟩, gk⟩ := gk
  obtain ⟨⟨bs, rb⟩, gv⟩ := gv
  have rd : Reads h (.ref a) (.dict kvs) _ := .dict ha hc hd ra rb
  refine ⟨⟨_, rd⟩, fun hs hz => ?_⟩
  rw [PyData.showable] at hs
  rw [PyData.shown] at hz ⊢
  obtain ⟨s1, s2⟩ := PyData.showableKv_split kvs hs
  obtain ⟨p, p1, p2⟩ := gk s1 fun t m => by
    obtain ⟨x, x1, x2⟩ := PyData.shownKv_key_le kvs t m
    exact Nat.le_trans x2 (Nat.le_trans (dictText_mem_le x1) hz)
  obtain ⟨q, q1, q2⟩ := gv s2 fun t m => by
    obtain ⟨x, x1, x2⟩ := PyData.shownKv_val_le kvs t m
    exact Nat.le_trans x2 (Nat.le_trans (dictText_mem_le x1) hz)
  have pq : ReadAtMost h (PyData.depthKv kvs) (p ++ q) := (p1.mono (PyData.depthAll_keys_le kvs)).append (q1.mono (PyData.depthAll_vals_le kvs))
  refine ⟨a :: (p ++ q), pq.cons rd (by rw [PyData.depth]; omega), ?_⟩
  rw [PyData.depth, PyData.shownKv_eq]
  exact .dict ha hc hd hy (not_mem_of_deeper rd (by rw [PyData.depth]; omega) pq) (.of_two es.toList _ _ (p2.more_le (fun _ m => List.mem_append_left _ m) (PyData.depthAll_keys_le kvs)) (q2.more_le (fun _ m => List.mem_append_right _ m) (PyData.depthAll_vals_le kvs)))
theorem dpAll_shw (I : Inv X pins σ H s) : ∀ (ds : List PyData) (vs : List V) (us : List Value), DpAll X.K H vs ds → Vals vs us → PyData.hasDictAll ds = false → ShwS X.prog X.w s.heap us ds
  | [], _, _, h, r, _ => by
    cases h
    cases r
    exact shw_nil
  | d :: ds, _, _, h, r, n => by
    cases h with
    | cons h1 h2 =>
      cases r with
      | cons r1 r2 =>
        rw [PyData.hasDictAll, Bool.or_eq_false_iff] at n
        obtain ⟨as, q⟩ := Dp.reads I d _ _ h1 r1
        exact shw_cons (shw_seq q n.1) (dpAll_shw I ds _ _ h2 r2 n.2)
mutual
theorem DX.shw (I : Inv X pins σ H s) : ∀ {v : V} {d : PyData}, DX X.K H v d → ∀ u : Value, RelV v u → Shw X.prog X.w s.heap u d
  | _, _, .flat h n, u, r => by
    obtain ⟨as, q⟩ := Dp.reads I _ _ _ h r
    exact shw_seq q n
  | _, _, .lst hq g, u, r => by
    obtain rfl : u = Value.ref _ := r
    obtain ⟨its, rv, ⟨o, n, ho, hc, _, hd⟩, _⟩ := I.list hq
    exact shw_lst ho hc hd (DXs.shw I g its rv)
  | _, _, .tup hq g, u, r => by
    obtain rfl : u = Value.ref _ := r
    obtain ⟨its, rv, ⟨o, ho, hc, n, hd⟩, _⟩ := I.tuple hq
    exact shw_tup ho hc hd (DXs.shw I g its rv)
  | _, _, .dic (a := a) (kvs := kvs) (es := eds) ha ev g ek ed, u, r => by
    obtain rfl : u = Value.ref a := r
    obtain ⟨hz, hy, xs, pairs, o, es, ep, ho, hx, hdt, rows, nd⟩ := (show ObjOk X.prog X.w H s.heap a (.dT kvs) from I.hok _ _ ha)
    have hvals : Vals (kvs.map (·.2)) (es.toList.map (·.val)) := by
      rw [rows]
      clear rows nd g ev ek ha hz
      induction pairs with
      | nil => exact .nil
      | cons p _ ih => exact .cons p.2.2 ih
    have hkeys : ∀ (ks : List (List Key × V)) (ys : List (List Key × Addr × Value)), Paired (fun (p : List Key × V) (q : List Key × Addr × Value) => p.1 = q.1 ∧ H q.2.1 = some (.tup (p.1.map kV)) ∧ RelV p.2 q.2.2) ks ys → ShwS X.prog X.w s.heap ((ys.map (entryOfKey (tupleKind (mixKind X.prog X.w)))).map (·.key)) (ks.map fun kv => keyD kv.1) := fun ks ys p => by
      induction p with
      | nil => exact shw_nil
      | @cons k y ks ys p _ ih =>
        obtain ⟨as, q⟩ := Dp.reads I (keyD k.1) (.ref y.2.1) (.ref y.2.1) (.tup (SqT.of p.2.1) (keyD1_dp k.1)) rfl
        exact shw_cons (shw_seq q (by unfold keyD; rw [PyData.hasDict]; exact keyD1_no _)) ih
    refine shw_dic ho hx.1 hdt hy ?_ ?_
    · rw [ek, rows]
      exact hkeys kvs xs pairs
    · rw [ed]
      exact DXs.shw I g _ (ev ▸ hvals)
theorem DXs.shw (I : Inv X pins σ H s) : ∀ {vs : List V} {ds : List PyData}, DXs X.K H vs ds → ∀ us : List Value, Vals vs us → ShwS X.prog X.w s.heap us ds
  | _, _, .nil, us, r => by
    cases r
    exact shw_nil
  | _, _, .cons g gs, us, r => by
    cases r with
    | cons r1 r2 => exact shw_cons (DX.shw I g _ r1) (DXs.shw I gs _ r2)
end
/-- repr of a tuple in which dicts may stand -/
def rReprX (K : PySem.W.Frag) : List V → Hp → VK → Prop := fun xs H Q => ∃ (a : Addr) (vs : List V) (ds : List PyData), xs = [.ref a] ∧ SqT K H a vs ∧ DXs K H vs ds ∧ (PyData.tuple ds).showable = true ∧ (PyData.tuple ds).depth ≤ 40 ∧ (PyData.tuple ds).shown.length ≤ sizeLine ∧ Q (.str (PyData.tuple ds).shown) H
theorem call_reprX (hg : X.A.guards = some []) (hu : X.A.units + 64 < cLine) : CallR X (.builtin "repr") (rReprX X.K) := by
  intro pins s σ H xs us Q I r h
  obtain ⟨a, vs, ds, rfl, hq, g, hs, hd, hz, q⟩ := h
  obtain rfl := Vals.ref1 r
  obtain ⟨its, rv, ⟨o, ho, hc, n, hdd⟩, _⟩ := I.tuple hq
  obtain ⟨⟨as, ra⟩, gg⟩ := DXs.shw I g its rv
  have rd : Reads s.heap (.ref a) (.tuple ds) _ := .tuple ho hc hdd ra
  rw [PyData.showable] at hs
  rw [PyData.shown] at hz q
  rw [PyData.depth] at hd
  obtain ⟨bs, b1, b2⟩ := gg hs fun t m => Nat.le_trans (tupleText_mem_le m) hz
  have out : a ∉ bs := not_mem_of_deeper rd (by rw [PyData.depth]; omega) b1
  refine call_repr_slot (T := "tuple") (idr := "tuple.__repr__") (by omega) ⟨o, ho, hc⟩ F.slot_tuple_repr ?_
  exact call_tuple_reprK ho hc hdd out b2 (g := []) hg (fun b _ => Clear.nil b) (by show X.A.units + 1 + (PyData.depthAll ds + 1) < cLine; omega) (fun _ _ e => e) (fun h' u tk hk => ⟨_, _, rfl, .str _, H, I.kept (t' := tk) hk, ⟨_, rfl⟩, q⟩) hz
end
end L2

set_option Elab.async false
set_option maxRecDepth 100000
set_option maxHeartbeats 4000000
namespace L2
open PySem PySem.Spec PyProof.Rows
set_option linter.unusedVariables false
/-! dict(d) and d.pop(k) of a dict whose keys are pairs of small numbers -/
def hI (a b : Nat) : Int := reduceHash (Builtin.Tuple.tupleHashOf [hashInt ((a : Nat) : Int), hashInt ((b : Nat) : Int)])
theorem hI_all : ((List.range 400).map fun i => hI (i / 20) (i % 20)).Pairwise (· ≠ ·) := by decide +kernel
theorem hI_inj {a b c d : Nat} (ha : a < 20) (hb : b < 20) (hc : c < 20) (hd : d < 20) (h : hI a b = hI c d) : a = c ∧ b = d := by
  have key : ∀ {a b c d : Nat}, a < 20 → b < 20 → c < 20 → d < 20 → 20 * a + b < 20 * c + d → hI a b ≠ hI c d := fun {a b c d} ha hb hc hd hl => by
    have h1 := List.pairwise_iff_getElem.mp hI_all (20 * a + b) (20 * c + d) (by rw [List.length_map, List.length_range]; omega) (by rw [List.length_map, List.length_range]; omega) hl
    rw [List.getElem_map, List.getElem_map, List.getElem_range, List.getElem_range] at h1
    rw [show (20 * a + b) / 20 = a by omega, show (20 * a + b) % 20 = b by omega, show (20 * c + d) / 20 = c by omega, show (20 * c + d) % 20 = d by omega] at h1
    exact h1
  rcases Nat.lt_trichotomy (20 * a + b) (20 * c + d) with g | g | g
  · exact absurd h (key ha hb hc hd g)
  · omega
  · exact absurd h.symm (key hc hd ha hb g)
def smallK (k : List Key) : Prop := ∃ a b : Nat, a < 20 ∧ b < 20 ∧ k = [.inl (a : Int), .inl (b : Int)]
section
variable {prog : Program} {w : World} {A : Around} {E : Value → Shared → Prop} {s : Shared}
theorem smallK_hash {a b : Nat} : (tupleKind (mixKind prog w)).hash [.inl (a : Int), .inl (b : Int)] = hI a b := rfl
theorem small_nodup : ∀ {ks : List (List Key)}, (∀ k ∈ ks, smallK k) → ks.Nodup → (ks.map fun k => (tupleKind (mixKind prog w)).hash k).Nodup
  | [], _, _ => List.nodup_nil
  | k :: ks, h, n => by
    rw [List.nodup_cons] at n
    rw [List.map_cons, List.nodup_cons]
    refine ⟨fun m => ?_, small_nodup (fun x hx => h x (List.mem_cons_of_mem _ hx)) n.2⟩
    obtain ⟨k2, hk2, e⟩ := List.mem_map.mp m
    obtain ⟨a, b, ha, hb, rfl⟩ := h k List.mem_cons_self
    obtain ⟨c, d, hc, hd, rfl⟩ := h k2 (List.mem_cons_of_mem _ hk2)
    have e : hI c d = hI a b := e
    obtain ⟨rfl, rfl⟩ := hI_inj hc hd ha hb e
    exact n.1 hk2
theorem call_dictH {o : Addr} {more : List (List Key × Addr × Value)} {Q : Value → Shared → Prop} (hu : (tupleKind (mixKind prog w)).room A.in1.in1) (hoS : (o == sysModules) = false) (ho : s.heap.DictOfH (tupleKind (mixKind prog w)) o more) (hsz : more.length ≤ sizeLine)
    (hty : ∀ x ∈ more, s.TypeIs (.ref x.2.1) "tuple") (hap : (more.map fun x => (tupleKind (mixKind prog w)).hash x.1).Nodup)
    (h : ∀ h', h'.DictOfH (tupleKind (mixKind prog w)) s.heap.objs.size more → Heap.SameBut s.heap.objs.size (s.heap.push { cls := .type "dict", data := .dict #[] }) h' → Q (.ref s.heap.objs.size) { s with heap := h' }) :
    wpAny (model prog w) A (call (.type "dict") [.ref o]) Q E s := by
  refine callType_codes (Q₁ := fun obj s₁ => obj = .ref s.heap.objs.size ∧ s₁ = { s with heap := s.heap.push { cls := .type "dict", data := .dict #[] } }) F.kt_called_dict (F.kt_typeCall_dict_1 _) F.entry_dict_init (kt_code_dict_new _ ⟨rfl, rfl⟩) ?_
  rintro obj s₁ ⟨rfl, rfl⟩
  have hnew : (s.heap.push { cls := .type "dict", data := .dict #[] }).DictOfH (tupleKind (mixKind prog w)) s.heap.objs.size [] :=
    ⟨_, #[], 0, Heap.get?_push_size _ rfl, ⟨rfl, rfl, rfl⟩, rfl, rfl, (fun _ hx => nomatch hx), List.nodup_nil⟩
  have hdo : s.heap.objs.size ≠ o := by
    obtain ⟨_, _, _, hg, _⟩ := ho
    exact fun e => absurd (Heap.lt_size hg) (by rw [e]; exact Nat.lt_irrefl _)
  have ho' : (s.heap.push { cls := .type "dict", data := .dict #[] }).DictOfH (tupleKind (mixKind prog w)) o more := by
    obtain ⟨ob, es, ep, h1, h2, h3, h4, h5, h6⟩ := ho
    refine ⟨ob, es, ep, Heap.get?_push_of_some _ h1, h2, h3, h4, fun x hx => ?_, h6⟩
    obtain ⟨o1, its, n, q1, q2, q3, q4⟩ := (show IsTupleKey (mixKind prog w) s.heap x.1 x.2.1 from h5 x hx)
    exact ⟨o1, its, n, Heap.get?_push_of_some _ q1, q2, q3, q4⟩
  have hn : (more.map (·.1)).Nodup := ho.nodup
  have ty' : ∀ x ∈ more, ({ s with heap := s.heap.push { cls := .type "dict", data := .dict #[] } } : Shared).TypeIs (.ref x.2.1) "tuple" := fun x hx => by
    obtain ⟨o1, q1, q2⟩ := hty x hx
    exact ⟨o1, Heap.get?_push_of_some _ q1, q2⟩
  have hnt : ({ s with heap := s.heap.push { cls := .type "dict", data := .dict #[] } } : Shared).TypeIs (.ref s.heap.objs.size) "dict" := ⟨_, Heap.get?_push_size _ rfl, rfl⟩
  refine ⟨hnt, F.args_dict_init_2 _ _, ?_⟩
  unfold Builtin.«dict.__init__»
  refine wpAny_bind ?_
  unfold Builtin.Dict.selfAndRest
  refine wpAny_bind (wpAny_notOrdered_dict hnt ?_)
  show wpAny _ _ (pure (s.heap.objs.size, [Value.ref o])) _ _ _
  refine wpAny_pure ?_
  show wpAny _ _ (Builtin.Dict.updateFrom "dict.__init__" s.heap.objs.size (.ref o) [] .none) _ _ _
  unfold Builtin.Dict.updateFrom
  refine wpAny_bind (wpAny_typeOf (s := { s with heap := s.heap.push { cls := .type "dict", data := .dict #[] } }) ho'.typeIs ?_)
  rw [if_neg (by decide)]
  refine wpAny_bind ?_
  unfold Builtin.Dict.merge
  refine wpAny_bind ?_
  unfold Builtin.Dict.readDirectly
  refine wpAny_bind (wpAny_isInstance (s := { s with heap := s.heap.push { cls := .type "dict", data := .dict #[] } }) ho'.typeIs isSubtype_dict_dict ?_)
  simp only [Bool.not_true, Bool.false_eq_true, if_false]
  refine wpAny_bind (wpAny_specialOf (s := { s with heap := s.heap.push { cls := .type "dict", data := .dict #[] } }) ho'.typeIs F.slot_dict_iter.lookup (wpAny_pure ?_))
  simp only [beq_self_eq_true, if_true]
  refine wpAny_bind (wpAny_pure ?_)
  refine wpAny_mergeDict_heap (s := { s with heap := s.heap.push { cls := .type "dict", data := .dict #[] } }) (hsz := by simpa using hsz) hu hdo hoS hnew ho' (.inr ⟨ty', hap⟩) fun h' hd' _ hs' => ?_
  show wpAny _ _ (Builtin.Dict.addKeywords s.heap.objs.size [] >>= _) _ _ _
  rw [storedAllH_nil_of_nodup more hn] at hd'
  exact wpAny_bind (wpAny_pure (wpAny_pure ⟨rfl, h h' hd' hs'⟩))
end
/-- dict(d): a copy -/
def rDictT : List V → Hp → VK → Prop := fun xs H Q => ∃ (a : Addr) (kvs : List (List Key × V)), xs = [.ref a] ∧ Rd H a (.dT kvs) ∧ (∀ kv ∈ kvs, smallK kv.1) ∧ ∀ p, H p = none → Q (.ref p) (upd H p (.dT kvs))
theorem KT.keysEq {H : Hp} : ∀ {kvs : List (List Key × V)} {xs : List (List Key × Addr × Value)}, KT H kvs xs → xs.map (·.1) = kvs.map (·.1)
  | _, _, .nil => rfl
  | _, _, .cons h t => by
    rw [List.map_cons, List.map_cons, KT.keysEq t, h.1]
theorem call_dict_dT {X : Cx} (hu : X.A.units + 2 < cLine) : CallR X (.type "dict") rDictT := by
  intro pins s σ H xs us Q I r q
  obtain ⟨a, kvs, ex, hd, hk, q⟩ := q
  subst ex
  obtain ⟨u, eu, rx⟩ := vals1 r
  subst eu
  cases rx
  obtain ⟨z, lo, xs, rel, dd⟩ := dt_rd I.hok hd
  have ek := KT.keysEq rel
  have hall : ∀ k ∈ xs.map (·.1), smallK k := fun k hkm => by
    rw [ek] at hkm
    obtain ⟨kv, hkv, rfl⟩ := List.mem_map.mp hkm
    exact hk kv hkv
  have hn : (xs.map (·.1)).Nodup := dd.nodup
  have hap := small_nodup (prog := X.prog) (w := X.w) hall hn
  rw [List.map_map] at hap
  have hst : ∀ x ∈ xs, (tupleKind (mixKind X.prog X.w)).is s.heap x.1 x.2.1 := by
    obtain ⟨o, es, ep, h1, h2, h3, h4, h5, h6⟩ := id dd
    exact h5
  refine call_dictH (show X.A.units + 2 < cLine from hu) lo dd (by rw [← Paired.length rel]; exact z) (fun x hx => ?_) hap fun h' d' hs => ?_
  · obtain ⟨o, its, n, h1, h2, _⟩ := (show IsTupleKey (mixKind X.prog X.w) s.heap x.1 x.2.1 from hst x hx)
    exact ⟨o, h1, h2⟩
  have hm : (s.heap.objs.size == sysModules) = false := beq_eq_false_iff_ne.mpr (Nat.ne_of_gt I.big)
  have hf := I.hok.fresh (Nat.le_refl _)
  obtain ⟨o, es, ep, h1, h2, h3, h4, h5, h6⟩ := d'
  exact ⟨.ref s.heap.objs.size, upd H s.heap.objs.size (.dT kvs), I.laid (t' := s.toks) (fun b u e => (hs.2 b (Nat.ne_of_lt (Heap.lt_size e))).trans (Heap.get?_push_of_some _ e)) (Nat.le_refl _)
    (show ObjOk X.prog X.w _ _ _ (.dT kvs) from ⟨z, hm, xs, rel.keeps (fun c ys ec => (by rw [upd_ne (ne_of_none ec hf)]; exact ec)), o, es, ep, h1, h2, h3, h4, h6⟩), rfl, q _ hf⟩
/-- d.pop(k), k a key -/
def rPop1T : V → List V → Hp → VK → Prop := fun x xs H Q => ∃ (a : Addr) (kvs : List (List Key × V)) (k : List Key) (b : Addr) (v : V), x = .ref a ∧ xs = [.ref b] ∧ H a = some (.dT kvs) ∧ H b = some (.tup (k.map kV)) ∧ valV kvs k = some v ∧ Q v (upd H a (.dT (dropK kvs k)))
theorem mt_pop1T {X : Cx} (hu : X.A.units + 1 < cLine) : MtR X "dict.pop" rPop1T := by
  intro pins s σ H x xs v us Q I rx rxs h
  obtain ⟨a, kvs, k, b, v0, rfl, rfl, ha, hb, ev, q⟩ := h
  cases rx
  obtain ⟨u1, rfl, r1⟩ := vals1 rxs
  cases r1
  obtain ⟨z, hd, xs', rel, dd⟩ := dt_of I.hok ha
  have hz : xs'.length ≤ sizeLine := by rw [← Paired.length rel]; exact z
  have r := rel.val k
  rw [ev] at r
  obtain ⟨p, hp, rv⟩ : ∃ p, atKey xs' k = some p ∧ RelV v0 p.2 := by
    cases ep : atKey xs' k with
    | none =>
      rw [ep] at r
      exact (show False from r).elim
    | some p =>
      rw [ep] at r
      exact ⟨p, rfl, r⟩
  refine call_pop_heap (hsz := hz) (.inl rfl) (PySem.F.args_dict_pop_2 _ _) (tupleKind_room_in1 hu) (key_of I.hok hb) hd dd hp fun h' dd' hs => ?_
  obtain ⟨o, es, ep, hq, h2, h3, h4, _, h5⟩ := dd'
  have I2 : Inv X pins σ (upd H a (.dT (dropK kvs k))) { s with heap := h', toks := s.toks + (tupleKind (mixKind X.prog X.w)).draws k } :=
    d_write I (by rw [ha]; exact True.intro) hs ⟨o, hq⟩ ⟨Nat.le_trans (dropK_le kvs k) z, hd, _, (DX.KT_drop k rel).keeps (fun c ys ec => (by rw [upd_ne (ne_of ec ha (fun z => nomatch z))]; exact ec)), o, es, ep, hq, h2, h3, h4, h5⟩
  exact ⟨v0, _, I2, rv, q⟩
end L2

set_option Elab.async false
set_option maxRecDepth 100000
set_option maxHeartbeats 4000000
namespace L2
open PySem PySem.Spec PyProof.Rows
set_option linter.unusedVariables false
/-! a key that is no tuple, among keys that are tuples -/
inductive OddKey : V → Value → PyData → Prop
  | non : OddKey .non .none .none
  | int {i : Int} {t : Tok} : OddKey (.int i) (.int i t) (.int i)
  | str {x : Str} {t : Tok} : PyData.strOk x = true → OddKey (.str x) (.str x t) (.str x)
theorem OddKey.carried {v : V} {u : Value} {d : PyData} (h : OddKey v u d) : carriedByValue u = true := by cases h <;> rfl
theorem OddKey.eqv {v : V} {u : Value} {d : PyData} (h : OddKey v u d) (k : List Key) : PyData.eqv (keyD k) d = false := by
  cases h <;> (unfold keyD; simp [PyData.eqv])
def IntK (k : List Key) : Prop := ∀ x ∈ k, ∃ i : Int, x = .inl i
theorem canLay_key : ∀ k : List Key, IntK k → PyData.canLayAll0 (k.map keyD1) = true
  | [], _ => rfl
  | x :: k, h => by
    obtain ⟨i, rfl⟩ := h x List.mem_cons_self
    rw [List.map_cons, PyData.canLayAll0, canLay_key k fun y hy => h y (List.mem_cons_of_mem _ hy)]
    simp [keyD1, PyData.canLay0]
theorem OddKey.lay {v : V} {u : Value} {d : PyData} (h : OddKey v u d) : PyData.canLay0 d = true ∧ d.depth = 0 := by
  cases h with
  | non => exact ⟨by simp [PyData.canLay0], by simp [PyData.depth]⟩
  | int => exact ⟨by simp [PyData.canLay0], by simp [PyData.depth]⟩
  | str o => exact ⟨by simpa [PyData.canLay0] using o, by simp [PyData.depth]⟩
section
variable {X : Cx} {pins : List (Addr × Obj)} {σ : L2.St} {H : Hp} {s : Shared}
theorem OddKey.reads {v : V} {u : Value} {d : PyData} (h : OddKey v u d) (hp : Heap) : Reads hp u d [] := by
  cases h
  · exact .none
  · exact .int _ _
  · exact .str _ _
theorem OddKey.quiet {A : Around} {E : Value → Shared → Prop} {v : V} {u : Value} {d : PyData} (h : OddKey v u d) {Q : Bool → Shared → Prop} (q : Q true s) : wpAny (model X.prog X.w) A (eqIsQuiet 8 u) Q E s := by
  cases h <;> (unfold eqIsQuiet; exact wpAny_pure q)
/-- it isn't there -/
theorem find_odd (I : Inv X pins σ H s) {A : Around} {E : Value → Shared → Prop} (hu : A.units < cLine) {d : Addr} {o : Obj} {es : Array DictEntry} {ep : Nat} {xs : List (List Key × Addr × Value)} {kvs : List (List Key × V)} (ho : s.heap.get? d = some o) (hd : o.data = .dict es ep) (he : es.toList = xs.map (entryOfKey (tupleKind (mixKind X.prog X.w)))) (rel : KT H kvs xs) (hi : ∀ kv ∈ kvs, IntK kv.1)
    {v : V} {key : Value} {dk : PyData} (hk : OddKey v key dk) (h : Int) {Q : Option Nat → Shared → Prop} (q : Q none s) : wpAny (model X.prog X.w) A (dictFind d key h) Q E s := by
  have hall : ∀ x ∈ xs, ∃ k : List Key, H x.2.1 = some (.tup (k.map kV)) ∧ IntK k := by
    clear he
    induction rel with
    | nil => exact fun x hx => nomatch hx
    | @cons p y ks ys r _ ih =>
      intro x hx
      rcases List.mem_cons.mp hx with rfl | hx
      · exact ⟨p.1, r.2.1, hi p List.mem_cons_self⟩
      · exact ih (fun kv hkv => hi kv (List.mem_cons_of_mem _ hkv)) x hx
  have hmem : ∀ (i : Nat) (e : DictEntry), es[i]? = some e → ∃ (b : Addr) (k : List Key), e.key = .ref b ∧ H b = some (.tup (k.map kV)) ∧ IntK k := by
    intro i e hi
    have : e ∈ xs.map (entryOfKey (tupleKind (mixKind X.prog X.w))) := he ▸ Array.mem_toList_iff.mpr (Array.mem_of_getElem? hi)
    obtain ⟨x, hx, rfl⟩ := List.mem_map.mp this
    obtain ⟨k, hk⟩ := hall x hx
    exact ⟨x.2.1, k, rfl, hk⟩
  have hst : ∀ v ∈ (placesWithHash es.size (fun i => es[i]?.map (·.hash)) h).filterMap (fun i => es[i]?.map (·.key)), ∃ (b : Addr) (k : List Key), v = .ref b ∧ H b = some (.tup (k.map kV)) ∧ IntK k := by
    intro v hv
    obtain ⟨i, _, hi⟩ := List.mem_filterMap.mp hv
    cases hei : es[i]? with
    | none => rw [hei] at hi; cases hi
    | some e =>
      rw [hei] at hi
      obtain rfl : e.key = v := by simpa using hi
      exact hmem i e hei
  have unlike : ∀ {Q : Bool → Shared → Prop} {E : Value → Shared → Prop} {b : Addr} {k : List Key}, H b = some (.tup (k.map kV)) ∧ IntK k → Q false s → wpAny (model X.prog X.w) A (eqBool (.ref b) key) Q E s := fun {Q E b k} hb hq => by
    obtain ⟨as, ra⟩ := Dp.reads I (keyD k) (.ref b) (.ref b) (.tup (SqT.of hb.1) (keyD1_dp k)) rfl
    refine PySem.SeqAt.eqBoolOverData _ _ A E s _ _ _ dk _ [] Q ra (hk.reads _) (by unfold keyD; rw [PyData.canLay0]; exact canLay_key k hb.2) hk.lay.1 (by rw [hk.lay.2]; omega) ?_
    rw [hk.eqv]
    exact hq
  have walk : wpAny (model X.prog X.w) A (dictWalkPlain d key h es (placesWithHash es.size (fun i => es[i]?.map (·.hash)) h)) Q E s := by
    unfold dictWalkPlain
    refine wpAny_bind ?_
    refine wpAny_forIn_list _ (fun rest b s' => s' = s ∧ b = (none, ())) _ ?_ ?_ _ _ ⟨rfl, rfl⟩
    · rintro x rest b s' ⟨rfl, rfl⟩
      cases hx : es[x]? with
      | none => exact wpAny_pure ⟨rfl, rfl⟩
      | some e =>
        obtain ⟨b, k, ek, hb⟩ := hmem x e hx
        dsimp only
        by_cases hh : (e.hash == h) = true
        · rw [if_pos hh]
          refine wpAny_bind (wpAny_dictEpoch ho hd (wpAny_bind ?_))
          rw [ek]
          refine unlike hb (wpAny_bind (wpAny_dictEpoch ho hd ?_))
          show wpAny _ _ (if (ep != ep) = true then _ else _) _ E _
          rw [if_neg (by simp)]
          simp only [Bool.false_eq_true, if_false]
          exact wpAny_bind (wpAny_rule (wpAny_pure ⟨rfl, rfl⟩))
        · rw [if_neg hh]
          exact wpAny_pure ⟨rfl, rfl⟩
    · rintro b s' ⟨rfl, rfl⟩
      exact wpAny_pure q
  have tells : ∀ {Q : Bool → Shared → Prop} {E : Value → Shared → Prop}, Q false s → wpAny (model X.prog X.w) A (tableMayTell key ((placesWithHash es.size (fun i => es[i]?.map (·.hash)) h).filterMap (fun i => es[i]?.map (·.key)))) Q E s := fun {Q E} hq => by
    unfold tableMayTell
    split
    · exact wpAny_pure hq
    · refine wpAny_bind (hk.quiet (X := X) ?_)
      simp only [Bool.not_true, Bool.false_eq_true, if_false]
      refine wpAny_bind ?_
      refine wpAny_forIn_list _ (fun rest r s' => s' = s ∧ r = (none, ()) ∧ ∀ v ∈ rest, ∃ (b : Addr) (k : List Key), v = .ref b ∧ H b = some (.tup (k.map kV)) ∧ IntK k) _ ?_ ?_ _ _ ⟨rfl, rfl, hst⟩
      · rintro x rest r s' ⟨rfl, rfl, hr⟩
        obtain ⟨b, k, rfl, hb⟩ := hr x List.mem_cons_self
        refine wpAny_bind ((tupleKind (mixKind X.prog X.w)).quiet (key_of I.hok hb.1) ?_)
        simp only [Bool.not_true, Bool.false_eq_true, if_false]
        exact wpAny_pure ⟨rfl, rfl, fun v hv => hr v (List.mem_cons_of_mem _ hv)⟩
      · rintro r s' ⟨rfl, rfl, _⟩
        exact wpAny_pure hq
  cases hk with
  | non =>
    unfold dictFind
    try with_reducible refine wpAny_holding ?_
    refine wpAny_bind (wpAny_dictEntries ho hd ?_)
    dsimp only
    by_cases hc : ((Value.none :: (placesWithHash es.size (fun i => es[i]?.map (·.hash)) h).filterMap (fun i => es[i]?.map (·.key))).all carriedByValue) = true
    · rw [if_pos hc]
      exact walk
    · rw [if_neg hc]
      have hne : ¬ (((placesWithHash es.size (fun i => es[i]?.map (·.hash)) h).filterMap (fun i => es[i]?.map (·.key))) == [Value.none]) = true := by
        intro e
        have e := eq_of_beq e
        obtain ⟨b, k, e2, _⟩ := hst Value.none (by rw [e]; exact List.mem_cons_self)
        cases e2
      rw [if_neg hne]
      refine wpAny_bind (tells ?_)
      simp only [Bool.false_and, Bool.false_eq_true, if_false]
      refine wpAny_bind ?_
      refine wpAny_forIn_list _ (fun rest b s' => s' = s ∧ b = (none, none)) _ ?_ ?_ _ _ ⟨rfl, rfl⟩
      · rintro x rest b s' ⟨rfl, rfl⟩
        cases hx : es[x]? with
        | none => exact wpAny_pure ⟨rfl, rfl⟩
        | some e =>
          obtain ⟨b, k, ek, hb⟩ := hmem x e hx
          dsimp only
          by_cases hh : (e.hash == h) = true
          · rw [if_pos hh]
            refine wpAny_bind (wpAny_dictEpoch ho hd (wpAny_bind ?_))
            rw [ek]
            refine unlike hb (wpAny_bind (wpAny_dictEpoch ho hd ?_))
            show wpAny _ _ (if (ep != ep) = true then _ else _) _ E _
            rw [if_neg (by simp)]
            simp only [Bool.false_eq_true, if_false]
            exact wpAny_bind (wpAny_rule (wpAny_pure ⟨rfl, rfl⟩))
          · rw [if_neg hh]
            exact wpAny_pure ⟨rfl, rfl⟩
      · rintro b s' ⟨rfl, rfl⟩
        exact wpAny_pure q
  | @int i t =>
    unfold dictFind
    try with_reducible refine wpAny_holding ?_
    refine wpAny_bind (wpAny_dictEntries ho hd ?_)
    dsimp only
    by_cases hc : ((Value.int i t :: (placesWithHash es.size (fun i => es[i]?.map (·.hash)) h).filterMap (fun i => es[i]?.map (·.key))).all carriedByValue) = true
    · rw [if_pos hc]
      exact walk
    · rw [if_neg hc]
      have hne : ¬ (((placesWithHash es.size (fun i => es[i]?.map (·.hash)) h).filterMap (fun i => es[i]?.map (·.key))) == [Value.int i t]) = true := by
        intro e
        have e := eq_of_beq e
        obtain ⟨b, k, e2, _⟩ := hst (Value.int i t) (by rw [e]; exact List.mem_cons_self)
        cases e2
      rw [if_neg hne]
      refine wpAny_bind (tells ?_)
      simp only [Bool.false_and, Bool.false_eq_true, if_false]
      refine wpAny_bind ?_
      refine wpAny_forIn_list _ (fun rest b s' => s' = s ∧ b = (none, none)) _ ?_ ?_ _ _ ⟨rfl, rfl⟩
      · rintro x rest b s' ⟨rfl, rfl⟩
        cases hx : es[x]? with
        | none => exact wpAny_pure ⟨rfl, rfl⟩
        | some e =>
          obtain ⟨b, k, ek, hb⟩ := hmem x e hx
          dsimp only
          by_cases hh : (e.hash == h) = true
          · rw [if_pos hh]
            refine wpAny_bind (wpAny_dictEpoch ho hd (wpAny_bind ?_))
            rw [ek]
            refine unlike hb (wpAny_bind (wpAny_dictEpoch ho hd ?_))
            show wpAny _ _ (if (ep != ep) = true then _ else _) _ E _
            rw [if_neg (by simp)]
            simp only [Bool.false_eq_true, if_false]
            exact wpAny_bind (wpAny_rule (wpAny_pure ⟨rfl, rfl⟩))
          · rw [if_neg hh]
            exact wpAny_pure ⟨rfl, rfl⟩
      · rintro b s' ⟨rfl, rfl⟩
        exact wpAny_pure q
  | @str x t ox =>
    unfold dictFind
    try with_reducible refine wpAny_holding ?_
    refine wpAny_bind (wpAny_dictEntries ho hd ?_)
    dsimp only
    by_cases hs : (es.all fun e => isExactStrKey e.key) = true
    · rw [if_pos hs]
      have h0 : es = #[] := by
        by_cases h1 : 0 < es.size
        · obtain ⟨b, k, ek, _⟩ := hmem 0 es[0] (Array.getElem?_eq_getElem h1)
          have := Array.all_eq_true.mp hs 0 h1
          rw [ek] at this
          cases this
        · exact Array.size_eq_zero_iff.mp (by omega)
      subst h0
      unfold foundByValue
      have e0 : (#[] : Array DictEntry).findIdx? (fun y => y.key.isStr x) = none := by simp
      rw [e0]
      exact wpAny_pure q
    · rw [if_neg hs]
      by_cases hc : ((Value.str x t :: (placesWithHash es.size (fun i => es[i]?.map (·.hash)) h).filterMap (fun i => es[i]?.map (·.key))).all carriedByValue) = true
      · rw [if_pos hc]
        exact walk
      · rw [if_neg hc]
        have hne : ¬ (((placesWithHash es.size (fun i => es[i]?.map (·.hash)) h).filterMap (fun i => es[i]?.map (·.key))) == [Value.str x t]) = true := by
          intro e
          have e := eq_of_beq e
          obtain ⟨b, k, e2, _⟩ := hst (Value.str x t) (by rw [e]; exact List.mem_cons_self)
          cases e2
        rw [if_neg hne]
        refine wpAny_bind (tells ?_)
        simp only [Bool.false_and, Bool.false_eq_true, if_false]
        refine wpAny_bind ?_
        refine wpAny_forIn_list _ (fun rest b s' => s' = s ∧ b = (none, none)) _ ?_ ?_ _ _ ⟨rfl, rfl⟩
        · rintro x rest b s' ⟨rfl, rfl⟩
          cases hx : es[x]? with
          | none => exact wpAny_pure ⟨rfl, rfl⟩
          | some e =>
            obtain ⟨b, k, ek, hb⟩ := hmem x e hx
            dsimp only
            by_cases hh : (e.hash == h) = true
            · rw [if_pos hh]
              refine wpAny_bind (wpAny_dictEpoch ho hd (wpAny_bind ?_))
              rw [ek]
              refine unlike hb (wpAny_bind (wpAny_dictEpoch ho hd ?_))
              show wpAny _ _ (if (ep != ep) = true then _ else _) _ E _
              rw [if_neg (by simp)]
              simp only [Bool.false_eq_true, if_false]
              exact wpAny_bind (wpAny_rule (wpAny_pure ⟨rfl, rfl⟩))
            · rw [if_neg hh]
              exact wpAny_pure ⟨rfl, rfl⟩
        · rintro b s' ⟨rfl, rfl⟩
          exact wpAny_pure q
/-- what may be put among keys that are tuples, and is none -/
def OddV (y : V) : Prop := y = .non ∨ (∃ i, y = .int i) ∨ ∃ x, y = .str x ∧ PyData.strOk x = true
theorem OddV.key {y : V} {u : Value} (h : OddV y) (r : RelV y u) : ∃ d, OddKey y u d := by
  rcases h with rfl | ⟨i, rfl⟩ | ⟨x, rfl, o⟩
  · cases (show u = Value.none from r)
    exact ⟨_, .non⟩
  · obtain ⟨t, rfl⟩ := r
    exact ⟨_, .int⟩
  · obtain ⟨t, rfl⟩ := r
    exact ⟨_, .str o⟩
theorem OddKey.hash {A : Around} {E : Value → Shared → Prop} {v : V} {u : Value} {d : PyData} (h : OddKey v u d) {Q : Int → Shared → Prop} (q : ∀ i, Q i { s with toks := s.toks + 1 }) : wpAny (model X.prog X.w) A (pyHash u) Q E s := by
  cases h with
  | non => exact pyHash_leaf (k := .none) rfl (q _)
  | @int i t => exact pyHash_leaf (k := .num i) (by simp [Leaf.isOf]) (q _)
  | @str x t o => exact pyHash_leaf (k := .text x) (by simp [Leaf.isOf, Value.isStrOf]) (q _)
/-- a dict of tuple keys in which one more key stands, at the end, that is none; its object is o -/
structure OddW (o : Obj) (H : Hp) (a : Addr) (kvs : List (List Key × V)) (k v : V) : Prop where
  at' : H a = some (.ext fun h => h.get? a = some o)
  ec : o.ExactDict
  ex : ∃ (es : Array DictEntry) (ep : Nat) (xs : List (List Key × Addr × Value)) (uk uv : Value), o.data = .dict es ep ∧ (a == sysModules) = false ∧ KT H kvs xs ∧ RelV k uk ∧ RelV v uv ∧
    es.toList.map (fun e => (e.key, e.val)) = xs.map (fun x => (Value.ref x.2.1, x.2.2)) ++ [(uk, uv)] ∧ es.size ≤ sizeLine
  key : OddV k
def OddAt (H : Hp) (a : Addr) (kvs : List (List Key × V)) (k v : V) : Prop := ∃ o, OddW o H a kvs k v
theorem OddW.mono {o : Obj} {H H' : Hp} {a : Addr} {kvs : List (List Key × V)} {k v : V} (h : OddW o H a kvs k v) (s : ∀ b u, H b = some u → H' b = some u) : OddW o H' a kvs k v := by
  obtain ⟨h1, h2, ⟨es, ep, xs, uk, uv, h3, h4, h5, h6⟩, h7⟩ := h
  exact ⟨s _ _ h1, h2, ⟨es, ep, xs, uk, uv, h3, h4, h5.keeps (fun c ys e => s _ _ e), h6⟩, h7⟩
theorem put_odd (I : Inv X pins σ H s) {A : Around} {E : Value → Shared → Prop} (hu : A.units + 1 < cLine) {a : Addr} {kvs : List (List Key × V)} {y v : V} {u r : Value} {Q : Unit → Shared → Prop} (ha : H a = some (.dT kvs)) (hi : ∀ kv ∈ kvs, IntK kv.1) (hz : kvs.length < sizeLine) (hy : OddV y) (ry : RelV y u) (rv : RelV v r)
    (q : ∀ φ s', OddAt (upd H a (.ext φ)) a kvs y v → Inv X pins σ (upd H a (.ext φ)) s' → Q () s') : wpAny (model X.prog X.w) A (setItem (.ref a) u r) Q E s := by
  obtain ⟨dk, hk⟩ := hy.key ry
  obtain ⟨z, hd, xs, rel, dd⟩ := dt_of I.hok ha
  obtain ⟨o, es, ep, ho, hc, hdat, he, his, hn⟩ := id dd
  have hty : s.TypeIs (.ref a) "dict" := ⟨o, ho, hc.1⟩
  have hes : es.size = kvs.length := by rw [size_of_entries he, ← Paired.length rel]
  unfold setItem
  try with_reducible refine wpAny_holding ?_
  refine wpAny_bind (wpAny_sequenceKey hty (by decide) ?_)
  refine wpAny_bind (wpAny_callSpecial?_slot (name := Str.ofString "__setitem__") hty PySem.slot_dict_setitem
    (wpAny_call_entry PySem.slot_dict_setitem hty PySem.entry_dict_setitem ?_ (PySem.args_dict_setitem _ _ _)))
  show wpAny _ _ (Builtin.Dict.notOrdered "__setitem__" ⟨[.ref a, u, r], []⟩ >>= _) _ _ s
  refine wpAny_bind (wpAny_notOrdered_dict hty ?_)
  show wpAny _ _ (dictSet a u r >>= _) _ _ s
  refine wpAny_bind ?_
  unfold dictSet
  try with_reducible refine wpAny_holding ?_
  refine wpAny_bind (hk.hash (X := X) fun hh => ?_)
  unfold dictSetHashed
  try with_reducible refine wpAny_holding ?_
  have I1 : Inv X pins σ H { s with toks := s.toks + 1 } := I.tok _
  refine wpAny_bind (find_odd I1 (show A.in1.units < cLine from by show A.units + 1 < cLine; exact hu) ho hdat he rel hi hk hh ?_)
  refine wpAny_bind (wpAny_rule (wpAny_updateDictKeys (s := { s with toks := s.toks + 1 }) (hz := by omega) ho hdat ?_))
  refine wpAny_pure ⟨.none, rfl, wpAny_pure ?_⟩
  have hg := Heap.get?_update_self (Obj.mapDictKeys fun es => es.push ⟨hh, u, r⟩) ho (Obj.isFreed_of_dict (Obj.data_mapDictKeys hdat _))
  have hs : Heap.SameBut a s.heap (s.heap.update a (Obj.mapDictKeys fun es => es.push ⟨hh, u, r⟩)) := Heap.SameBut.update ..
  refine q (fun h => h.get? a = some (Obj.mapDictKeys (fun es => es.push ⟨hh, u, r⟩) o)) _ ⟨_, upd_same, hc.mapDictKeys _, ⟨_, ep + 1, xs, u, r, Obj.data_mapDictKeys hdat _, hd, rel.keeps (fun c ys ec => by rw [upd_ne (ne_of ec ha (fun z => nomatch z))]; exact ec), ry, rv, ?_, ?_⟩, hy⟩ ?_
  · rw [Array.toList_push, List.map_append, he, List.map_map]
    rfl
  · rw [Array.size_push]
    omega
  · exact d_write (t' := s.toks + 1) I1 (by rw [ha]; exact True.intro) hs ⟨_, hg⟩ ⟨hg, ⟨_, hg⟩, fun h1 h2 e k => k _ e⟩
/-- as it lies -/
theorem OddW.entries (I : Inv X pins σ H s) {d : Addr} {o : Obj} {kvs : List (List Key × V)} {k v : V} (h : OddW o H d kvs k v) :
    (d == sysModules) = false ∧ ∃ (es : Array DictEntry) (ep : Nat), o.data = .dict es ep ∧ DT.Raw s.heap d es ep ∧ es.size = kvs.length + 1 ∧
      (∀ (i : Nat) (k : List Key) (v : V), kvs[i]? = some (k, v) → ∃ (hi : i < es.size) (q : Addr), es[i].key = .ref q ∧ H q = some (.tup (k.map kV)) ∧ RelV v es[i].val) ∧ ∃ hi : kvs.length < es.size, RelV k es[kvs.length].key ∧ RelV v es[kvs.length].val := by
  obtain ⟨h1, h2, ⟨es, ep, xs, uk, uv, h3, h4, h5, h6, h7, h8, h9⟩, hk⟩ := h
  have there : s.heap.get? d = some o := (show ObjOk X.prog X.w H s.heap d (.ext fun h => h.get? d = some o) from I.hok _ _ h1).1
  have l5 : kvs.length = xs.length := Paired.length h5
  have sizes : es.size = kvs.length + 1 := by
    have := congrArg List.length h8
    rw [List.length_map, List.length_append, List.length_map, Array.length_toList] at this
    simpa [l5] using this
  have at8 : ∀ (i : Nat) (hi : i < es.size), (es.toList.map (fun e => (e.key, e.val)))[i]? = some (es[i].key, es[i].val) := fun i hi => by
    rw [List.getElem?_map, Array.getElem?_toList, Array.getElem?_eq_getElem hi]
    rfl
  refine ⟨h4, es, ep, h3, ⟨o, there, h2, h3⟩, sizes, fun i k v e => ?_, by omega, ?_⟩
  · obtain ⟨b, hb, e1, e2, e3⟩ := paired_get h5 e
    have hi : i < es.size := by have := (List.getElem?_eq_some_iff.mp e).1; omega
    have q := at8 i hi
    rw [h8, List.getElem?_append_left (by rw [List.length_map]; exact (List.getElem?_eq_some_iff.mp hb).1), List.getElem?_map, hb] at q
    injection q with q
    injection q with q1 q2
    exact ⟨hi, b.2.1, q1.symm, e2, by rw [← q2]; exact e3⟩
  · have hi : kvs.length < es.size := by omega
    have q := at8 kvs.length hi
    rw [h8, List.getElem?_append_right (by rw [List.length_map]; omega), List.length_map, show kvs.length - xs.length = 0 by omega] at q
    injection q with q
    injection q with q1 q2
    exact ⟨by rw [← q1]; exact h6, by rw [← q2]; exact h7⟩
end
/-- the items of the odd dict at d -/
def ItO (o : Obj) (d : Addr) (kvs : List (List Key × V)) (k v : V) : It :=
  ⟨fun i H => OddW o H d kvs k v ∧ i < kvs.length + 1,
   fun i H x H' => ∃ (T : Addr) (a b : V), x = .ref T ∧ H T = none ∧ H' = upd H T (.tup [a, b]) ∧ ((∃ (q : Addr) (k' : List Key), kvs[i]? = some (k', b) ∧ H q = some (.tup (k'.map kV)) ∧ a = .ref q) ∨ (i = kvs.length ∧ a = k ∧ b = v)),
   fun i H => OddW o H d kvs k v ∧ kvs.length + 1 ≤ i⟩
theorem turn_itemsO {P : Program} {w : World} {K : PySem.W.Frag} {d : Addr} {o : Obj} {es : Array DictEntry} {ep : Nat} {kvs : List (List Key × V)} {k v : V} {elts : List Expr} {kk : Nat} {tpos : Pos} (it : Addr) (hod : o.data = .dict es ep) :
    Turn P w K (.Tuple elts kk tpos) (ItO o d kvs k v) [it] it (fun i h => ∃ ok ov, IsItemIter h it d i (kvs.length + 1) ep ok ov) where
  mem := by simp
  obj := fun i h ⟨ok, ov, e⟩ b hb => by
    rw [List.mem_singleton.mp hb]
    exact ⟨_, e, fun v z => nomatch z⟩
  keep := fun i h h' ⟨ok, ov, e⟩ k => ⟨ok, ov, k it (by simp) _ e⟩
  item := by
    rintro X rfl rfl rfl hc i pins s σ H E I hf ⟨ok, ov, he⟩ ⟨hd, hi⟩
    obtain ⟨_, es', ep', hdt, raw, hsz, ent, hlast, lk, lv⟩ := hd.entries I
    obtain ⟨rfl, rfl⟩ := dict_ep hod hdt
    have hi' : i < es'.size := by omega
    obtain ⟨a, b, ra, rb, hab⟩ : ∃ a b : V, RelV a es'[i].key ∧ RelV b es'[i].val ∧ ((∃ (q : Addr) (k' : List Key), kvs[i]? = some (k', b) ∧ H q = some (.tup (k'.map kV)) ∧ a = .ref q) ∨ (i = kvs.length ∧ a = k ∧ b = v)) := by
      by_cases c : i < kvs.length
      · obtain ⟨⟨k', v'⟩, hkv⟩ : ∃ p, kvs[i]? = some p := ⟨kvs[i], List.getElem?_eq_getElem c⟩
        obtain ⟨hi2, q, hkey, hq, rv⟩ := ent i k' v' hkv
        exact ⟨.ref q, v', hkey, rv, .inl ⟨q, k', hkv, hq, rfl⟩⟩
      · have e : i = kvs.length := by omega
        subst e
        exact ⟨k, v, lk, lv, .inr ⟨rfl, rfl, rfl⟩⟩
    rw [← hsz] at he
    have hlt : it < s.heap.objs.size := Heap.lt_size he
    refine DT.nextI he raw hi' fun h' out laid grown kept => ?_
    refine ⟨_, rfl, wpAny_letOwnedTupleGo_items (s := { s with heap := h' }) out fun h'' he' sb => ?_⟩
    have laid2 : h''.get? s.heap.objs.size = some { cls := .type "tuple", data := .seq #[es'[i].key, es'[i].val] } := (sb.2 _ (Nat.ne_of_gt hlt)).trans laid
    have pair : ObjOk X.prog X.w (upd H s.heap.objs.size (.tup [a, b])) h'' s.heap.objs.size (.tup [a, b]) :=
      ⟨by show 2 ≤ sizeLine; decide, [es'[i].key, es'[i].val], .cons ra (.cons rb .nil), ⟨_, laid2, rfl, _, rfl⟩⟩
    have I1 : Inv X pins σ (upd H s.heap.objs.size (.tup [a, b])) { s with heap := h'' } :=
      I.turnedNew (t' := s.toks) (ch := [it]) (fun b ob hb e => (sb.2 b (fun z => hb (List.mem_singleton.mpr z))).trans (kept b ob (fun z => hb (List.mem_singleton.mpr z)) e)) hf (Nat.le_refl _) pair
    refine ⟨.ref s.heap.objs.size, _, I1, rfl, ⟨_, a, b, rfl, I.hok.fresh (Nat.le_refl _), rfl, hab⟩, ⟨es'[i].key, es'[i].val, by rw [← hsz]; exact he'⟩, fun b hb => ?_⟩
    rw [List.mem_singleton.mp hb, upd_ne (Nat.ne_of_lt hlt)]
    exact (hf it (by simp)).1
  done := by
    rintro X rfl rfl rfl hc i pins s σ H E I hf ⟨ok, ov, he⟩ ⟨hd, hi⟩
    obtain ⟨f0, f1, f2, f3, f4, f5⟩ := hf it (by simp)
    obtain ⟨_, es', ep', hdt, raw, hsz, _⟩ := hd.entries I
    obtain ⟨rfl, rfl⟩ := dict_ep hod hdt
    rw [← hsz] at he
    exact DT.endI (I.ok.hd hc) he raw (by omega) fun h' eb => ⟨rfl, I.turned (t' := s.toks) (fun b ob hb e => eb b ob hb e) f0 f1 f3 f4 f5⟩
  self := fun A i s Q E ⟨_, _, e⟩ h => PySem.W.kcp_self e h
/-- for a, b in e.items(): e an odd dict -/
def iItemsO (td : TE) : TI := fun σ H R => td σ H fun x H1 => ∃ d o kvs k v, x = .ref d ∧ OddW o H1 d kvs k v ∧ R (ItO o d kvs k v) H1
theorem pi_itemsO {X : Cx} {e : Expr} {td : TE} {apos cpos : Pos} {elts : List Expr} {kk : Nat} {tpos : Pos} (he : PE X e td) (hbase : attributeBase e "items" X.env (eval e X.env) = eval e X.env := by rfl) (hline : (apos.endLine == cpos.line) = true := by rfl) :
    PI X (.Tuple elts kk tpos) (.Call (.Attribute e "items" apos) [] [] cpos) (iItemsO td) := by
  refine ⟨fun pins s σ H R I h => ?_⟩
  refine wpAny_Call_method (T := "dict") (id := "dict.items") hbase rfl hline F.plainAttrs_dict F.slot_dict_items F.type_dict_items (thn (he.run pins s σ H _ I h) fun u s1 ⟨x, H1, I1, rx, d, o, kvs, k, v, ex, hd, q⟩ => ?_)
  subst ex
  obtain rfl : u = Value.ref d := rx
  obtain ⟨notSys, es, ep, hdt, raw, hsz, ent, _⟩ := hd.entries I1
  refine ⟨raw.typeIs, fun b z => ?_, ?_⟩
  · cases z
    obtain ⟨ob, h1, h2, h3⟩ := raw
    exact ⟨ob, h1, h2.2.1⟩
  have I2 : Inv X pins σ H1 { s1 with heap := s1.heap.push { cls := .type "dict_items", data := .fields #[.ref d] } } := I1.kept (t' := s1.toks) fun b ob q => Heap.get?_push_of_some _ q
  have walk : wpAny (model X.prog X.w) X.A (pyIter (.ref s1.heap.objs.size)) (PIE X pins σ (.Tuple elts kk tpos) R) X.xe { s1 with heap := s1.heap.push { cls := .type "dict_items", data := .fields #[.ref d] } } := by
    refine DT.iterI (d := d) ⟨_, Heap.get?_push_size _ rfl, rfl, rfl⟩ (raw.push _) (pi_one (tk := s1.toks) I2 _ (turn_itemsO _ hdt) ⟨.none, .none, ?_⟩ q)
    rw [← hsz]
    exact Heap.get?_push_size _ rfl
  show wpAny _ _ (callWith cpos (.builtin "dict.items") [.ref d] [] []) _ X.xe s1
  exact method_meetsIn F.slot_dict_items F.entry_dict_items rfl (PySem.evalArgs_none ⟨rfl, raw.typeIs, F.args_dict_items_1 _, _, DT.meetsItems (es := es) (ep := ep) notSys, raw, walk⟩)
end L2

set_option Elab.async false
set_option maxRecDepth 100000
set_option maxHeartbeats 4000000
namespace PySem
section
variable {prog : Program} {w : World} {A : Around} {E : Value → Shared → Prop} {s : Shared}
theorem wpAny_len_body_raw {d : Addr} {es : Array DictEntry} {ep : Nat} {Q : Value → Shared → Prop} (hd : (d == sysModules) = false) (hm : s.heap.DictRaw d es ep) (hfit : (es.size : Int) < 2 ^ 63)
    (h : Q (.int es.size (s.toks + 1)) { s with toks := s.toks + 1 + 1 }) : wpAny (model prog w) A (Builtin.«len» ⟨[.ref d], []⟩) (fun fin s' => ∃ r, fin = .done (.ret r) ∧ Q r s') E s := by
  unfold Builtin.«len»
  refine wpAny_bind (m := oneArg "len" _) (wpAny_pure ?_)
  refine wpAny_bind (m := callSpecial? (.ref d) (Str.ofString "__len__")) (wpAny_callSpecial?_slot (name := Str.ofString "__len__") hm.typeIs F.slot_dict_len
    (call_len_raw hd hm ?_))
  show wpAny _ _ _ _ _ { s with toks := s.toks + 1 }
  refine wpAny_bind (wpAny_holding (wpAny_pure ?_))
  refine wpAny_bind (wpAny_letGo ?_)
  show wpAny _ _ (if ((es.size : Nat) : Int) < 0 then _ else _) _ _ _
  rw [if_neg (by omega)]
  show wpAny _ _ (if ((es.size : Nat) : Int) ≥ 2 ^ 63 then _ else _) _ _ _
  rw [if_neg (by omega)]
  exact wpAny_bind (wpAny_mkInt (wpAny_pure ⟨_, rfl, h⟩))
end
end PySem
namespace L2
open PySem PySem.Spec PyProof.Rows
set_option linter.unusedVariables false
section
variable {X : Cx} {pins : List (Addr × Obj)} {σ : L2.St} {H : Hp} {s : Shared}
def rLenO : List V → Hp → VK → Prop := fun xs H Q => ∃ (p : Addr) (kvs : List (List Key × V)) (k v : V), xs = [.ref p] ∧ OddAt H p kvs k v ∧ Q (.int ((kvs.length + 1 : Nat) : Int)) H
theorem call_len_O : CallR X (.builtin "len") rLenO := by
  intro pins s σ H xs us Q I r h
  obtain ⟨p, kvs, k, v, rfl, ⟨o, hp⟩, q⟩ := h
  obtain ⟨u, rfl, rx⟩ := vals1 r
  obtain rfl : u = .ref p := rx
  obtain ⟨z, es, ep, hdt, ⟨o', raw⟩, hsz, _⟩ := hp.entries I
  obtain ⟨es1, ep1, xs, uk, uv, h3, _, _, _, _, _, h9⟩ := hp.ex
  have e1 : es1 = es := by rw [hdt] at h3; cases h3; rfl
  subst e1
  refine Calls.call_function_entry kind_len plain_len entry_len (args_len1 _) (wpAny_len_body_raw z ⟨o', raw⟩ (by rw [sizeLine_eq] at h9; omega) ?_)
  rw [hsz]
  exact ⟨.int ((kvs.length + 1 : Nat) : Int), H, I.tok _, ⟨_, rfl⟩, q⟩
def rIsiO (K : PySem.W.Frag) : List V → Hp → VK → Prop := fun xs H Q => ∃ (p : Addr) (kvs : List (List Key × V)) (k v c : V) (u : Value) (b : Bool), xs = [.ref p, c] ∧ OddAt H p kvs k v ∧ ClsV c u ∧ PySem.W.kitOne K (.type "dict") u = some b ∧ Q (.bl b) H
theorem call_isiO : CallR X (.builtin "isinstance") (rIsiO X.K) := by
  intro pins s σ H xs us Q I r h
  obtain ⟨p, kvs, k, v, c, u, b, rfl, ⟨o, hp⟩, hc, e, q⟩ := h
  obtain ⟨u1, u2, rfl, r1, r2⟩ := vals2 r
  have e2 := hc.eq r2
  subst e2
  cases (show u1 = Value.ref p from r1)
  obtain ⟨z, es, ep, hdt, ⟨o', h1, h2, h3⟩, hsz, _⟩ := hp.entries I
  exact PySem.W.kia_one PySem.W.kitx_dict I.kIn ⟨o', h1, h2.1⟩ e (fun z => nomatch z) fun tk => ⟨.bl b, H, I.tok tk, rfl, q⟩
/-- d[y] = v, y perhaps no tuple -/
def sDPutO (td ty tv : TE) : TS := fun D σ H => tv σ H fun v H1 => td σ H1 fun x H2 => ty σ H2 fun y H3 => (∃ a H4, x = .ref a ∧ DPut H3 a y v H4 ∧ D.nx σ H4) ∨
  ∃ (a : Addr) (kvs : List (List Key × V)), x = .ref a ∧ H3 a = some (.dT kvs) ∧ (∀ kv ∈ kvs, IntK kv.1) ∧ kvs.length < sizeLine ∧ OddV y ∧ ∀ φ, OddAt (upd H3 a (.ext φ)) a kvs y v → D.nx σ (upd H3 a (.ext φ))
theorem ps_dputO {o i value : Expr} {td ty tv : TE} {pos pos' : Pos} (hu : X.A.units + 1 < cLine) (ho : PE X o td) (hi : PE X i ty) (hv : PE X value tv) (hs : swapsWith value (some (.Subscript o i pos')) pos.line X.env = pure false) :
    PS X (.Assign [.Subscript o i pos'] value pos) (sDPutO td ty tv) := by
  refine ⟨fun pins s σ H D I h => ?_⟩
  refine wpAny_Assign_Subscript (thn (hv.run pins s σ H _ I h) fun r s1 ⟨v, H1, I1, rv, q1⟩ => thn (ho.run pins s1 σ H1 _ I1 q1) fun u s2 ⟨x, H2, I2, rx, q2⟩ => thn (hi.run pins s2 σ H2 _ I2 q2) fun iv s3 ⟨y, H3, I3, ry, q3⟩ => ?_) hs
  rcases q3 with ⟨a, H4, ex, g, q3⟩ | ⟨a, kvs, ex, ha, hk, hz, hy, q3⟩
  · subst ex
    obtain rfl : u = Value.ref a := rx
    exact d_setItem hu I3 g ry rv fun s4 I4 => ⟨σ, H4, I4, q3⟩
  · subst ex
    obtain rfl : u = Value.ref a := rx
    exact put_odd I3 hu ha hk hz hy ry rv fun φ s4 od I4 => ⟨σ, _, I4, q3 φ od⟩
/-! what may be shown: an odd dict too -/
inductive DY (K : PySem.W.Frag) (H : Hp) : V → PyData → Prop
  | even {v : V} {d : PyData} : DX K H v d → DY K H v d
  | odd {a : Addr} {kvs : List (List Key × V)} {k v : V} {vs : List V} {ds : List PyData} {es : List (PyData × PyData)} {dk dv : PyData} : OddAt H a kvs k v → vs = kvs.map (·.2) → DXs K H vs ds → es.map (·.1) = kvs.map (fun kv => keyD kv.1) → es.map (·.2) = ds → Dp K H k dk → dk.hasDict = false → DX K H v dv → DY K H (.ref a) (.dict (es ++ [(dk, dv)]))
  | lst {a : Addr} {xs : List V} {ds : List PyData} : SqL K H a xs → xs.length = ds.length → (∀ (i : Nat) (x : V) (d : PyData), xs[i]? = some x → ds[i]? = some d → DY K H x d) → DY K H (.ref a) (.list ds)
  | tup {a : Addr} {xs : List V} {ds : List PyData} : SqT K H a xs → xs.length = ds.length → (∀ (i : Nat) (x : V) (d : PyData), xs[i]? = some x → ds[i]? = some d → DY K H x d) → DY K H (.ref a) (.tuple ds)
theorem shwS_of {P : Program} {w : World} {h : Heap} : ∀ {xs : List V} {us : List Value} {ds : List PyData}, Vals xs us → xs.length = ds.length → (∀ (i : Nat) (x : V) (d : PyData) (u : Value), xs[i]? = some x → ds[i]? = some d → RelV x u → Shw P w h u d) → ShwS P w h us ds
  | _, _, [], .nil, _, _ => shw_nil
  | _, _, d :: ds, .cons r rs, hl, g => shw_cons (g 0 _ d _ rfl rfl r) (shwS_of rs (by simpa using hl) fun i x d u hx hd hr => g (i + 1) x d u (by simpa using hx) (by simpa using hd) hr)
  | _, _, [], .cons r rs, hl, _ => by simp at hl
  | _, _, d :: ds, .nil, hl, _ => by simp at hl
theorem shwS_idx {P : Program} {w : World} {h : Heap} : ∀ {us : List Value} {ds : List PyData}, us.length = ds.length → (∀ (i : Nat) (u : Value) (d : PyData), us[i]? = some u → ds[i]? = some d → Shw P w h u d) → ShwS P w h us ds
  | [], [], _, _ => shw_nil
  | u :: us, d :: ds, hl, g => shw_cons (g 0 _ d rfl rfl) (shwS_idx (by simpa using hl) fun i u d hx hd => g (i + 1) u d (by simpa using hx) (by simpa using hd))
  | [], d :: ds, hl, _ => by simp at hl
  | u :: us, [], hl, _ => by simp at hl
theorem DXs.get {K : PySem.W.Frag} {H : Hp} : ∀ {vs : List V} {ds : List PyData} {i : Nat} {v : V}, DXs K H vs ds → vs[i]? = some v → ∃ d, ds[i]? = some d ∧ DX K H v d
  | _, _, 0, _, .cons a _, h => by
    cases h
    exact ⟨_, rfl, a⟩
  | _, _, i + 1, _, .cons _ b, h => by
    obtain ⟨d, h1, h2⟩ := DXs.get (i := i) b (by simpa using h)
    exact ⟨d, by simpa using h1, h2⟩
  | _, _, _, _, .nil, h => by simp at h
theorem DXs.len {K : PySem.W.Frag} {H : Hp} : ∀ {vs : List V} {ds : List PyData}, DXs K H vs ds → vs.length = ds.length
  | _, _, .nil => rfl
  | _, _, .cons _ b => by rw [List.length_cons, List.length_cons, DXs.len b]
theorem DY.shw (I : Inv X pins σ H s) {v : V} {d : PyData} (h : DY X.K H v d) : ∀ u : Value, RelV v u → Shw X.prog X.w s.heap u d := by
  induction h with
  | even h => exact fun u r => DX.shw I h u r
  | @lst a xs ds hq hl g ih =>
    intro u r
    obtain rfl : u = Value.ref _ := r
    obtain ⟨its, rv, ⟨o, n, ho, hc, _, hd⟩, _⟩ := I.list hq
    exact shw_lst ho hc hd (shwS_of rv hl fun i x d u hx hd hr => ih i x d hx hd u hr)
  | @tup a xs ds hq hl g ih =>
    intro u r
    obtain rfl : u = Value.ref _ := r
    obtain ⟨its, rv, ⟨o, ho, hc, n, hd⟩, _⟩ := I.tuple hq
    exact shw_tup ho hc hd (shwS_of rv hl fun i x d u hx hd hr => ih i x d hx hd u hr)
  | @odd a kvs k v vs ds es dk dv ho ev g ek ed hk nk hv =>
    intro u r
    obtain rfl : u = Value.ref a := r
    obtain ⟨o, hp⟩ := ho
    obtain ⟨z, es', ep, hdt, ⟨o', h1, h2, h3⟩, hsz, ent, hlast, lk, lv⟩ := hp.entries I
    have el : es.length = kvs.length := by
      have := congrArg List.length ek
      rwa [List.length_map, List.length_map] at this
    have at8 : ∀ {α : Type} (f : DictEntry → α) (i : Nat) (u : α), (es'.toList.map f)[i]? = some u → ∃ hi : i < es'.size, u = f es'[i] := fun f i u hu => by
      rw [List.getElem?_map] at hu
      obtain ⟨e, he, rfl⟩ := Option.map_eq_some_iff.mp hu
      rw [Array.getElem?_toList] at he
      obtain ⟨hi, rfl⟩ := Array.getElem?_eq_some_iff.mp he
      exact ⟨hi, rfl⟩
    have keys : ShwS X.prog X.w s.heap (es'.toList.map (·.key)) ((es ++ [(dk, dv)]).map (·.1)) := by
      refine shwS_idx (by rw [List.length_map, List.length_map, List.length_append, Array.length_toList, hsz, el]; rfl) fun i u d hu hd => ?_
      obtain ⟨hi, rfl⟩ := at8 _ i u hu
      rw [List.map_append] at hd
      by_cases c : i < kvs.length
      · rw [List.getElem?_append_left (by rw [List.length_map, el]; exact c), ek, List.getElem?_map, List.getElem?_eq_getElem c] at hd
        cases hd
        obtain ⟨_, q, e1, e2, _⟩ := ent i kvs[i].1 kvs[i].2 (List.getElem?_eq_getElem c)
        rw [e1]
        obtain ⟨as, ra⟩ := Dp.reads I (keyD kvs[i].1) (.ref q) (.ref q) (.tup (SqT.of e2) (keyD1_dp _)) rfl
        exact shw_seq ra (by unfold keyD; rw [PyData.hasDict]; exact keyD1_no _)
      · have ei : i = kvs.length := by omega
        subst ei
        rw [List.getElem?_append_right (by rw [List.length_map, el]; exact Nat.le_refl _), List.length_map, el, Nat.sub_self] at hd
        cases hd
        obtain ⟨as, ra⟩ := Dp.reads I dk k _ hk lk
        exact shw_seq ra nk
    have vals : ShwS X.prog X.w s.heap (es'.toList.map (·.val)) ((es ++ [(dk, dv)]).map (·.2)) := by
      refine shwS_idx (by rw [List.length_map, List.length_map, List.length_append, Array.length_toList, hsz, el]; rfl) fun i u d hu hd => ?_
      obtain ⟨hi, rfl⟩ := at8 _ i u hu
      rw [List.map_append] at hd
      by_cases c : i < kvs.length
      · rw [List.getElem?_append_left (by rw [List.length_map, el]; exact c), ed] at hd
        obtain ⟨_, q, e1, e2, e3⟩ := ent i kvs[i].1 kvs[i].2 (List.getElem?_eq_getElem c)
        obtain ⟨d', h4, h5⟩ := DXs.get g (i := i) (v := kvs[i].2) (by rw [ev, List.getElem?_map, List.getElem?_eq_getElem c]; rfl)
        rw [h4] at hd
        cases hd
        exact DX.shw I h5 _ e3
      · have ei : i = kvs.length := by omega
        subst ei
        rw [List.getElem?_append_right (by rw [List.length_map, el]; exact Nat.le_refl _), List.length_map, el, Nat.sub_self] at hd
        cases hd
        exact DX.shw I hv _ lv
    exact shw_dic h1 h2.1 h3 z keys vals
/-- repr of a tuple in which odd dicts may stand -/
def rReprY (K : PySem.W.Frag) : List V → Hp → VK → Prop := fun xs H Q => ∃ (a : Addr) (vs : List V) (ds : List PyData), xs = [.ref a] ∧ SqT K H a vs ∧ vs.length = ds.length ∧ (∀ (i : Nat) (x : V) (d : PyData), vs[i]? = some x → ds[i]? = some d → DY K H x d) ∧ (PyData.tuple ds).showable = true ∧ (PyData.tuple ds).depth ≤ 40 ∧ (PyData.tuple ds).shown.length ≤ sizeLine ∧ Q (.str (PyData.tuple ds).shown) H
theorem call_reprY (hg : X.A.guards = some []) (hu : X.A.units + 64 < cLine) : CallR X (.builtin "repr") (rReprY X.K) := by
  intro pins s σ H xs us Q I r h
  obtain ⟨a, vs, ds, rfl, hq, hl, g, hs, hd, hz, q⟩ := h
  obtain rfl := Vals.ref1 r
  obtain ⟨its, rv, ⟨o, ho, hc, n, hdd⟩, _⟩ := I.tuple hq
  obtain ⟨⟨as, ra⟩, gg⟩ := shwS_of rv hl fun i x d u hx hd hr => DY.shw I (g i x d hx hd) u hr
  have rd : Reads s.heap (.ref a) (.tuple ds) _ := .tuple ho hc hdd ra
  rw [PyData.showable] at hs
  rw [PyData.shown] at hz q
  rw [PyData.depth] at hd
  obtain ⟨bs, b1, b2⟩ := gg hs fun t m => Nat.le_trans (tupleText_mem_le m) hz
  have out : a ∉ bs := not_mem_of_deeper rd (by rw [PyData.depth]; omega) b1
  refine call_repr_slot (T := "tuple") (idr := "tuple.__repr__") (by omega) ⟨o, ho, hc⟩ F.slot_tuple_repr ?_
  exact call_tuple_reprK ho hc hdd out b2 (g := []) hg (fun b _ => Clear.nil b) (by show X.A.units + 1 + (PyData.depthAll ds + 1) < cLine; omega) (fun _ _ e => e) (fun h' u tk hk => ⟨_, _, rfl, .str _, H, I.kept (t' := tk) hk, ⟨_, rfl⟩, q⟩) hz
end
end L2

set_option Elab.async false
set_option maxRecDepth 100000
set_option maxHeartbeats 4000000
namespace L2
open PySem PySem.Spec PyProof.Rows PySem.SeqAt PySem.Calls PyProof.V PySem.W
set_option linter.unusedVariables false
/-! == of dicts with tuple keys -/
section
variable {prog : Program} {w : World} {K : Type} [DecidableEq K] {knd : HeapKind prog w K} {A : Around} {E : Value → Shared → Prop} {s : Shared}
inductive HitsH {K : Type} (prog : Program) (w : World) (A : Around) (s : Shared) (kb : List (K × Addr × Value)) : List (K × Addr × Value) → Bool → Prop
  | nil : HitsH prog w A s kb [] true
  | miss {k : K} {v : Addr × Value} {r : List (K × Addr × Value)} : (∀ (j : Nat) (p : Addr × Value), kb[j]? ≠ some (k, p)) → HitsH prog w A s kb ((k, v) :: r) false
  | hit {k : K} {v p : Addr × Value} {j : Nat} {r : List (K × Addr × Value)} {e b : Bool} : kb[j]? = some (k, p) → SeqAt.EqP prog w A s v.2 p.2 e → HitsH prog w A s kb r b → HitsH prog w A s kb ((k, v) :: r) (e && b)
theorem HitsH.inv {kb : List (K × Addr × Value)} {k : K} {v : Addr × Value} {r : List (K × Addr × Value)} {b : Bool} (h : HitsH prog w A s kb ((k, v) :: r) b) :
    ((∀ (j : Nat) (p : Addr × Value), kb[j]? ≠ some (k, p)) ∧ b = false) ∨ ∃ (j : Nat) (p : Addr × Value) (e b' : Bool), kb[j]? = some (k, p) ∧ SeqAt.EqP prog w A s v.2 p.2 e ∧ HitsH prog w A s kb r b' ∧ b = (e && b') := by
  cases h with
  | miss hn => exact .inl ⟨hn, rfl⟩
  | hit hy he hr => exact .inr ⟨_, _, _, _, hy, he, hr, rfl⟩
theorem samePairsH {nm : String} {a b : Addr} {ka kb : List (K × Addr × Value)} {r : Bool} {Q : Bool → Shared → Prop} (hu : knd.room A) (ha : (a == sysModules) = false) (hb : (b == sysModules) = false)
    (da : s.heap.DictOfH knd a ka) (db : s.heap.DictOfH knd b kb) (hits : ka.length = kb.length → HitsH prog w A s kb ka r) (h : Q (ka.length == kb.length && r) s) :
    wpAny (model prog w) A (Builtin.Dict.samePairs nm a b) Q E s := by
  obtain ⟨oa, es, ep, hoa, _, hda, hea, hia, hna⟩ := da
  obtain ⟨ob, es', ep', hob, _, hdb, heb, hib, hnb⟩ := db
  have hla : ka.length = es.size := (size_of_entries hea).symm
  have hlb : kb.length = es'.size := (size_of_entries heb).symm
  rw [hla, hlb] at h
  unfold Builtin.Dict.samePairs Builtin.Dict.showsAll
  rw [if_neg (show ¬ (a == sysModules) = true by rw [ha]; exact Bool.false_ne_true), if_neg (show ¬ (b == sysModules) = true by rw [hb]; exact Bool.false_ne_true)]
  refine wpAny_bind (wpAny_pure (wpAny_bind (wpAny_pure ?_)))
  refine wpAny_bind (wpAny_dictEntries hoa hda ?_)
  dsimp only
  refine wpAny_bind (wpAny_dictEntries hob hdb ?_)
  by_cases hsz : es.size = es'.size
  case neg =>
    rw [if_pos (by simpa using hsz)]
    have hbf : (es.size == es'.size) = false := by simpa using hsz
    rw [hbf, Bool.false_and] at h
    exact wpAny_bind (wpAny_rule (wpAny_pure h))
  case pos =>
    have h' : Q r s := by simpa [hsz] using h
    have hits' := hits (by rw [hla, hlb]; exact hsz)
    rw [if_neg (by rw [hsz]; simp)]
    refine wpAny_bind (wpAny_dictEpoch hoa hda ?_)
    refine wpAny_bind ?_
    rw [Std.Legacy.Range.forIn_eq_forIn_range']
    simp only [Std.Legacy.Range.size, Nat.sub_zero, Nat.add_sub_cancel, Nat.div_one]
    refine wpAny_forIn_list _
      (fun rest q s' => s' = s ∧ q = (none, ()) ∧ ∃ i, rest = List.range' i (es.size - i) ∧ i ≤ es.size ∧ HitsH prog w A s kb (ka.drop i) r)
      _ ?_ ?_ _ _ ⟨rfl, rfl, 0, by simp, Nat.zero_le _, hits'⟩
    · rintro x rest q s' ⟨rfl, rfl, i, hr, hi, hpre⟩
      have hlt : i < es.size := by
        rcases Nat.lt_or_ge i es.size with h | h
        · exact h
        · rw [Nat.sub_eq_zero_of_le h] at hr; simp at hr
      obtain ⟨rfl, hrest⟩ : x = i ∧ rest = List.range' (i + 1) (es.size - (i + 1)) := by
        have e : es.size - i = (es.size - (i + 1)) + 1 := by omega
        rw [e, List.range'_succ] at hr
        injection hr with h1 h2
        exact ⟨h1, h2⟩
      refine wpAny_bind (wpAny_dictEntries hoa hda ?_)
      rw [Array.getElem?_eq_getElem hlt]
      have hlt' : x < ka.length := by rw [hla]; exact hlt
      obtain ⟨k, v, hkv⟩ : ∃ k v, ka[x] = (k, v) := ⟨_, _, rfl⟩
      have hdrop : ka.drop x = (k, v) :: ka.drop (x + 1) := by rw [← hkv]; exact List.drop_eq_getElem_cons hlt'
      have hen : es[x] = entryOfKey knd (k, v) := by
        have q := entry_at hea x
        rw [Array.getElem?_eq_getElem hlt, List.getElem?_eq_getElem hlt', hkv] at q
        exact Option.some.inj q
      have hkm : knd.is s'.heap k v.1 := by
        have := hia ka[x] (List.getElem_mem hlt')
        rw [hkv] at this
        exact this
      rw [hdrop] at hpre
      rw [hen]
      show wpAny _ _ (holding [Value.ref v.1, v.2] _ >>= _) _ _ _
      refine wpAny_bind (wpAny_holding (wpAny_bind ?_))
      show wpAny _ _ (dictFind b (.ref v.1) (knd.hash k)) _ _ _
      refine wpAny_dictFind_heap hu hkm hob hdb heb hib hnb (fun hno => ?_) fun j p hj => ?_
      · rcases hpre.inv with ⟨_, er⟩ | ⟨j, y, _, _, hy, _⟩
        · rw [er] at h'
          refine wpAny_pure ?_
          show wpAny _ _ (if (!false) = true then _ else _) _ _ _
          rw [if_pos (by decide)]
          exact wpAny_pure (wpAny_pure h')
        · exact absurd hy (hno j y)
      · have hjlt : j < es'.size := by
          rw [← hlb]
          exact (List.getElem?_eq_some_iff.mp hj).1
        refine wpAny_bind (wpAny_dictEntries hob hdb ?_)
        rw [Array.getElem?_eq_getElem hjlt]
        rcases hpre.inv with ⟨hn, _⟩ | ⟨j2, y, e, b', hy, he, hrr, er⟩
        · exact absurd hj (hn j p)
        · have ejj : j = j2 := by
            obtain ⟨l1, e1⟩ := List.getElem?_eq_some_iff.mp hj
            obtain ⟨l2, e2⟩ := List.getElem?_eq_some_iff.mp hy
            have g1 : (kb.map (·.1))[j]'(by simpa using l1) = k := by rw [List.getElem_map, e1]
            have g2 : (kb.map (·.1))[j2]'(by simpa using l2) = k := by rw [List.getElem_map, e2]
            have pw := List.pairwise_iff_getElem.mp hnb
            rcases Nat.lt_trichotomy j j2 with c | c | c
            · exact absurd (g1.trans g2.symm) (pw j j2 (by simpa using l1) (by simpa using l2) c)
            · exact c
            · exact absurd (g2.trans g1.symm) (pw j2 j (by simpa using l2) (by simpa using l1) c)
          subst ejj
          rw [hj] at hy
          cases hy
          have ev : es'[j].val = p.2 := by
            have q := entry_at heb j
            rw [Array.getElem?_eq_getElem hjlt, hj] at q
            rw [Option.some.inj q]
            rfl
          show wpAny _ _ (holding [es'[j].val] (eqBool v.2 es'[j].val)) _ _ _
          rw [ev]
          refine wpAny_holding (he _ _ ?_)
          cases e with
          | false =>
            rw [er, Bool.false_and] at h'
            show wpAny _ _ (if (!false) = true then _ else _) _ _ _
            rw [if_pos (by decide)]
            exact wpAny_pure (wpAny_pure h')
          | true =>
            rw [Bool.true_and] at er
            rw [← er] at hrr
            show wpAny _ _ (if (!true) = true then _ else _) _ _ _
            rw [if_neg (by decide)]
            refine wpAny_bind (wpAny_dictEpoch hoa hda ?_)
            rw [if_neg (by simp)]
            exact wpAny_pure ⟨rfl, rfl, x + 1, hrest, hlt, hrr⟩
    · rintro q s' ⟨rfl, rfl, i, hr, hi, hpre⟩
      have hin : i = es.size := by
        rcases Nat.lt_or_ge i es.size with h | h
        · have e : es.size - i = (es.size - (i + 1)) + 1 := by omega
          rw [e, List.range'_succ] at hr; exact nomatch hr
        · exact Nat.le_antisymm hi h
      refine wpAny_pure ?_
      rw [hin, ← hla, List.drop_length] at hpre
      cases hpre
      exact h'
theorem DictOfH.ty {d : Addr} {xs : List (K × Addr × Value)} (h : s.heap.DictOfH knd d xs) : s.TypeIs (.ref d) "dict" := let ⟨o, _, _, ho, hc, _⟩ := h; ⟨o, ho, hc.1⟩
theorem rcH_dicts {a b : Addr} {ka kb : List (K × Addr × Value)} {r : Bool} (hr : knd.room A.in1) (ha : (a == sysModules) = false) (hb : (b == sysModules) = false)
    (da : s.heap.DictOfH knd a ka) (db : s.heap.DictOfH knd b kb) (hu : A.units < cLine) (hits : ka.length = kb.length → HitsH prog w A.in1 s kb ka r) (E Q : Value → Shared → Prop) (h : Q (.bool (ka.length == kb.length && r)) s) : wpAny (model prog w) A (richCompare .Eq (.ref a) (.ref b)) Q E s := by
  refine wpAny_richCompare_same_room (op := .Eq) (DictOfH.ty da) (DictOfH.ty db) PySem.F.slot_dict_eq (wpAny_call_entry PySem.F.slot_dict_eq (DictOfH.ty da) PySem.F.entry_dict_eq ?_ (PySem.F.args_dict_eq_2 _ _)) hu
  show wpAny _ _ (Builtin.Dict.dictSlotArgs "__eq__" ⟨[.ref a, .ref b], []⟩ >>= _) _ _ s
  refine wpAny_bind ?_
  unfold Builtin.Dict.dictSlotArgs
  refine wpAny_bind (wpAny_notOrdered_dict (DictOfH.ty da) ?_)
  show wpAny _ _ (pure (Value.ref a, Value.ref b)) _ _ s
  refine wpAny_pure ?_
  refine wpAny_bind (wpAny_isInstance (T := "dict") (DictOfH.ty db) PySem.F.sub_dict_dict ?_)
  simp only [Bool.not_true, Bool.false_eq_true, if_false]
  refine wpAny_bind (wpAny_pure (wpAny_bind (wpAny_pure ?_)))
  refine wpAny_bind (samePairsH hr ha hb da db hits ?_)
  refine wpAny_pure ⟨_, rfl, ?_, ?_⟩
  · exact fun x => nomatch x
  · simpa using h
theorem rcHN_dicts {a b : Addr} {ka kb : List (K × Addr × Value)} {r : Bool} (hr : knd.room A.in1) (ha : (a == sysModules) = false) (hb : (b == sysModules) = false)
    (da : s.heap.DictOfH knd a ka) (db : s.heap.DictOfH knd b kb) (hu : A.units < cLine) (hits : ka.length = kb.length → HitsH prog w A.in1 s kb ka r) (E Q : Value → Shared → Prop) (h : Q (.bool (!(ka.length == kb.length && r))) s) : wpAny (model prog w) A (richCompare .NotEq (.ref a) (.ref b)) Q E s := by
  refine wpAny_richCompare_same_room (op := .NotEq) (DictOfH.ty da) (DictOfH.ty db) PySem.F.slot_dict_ne (wpAny_call_entry PySem.F.slot_dict_ne (DictOfH.ty da) PySem.F.entry_dict_ne ?_ (PySem.F.args_dict_ne_2 _ _)) hu
  show wpAny _ _ (Builtin.Dict.dictSlotArgs "__ne__" ⟨[.ref a, .ref b], []⟩ >>= _) _ _ s
  refine wpAny_bind ?_
  unfold Builtin.Dict.dictSlotArgs
  refine wpAny_bind (wpAny_notOrdered_dict (DictOfH.ty da) ?_)
  show wpAny _ _ (pure (Value.ref a, Value.ref b)) _ _ s
  refine wpAny_pure ?_
  refine wpAny_bind (wpAny_isInstance (T := "dict") (DictOfH.ty db) PySem.F.sub_dict_dict ?_)
  simp only [Bool.not_true, Bool.false_eq_true, if_false]
  refine wpAny_bind (wpAny_pure (wpAny_bind (wpAny_pure ?_)))
  refine wpAny_bind (samePairsH hr ha hb da db hits ?_)
  refine wpAny_pure ⟨_, rfl, ?_, ?_⟩
  · exact fun x => nomatch x
  · simpa using h
end

section
variable {prog : Program} {w : World}
open AutoSeq1 (wpAny_loadPart')
theorem tuple_eqIn (l b : Addr) (items items2 : Array Value) (n n2 : Nat) (dd dd2 : Option Addr) (sl sl2 : Array (Option Value)) (e : Nat → Bool) :
    MeetsIn prog w (Builtin.«tuple.__eq__» ⟨[.ref l, .ref b], []⟩)
      (fun A R s => s.heap.get? l = some { cls := .type "tuple", dict := dd, data := .seq items n, slots := sl } ∧ s.heap.get? b = some { cls := .type "tuple", dict := dd2, data := .seq items2 n2, slots := sl2 } ∧
        (∀ j (h1 : j < items.size) (h2 : j < items2.size), SeqAt.EqP prog w A.in1 s items[j] items2[j] (e j)) ∧
        R (.ok (.ret (.bool ((List.range (min items.size items2.size)).all e && items.size == items2.size)))) s) :=
  .of_wp fun A R s h => by
    obtain ⟨hp, g, d, tk, os⟩ := s; obtain ⟨hl, hb, he, h⟩ := h
    have f2 := AutoSeq1.sub_tuple_tuple
    have hZ : (items.toList.zip items2.toList).length = min items.size items2.size := by simp
    wp_walk using wpAny_loadPart' hl, wpAny_loadPart' hb, wpAny_forIn_list _ (fun rest b s' => b.1 = none ∧ s' = ⟨hp, g, d, tk, os⟩ ∧ ∃ i, rest = (items.toList.zip items2.toList).drop i ∧
      R (.ok (.ret (.bool (((List.range (min items.size items2.size)).drop i).all e && items.size == items2.size)))) ⟨hp, g, d, tk, os⟩) _
    case turn =>
      rintro ⟨y, x⟩ rest b s' ⟨hb', rfl, i, hz, hR⟩
      have hlt : i < (items.toList.zip items2.toList).length := by
        rcases Nat.lt_or_ge i (items.toList.zip items2.toList).length with h' | h'
        · exact h'
        · rw [List.drop_of_length_le h'] at hz; cases hz
      have hm : i < min items.size items2.size := hZ ▸ hlt
      have h1 : i < items.size := Nat.lt_of_lt_of_le hm (Nat.min_le_left _ _)
      have h2 : i < items2.size := Nat.lt_of_lt_of_le hm (Nat.min_le_right _ _)
      rw [List.drop_eq_getElem_cons hlt] at hz
      injection hz with hyx hrest
      have hy : y = items[i] := by have := congrArg Prod.fst hyx; simpa using this
      have hx : x = items2[i] := by have := congrArg Prod.snd hyx; simpa using this
      subst hy hx
      have hd : (List.range (min items.size items2.size)).drop i = i :: (List.range (min items.size items2.size)).drop (i + 1) := by simp [List.drop_eq_getElem_cons, hm]
      rw [hd, List.all_cons] at hR
      refine wpAny_bind (he i h1 h2 _ _ ?_)
      cases hy : e i with
      | true =>
        rw [hy] at hR
        wp_walk
        exact ⟨rfl, rfl, i + 1, hrest, by simpa using hR⟩
      | false =>
        rw [hy] at hR
        wp_walk
        exact ⟨_, rfl, by simpa using hR⟩
    case fin =>
      rintro ⟨b1, b2⟩ s' ⟨hb', rfl, i, hz, hR⟩
      simp only at hb'
      subst hb'
      have hge : min items.size items2.size ≤ i := by
        rcases Nat.lt_or_ge i (items.toList.zip items2.toList).length with h' | h'
        · rw [List.drop_eq_getElem_cons h'] at hz; cases hz
        · exact hZ ▸ h'
      rw [List.drop_of_length_le (by simpa using hge)] at hR
      wp_walk
      exact ⟨_, rfl, by simpa [Builtin.Tuple.tupleCompareSizes] using hR⟩
    case h =>
      exact ⟨rfl, rfl, 0, rfl, by simpa using h⟩
theorem rcP_tups {A : Around} {s : Shared} {l b : Addr} {items items2 : Array Value} {e : Nat → Bool} (hl : s.heap.IsTuple l items) (hb : s.heap.IsTuple b items2) (hu : A.units < cLine)
    (he : ∀ j (h1 : j < items.size) (h2 : j < items2.size), SeqAt.EqP prog w A.in1 s items[j] items2[j] (e j)) (E Q : Value → Shared → Prop) (h : Q (.bool ((List.range (min items.size items2.size)).all e && items.size == items2.size)) s) : wpAny (model prog w) A (richCompare .Eq (.ref l) (.ref b)) Q E s := by
  obtain ⟨⟨cls, dd, data, sl⟩, ho, hc, n, hd⟩ := id hl
  obtain ⟨⟨cls2, dd2, data2, sl2⟩, ho2, hc2, n2, hd2⟩ := id hb
  simp only at hc hd hc2 hd2
  subst hc hd hc2 hd2
  have ta : s.TypeIs (.ref l) "tuple" := ⟨_, ho, rfl⟩
  have tb : s.TypeIs (.ref b) "tuple" := ⟨_, ho2, rfl⟩
  exact wpAny_richCompare_same_room (op := .Eq) ta tb F.slot_tuple_eq (call_meetsIn F.slot_tuple_eq ta F.entry_tuple_eq (F.args_tuple_eq_2 _ _) (tuple_eqIn l b items items2 n n2 dd dd2 sl sl2 e)
    ⟨ho, ho2, he, show Value.bool ((List.range (min items.size items2.size)).all e && items.size == items2.size) ≠ Value.notImplemented ∧ Q (.bool ((List.range (min items.size items2.size)).all e && items.size == items2.size)) s from ⟨(fun x => nomatch x), h⟩⟩) hu
theorem tuple_neIn (l b : Addr) (items items2 : Array Value) (n n2 : Nat) (dd dd2 : Option Addr) (sl sl2 : Array (Option Value)) (e : Nat → Bool) :
    MeetsIn prog w (Builtin.«tuple.__ne__» ⟨[.ref l, .ref b], []⟩)
      (fun A R s => s.heap.get? l = some { cls := .type "tuple", dict := dd, data := .seq items n, slots := sl } ∧ s.heap.get? b = some { cls := .type "tuple", dict := dd2, data := .seq items2 n2, slots := sl2 } ∧
        (∀ j (h1 : j < items.size) (h2 : j < items2.size), SeqAt.EqP prog w A.in1 s items[j] items2[j] (e j)) ∧
        R (.ok (.ret (.bool (!((List.range (min items.size items2.size)).all e && items.size == items2.size))))) s) :=
  .of_wp fun A R s h => by
    obtain ⟨hp, g, d, tk, os⟩ := s; obtain ⟨hl, hb, he, h⟩ := h
    have f2 := AutoSeq1.sub_tuple_tuple
    have hZ : (items.toList.zip items2.toList).length = min items.size items2.size := by simp
    wp_walk using wpAny_loadPart' hl, wpAny_loadPart' hb, wpAny_forIn_list _ (fun rest b s' => b.1 = none ∧ s' = ⟨hp, g, d, tk, os⟩ ∧ ∃ i, rest = (items.toList.zip items2.toList).drop i ∧
      R (.ok (.ret (.bool (!(((List.range (min items.size items2.size)).drop i).all e && items.size == items2.size))))) ⟨hp, g, d, tk, os⟩) _
    case turn =>
      rintro ⟨y, x⟩ rest b s' ⟨hb', rfl, i, hz, hR⟩
      have hlt : i < (items.toList.zip items2.toList).length := by
        rcases Nat.lt_or_ge i (items.toList.zip items2.toList).length with h' | h'
        · exact h'
        · rw [List.drop_of_length_le h'] at hz; cases hz
      have hm : i < min items.size items2.size := hZ ▸ hlt
      have h1 : i < items.size := Nat.lt_of_lt_of_le hm (Nat.min_le_left _ _)
      have h2 : i < items2.size := Nat.lt_of_lt_of_le hm (Nat.min_le_right _ _)
      rw [List.drop_eq_getElem_cons hlt] at hz
      injection hz with hyx hrest
      have hy : y = items[i] := by have := congrArg Prod.fst hyx; simpa using this
      have hx : x = items2[i] := by have := congrArg Prod.snd hyx; simpa using this
      subst hy hx
      have hd : (List.range (min items.size items2.size)).drop i = i :: (List.range (min items.size items2.size)).drop (i + 1) := by simp [List.drop_eq_getElem_cons, hm]
      rw [hd, List.all_cons] at hR
      refine wpAny_bind (he i h1 h2 _ _ ?_)
      cases hy : e i with
      | true =>
        rw [hy] at hR
        wp_walk
        exact ⟨rfl, rfl, i + 1, hrest, by simpa using hR⟩
      | false =>
        rw [hy] at hR
        wp_walk
        exact ⟨_, rfl, by simpa using hR⟩
    case fin =>
      rintro ⟨b1, b2⟩ s' ⟨hb', rfl, i, hz, hR⟩
      simp only at hb'
      subst hb'
      have hge : min items.size items2.size ≤ i := by
        rcases Nat.lt_or_ge i (items.toList.zip items2.toList).length with h' | h'
        · rw [List.drop_eq_getElem_cons h'] at hz; cases hz
        · exact hZ ▸ h'
      rw [List.drop_of_length_le (by simpa using hge)] at hR
      wp_walk
      exact ⟨_, rfl, by simpa [Builtin.Tuple.tupleCompareSizes, bne] using hR⟩
    case h =>
      exact ⟨rfl, rfl, 0, rfl, by simpa using h⟩
theorem rcN_tups {A : Around} {s : Shared} {l b : Addr} {items items2 : Array Value} {e : Nat → Bool} (hl : s.heap.IsTuple l items) (hb : s.heap.IsTuple b items2) (hu : A.units < cLine)
    (he : ∀ j (h1 : j < items.size) (h2 : j < items2.size), SeqAt.EqP prog w A.in1 s items[j] items2[j] (e j)) (E Q : Value → Shared → Prop) (h : Q (.bool (!((List.range (min items.size items2.size)).all e && items.size == items2.size))) s) : wpAny (model prog w) A (richCompare .NotEq (.ref l) (.ref b)) Q E s := by
  obtain ⟨⟨cls, dd, data, sl⟩, ho, hc, n, hd⟩ := id hl
  obtain ⟨⟨cls2, dd2, data2, sl2⟩, ho2, hc2, n2, hd2⟩ := id hb
  simp only at hc hd hc2 hd2
  subst hc hd hc2 hd2
  have ta : s.TypeIs (.ref l) "tuple" := ⟨_, ho, rfl⟩
  have tb : s.TypeIs (.ref b) "tuple" := ⟨_, ho2, rfl⟩
  exact wpAny_richCompare_same_room (op := .NotEq) ta tb F.slot_tuple_ne (call_meetsIn F.slot_tuple_ne ta F.entry_tuple_ne (F.args_tuple_ne_2 _ _) (tuple_neIn l b items items2 n n2 dd dd2 sl sl2 e)
    ⟨ho, ho2, he, show Value.bool (!((List.range (min items.size items2.size)).all e && items.size == items2.size)) ≠ Value.notImplemented ∧ Q (.bool (!((List.range (min items.size items2.size)).all e && items.size == items2.size))) s from ⟨(fun x => nomatch x), h⟩⟩) hu
end
end L2

set_option Elab.async false
set_option maxRecDepth 100000
set_option maxHeartbeats 4000000
namespace L2
open PySem PySem.Spec PyProof.Rows PySem.SeqAt PySem.Calls PyProof.V PySem.W
set_option linter.unusedVariables false
/-! == of nested data in which dicts with tuple keys stand -/
def RcX (K : PySem.W.Frag) (H : Hp) (F : V → V → Bool → Prop) (x y : V) (r : Bool) : Prop :=
  (∃ a b xs ys e, x = .ref a ∧ y = .ref b ∧ SqL K H a xs ∧ SqL K H b ys ∧ xs.length = ys.length ∧ (∀ (j : Nat) u v, xs[j]? = some u → ys[j]? = some v → F u v (e j)) ∧ r = (List.range xs.length).all e) ∨
  (∃ a b xs ys e, x = .ref a ∧ y = .ref b ∧ SqT K H a xs ∧ SqT K H b ys ∧ (∀ (j : Nat) u v, xs[j]? = some u → ys[j]? = some v → F u v (e j)) ∧ r = ((List.range (min xs.length ys.length)).all e && xs.length == ys.length)) ∨
  ∃ a b ks ls f, x = .ref a ∧ y = .ref b ∧ H a = some (.dT ks) ∧ H b = some (.dT ls) ∧ (ks.length = ls.length → ∀ p ∈ ks, (valV ls p.1 = none ∧ f p = false) ∨ ∃ u, valV ls p.1 = some u ∧ F p.2 u (f p)) ∧ r = (ks.length == ls.length && ks.all f)
def EqX (K : PySem.W.Frag) (H : Hp) : Nat → V → V → Bool → Prop
  | 0 => fun _ _ _ => False
  | n + 1 => fun x y r => (∃ d e, Dp K H x d ∧ Dp K H y e ∧ SeqAt.shaped d = true ∧ SeqAt.shaped e = true ∧ r = PyData.eqv d e) ∨ (∃ a, x = .ref a ∧ y = .ref a ∧ r = true) ∨ (RcX K H (EqX K H n) x y r ∧ (x = y → r = true))
theorem atKey_idx {xs : List (List Key × Addr × Value)} {k : List Key} {p : Addr × Value} (h : atKey xs k = some p) : ∃ j : Nat, xs[j]? = some (k, p) := by
  unfold atKey at h
  obtain ⟨q, hq, rfl⟩ := Option.map_eq_some_iff.mp h
  obtain ⟨j, hj⟩ := List.getElem?_of_mem (List.mem_of_find?_eq_some hq)
  have : q.1 = k := by simpa using List.find?_some hq
  exact ⟨j, by rw [hj, ← this]⟩
theorem atKey_no {xs : List (List Key × Addr × Value)} {k : List Key} (h : atKey xs k = none) : ∀ (j : Nat) (p : Addr × Value), xs[j]? ≠ some (k, p) := fun j p e => by
  unfold atKey at h
  have h := Option.map_eq_none_iff.mp h
  have := List.find?_eq_none.mp h (k, p) (List.mem_of_getElem? e)
  simp at this
theorem hitsH_run {P : Program} {w : World} {A : Around} {s : Shared} {H : Hp} {F : V → V → Bool → Prop} (ih : ∀ x y r v u, F x y r → RelV x v → RelV y u → SeqAt.EqP P w A s v u r) {ls : List (List Key × V)} {vb : List (List Key × Addr × Value)} (rb : KT H ls vb) {f : List Key × V → Bool} {ks : List (List Key × V)} {va : List (List Key × Addr × Value)}
    (ra : KT H ks va) : (∀ p ∈ ks, (valV ls p.1 = none ∧ f p = false) ∨ ∃ u, valV ls p.1 = some u ∧ F p.2 u (f p)) → HitsH P w A s vb va (ks.all f) := by
  induction ra with
  | nil => intro _; exact .nil
  | @cons p q ps qs h t k =>
    intro hp
    obtain ⟨h1, h2, h3⟩ := h
    obtain ⟨key, v⟩ := q
    have h1 : p.1 = key := h1
    have rv := rb.val p.1
    rw [List.all_cons]
    rcases hp p List.mem_cons_self with ⟨e, ef⟩ | ⟨u, e, fu⟩
    · rw [ef, Bool.false_and]
      rw [e] at rv
      have : atKey vb p.1 = none := by
        cases c : atKey vb p.1 with
        | none => rfl
        | some z => rw [c] at rv; exact False.elim rv
      rw [h1] at this
      exact .miss (atKey_no this)
    · rw [e] at rv
      obtain ⟨y, hy, ry⟩ := rv.some_of
      obtain ⟨z, hz, rfl⟩ := Option.map_eq_some_iff.mp hy
      rw [h1] at hz
      obtain ⟨j, hj⟩ := atKey_idx hz
      exact .hit hj (ih _ _ _ _ _ fu h3 ry) (k fun p' hm => hp p' (List.mem_cons_of_mem _ hm))
section
variable {X : Cx} {pins : List (Addr × Obj)} {σ : St} {H : Hp} {s : Shared}
theorem vals_at {xs : List V} {us : List Value} (r : Vals xs us) {j : Nat} (h : j < us.length) : ∃ x, xs[j]? = some x ∧ RelV x us[j] := by
  have hx : j < xs.length := by rw [r.length]; exact h
  obtain ⟨u, hu, ru⟩ := r.get (List.getElem?_eq_getElem hx)
  rw [List.getElem?_eq_getElem h] at hu
  cases hu
  exact ⟨_, List.getElem?_eq_getElem hx, ru⟩
section
open AutoSeq1 (wpAny_loadPart')
open MeetsSeq MeetsSeq2 MeetsSeq3 SeqRoads2
theorem ne_loopIn {prog : Program} {w : World} (l b : Addr) (items items2 : Array Value) (n n2 : Nat) (dd dd2 : Option Addr) (sl sl2 : Array (Option Value)) (hsz : items.size = items2.size) (e : Nat → Bool) (k : Nat) :
    ∀ i : Nat, items.size - i = k → MeetsIn prog w (Builtin.«list.__eq__.loop» ⟨[.ref l, .ref b, rawInt i, rawInt 3], []⟩)
      (fun A R s => s.heap.get? l = some { cls := .type "list", dict := dd, data := .seq items n, slots := sl } ∧ s.heap.get? b = some { cls := .type "list", dict := dd2, data := .seq items2 n2, slots := sl2 } ∧
        (∀ j (h1 : j < items.size) (h2 : j < items2.size), SeqAt.EqP prog w A.in1 s items[j] items2[j] (e j)) ∧
        R (.ok (.ret (.bool (!((List.range items.size).drop i).all e)))) s) := by
  induction k with
  | zero =>
    intro i hk A R s h
    obtain ⟨hp, g, d, tk, os⟩ := s; obtain ⟨hl, hb, he, h⟩ := h
    wp_walk using wpAny_loadPart' hl, wpAny_loadPart' hb
    have hi1 : items[((i : Nat) : Int).toNat]? = none := by simp; omega
    have hi2 : items2[((i : Nat) : Int).toNat]? = none := by simp; omega
    have hd : (List.range items.size).drop i = [] := by simp; omega
    rw [hd] at h
    rw [hi1, hi2]
    wp_walk using wpAny_loadPart' hl, wpAny_loadPart' hb
    show R (.ok (.ret (.bool (items.size != items2.size)))) _
    rw [hsz]
    simpa using h
  | succ k ih =>
    intro i hk A R s h
    obtain ⟨hp, g, d, tk, os⟩ := s; obtain ⟨hl, hb, he, h⟩ := h
    wp_walk using wpAny_loadPart' hl, wpAny_loadPart' hb
    have hlt : i < items.size := by omega
    have hlt2 : i < items2.size := by omega
    have hi1 : items[((i : Nat) : Int).toNat]? = some items[i] := by simp [hlt]
    have hi2 : items2[((i : Nat) : Int).toNat]? = some items2[i] := by simp [hlt2]
    have hd : (List.range items.size).drop i = i :: (List.range items.size).drop (i + 1) := by simp [List.drop_eq_getElem_cons, hlt]
    have hc : ((i : Int) + 1) = ((i + 1 : Nat) : Int) := by push_cast; rfl
    rw [hd, List.all_cons] at h
    rw [hi1, hi2]
    refine wpAny_bind (he i hlt hlt2 _ _ ?_)
    cases hb' : e i with
    | true =>
      rw [hb'] at h
      wp_walk
      rw [hc]
      exact ⟨plainId_quiet plain_eq_loop _, codeAny_builtin entry_eq_loop (by
        rw [Around.under_plainId plain_eq_loop _]
        exact ih (i + 1) (by omega) A R _ ⟨hl, hb, he, by simpa using h⟩)⟩
    | false =>
      rw [hb'] at h
      wp_walk using wpAny_loadPart' hl, wpAny_loadPart' hb
      rw [hi1, hi2]
      wp_walk
      simpa using h

theorem list_neIn {prog : Program} {w : World} (l b : Addr) (items items2 : Array Value) (n n2 : Nat) (dd dd2 : Option Addr) (sl sl2 : Array (Option Value)) (hsz : items.size = items2.size) (e : Nat → Bool) :
    MeetsIn prog w (Builtin.«list.__ne__» ⟨[.ref l, .ref b], []⟩)
      (fun A R s => s.heap.get? l = some { cls := .type "list", dict := dd, data := .seq items n, slots := sl } ∧ s.heap.get? b = some { cls := .type "list", dict := dd2, data := .seq items2 n2, slots := sl2 } ∧
        (∀ j (h1 : j < items.size) (h2 : j < items2.size), SeqAt.EqP prog w A.in1 s items[j] items2[j] (e j)) ∧
        R (.ok (.ret (.bool (!(List.range items.size).all e)))) s) := by
  intro A R s h
  obtain ⟨hp, g, d, tk, os⟩ := s; obtain ⟨hl, hb, he, h⟩ := h
  have f3 := AutoSeq1.sub_list_list
  have hne : ¬ (items.size != items2.size) = true := by simp [hsz]
  wp_walk using wpAny_loadPart' hl, wpAny_loadPart' hb
  exact ⟨plainId_quiet plain_eq_loop _, codeAny_builtin entry_eq_loop (by
    rw [Around.under_plainId plain_eq_loop _]
    exact ne_loopIn l b items items2 n n2 dd dd2 sl sl2 hsz e _ 0 rfl A R _ ⟨hl, hb, he, by simpa using h⟩)⟩

theorem rcN_lists {prog : Program} {w : World} {A : Around} {s : Shared} {l b : Addr} {items items2 : Array Value} {e : Nat → Bool} (hl : s.heap.IsList l items) (hb : s.heap.IsList b items2) (hsz : items.size = items2.size) (hu : A.units < cLine)
    (he : ∀ j (h1 : j < items.size) (h2 : j < items2.size), SeqAt.EqP prog w A.in1 s items[j] items2[j] (e j)) (E Q : Value → Shared → Prop) (h : Q (.bool (!(List.range items.size).all e)) s) : wpAny (model prog w) A (richCompare .NotEq (.ref l) (.ref b)) Q E s := by
  obtain ⟨⟨cls, dd, data, sl⟩, ho, hc, n, hd⟩ := id hl
  obtain ⟨⟨cls2, dd2, data2, sl2⟩, ho2, hc2, n2, hd2⟩ := id hb
  simp only at hc hd hc2 hd2
  subst hc hd hc2 hd2
  have ta : s.TypeIs (.ref l) "list" := ⟨_, ho, rfl⟩
  have tb : s.TypeIs (.ref b) "list" := ⟨_, ho2, rfl⟩
  exact wpAny_richCompare_same_room (op := .NotEq) ta tb F.slot_list_ne (call_meetsIn F.slot_list_ne ta F.entry_list_ne (F.args_list_ne_2 _ _) (list_neIn l b items items2 n n2 dd dd2 sl sl2 hsz e)
    ⟨ho, ho2, he, show Value.bool (!(List.range items.size).all e) ≠ Value.notImplemented ∧ Q (.bool (!(List.range items.size).all e)) s from ⟨(fun x => nomatch x), h⟩⟩) hu
end
theorem rcX_run (I : Inv X pins σ H s) {A : Around} {F : V → V → Bool → Prop} (hu : A.units + 4 < cLine) (ih : ∀ x y r v u, F x y r → RelV x v → RelV y u → SeqAt.EqP X.prog X.w A.in1 s v u r) {x y : V} {r : Bool} {v u : Value} (h : RcX X.K H F x y r) (rx : RelV x v) (ry : RelV y u)
    (E Q : Value → Shared → Prop) (q : Q (.bool r) s) : wpAny (model X.prog X.w) A (richCompare .Eq v u) Q E s := by
  rcases h with ⟨a, b, xs, ys, e, rfl, rfl, ha, hb, hl, he, rfl⟩ | ⟨a, b, xs, ys, e, rfl, rfl, ha, hb, he, rfl⟩ | ⟨a, b, ks, ls, f, rfl, rfl, ha, hb, hp, rfl⟩
  · cases (show v = Value.ref a from rx)
    cases (show u = Value.ref b from ry)
    obtain ⟨us, r1, p1, _⟩ := I.list ha
    obtain ⟨ws, r2, p2, _⟩ := I.list hb
    have hsz : us.toArray.size = ws.toArray.size := by
      rw [List.size_toArray, List.size_toArray, ← r1.length, ← r2.length]
      exact hl
    refine SeqAt.rcP_lists (e := e) p1.isList p2.isList hsz (by omega) (fun j h1 h2 => ?_) E Q ?_
    · obtain ⟨x1, g1, q1⟩ := vals_at r1 (j := j) (by simpa using h1)
      obtain ⟨x2, g2, q2⟩ := vals_at r2 (j := j) (by simpa using h2)
      have k := ih _ _ _ _ _ (he j _ _ g1 g2) q1 q2
      simpa using k
    · rw [List.size_toArray, ← r1.length]
      exact q
  · cases (show v = Value.ref a from rx)
    cases (show u = Value.ref b from ry)
    obtain ⟨us, r1, p1, _⟩ := I.tuple ha
    obtain ⟨ws, r2, p2, _⟩ := I.tuple hb
    refine rcP_tups (e := e) p1 p2 (by omega) (fun j h1 h2 => ?_) E Q ?_
    · obtain ⟨x1, g1, q1⟩ := vals_at r1 (j := j) (by simpa using h1)
      obtain ⟨x2, g2, q2⟩ := vals_at r2 (j := j) (by simpa using h2)
      have k := ih _ _ _ _ _ (he j _ _ g1 g2) q1 q2
      simpa using k
    · rw [List.size_toArray, List.size_toArray, ← r1.length, ← r2.length]
      exact q
  · cases (show v = Value.ref a from rx)
    cases (show u = Value.ref b from ry)
    obtain ⟨_, ya, va, ra, da⟩ := dt_of I.hok ha
    obtain ⟨_, yb, vb, rb, db⟩ := dt_of I.hok hb
    refine rcH_dicts (knd := tupleKind (mixKind X.prog X.w)) (tupleKind_room_in1 (by omega)) ya yb da db (by omega) (fun hl => hitsH_run ih rb ra (hp (by rw [ra.length, rb.length]; exact hl))) E Q ?_
    rw [← ra.length, ← rb.length]
    exact q
theorem rcXN_run (I : Inv X pins σ H s) {A : Around} {F : V → V → Bool → Prop} (hu : A.units + 4 < cLine) (ih : ∀ x y r v u, F x y r → RelV x v → RelV y u → SeqAt.EqP X.prog X.w A.in1 s v u r) {x y : V} {r : Bool} {v u : Value} (h : RcX X.K H F x y r) (rx : RelV x v) (ry : RelV y u)
    (E Q : Value → Shared → Prop) (q : Q (.bool (!r)) s) : wpAny (model X.prog X.w) A (richCompare .NotEq v u) Q E s := by
  rcases h with ⟨a, b, xs, ys, e, rfl, rfl, ha, hb, hl, he, rfl⟩ | ⟨a, b, xs, ys, e, rfl, rfl, ha, hb, he, rfl⟩ | ⟨a, b, ks, ls, f, rfl, rfl, ha, hb, hp, rfl⟩
  · cases (show v = Value.ref a from rx)
    cases (show u = Value.ref b from ry)
    obtain ⟨us, r1, p1, _⟩ := I.list ha
    obtain ⟨ws, r2, p2, _⟩ := I.list hb
    have hsz : us.toArray.size = ws.toArray.size := by
      rw [List.size_toArray, List.size_toArray, ← r1.length, ← r2.length]
      exact hl
    refine rcN_lists (e := e) p1.isList p2.isList hsz (by omega) (fun j h1 h2 => ?_) E Q ?_
    · obtain ⟨x1, g1, q1⟩ := vals_at r1 (j := j) (by simpa using h1)
      obtain ⟨x2, g2, q2⟩ := vals_at r2 (j := j) (by simpa using h2)
      have k := ih _ _ _ _ _ (he j _ _ g1 g2) q1 q2
      simpa using k
    · rw [List.size_toArray, ← r1.length]
      exact q
  · cases (show v = Value.ref a from rx)
    cases (show u = Value.ref b from ry)
    obtain ⟨us, r1, p1, _⟩ := I.tuple ha
    obtain ⟨ws, r2, p2, _⟩ := I.tuple hb
    refine rcN_tups (e := e) p1 p2 (by omega) (fun j h1 h2 => ?_) E Q ?_
    · obtain ⟨x1, g1, q1⟩ := vals_at r1 (j := j) (by simpa using h1)
      obtain ⟨x2, g2, q2⟩ := vals_at r2 (j := j) (by simpa using h2)
      have k := ih _ _ _ _ _ (he j _ _ g1 g2) q1 q2
      simpa using k
    · rw [List.size_toArray, List.size_toArray, ← r1.length, ← r2.length]
      exact q
  · cases (show v = Value.ref a from rx)
    cases (show u = Value.ref b from ry)
    obtain ⟨_, ya, va, ra, da⟩ := dt_of I.hok ha
    obtain ⟨_, yb, vb, rb, db⟩ := dt_of I.hok hb
    refine rcHN_dicts (knd := tupleKind (mixKind X.prog X.w)) (tupleKind_room_in1 (by omega)) ya yb da db (by omega) (fun hl => hitsH_run ih rb ra (hp (by rw [ra.length, rb.length]; exact hl))) E Q ?_
    rw [← ra.length, ← rb.length]
    exact q

theorem eqX_run (I : Inv X pins σ H s) : ∀ (n : Nat) (A : Around), A.units + n + 64 < cLine → ∀ (x y : V) (r : Bool) (v u : Value), EqX X.K H n x y r → RelV x v → RelV y u → SeqAt.EqP X.prog X.w A s v u r
  | 0, _, _, _, _, _, _, _, h, _, _ => (show False from h).elim
  | n + 1, A, hu, x, y, r, v, u, h, rx, ry => by
    rcases h with ⟨d, e, hd, he, sd, se, rfl⟩ | ⟨a, rfl, rfl, rfl⟩ | ⟨h, hs⟩
    · obtain ⟨as, r1⟩ := Dp.reads I d x v hd rx
      obtain ⟨bs, r2⟩ := Dp.reads I e y u he ry
      exact (SeqAt.eqAt_reads d e A s v u as bs r1 r2 (SeqAt.canLay_of_shaped sd) (SeqAt.canLay_of_shaped se) (SeqAt.room_of_shaped sd (by omega))).eqP
    · cases (show v = Value.ref a from rx)
      cases (show u = Value.ref a from ry)
      exact (SeqAt.EqAt.same _).eqP
    · have step := rcX_run I (A := A) (by omega) (eqX_run I n A.in1 (by show A.units + 1 + n + 64 < cLine; omega)) h rx ry
      obtain ⟨a, b, rfl, rfl⟩ : ∃ a b, x = .ref a ∧ y = .ref b := by
        rcases h with ⟨a, b, _, _, _, e1, e2, _⟩ | ⟨a, b, _, _, _, e1, e2, _⟩ | ⟨a, b, _, _, _, e1, e2, _⟩
        · exact ⟨a, b, e1, e2⟩
        · exact ⟨a, b, e1, e2⟩
        · exact ⟨a, b, e1, e2⟩
      cases (show v = Value.ref a from rx)
      cases (show u = Value.ref b from ry)
      by_cases e : a = b
      · subst e
        rw [hs rfl]
        exact (SeqAt.EqAt.same _).eqP
      · exact SeqAt.eqP_refs e step
end
section
variable {X : Cx}
/-- a == b of such data -/
def rEqX (K : PySem.W.Frag) : R2 := fun x y H Q => ∃ n r, n ≤ 60 ∧ RcX K H (EqX K H n) x y r ∧ Q (.bl r) H
def rNeX (K : PySem.W.Frag) : R2 := fun x y H Q => ∃ n r, n ≤ 60 ∧ RcX K H (EqX K H n) x y r ∧ Q (.bl (!r)) H
theorem op_eqX (hu : X.A.units + 140 < cLine) : OpR X (compareOp .Eq) (rEqX X.K) := by
  intro pins s σ H x y v u Q I rx ry h
  obtain ⟨n, r, hn, h, q⟩ := h
  exact rcX_run I (A := X.A) (by omega) (eqX_run I n X.A.in1 (by show X.A.units + 1 + n + 64 < cLine; omega)) h rx ry _ _ ⟨.bl r, H, I, rfl, q⟩
theorem op_neX (hu : X.A.units + 140 < cLine) : OpR X (compareOp .NotEq) (rNeX X.K) := by
  intro pins s σ H x y v u Q I rx ry h
  obtain ⟨n, r, hn, h, q⟩ := h
  exact rcXN_run I (A := X.A) (by omega) (eqX_run I n X.A.in1 (by show X.A.units + 1 + n + 64 < cLine; omega)) h rx ry _ _ ⟨.bl (!r), H, I, rfl, q⟩
end
end L2

set_option Elab.async false
set_option maxRecDepth 100000
set_option maxHeartbeats 4000000
namespace PySem.W
open PySem PySem.Calls PyProof.Rows PyProof.V PySem.Spec
set_option linter.unusedVariables false
section
variable {prog : Program} {w : World} {A : Around} {E : Value → Shared → Prop} {s : Shared} {K : Frag} {x C L f : Addr} {h₀ : Heap} {m : Str → Option Value} {ox : Obj} {od : Option Obj} {name : Str} {b tb : Value}
theorem ifBound_KB {M : Model} {id : String} {args : List Value} {Q : Option Value → Shared → Prop} (X : K.In s.heap) (I : InstAt s.heap x ox C od) (hs : findIn K (.ref C) name = some (some (.builtin id))) (S : Slot "object" name id)
    (h : wpAny M A (call (.builtin id) (.ref x :: args)) (fun v => Q (some v)) E s) : wpAny M A (callSpecialIfBound? (.ref x) name args) Q E s := by
  simp only [callSpecialIfBound?, bindSpecialIfBound?]
  refine wpAny_holding (wpAny_bind (wpAny_bind (wpAny_bind (I.type.here ((looks_findIn X hs).here ?_)))))
  simp only [S.bind]
  refine wpAny_bind (wpAny_askSetting (wpAny_ite ?_))
  have fin : wpAny M A (call (.builtin id) ([.ref x] ++ args) >>= fun v => pure (some v)) Q E s := wpAny_bind (wpAny_mono h (fun v s' h' => wpAny_pure h') fun _ _ h' => h')
  split
  · exact wpAny_bind (wpAny_pure (wpAny_pure fin))
  · exact wpAny_tryCatch (wpAny_bind (wpAny_pure (wpAny_pure fin)))
theorem check_ne_K {M : Model} {rest : List Value} {Q : Unit → Shared → Prop} (X : K.In s.heap) (I : InstAt s.heap x ox C od) (hob : subIn K (.ref C) (.type "object") = some true) (ha : argsOk "object.__ne__" ⟨.ref x :: rest, []⟩) (hq : Q () s) :
    wpAny M A (checkBuiltinCall "object.__ne__" ⟨.ref x :: rest, []⟩) Q E s := by
  simp only [checkBuiltinCall, PySem.F.cmpKind_ne, PySem.F.cmpSplit_ne]
  refine wpAny_bind (wpAny_bind (I.type.here ((looks_subIn X hob).here ?_)))
  simp only [Bool.not_true, Bool.false_eq_true, if_false]
  cases hsig : Manifest.signature? "object.__ne__" with
  | none => exact wpAny_pure hq
  | some sig =>
    have ha' := ha
    unfold argsOk at ha'
    rw [hsig] at ha'
    have h2 : Bind.checkArgs "object.__ne__" sig ⟨.ref x :: rest, []⟩ = pure () := ha'
    show wpAny M A (Bind.checkArgs "object.__ne__" sig ⟨.ref x :: rest, []⟩) Q E s
    rw [h2]
    exact wpAny_pure hq
/-- x != y by the class's own == -/
theorem cmp_neK {Q : Value → Shared → Prop} (hu : A.units + 1 < cLine) (F : Fr h₀ L s.heap m) (X₀ : K.In h₀) (I : InstAt s.heap x ox C od) (hb : Looks (model prog w) s.heap (typeOf b) tb) (hn : notFirst K C tb = true)
    (hs : findIn K (.ref C) "__ne__" = some (some (.builtin "object.__ne__"))) (hob : subIn K (.ref C) (.type "object") = some true) (he : findIn K (.ref C) "__eq__" = some (some (.ref f))) (hf : isFn K (.ref f) = true)
    (h : wpAny (model prog w) A.in1 (call (.ref f) [.ref x, b]) (fun v s' => ∃ r, v = .bool r ∧ Q (.bool (!r)) s') E s) : wpAny (model prog w) A (richCompare .NotEq (.ref x) b) Q E s := by
  have X := X₀.keeps F.keep
  have body : ∀ {Q2 : Fin → Shared → Prop}, (∀ r s', Q (.bool (!r)) s' → Q2 (.done (.ret (.bool (!r)))) s') → wpAny (model prog w) A.in1 (Builtin.«object.__ne__» ⟨[.ref x, b], []⟩) Q2 E s := fun {Q2} k => by
    unfold Builtin.«object.__ne__»
    repeat (first
      | with_reducible refine wpAny_cRoomFor (show A.in1.units < cLine from hu) ?_
      | (refine wpAny_bind (m := callSpecialIfBound? (.ref x) (Str.ofString "__eq__") [b]) (ifBound_K X I he hf (wpAny_mono h (fun r s' hr => by
          obtain ⟨b, rfl, hq⟩ := hr
          have hq := k b s' hq
          repeat (first | exact hq | exact wpAny_pure hq | exact wpAny_truthy_bool hq | (refine wpAny_bind (m := truthy (.bool _)) (wpAny_truthy_bool ?_)) | wp_step)) fun _ _ e => e)))
      | wp_step)
  have one : wpAny (model prog w) A (tryCompare (.ref x) "__ne__" b) (fun r s' => ∃ v, r = some v ∧ Q v s') E s := by
    unfold tryCompare
    refine wpAny_bind (ifBound_KB X I hs PySem.F.cmp_object.ne (wpAny_call (codeAny_call_builtin PySem.F.cmp_object.ne.plain PySem.F.cmpEntry_ne (check_ne_K X I hob (PySem.F.cmpArgs_ne _ _) (body fun r s' hq => ?_)))))
    first | exact ⟨.bool (!r), rfl, hq⟩ | exact wpAny_pure ⟨_, rfl, hq⟩ | exact wpAny_pure (wpAny_pure ⟨_, rfl, hq⟩)
  unfold richCompare
  simp only [oneThing_ref]
  refine wpAny_holding (wpAny_bind (wpAny_cRoomFor (Nat.lt_of_succ_lt hu) ?_))
  refine wpAny_bind (I.type.here (wpAny_bind (hb.here ?_)))
  split
  · rename_i q
    have e : subIn K tb (.ref C) = some false := by
      rcases Bool.or_eq_true_iff.mp hn with e | e
      · rw [beq_iff_eq.mp e] at q; simp at q
      · exact beq_iff_eq.mp e
    refine wpAny_bind ((looks_subIn X e).here ?_)
    simp only [Bool.false_eq_true, if_false]
    refine wpAny_bind (wpAny_mono one (fun r s' z => ?_) fun _ _ e => e)
    obtain ⟨v, rfl, hq⟩ := z
    exact wpAny_pure hq
  · refine wpAny_bind (wpAny_pure ?_)
    simp only [Bool.false_eq_true, if_false]
    refine wpAny_bind (wpAny_mono one (fun r s' z => ?_) fun _ _ e => e)
    obtain ⟨v, rfl, hq⟩ := z
    exact wpAny_pure hq
end
end PySem.W
namespace L2
open PySem PySem.Spec PyProof.Rows
set_option linter.unusedVariables false
section
variable {X : Cx} {CX : CXT} {k n : Nat} {f C : Addr} {fd : FuncData} {ps ks : List Str} {sp : Sp} {E : XK} {x : Str} {p pos : Pos} {kws : List Keyword} {tk : TA} {g : List Value → List Value → List Value} {gV : List V → List V → List V}
/-- f(k = v, ..) -/
theorem pe_callN0 (F : FnOk X.prog X.w X.K X.mg X.base CX k f fd ps sp) (hr : Room k X.A) (hg : Gl X x) (hm : X.mg x = some (.ref f)) (hk : PySem.W.keepIn X.K (.ref f) = true) (hb : KBn X.K fd ps 0 ks g gV) (hx : Passes CX X E) (hkw : PK X kws tk)
    (hall : (backToKw pos (keywordEach kws X.env)).all (·.1.isSome) = true := by rfl) (hks : (backToKw pos (keywordEach kws X.env)).filterMap (·.1) = ks := by rfl) (hdb : (x == ("__debug__" : Str)) = false := by decide)
    (hpl : ((backTo pos (starEach [] X.env)).any (·.1) || (backToKw pos (keywordEach kws X.env)).any (·.1.isNone)) = false := by rfl) :
    PE X (.Call (.Name x p) [] kws pos) (tCallN 0 ks.length sp gV E tNil tk) := by
  refine ⟨fun pins s σ H Q I h => ?_⟩
  refine wpAny_Call_Name_kw (ld_glob I hg hm ?_ hdb)
  refine PySem.W.callWith_KW0 (h₀ := X.base) I.ok.mod.kin hk hall ?_ hpl
  refine thn (hkw.run pos pins s σ H _ I h) fun ws s2 ⟨zs, H2, I2, rz, l1, l2, q2⟩ => ⟨I2.kIn, ?_⟩
  rw [hks]
  exact run_fnN (us := []) (vs := []) F hr hb hx I2 .nil rz rfl l2 q2
/-- x == y by the own == of x's class: what it tells -/
def rEqO (C : Addr) (sp : Sp) (E : XK) : R2 := fun x y H Q => ∃ a dx fs b dy gs, x = .ref a ∧ y = .ref b ∧ H a = some (.ins C dx fs) ∧ H b = some (.ins C dy gs) ∧ sp [x, y] H (fun v H' => ∃ r, v = .bl r ∧ Q (.bl r) H') E
def rNeO (C : Addr) (sp : Sp) (E : XK) : R2 := fun x y H Q => ∃ a dx fs b dy gs, x = .ref a ∧ y = .ref b ∧ H a = some (.ins C dx fs) ∧ H b = some (.ins C dy gs) ∧ sp [x, y] H (fun v H' => ∃ r, v = .bl r ∧ Q (.bl (!r)) H') E
theorem op_eqO (F : FnOk X.prog X.w X.K X.mg X.base CX n f fd ps sp) (hs : PySem.W.findIn X.K (.ref C) "__eq__" = some (some (.ref f))) (hf : PySem.W.isFn X.K (.ref f) = true) (hb : Binds X.K fd ps []) (hr : Room n X.A) (hx : Passes CX X E) : OpR X (compareOp .Eq) (rEqO C sp E) := by
  intro pins s σ H x y v u Q I rx ry h
  obtain ⟨a, dx, fs, b, dy, gs, rfl, rfl, ha, hb', hsp⟩ := h
  cases (show v = Value.ref a from rx)
  cases (show u = Value.ref b from ry)
  obtain ⟨mA, J, _⟩ := ins_get I.hok ha
  obtain ⟨mB, J', _⟩ := ins_get I.hok hb'
  obtain ⟨od, J, _⟩ := J.look
  obtain ⟨od', J', _⟩ := J'.look
  obtain ⟨m, hF⟩ := I.fr
  show wpAny (model X.prog X.w) X.A (richCompare .Eq (.ref a) (.ref b)) (EP X pins σ Q) X.xe s
  refine PySem.W.cmp_K (op := .Eq) (tb := .ref C) hr.units0 hF I.ok.mod.kin J J'.type (by simp [PySem.W.notFirst]) hs hf ?_
  have hl := F.len _ _ _ _ hsp
  have r2 : Vals [V.ref a, V.ref b] [Value.ref a, Value.ref b] := .cons rfl (.cons rfl .nil)
  refine wpAny_call (codeAny_mono (F.run X.A X.stack s H ⟨[.ref a, .ref b], []⟩ [.ref a, .ref b] [.ref a, .ref b] _ E hr I.env0 (by
    have := hb s [.ref a, .ref b] I.kIn (by simpa using hl)
    simpa using this) r2 hsp) fun r s' hq => ?_)
  cases r with
  | error e => exact hx pins σ H s e s' I hq
  | ok fl =>
    cases fl with
    | ret w =>
      obtain ⟨z, H', I', rz, r, ez, q⟩ := I.after hq
      subst ez
      cases rz
      exact ⟨.bl r, H', I', rfl, q⟩
    | next => exact False.elim hq
    | brk => exact False.elim hq
    | cont => exact False.elim hq
theorem op_neO (F : FnOk X.prog X.w X.K X.mg X.base CX n f fd ps sp) (hs : PySem.W.findIn X.K (.ref C) "__eq__" = some (some (.ref f))) (hne : PySem.W.findIn X.K (.ref C) "__ne__" = some (some (.builtin "object.__ne__"))) (hob : PySem.W.subIn X.K (.ref C) (.type "object") = some true)
    (hf : PySem.W.isFn X.K (.ref f) = true) (hb : Binds X.K fd ps []) (hr : Room (n + 1) X.A) (hx : Passes CX X E) : OpR X (compareOp .NotEq) (rNeO C sp E) := by
  intro pins s σ H x y v u Q I rx ry h
  obtain ⟨a, dx, fs, b, dy, gs, rfl, rfl, ha, hb', hsp⟩ := h
  cases (show v = Value.ref a from rx)
  cases (show u = Value.ref b from ry)
  obtain ⟨mA, J, _⟩ := ins_get I.hok ha
  obtain ⟨mB, J', _⟩ := ins_get I.hok hb'
  obtain ⟨od, J, _⟩ := J.look
  obtain ⟨od', J', _⟩ := J'.look
  obtain ⟨m, hF⟩ := I.fr
  show wpAny (model X.prog X.w) X.A (richCompare .NotEq (.ref a) (.ref b)) (EP X pins σ Q) X.xe s
  refine PySem.W.cmp_neK (tb := .ref C) (by have := hr.un; omega) hF I.ok.mod.kin J J'.type (by simp [PySem.W.notFirst]) hne hob hs hf ?_
  have hl := F.len _ _ _ _ hsp
  have r2 : Vals [V.ref a, V.ref b] [Value.ref a, Value.ref b] := .cons rfl (.cons rfl .nil)
  have e0 : Env0 X.prog X.w X.K X.mg X.base X.A.in1 X.stack s H := I.env0.in1
  refine wpAny_call (codeAny_mono (F.run X.A.in1 X.stack s H ⟨[.ref a, .ref b], []⟩ [.ref a, .ref b] [.ref a, .ref b] _ E hr.in1 e0 (by
    have := hb s [.ref a, .ref b] I.kIn (by simpa using hl)
    simpa using this) r2 hsp) fun r s' hq => ?_)
  cases r with
  | error e => exact hx pins σ H s e s' I hq
  | ok fl =>
    cases fl with
    | ret w =>
      obtain ⟨z, H', I', rz, r, ez, q⟩ := I.after hq
      subst ez
      cases rz
      exact ⟨r, rfl, .bl (!r), H', I', rfl, q⟩
    | next => exact False.elim hq
    | brk => exact False.elim hq
    | cont => exact False.elim hq
end
end L2

set_option Elab.async false
set_option maxRecDepth 100000
set_option maxHeartbeats 4000000
namespace L2
open PySem PySem.Spec PyProof.Rows
set_option linter.unusedVariables false
/-! dict(xs) of a list of pairs whose keys are tuples -/
def rDictPT (K : PySem.W.Frag) : List V → Hp → VK → Prop := fun xs H Q => ∃ (a : Addr) (ps : List Addr) (kvs : List (List Key × V)), xs = [.ref a] ∧ SqL K H a (ps.map V.ref) ∧ Paired (fun p kv => ∃ b, SqT K H p [.ref b, kv.2] ∧ H b = some (.tup (kv.1.map kV))) ps kvs ∧
    ∀ p, H p = none → Q (.ref p) (upd H p (.dT (mergeT [] kvs)))
section
variable {X : Cx} {pins : List (Addr × Obj)} {σ : St} {H : Hp} {s : Shared}
theorem pairsT_of (I : Inv X pins σ H s) : ∀ {ps : List Addr} {kvs : List (List Key × V)}, Paired (fun p kv => ∃ b, SqT X.K H p [.ref b, kv.2] ∧ H b = some (.tup (kv.1.map kV))) ps kvs →
    ∃ rs : List (List Key × Addr × Value), KT H kvs rs ∧ rs.length = ps.length ∧ ∀ (j : Nat) (q : List Key × Addr × Value), rs[j]? = some q → ∃ p, ps[j]? = some p ∧ s.heap.IsTuple p #[.ref q.2.1, q.2.2]
  | _, _, .nil => ⟨[], .nil, rfl, fun j q e => by simp at e⟩
  | _, _, .cons (a := p) (b := kv) h t => by
    obtain ⟨rs, r, hl, hp⟩ := pairsT_of I t
    obtain ⟨b, h, hb⟩ := h
    obtain ⟨its, rv, ht, _⟩ := I.tuple h
    obtain ⟨u, y, ei, ru, ry⟩ := vals2 rv
    subst ei
    cases (show u = Value.ref b from ru)
    refine ⟨(kv.1, b, y) :: rs, .cons ⟨rfl, hb, ry⟩ r, by rw [List.length_cons, List.length_cons, hl], fun j q e => ?_⟩
    cases j with
    | zero =>
      have e' : (kv.1, b, y) = q := Option.some.inj e
      subst e'
      exact ⟨p, rfl, ht⟩
    | succ j =>
      obtain ⟨c, e1, e2⟩ := hp j q (by simpa using e)
      exact ⟨c, by simpa using e1, e2⟩
end
theorem KT.len {H : Hp} {kvs : List (List Key × V)} {rs : List (List Key × Addr × Value)} (r : KT H kvs rs) : kvs.length = rs.length := Paired.length r
theorem KT.at {H : Hp} : ∀ {kvs : List (List Key × V)} {rs : List (List Key × Addr × Value)}, KT H kvs rs → ∀ x ∈ rs, H x.2.1 = some (.tup (x.1.map kV))
  | _, _, .nil, _, m => (nomatch m)
  | _, _, .cons h t, x, m => by
    rcases List.mem_cons.mp m with rfl | m
    · rw [← h.1]; exact h.2.1
    · exact KT.at t x m
theorem call_dictPT {X : Cx} (hcalm : X.calm = true) (hu : X.A.units + 2 < cLine) : CallR X (.type "dict") (rDictPT X.K) := by
  intro pins s σ H xs us Q I r q
  obtain ⟨a, ps, kvs, ex, hq, hp, q⟩ := q
  subst ex
  obtain ⟨u, eu, rx⟩ := vals1 r
  subst eu
  cases rx
  obtain ⟨its, rv, pl, hz⟩ := I.list hq
  have ei := refs_at rv
  subst ei
  rw [List.length_map] at hz
  obtain ⟨rs, rel, hl, hpr⟩ := pairsT_of I hp
  obtain ⟨o, n, ho, hc, hd, hdat⟩ := pl
  have hlr : (rs.map fun q => (Value.ref q.2.1, q.2.2)).length = ps.length := by rw [List.length_map, hl]
  have hitem : PairItems s.heap (ps.map Value.ref).toArray (fun j => ps.getD j 0) (rs.map fun q => (Value.ref q.2.1, q.2.2)) := by
    refine ⟨by simp [hl], fun j k v e => ?_⟩
    rw [List.getElem?_map] at e
    obtain ⟨x, hx, ex⟩ := Option.map_eq_some_iff.mp e
    injection ex with e1 e2
    subst e1 e2
    obtain ⟨p, e1, e2⟩ := hpr j x hx
    have eg : ps.getD j 0 = p := by rw [List.getD_eq_getElem?_getD, e1]; rfl
    refine ⟨?_, .inl ?_⟩
    · show _ = some (Value.ref (ps.getD j 0))
      rw [List.getElem?_toArray, List.getElem?_map, e1, eg]
      rfl
    · show s.heap.IsTuple (ps.getD j 0) _
      rw [eg]
      exact e2
  refine call_dict_pairsH (knd := tupleKind (mixKind X.prog X.w)) (ps := rs) (PairArg.list a (ps.map Value.ref).toArray (fun j => ps.getD j 0) (rs.map fun q => (Value.ref q.2.1, q.2.2))) (I.ok.hd hcalm) (show X.A.units + 2 < cLine from hu) ⟨⟨o, n, ho, hc, hd, hdat⟩, hitem⟩ ⟨by rw [hlr, hl], fun i key v e => ?_⟩ (fun h' hk x hx => ?_) (by rw [hlr]; exact hz) fun h' tk hd' hk => ?_
  · have e : (rs.map fun q => (Value.ref q.2.1, q.2.2))[i]? = some (key, v) := e
    rw [List.getElem?_map] at e
    obtain ⟨x, hx, ex⟩ := Option.map_eq_some_iff.mp e
    injection ex with e1 e2
    exact ⟨x.1, x.2.1, by rw [hx, ← e2], e1.symm⟩
  · obtain ⟨o1, its, m, h1, h2, h3, h4⟩ := (show IsTupleKey (mixKind X.prog X.w) s.heap x.1 x.2.1 from key_of I.hok (rel.at x hx))
    exact ⟨o1, its, m, hk _ _ (Nat.ne_of_lt (Heap.lt_size h1)) (fun c => nomatch c) h1, h2, h3, h4⟩
  · have hm : (s.heap.objs.size == sysModules) = false := beq_eq_false_iff_ne.mpr (Nat.ne_of_gt I.big)
    have hf := I.hok.fresh (Nat.le_refl s.heap.objs.size)
    have hlen : (mergeT [] kvs).length ≤ sizeLine := by
      have h1 := length_mergeT kvs []
      rw [List.length_nil, Nat.zero_add] at h1
      have := rel.len
      omega
    obtain ⟨o1, es, ep, h1, h2, h3, h4, _, h6⟩ := hd'
    exact ⟨.ref s.heap.objs.size, upd H s.heap.objs.size (.dT (mergeT [] kvs)), I.laid (t' := tk) (fun b u e => hk b u (fun c => nomatch c) e) (Nat.le_refl _)
      (show ObjOk X.prog X.w _ _ _ (.dT (mergeT [] kvs)) from ⟨hlen, hm, _, (rel.merge .nil).keeps (fun c ys ec => (by rw [upd_ne (ne_of_none ec hf)]; exact ec)), o1, es, ep, h1, h2, h3, h4, h6⟩), rfl, q _ hf⟩
end L2

set_option Elab.async false
set_option maxRecDepth 100000
set_option maxHeartbeats 4000000
/-! t[::-1], t a tuple of two -/
namespace HT
open PySem PySem.Calls PyProof.Rows
section
variable {prog : Program} {w : World} {A : Around} {E : Value → Shared → Prop} {s : Shared}
theorem turned_two {sl : Addr} {vl vu vs : Value} {R : Int × Int × Nat → Shared → Prop} (sh : s.heap.IsSliceOf sl vl vu vs) (pl : IsPart vl none) (pu : IsPart vu none) (ps : IsPart vs (some (-1))) (fin : R (1, -1, 2) s) :
    wpAny (model prog w) A (Builtin.Slice.sliceApplied (.ref sl) (pure ((2 : Nat) : Int))) R E s := by
  obtain ⟨o, ho, hc, hd⟩ := id sh
  unfold Builtin.Slice.sliceApplied Builtin.Slice.sliceFields
  refine wpAny_bind (wpAny_bind (wpAny_field ho hd (x := vl) rfl (wpAny_bind (wpAny_field ho hd (x := vu) rfl (wpAny_bind (wpAny_field ho hd (x := vs) rfl (wpAny_pure ?_)))))))
  refine wpAny_bind (slicePart_ ps ?_)
  show wpAny _ _ (if ((-1 : Int) == 0) = true then _ else _) _ _ s
  rw [if_neg (show ¬ ((-1 : Int) == 0) = true by decide)]
  refine wpAny_bind (slicePart_ pl (wpAny_bind (slicePart_ pu (wpAny_bind (wpAny_pure (wpAny_pure ?_))))))
  exact fin
theorem pair_turned {t sl : Addr} {v0 v1 vl vu vs : Value} {R : Value → Shared → Prop} (ht : IsTup s.heap t #[v0, v1]) (sh : s.heap.IsSliceOf sl vl vu vs) (pl : IsPart vl none) (pu : IsPart vu none) (ps : IsPart vs (some (-1)))
    (fin : R (.ref s.heap.objs.size) { s with heap := s.heap.push { cls := .type "tuple", data := .seq #[v1, v0] } }) : wpAny (model prog w) A (getItem (.ref t) (.ref sl)) R E s := by
  have fits : sizeOk (.seq #[v1, v0]) := by
    show 2 ≤ sizeLine
    decide
  obtain ⟨o, ho, hc, hd⟩ := id sh
  have isSl : s.TypeIs (.ref sl) "slice" := ⟨o, ho, hc⟩
  unfold getItem
  try with_reducible refine wpAny_holding ?_
  first | refine wpAny_bind (wpAny_pure ?_) | skip
  refine wpAny_bind (wpAny_sequenceKey ht.typeIs (by decide) ?_)
  refine wpAny_bind (wpAny_callSpecial?_slot (name := Str.ofString "__getitem__") ht.typeIs PyProof.Rows.slot_tuple_getitem (wpAny_call_entry PyProof.Rows.slot_tuple_getitem ht.typeIs entry_tuple_getitem ?_ (args_tuple_getitem _ _)))
  show wpAny _ _ (Builtin.Tuple.tupleItemsOf (.ref t) >>= _) _ _ s
  refine wpAny_bind (tupleItemsOf_ ht (wpAny_bind (wpAny_typeOf isSl ?_)))
  rw [if_pos (by decide)]
  refine wpAny_bind (turned_two sh pl pu ps ?_)
  show wpAny _ _ (if ((1 : Int) == 0 && (-1 : Int) == 1 && (2 : Nat) == 2) = true then _ else _) _ _ s
  rw [if_neg (by decide)]
  first
    | exact wpAny_bind (m := Builtin.Tuple.tupleExact _) (wpAny_newObj_type (wpAny_pure ⟨_, rfl, wpAny_pure fin⟩) fits)
    | exact wpAny_bind (m := Builtin.Tuple.tupleExact _) (wpAny_newObj_type (wpAny_bind (wpAny_pure (wpAny_pure ⟨_, rfl, wpAny_pure fin⟩))) fits)
    | exact wpAny_bind (wpAny_bind (m := Builtin.Tuple.tupleExact _) (wpAny_newObj_type (wpAny_pure (wpAny_pure ⟨_, rfl, wpAny_pure fin⟩)) fits))
    | exact wpAny_bind (wpAny_bind (m := Builtin.Tuple.tupleExact _) (wpAny_newObj_type (wpAny_pure ⟨_, rfl, wpAny_pure fin⟩) fits))
end
end HT
namespace L2
open PySem PySem.Spec PyProof.Rows
variable {X : Cx}
def tRevT (K : PySem.W.Frag) (te : TE) : TE := fun σ H Q => te σ H fun x H1 => ∃ a y z, x = .ref a ∧ SqT K H1 a [y, z] ∧ ∀ p, H1 p = none → Q (.ref p) (upd H1 p (.tup [z, y]))
theorem pe_revT {e : Expr} {te : TE} {k : Nat} {p1 p2 p3 pos : Pos} (he : PE X e te) : PE X (.Subscript e (.Slice none none (some (.UnaryOp .USub (.Constant (.int 1) k p1) p2)) p3) pos) (tRevT X.K te) := by
  refine ⟨fun pins s σ H Q I h => ?_⟩
  refine Subscript_ (thn (he.run pins s σ H _ I h) fun v s1 ⟨x, H1, I1, r1, q1⟩ => ?_)
  obtain ⟨a, y, z, rfl, hx, q⟩ := q1
  cases r1
  have back : PO X (some (.UnaryOp .USub (.Constant (.int 1) k p1) p2)) (tPart (tUn (rU fun i => .int (-i)) (tC (.int 1)))) := po_some (pe_un un_neg pe_int)
  refine wpAny_Slice (thn (po_none.run pins s1 σ H1 (fun o H2 => o = none ∧ H2 = H1) I1 ⟨rfl, rfl⟩) fun vl s2 ⟨l, H2, I2, pl, el, e2⟩ => ?_)
  subst el e2
  refine thn (po_none.run pins s2 σ H2 (fun o H3 => o = none ∧ H3 = H2) I2 ⟨rfl, rfl⟩) fun vu s3 ⟨u, H3, I3, pu, eu, e3⟩ => ?_
  subst eu e3
  refine thn (back.run pins s3 σ H3 (fun o H4 => o = some (-1) ∧ H4 = H3) I3 ⟨1, rfl, -1, rfl, rfl, rfl⟩) fun vs s4 ⟨o, H4, I4, ps, eo, e4⟩ => ?_
  subst eo e4
  have I5 : Inv X pins σ H4 { s4 with heap := s4.heap.push { cls := .type "slice", data := .fields #[vl, vu, vs] } } := I4.kept (t' := s4.toks) fun _ _ q => Heap.get?_push_of_some _ q
  obtain ⟨its, r, ht, hz⟩ := I5.tuple hx
  obtain ⟨v0, v1, rfl, r0, r1⟩ : ∃ v0 v1, its = [v0, v1] ∧ RelV y v0 ∧ RelV z v1 := by
    cases r with
    | cons a0 r => cases r with
      | cons a1 r => cases r; exact ⟨_, _, rfl, a0, a1⟩
  show wpAny (model X.prog X.w) X.A (subscriptTail e (.Slice none none (some (.UnaryOp .USub (.Constant (.int 1) k p1) p2)) p3) (.ref a) (.ref s4.heap.objs.size)) (EP X pins σ Q) X.xe { s4 with heap := s4.heap.push { cls := .type "slice", data := .fields #[vl, vu, vs] } }
  refine tail_any (ops := [.ref a, .ref s4.heap.objs.size]) ht.typeIs (PyProof.Rows.slot_tuple_getitem.lookup) ?_ (by with_unfolding_all rfl)
  refine HT.pair_turned ht (Heap.IsSliceOf.new _ vl vu vs) pl pu ps ?_
  refine ⟨.ref _, _, I5.laid (t' := s4.toks) (o := .tup [z, y]) (fun _ _ q => Heap.get?_push_of_some _ q) (Nat.le_refl _) ?_, rfl, q _ (I5.hok.fresh (Nat.le_refl _))⟩
  exact ⟨(by show 2 ≤ sizeLine; decide), _, .cons r1 (.cons r0 .nil), IsTup.new _ _⟩
end L2

set_option Elab.async false
set_option maxRecDepth 100000
set_option maxHeartbeats 4000000
namespace L2
open PySem PySem.Spec PyProof.Rows
set_option linter.unusedVariables false
/-! name = {k: e for ..} on one line, the name a local -/
theorem sw_trueD {kx vx : Expr} {gs : List Comprehension} {scope : Scope} {pos py : Pos} {y : PySem.Str} {l : Nat} {env : Env} (hk : env.scope.kind = .function) (hy : env.scope.names.lookup y = some .local) (hl : (py.line == pos.line) = true)
    (ha : (scope.names.any fun (n, k) => n == y && (k == .local || k == .cell)) = false) : swapsWith (.DictComp kx vx gs scope pos) (some (.Name y py)) l env = pure true := by
  have ky : env.kindOf y = some .local := hy
  have hb : env.blockKind = .function := by unfold Env.blockKind; rw [hk]; rfl
  unfold swapsWith
  simp only [hb, ky, ha, Expr.pos, hl]
  rfl
section
variable {X : Cx}
theorem ps_setDcT {i : Nat} {y : PySem.Str} {py : Pos} {kx vx tg iter : Expr} {ifs : List Expr} {scope : Scope} {own : List (PySem.Str × Nat)} {pos spos : Pos} {wi : TI} {g : TG} {tt : TT} {tk tv : TE} (hu : X.A.units + 1 < cLine) (hc : X.calm = true) (hN : X.N.Nodup) (hy : X.N[i]? = some y) (hyl : X.env.scope.names.lookup y = some .local)
    (hsw : swapsWith (.DictComp kx vx [⟨tg, iter, ifs, 0⟩] scope pos) (some (.Name y py)) spos.line X.env = pure true) (hi : PI X tg iter wi) (ok : BlkOk X.N X.env.scope scope own)
    (hg : ∀ (s : Shared) (H : Hp) (C : Addr) (cl : List (PySem.Str × Addr)) (fp : List Addr), PG (X.blk s H scope (compEnvC scope cl C X.env) fp) tg g)
    (ht : ∀ (s : Shared) (H : Hp) (C : Addr) (cl : List (PySem.Str × Addr)) (fp : List Addr), PTs (X.blk s H scope (compEnvC scope cl C X.env) fp) ifs tt)
    (hk : ∀ (s : Shared) (H : Hp) (C : Addr) (cl : List (PySem.Str × Addr)) (fp : List Addr), PE (X.blk s H scope (compEnvC scope cl C X.env) fp) kx tk)
    (he : ∀ (s : Shared) (H : Hp) (C : Addr) (cl : List (PySem.Str × Addr)) (fp : List Addr), PE (X.blk s H scope (compEnvC scope cl C X.env) fp) vx tv)
    (hs : ∀ x, foldedSetIterable iter X.env x = pure x := by intro _; rfl) :
    PS X (.Assign [.Name y py] (.DictComp kx vx [⟨tg, iter, ifs, 0⟩] scope pos) spos) (tAsg (tGather (fun _ => .dT []) wi g tt (addT tk tv) (own.map (·.2))) (gName i)) := by
  refine ⟨fun pins s σ H D I h => ?_⟩
  rw [exec_Assign_Name_used _ _ _ _ hsw]
  refine wpAny_bind (wpAny_standAt (wpAny_bind ?_))
  show wpAny _ X.A (do let _ ← comprehension (.DictComp kx vx [⟨tg, iter, ifs, 0⟩] scope pos) scope X.env (firstIterPos [⟨tg, iter, ifs, 0⟩] pos) newDict false (eval iter X.env) (some (assign (.Name y py) X.env))) _ _ s
  have h : tGather (fun _ => .dT []) wi g tt (addT tk tv) (own.map (·.2)) σ H (fun x H1 => gName i x σ H1 D.nx) := h
  refine wpAny_bind (thn (gather_core (Qf := fun _ s' => SP X pins D .next s') (use := some (assign (.Name y py) X.env)) (ob := { cls := .type "dict", data := .dict #[] }) (mk := newDict) (o0 := fun _ => .dT []) (add := addT tk tv)
    (Body := fun acc env R back s => match acc with
      | .ref D => wpAny (model X.prog X.w) X.A (eval kx env) (fun kv s4 => wpAny (model X.prog X.w) X.A (eval vx env) (fun vv s5 => wpAny (model X.prog X.w) X.A (dictSet D kv vv) (fun _ s6 => back s6) (notedBy (model X.prog X.w) X.A env fun e s' => R (.error e) s') s5)
          (notedBy (model X.prog X.w) X.A env fun e s' => R (.error e) s') s4) (notedBy (model X.prog X.w) X.A env fun e s' => R (.error e) s') s
      | _ => False)
    hc hN I hi ok rfl (fun A E s Q q => wpAny_newObj_type q) (fun h H hb => dt_empty h hb) (fun it D env R I turn n s => compLoop_anyD I turn n) (fun it acc env R s a b => codeAny_compStart_dict a b) hg ht ?_ hs h ?_) fun _ s' hq => wpAny_pure (wpAny_pure hq))
  · intro s H C cl fp D R Nx back pins' σ2 H3 s3 I3 q3 k
    refine thnF ((hk s H C cl fp).run _ s3 σ2 H3 _ I3 q3) fun z s4 ⟨yk, H4, I4, r4, q4⟩ => ?_
    refine thnF ((he s H C cl fp).run _ s4 σ2 H4 _ I4 q4) fun z2 s5 ⟨yv, H5, I5, r5, kvs, ks, b, ey, hb, hD, hz, nx⟩ => ?_
    subst ey
    cases (show z = Value.ref b from r4)
    obtain ⟨hl, hd, xs, rel, dd⟩ := dt_of I5.hok hD
    have hz' : xs.length ≤ sizeLine := by rw [← Paired.length rel]; exact hl
    have grown : (putK kvs ks yv).length ≤ sizeLine := by have := length_putK kvs ks yv; omega
    refine wpAny_dictSet_heap (hsz := hz') (show X.A.units < cLine by omega) (key_of I5.hok hb) dd fun h' dd' same => k _ _ ?_ nx
    obtain ⟨q, es, ep, hq, h2, h3, h4, _, h5⟩ := dd'
    refine d_write I5 (by rw [hD]; exact True.intro) same ⟨q, hq⟩ ⟨grown, hd, _, (rel.put ks hb r5).keeps fun c ys ec => ?_, q, es, ep, hq, h2, h3, h4, h5⟩
    rw [upd_ne (ne_of ec hD (fun z => nomatch z))]
    exact ec
  · intro L C s' m H' I' q hn f
    show wpAny _ _ (assign (.Name y py) X.env (.ref L)) _ _ _
    refine wpAny_assign_Name (store_ok2 (v := V.ref L) I' hN hy (.inl hyl) rfl (fun s2 I2 ⟨a, sb, ha⟩ => ?_) (.inr hyl))
    obtain ⟨f0, f1, f2, f3, f4, f5⟩ := f
    have haC : C ≠ a := by
      rcases ha with z | z
      · rw [z]; exact f1
      · exact fun e => f4 y a z e.symm
    refine ⟨m, hn.sameBut sb haC, fun h3 sb3 => ?_⟩
    exact ⟨_, H', I2.turned (t' := s2.toks) (fun b o hb e => (sb3.2 b hb).trans e) f0 f1 f3 f4 f5, q⟩
end
end L2

set_option Elab.async false
set_option maxRecDepth 100000
set_option maxHeartbeats 4000000
namespace DT
open PySem PySem.W PySem.Calls PyProof.Rows PyProof.V PySem.Spec
set_option linter.unusedVariables false
/-! sorted(d.items()), the keys pairs of two ints, no two alike, the values of any kind -/
abbrev P2 := Int × Int
abbrev nsP (y : P2) : List Int := [y.1, y.2]
theorem nsP_inj {y z : P2} (h : nsP y = nsP z) : y = z := by
  injection h with h1 h2
  injection h2 with h2 _
  exact Prod.ext h1 h2
theorem lex_code {y z : P2} (hy : TS.Bd 64 (nsP y)) (hz : TS.Bd 64 (nsP z)) : HT.lexLt (nsP y) (nsP z) = decide (TS.code 64 (nsP y) < TS.code 64 (nsP z)) := by
  obtain ⟨a, b⟩ := y
  obtain ⟨c, d⟩ := z
  rw [HT.lexLt_cons]
  split
  · rename_i e
    have e : a = c := e
    subst e
    rw [HT.lexLt_cons]
    split
    · rename_i e2
      have e2 : b = d := e2
      subst e2
      rw [HT.lexLt_nil_nil]
      exact (decide_eq_false (Int.lt_irrefl _)).symm
    · rename_i e2
      have e2 : ¬ b = d := e2
      refine decide_eq_decide.mpr ?_
      rw [TS.code_same (d := a) (r := [b]) (q := [d]) rfl]
      refine ⟨fun h => TS.code_lt (r := []) (q := []) rfl (fun _ hm => nomatch hm) (fun _ hm => nomatch hm) h, fun h => ?_⟩
      rcases Int.lt_trichotomy b d with k | k | k
      · exact k
      · exact absurd k e2
      · have := TS.code_lt (B := 64) (r := []) (q := []) rfl (fun _ hm => nomatch hm) (fun _ hm => nomatch hm) k
        omega
  · rename_i e
    have e : ¬ a = c := e
    refine decide_eq_decide.mpr ⟨fun h => TS.code_lt (r := [b]) (q := [d]) rfl hy.tail hz.tail h, fun h => ?_⟩
    rcases Int.lt_trichotomy a c with k | k | k
    · exact k
    · exact absurd k e
    · exact absurd h (Int.lt_asymm (TS.code_lt (B := 64) (r := [d]) (q := [b]) rfl hz.tail hy.tail k))
/-- the ints of a pair's key, read off the heap -/
def keyNs (h : Heap) (v : Value) : List Int := TS.intsOf h (.ref (refOf (seqAt0 h (refOf (some v)))))
/-- v is a tuple of a pair of ints, y, and the value u -/
def PairV (h : Heap) (v : Value) (y : P2) (u : Value) : Prop := ∃ (a k : Addr) (t t' : Tok), v = .ref a ∧ IsTup h a #[.ref k, u] ∧ IsTup h k #[.int y.1 t, .int y.2 t']
theorem tup_ints {h : Heap} {k : Addr} {y : P2} {t t' : Tok} (x : IsTup h k #[.int y.1 t, .int y.2 t']) : TS.TupInts h (.ref k) (nsP y) := ⟨k, _, rfl, x, .cons _ _ (.cons _ _ .nil)⟩
theorem PairV.ns {h : Heap} {v : Value} {y : P2} {u : Value} (x : PairV h v y u) : keyNs h v = nsP y := by
  obtain ⟨a, k, t, t', rfl, h1, h2⟩ := x
  show TS.intsOf h (.ref (refOf (seqAt0 h a))) = nsP y
  rw [seqAt0_of h1]
  show TS.intsOf h (.ref k) = nsP y
  exact (tup_ints h2).ints
theorem firsts_ofV {h : Heap} {M : P2 → Value} : ∀ vs : List Value, (∀ v ∈ vs, ∃ y, PairV h v y (M y)) → ∃ fs : List Value, KatTups h vs fs ∧ fs.length = vs.length ∧ ∀ f ∈ fs, ∃ (q : Addr) (o : Obj), f = Value.ref q ∧ h.get? q = some o ∧ o.cls = .type "tuple"
  | [], _ => ⟨[], KatTups.nil, rfl, fun f hf => nomatch hf⟩
  | v :: vs, x => by
    obtain ⟨fs, k, hl, hi⟩ := firsts_ofV vs fun u hu => x u (List.mem_cons_of_mem _ hu)
    obtain ⟨y, a, q, t, t', rfl, ⟨o, ho, hc, n, hd⟩, ⟨o2, ho2, hc2, _⟩⟩ := x v (List.mem_cons_self ..)
    refine ⟨.ref q :: fs, KatTups.cons ho hc hd rfl k, by rw [List.length_cons, List.length_cons, hl], fun f hf => ?_⟩
    rcases List.mem_cons.mp hf with rfl | hf
    · exact ⟨q, o2, rfl, ho2, hc2⟩
    · exact hi f hf
section
variable {prog : Program} {w : World} {A : Around} {E : Value → Shared → Prop} {s : Shared}
theorem key_ints {k : Addr} {y : P2} {t t' : Tok} (x : IsTup s.heap k #[.int y.1 t, .int y.2 t']) : IsTupleKey (L2.mixKind prog w) s.heap [Sum.inl y.1, Sum.inl y.2] k := by
  obtain ⟨o, ho, hc, n, hd⟩ := x
  exact ⟨o, _, n, ho, hc, hd, .cons (L2.mixKind_int prog w _ _) (.cons (L2.mixKind_int prog w _ _) .nil)⟩
theorem kind_tv {vs : List Value} {M : P2 → Value} (h2 : 2 ≤ vs.length) (hu : A.units < cLine) (x : ∀ v ∈ vs, ∃ y, PairV s.heap v y (M y) ∧ TS.Bd 64 (nsP y)) (Q : SortKind → Shared → Prop)
    (h : ∀ κ, TS.Cmp prog w A s κ (pairsOf vs) (fun v => TS.code 64 (keyNs s.heap v)) → Q κ s) : wpAny (model prog w) A (keyKind' vs.toArray) Q E s := by
  obtain ⟨fs, k, hl, hi⟩ := firsts_ofV (M := M) vs fun v hv => let ⟨y, p, _⟩ := x v hv; ⟨y, p⟩
  refine kat_kind (T := Value.type "tuple") k (by omega) (fun f hf => ?_) rfl (h _ ?_)
  · obtain ⟨q, o, rfl, ho, hc⟩ := hi f hf
    have z : PySem.W.Looks (model prog w) s.heap (typeOf (.ref q)) o.cls := (PySem.W.Looks.ld ho).andThen .now
    rw [hc] at z
    exact z
  · have hb : (Value.type "tuple" != Value.type "tuple") = false := by simp
    rw [hb]
    intro p q hp hq Q' E' hQ
    rw [pairsOf_toList] at hp hq
    have mp := (mem_zip_self hp).2
    have mq := (mem_zip_self hq).2
    obtain ⟨y, py, by_⟩ := x _ mp
    obtain ⟨z, pz, bz⟩ := x _ mq
    have hQ' : Q' (HT.lexLt (nsP y) (nsP z)) s := by
      rw [lex_code by_ bz]
      have hQ2 : Q' (decide (TS.code 64 (keyNs s.heap p.1) < TS.code 64 (keyNs s.heap q.1))) s := hQ
      rw [py.ns, pz.ns] at hQ2
      exact hQ2
    obtain ⟨a, ka, t, t2, e1, ⟨o, ho, hc, n, hd⟩, g⟩ := py
    obtain ⟨a', kb, u, u2, e2, ⟨o', ho', hc', n', hd'⟩, g'⟩ := pz
    rw [e1, e2]
    refine kat_lt ho hd ho' hd' ?_
    show KatLex prog w A false false Q' [(Value.ref ka, Value.ref kb), (M y, M z)] 0 s
    by_cases e : y = z
    · subst e
      have irr : HT.lexLt (nsP y) (nsP y) = false := by rw [lex_code by_ by_]; exact decide_eq_false (Int.lt_irrefl _)
      rw [irr] at hQ'
      refine kat_cons (wpAny_eqBool_tuple hu (key_ints g) (key_ints g') ?_)
      refine kat_go (fun _ => ?_) (fun e0 => absurd rfl (of_decide_eq_false e0))
      refine kat_yes (kat_cons (SeqAt.EqAt.same (A := A) (s := s) (M y) prog w _ _ ?_))
      exact kat_yes (kat_nil hQ')
    · refine kat_cons (wpAny_eqBool_tuple hu (key_ints g) (key_ints g') ?_)
      refine kat_go (fun e0 => ?_) (fun _ => ?_)
      · exfalso
        have z0 := of_decide_eq_true e0
        injection z0 with z1 z2
        injection z1 with z1
        injection z2 with z2 _
        injection z2 with z2
        exact e (Prod.ext z1 z2)
      · refine kat_no ?_
        show wpAny _ _ (oneLt' false _ _) _ _ _
        obtain ⟨_, _, r1, r2, r3⟩ := tup_ints g
        obtain ⟨_, _, r1', r2', r3'⟩ := tup_ints g'
        injection r1 with r1
        injection r1' with r1'
        subst r1 r1'
        exact kat_one _ _ (HT.lt_tupInts r2 r2' r3 r3' hu hQ')
end
end DT
namespace L2
open PySem PySem.Spec PyProof.Rows L2.DX
set_option linter.unusedVariables false
abbrev entI (e : DT.P2 × V) : List L2.Key × V := ([Sum.inl e.1.1, Sum.inl e.1.2], e.2)
/-- sorted(d.items()) by keys of two ints; the values refs -/
def rSortIV : List V → Hp → VK → Prop := fun vs H Q => ∃ (p a : Addr) (ks : List (DT.P2 × Addr)), vs = [.ref p] ∧ H p = some (itemsO p a) ∧ H a = some (.dT (ks.map fun e => entI (e.1, .ref e.2))) ∧ ks.length < 64 ∧
  (ks.map (·.1)).Nodup ∧ (∀ e ∈ ks, TS.Bd 64 (DT.nsP e.1)) ∧
  ∀ (H' : Hp) (l : Addr) (ps : List (Addr × DT.P2 × Addr)), (∀ b o, H b = some o → H' b = some o) → H l = none → (ps.map (·.2)).Perm ks → (ps.map (·.2)).Pairwise (fun e f => TS.code 64 (DT.nsP e.1) ≤ TS.code 64 (DT.nsP f.1)) → H' l = some (.lst (ps.map fun z => V.ref z.1)) →
    (∀ z ∈ ps, ∃ q, H' z.1 = some (.tup [.ref q, .ref z.2.2]) ∧ H' q = some (.tup [.int z.2.1.1, .int z.2.1.2])) → Q (.ref l) H'
def look (ks : List (DT.P2 × Addr)) (y : DT.P2) : Addr := (ks.lookup y).getD 0
theorem look_at : ∀ {ks : List (DT.P2 × Addr)}, (ks.map (·.1)).Nodup → ∀ e ∈ ks, look ks e.1 = e.2
  | [], _, _, h => nomatch h
  | x :: ks, hn, e, h => by
    rw [List.map_cons, List.nodup_cons] at hn
    unfold look
    rcases List.mem_cons.mp h with rfl | h
    · simp [List.lookup]
    · have ne : (e.1 == x.1) = false := beq_eq_false_iff_ne.mpr fun z => hn.1 (by rw [← z]; exact List.mem_map.mpr ⟨e, h, rfl⟩)
      rw [List.lookup_cons, ne]
      exact look_at hn.2 e h
theorem cr_sortedIV {X : Cx} (hc : X.calm = true) (hu : X.A.units + 64 < cLine) : CallR X (.builtin "sorted") rSortIV := by
  intro pins s σ H xs us Q I r h
  obtain ⟨p, a, ks, rfl, hp, ha, h64, hnd, hbd, q⟩ := h
  obtain rfl := Vals.ref1 r
  have view : s.heap.IsItemsView p a := (show ObjOk X.prog X.w H s.heap p (itemsO p a) from I.hok p _ hp).1
  obtain ⟨z, hd, xs', rel, o, es, ep, ho, hx, hdat, hes, his, hn⟩ := dt_of I.hok ha
  have l1 : (ks.map fun e => entI (e.1, V.ref e.2)).length = xs'.length := Paired.length rel
  rw [List.length_map] at l1
  have l2 : es.size = xs'.length := size_of_entries hes
  have hh : X.A.handled = none := I.ok.hd hc
  refine DT.sortedI (es := es) (ep := ep) hh view ⟨o, ho, hx, hdat⟩ (by rw [sizeLine_eq]; omega) fun h' tk as hk hlt hl hG => ?_
  have lak : as.length = ks.length := by omega
  have nd : as.Nodup := List.Pairwise.imp (fun h => Nat.ne_of_lt h) hG.rise
  have pr : ∀ (j : Nat) (b : Addr), as[j]? = some b → ∃ (e : DT.P2 × Addr) (kq : Addr), ks[j]? = some e ∧ H kq = some (.tup [.int e.1.1, .int e.1.2]) ∧ h'.get? b = some { cls := .type "tuple", data := .seq #[Value.ref kq, Value.ref e.2] } := by
    intro j b hj
    obtain ⟨en, he, hg⟩ := hG.pairs j b hj
    rw [entry_at hes j] at he
    cases hxj : xs'[j]? with
    | none =>
      rw [hxj] at he
      exact nomatch (show (none : Option DictEntry) = some en from he)
    | some x =>
      rw [hxj] at he
      have een : entryOfKey (tupleKind (mixKind X.prog X.w)) x = en := Option.some.inj he
      obtain ⟨e0, he0, r1, r2, r3⟩ := pget rel hxj
      rw [List.getElem?_map] at he0
      cases hkj : ks[j]? with
      | none =>
        rw [hkj] at he0
        exact nomatch (show (none : Option (List L2.Key × V)) = some e0 from he0)
      | some e =>
        rw [hkj] at he0
        have ee : entI (e.1, V.ref e.2) = e0 := Option.some.inj he0
        rw [← ee] at r2 r3
        have r3' : x.2.2 = Value.ref e.2 := r3
        refine ⟨e, x.2.1, rfl, r2, ?_⟩
        rw [hg, ← een, ← r3']
        all_goals rfl
  have hob : (h'.push { cls := .type "list", data := .seq (as.map Value.ref).toArray }).get? h'.objs.size = some (seqObj "list" (as.map Value.ref).toArray 0) := Heap.get?_push_size _ rfl
  have kb : ∀ b o, s.heap.get? b = some o → (h'.push { cls := .type "list", data := .seq (as.map Value.ref).toArray }).get? b = some o := fun b o e => Heap.get?_push_of_some _ (hk b o e)
  have ne0 : ∀ b o, h'.get? b = some o → b ≠ h'.objs.size := fun b o e => Nat.ne_of_lt (Heap.lt_size e)
  generalize hh2 : h'.push { cls := .type "list", data := .seq (as.map Value.ref).toArray } = h2 at hob kb ⊢
  have ka : ∀ b o, h'.get? b = some o → h2.get? b = some o := fun b o e => by rw [← hh2]; exact Heap.get?_push_of_some _ e
  have pin : ∀ (j : Nat) (b : Addr), as[j]? = some b → ∃ e : DT.P2 × Addr, ks[j]? = some e ∧ DT.PairV (TS.midHeap h2 h'.objs.size (as.map Value.ref)) (.ref b) e.1 (.ref (look ks e.1)) := by
    intro j b hj
    obtain ⟨e, kq, he, hkq, hg⟩ := pr j b hj
    obtain ⟨_, its, rv, ot, hot, hct, nt, hdt⟩ := (show ObjOk X.prog X.w H s.heap kq (.tup [.int e.1.1, .int e.1.2]) from I.hok kq _ hkq)
    obtain ⟨t, t', rfl⟩ : ∃ t t', its = [Value.int e.1.1 t, Value.int e.1.2 t'] := by
      cases rv with
      | cons r1 r2 =>
        cases r2 with
        | cons r2 r3 =>
          cases r3
          obtain ⟨t, rfl⟩ := r1
          obtain ⟨t', rfl⟩ := r2
          exact ⟨t, t', rfl⟩
    refine ⟨e, he, ?_⟩
    rw [look_at hnd e (List.mem_of_getElem? he)]
    exact ⟨b, kq, t, t', rfl, ⟨_, TS.midHeap_old (ne0 _ _ hg) (ka _ _ hg), rfl, 0, rfl⟩, ⟨ot, TS.midHeap_old (ne0 _ _ (hk _ _ hot)) (kb _ _ hot), hct, nt, hdt⟩⟩
  have tx : ∀ (j : Nat) (b : Addr) (e : DT.P2 × Addr), as[j]? = some b → ks[j]? = some e → DT.keyNs (TS.midHeap h2 h'.objs.size (as.map Value.ref)) (.ref b) = DT.nsP e.1 := by
    intro j b e hj he
    obtain ⟨e', he', hp'⟩ := pin j b hj
    have ee : e' = e := Option.some.inj (he'.symm.trans he)
    rw [← ee]
    exact hp'.ns
  have at_ : ∀ v ∈ as.map Value.ref, ∃ (j : Nat) (b : Addr) (e : DT.P2 × Addr), v = .ref b ∧ as[j]? = some b ∧ ks[j]? = some e := by
    intro v hv'
    obtain ⟨b, hb, rfl⟩ := List.mem_map.mp hv'
    obtain ⟨j, hj⟩ := List.mem_iff_getElem?.mp hb
    obtain ⟨e, _, he, _⟩ := pr j b hj
    exact ⟨j, b, e, rfl, hj, he⟩
  refine wpAny_call_entry PyProof.Rows.slot_list_sort ⟨_, hob, rfl⟩ PyProof.Rows.entry_list_sort
    (SK.plain_sort (s := { s with heap := h2, toks := tk }) (r := fun v => TS.code 64 (DT.keyNs (TS.midHeap h2 h'.objs.size (as.map Value.ref)) v)) hob (by rw [List.length_map]; omega) (fun h2' Qk hQk => ?_) fun ps out o1 o2 o3 => ⟨.none, rfl, ?_⟩) (PyProof.Rows.args_list_sort _)
  · refine DT.kind_tv (s := { s with heap := TS.midHeap h2 h'.objs.size (as.map Value.ref), toks := tk }) (M := fun y => .ref (look ks y)) h2' (by show X.A.units + 1 + 1 < cLine; omega) (fun v hv' => ?_) Qk hQk
    obtain ⟨j, b, e, rfl, hj, he⟩ := at_ v hv'
    obtain ⟨e', he', hp'⟩ := pin j b hj
    exact ⟨e'.1, hp', hbd e' (List.mem_of_getElem? he')⟩
  · show EP X pins σ Q (.ref h'.objs.size) { s with heap := sortedHeap h2 h'.objs.size (as.map Value.ref) out, toks := tk }
    obtain ⟨zs, pz, ez⟩ := perm_lift (fun z : Addr × DT.P2 × Addr => (Value.ref z.1, Value.ref z.1)) o2 (as.zip ks) (zip_self Value.ref as ks lak)
    have idx : ∀ z ∈ zs, ∃ j : Nat, as[j]? = some z.1 ∧ ks[j]? = some z.2 := by
      intro z' hz'
      obtain ⟨j, hj⟩ := List.mem_iff_getElem?.mp (pz.mem_iff.mp hz')
      exact ⟨j, List.getElem?_zip_eq_some.mp hj⟩
    have hout : out.toList = zs.map fun z => Value.ref z.1 := by
      rw [o1, ← ez, List.map_map]
      all_goals rfl
    have hperm : (zs.map (·.2)).Perm ks := by
      have e := pz.map (·.2)
      have m2 : (as.zip ks).map (·.2) = ks := List.map_snd_zip (by rw [lak]; exact Nat.le_refl _)
      rw [m2] at e
      exact e
    have hsort : (zs.map (·.2)).Pairwise (fun e f => TS.code 64 (DT.nsP e.1) ≤ TS.code 64 (DT.nsP f.1)) := by
      rw [← ez, List.pairwise_map] at o3
      rw [List.pairwise_map]
      refine List.Pairwise.imp_of_mem (fun {x y} hx hy h => ?_) o3
      obtain ⟨j, j1, j2⟩ := idx x hx
      obtain ⟨i, i1, i2⟩ := idx y hy
      have h' : TS.code 64 (DT.keyNs (TS.midHeap h2 h'.objs.size (as.map Value.ref)) (.ref x.1)) ≤ TS.code 64 (DT.keyNs (TS.midHeap h2 h'.objs.size (as.map Value.ref)) (.ref y.1)) := h
      rw [tx j _ _ j1 j2, tx i _ _ i1 i2] at h'
      exact h'
    have kF : ∀ b o, b ≠ h'.objs.size → h2.get? b = some o → (sortedHeap h2 h'.objs.size (as.map Value.ref) out).get? b = some o := fun b o hb e => (PyProof.Rows.sortedHeap_old hb (Heap.lt_size e)).trans e
    have kS : ∀ b o, s.heap.get? b = some o → (sortedHeap h2 h'.objs.size (as.map Value.ref) out).get? b = some o := fun b o e => kF b o (ne0 _ _ (hk b o e)) (kb b o e)
    obtain ⟨eF, heF⟩ := PyProof.Rows.sortedHeap_at (vs := as.map Value.ref) (out := out) hob
    have I1 : Inv X pins σ H { s with heap := sortedHeap h2 h'.objs.size (as.map Value.ref) out, toks := tk } := I.kept (t' := tk) kS
    have hn0 : H h'.objs.size = none := I.hok.fresh (Nat.le_of_lt hlt)
    have hlen : (zs.map fun z => V.ref z.1).length ≤ sizeLine := by
      have e := hperm.length_eq
      rw [List.length_map] at e
      rw [List.length_map, sizeLine_eq]
      omega
    have rv : Vals (zs.map fun z => V.ref z.1) out.toList := by
      rw [hout]
      exact vals_maps (fun z : Addr × DT.P2 × Addr => V.ref z.1) (fun z => Value.ref z.1) zs fun _ _ => rfl
    have I2 : Inv X pins σ (upd H h'.objs.size (.lst (zs.map fun z => V.ref z.1))) { s with heap := sortedHeap h2 h'.objs.size (as.map Value.ref) out, toks := tk } :=
      I1.take (h' := sortedHeap h2 h'.objs.size (as.map Value.ref) out) (t' := tk) (fun b ob _ e => e) (I.fpOk (Nat.le_of_lt hlt) hn0) ⟨hlen, out.toList, eF, rv, heF⟩
    obtain ⟨H2, I3, g, qt⟩ := takeT (P := fun b vs => ∃ (j : Nat) (e : DT.P2 × Addr) (kq : Addr), as[j]? = some b ∧ ks[j]? = some e ∧ vs = [.ref kq, .ref e.2] ∧ H kq = some (.tup [.int e.1.1, .int e.1.2])) I as _ I2 nd fun b hb => by
      obtain ⟨j, hj⟩ := List.mem_iff_getElem?.mp hb
      obtain ⟨e, kq, he, hkq, hg⟩ := pr j b hj
      have hbl : s.heap.objs.size ≤ b := Nat.le_of_lt (hG.above b hb)
      refine ⟨hbl, ?_, [.ref kq, .ref e.2], ⟨j, e, kq, hj, he, rfl, hkq⟩, fun H3 => ⟨(by rw [sizeLine_eq]; show 2 ≤ 16777216; omega), [Value.ref kq, Value.ref e.2], .cons rfl (.cons rfl .nil), ⟨_, kF _ _ (ne0 _ _ hg) (ka _ _ hg), rfl, 0, rfl⟩⟩⟩
      rw [upd_ne (ne0 _ _ hg)]
      exact I.hok.fresh hbl
    have gr : ∀ b o, H b = some o → H2 b = some o := fun b o e => g b o (by rw [upd_ne (ne_of_none e hn0)]; exact e)
    refine ⟨.ref h'.objs.size, H2, I3, rfl, q H2 h'.objs.size zs gr hn0 hperm hsort (g _ _ upd_same) fun z' hz' => ?_⟩
    obtain ⟨i, i1, i2⟩ := idx z' hz'
    obtain ⟨vs, ⟨j, e, kq, j1, j2, ev, hkq⟩, hH⟩ := qt z'.1 (List.mem_of_getElem? i1)
    have eij : i = j := (List.getElem?_inj (List.getElem?_eq_some_iff.mp i1).1 nd).mp (i1.trans j1.symm)
    subst eij
    have ee : e = z'.2 := Option.some.inj (j2.symm.trans i2)
    rw [ev, ee] at hH
    rw [ee] at hkq
    exact ⟨kq, hH, gr _ _ hkq⟩
end L2

set_option Elab.async false
set_option maxRecDepth 100000
set_option maxHeartbeats 4000000
/-! x in [..], x of a class with its own ==, no item equal to it -/
namespace PySem.W
open PySem PySem.Calls PyProof.Rows PyProof.V PySem.Spec
set_option linter.unusedVariables false
section
variable {prog : Program} {w : World} {A : Around} {E : Value → Shared → Prop} {s : Shared} {K : Frag} {x C L f : Addr} {h₀ : Heap} {m : Str → Option Value} {ox : Obj} {od : Option Obj}
theorem rc_back {T id : String} {y : Value} {Q : Value → Shared → Prop} (hu : A.units < cLine) (F : Fr h₀ L s.heap m) (X₀ : K.In h₀) (I : InstAt s.heap x ox C od) (hT : s.TypeIs y T) (hsub : subIn K (.ref C) (.type T) = some false) (slot : Slot T "__eq__" id)
    (hc : wpAny (model prog w) A (call (.builtin id) [y, .ref x]) (fun v s1 => v = .notImplemented ∧ s1 = s) E s)
    (hs : findIn K (.ref C) "__eq__" = some (some (.ref f))) (hf : isFn K (.ref f) = true)
    (h : wpAny (model prog w) A (call (.ref f) [.ref x, y]) (CmpBack Q) E s) : wpAny (model prog w) A (richCompare .Eq y (.ref x)) Q E s := by
  have X := X₀.keeps F.keep
  have one : wpAny (model prog w) A (tryCompare (.ref x) "__eq__" y) (fun r s' => ∃ v, r = some v ∧ Q v s') E s := by
    unfold tryCompare
    refine wpAny_bind (ifBound_K X I hs hf (wpAny_mono h (fun v s' hv => ?_) fun _ _ e => e))
    cases v <;> first | exact hv.elim | exact wpAny_pure ⟨_, rfl, hv⟩
  have hne : (Value.type T != Value.ref C) = true := by simp
  unfold richCompare
  simp only [hT.oneThing_none, cmpInfo]
  refine wpAny_holding (wpAny_bind (wpAny_cRoomFor hu ?_))
  refine wpAny_bind (wpAny_typeOf hT (wpAny_bind (I.type.here ?_)))
  simp only [hne, if_true]
  refine wpAny_bind ((looks_subIn X hsub).here ?_)
  simp only [Bool.false_eq_true, if_false, Bool.not_false, if_true]
  refine wpAny_bind (m := tryCompare y _ (.ref x)) (wpAny_tryCompare_declines hT slot (wpAny_mono hc (fun v s1 h1 => ⟨h1.1, ?_⟩) fun _ _ e => e))
  obtain ⟨_, rfl⟩ := h1
  refine wpAny_bind (wpAny_mono one (fun r s' z => ?_) fun _ _ e => e)
  obtain ⟨v, rfl, hq⟩ := z
  exact wpAny_pure hq
end
end PySem.W
namespace GQ
open PySem PySem.SeqAt
open AutoSeq1 (wpAny_loadPart')
open MeetsSeq MeetsSeq2 MeetsSeq3 SeqRoads2
set_option linter.unusedVariables false
section
variable {prog : Program} {w : World} {A : Around} {R : Result → Shared → Prop} {s : Shared}
theorem list_decl {l : Addr} {x : Value} (hi : PySem.W.Looks (model prog w) s.heap (isInstance x (.type "list")) false) (h : R (.ok (.ret .notImplemented)) s) :
    wpAny (model prog w) A.in1 (Builtin.«list.__eq__» ⟨[.ref l, x], []⟩) (FinOf prog w A R) (fun e s' => R (.error e) s') s := by
  have hi' := @PySem.W.Looks.here
  unfold Builtin.«list.__eq__»
  repeat (first
    | exact h
    | (refine wpAny_bind (m := isInstance x (.type "list")) (hi.here ?_))
    | wp_step)
theorem tuple_decl {l : Addr} {x : Value} (hi : PySem.W.Looks (model prog w) s.heap (isInstance x (.type "tuple")) false) (h : R (.ok (.ret .notImplemented)) s) :
    wpAny (model prog w) A.in1 (Builtin.«tuple.__eq__» ⟨[.ref l, x], []⟩) (FinOf prog w A R) (fun e s' => R (.error e) s') s := by
  unfold Builtin.«tuple.__eq__»
  repeat (first
    | exact h
    | (refine wpAny_bind (m := isInstance x (.type "tuple")) (hi.here ?_))
    | wp_step)
theorem dict_decl {l : Addr} {x : Value} (hT : s.TypeIs (.ref l) "dict") (hi : PySem.W.Looks (model prog w) s.heap (isInstance x (.type "dict")) false) (h : R (.ok (.ret .notImplemented)) s) :
    wpAny (model prog w) A.in1 (Builtin.«dict.__eq__» ⟨[.ref l, x], []⟩) (FinOf prog w A R) (fun e s' => R (.error e) s') s := by
  unfold Builtin.«dict.__eq__»
  repeat (first
    | exact h
    | (refine wpAny_bind (m := isInstance x (.type "dict")) (hi.here ?_))
    | wp_step)
theorem none_decl {x : Addr} (h : R (.ok (.ret .notImplemented)) s) :
    wpAny (model prog w) A.in1 (Builtin.«NoneType.__eq__» ⟨[.none, .ref x], []⟩) (FinOf prog w A R) (fun e s' => R (.error e) s') s := by
  unfold Builtin.«NoneType.__eq__»
  repeat (first
    | exact h
    | wp_step)
/-- no item equal: the loop ends with False -/
theorem contains_loopF (l : Addr) (x : Value) (N : Nat) (I : Shared → Prop)
    (hl : ∀ s, I s → ∃ (items : Array Value) (n : Nat), s.heap.get? l = some { cls := .type "list", data := .seq items n } ∧ items.size = N ∧ ∀ (i : Nat) (h1 : i < items.size), wpAny (model prog w) A.in1 (eqBool items[i] x) (fun r s' => r = false ∧ I s') (fun e s' => R (.error e) s') s)
    (fin : ∀ s, I s → R (.ok (.ret (.bool false))) s) (k : Nat) :
    ∀ i : Nat, N - i = k → i ≤ N → ∀ s, I s → wpAny (model prog w) A.in1 (Builtin.«list.__contains__.loop» ⟨[.ref l, x, rawInt i], []⟩) (FinOf prog w A R) (fun e s' => R (.error e) s') s := by
  induction k with
  | zero =>
    intro i hk hi s h
    obtain ⟨items, n, hl1, hs1, _⟩ := hl _ h
    have hR : R (.ok (.ret (.bool false))) s := fin s h
    obtain ⟨hp, g, d, tk, os⟩ := s
    wp_walk using wpAny_loadPart' hl1
    have hi1 : items[((i : Nat) : Int).toNat]? = none := by simp; omega
    rw [hi1]
    wp_walk using wpAny_loadPart' hl1
    exact hR
  | succ k ih =>
    intro i hk hi s h
    obtain ⟨items, n, hl1, hs1, turn⟩ := hl _ h
    have hlt : i < items.size := by omega
    have ht := turn i hlt
    obtain ⟨hp, g, d, tk, os⟩ := s
    wp_walk using wpAny_loadPart' hl1
    have hi1 : items[((i : Nat) : Int).toNat]? = some items[i] := by simp [hlt]
    have hc : ((i : Int) + 1) = ((i + 1 : Nat) : Int) := by omega
    rw [hi1]
    refine wpAny_bind (wpAny_mono ht (fun r s2 h2 => ?_) fun _ _ x => x)
    obtain ⟨hr, h2⟩ := h2
    subst hr
    have hrec := ih (i + 1) (by omega) (by omega) s2 h2
    obtain ⟨hp2, g2, d2, tk2, os2⟩ := s2
    wp_walk
    rw [hc]
    exact ⟨plainId_quiet plain_contains_loop _, codeAny_builtin entry_contains_loop (by
      rw [Around.under_plainId plain_contains_loop _]
      exact hrec)⟩
theorem list_containsF (l : Addr) (x : Value) (N : Nat) (I : Shared → Prop)
    (hl : ∀ s, I s → ∃ (items : Array Value) (n : Nat), s.heap.get? l = some { cls := .type "list", data := .seq items n } ∧ items.size = N ∧ ∀ (i : Nat) (h1 : i < items.size), wpAny (model prog w) A.in1 (eqBool items[i] x) (fun r s' => r = false ∧ I s') (fun e s' => R (.error e) s') s)
    (fin : ∀ s, I s → R (.ok (.ret (.bool false))) s) (h : I s) :
    wpAny (model prog w) A.in1 (Builtin.«list.__contains__» ⟨[.ref l, x], []⟩) (FinOf prog w A R) (fun e s' => R (.error e) s') s := by
  obtain ⟨items, n, hl1, hs1, _⟩ := hl _ h
  have hrec := contains_loopF (A := A) (R := R) l x N I hl fin _ 0 rfl (Nat.zero_le _) s h
  obtain ⟨hp, g, d, tk, os⟩ := s
  wp_walk using wpAny_loadPart' hl1
  exact ⟨plainId_quiet plain_contains_loop _, codeAny_builtin entry_contains_loop (by
    rw [Around.under_plainId plain_contains_loop _]
    exact hrec)⟩
end
end GQ

set_option Elab.async false
set_option maxRecDepth 100000
set_option maxHeartbeats 4000000
namespace L2
open PySem PySem.Spec PyProof.Rows
set_option linter.unusedVariables false
/-- None, a list, a tuple or a dict with tuple keys -/
def NoTk (H : Hp) (v : V) : Prop := v = .non ∨ ∃ a, v = .ref a ∧ ((∃ xs, H a = some (.lst xs)) ∨ (∃ xs, H a = some (.tup xs)) ∨ ∃ kvs, H a = some (.dT kvs))
/-- the own class lies below none of the four -/
structure Beside (K : PySem.W.Frag) (C : Addr) : Prop where
  n : PySem.W.subIn K (.ref C) (.type "NoneType") = some false
  l : PySem.W.subIn K (.ref C) (.type "list") = some false
  t : PySem.W.subIn K (.ref C) (.type "tuple") = some false
  d : PySem.W.subIn K (.ref C) (.type "dict") = some false
def rInOwn (C : Addr) (sp : Sp) (E : XK) : R2 := fun x y H Q => ∃ a dx fs l ys, x = .ref a ∧ y = .ref l ∧ H a = some (.ins C dx fs) ∧ H l = some (.lst ys) ∧ (∀ v ∈ ys, NoTk H v ∧ sp [.ref a, v] H (fun r H' => r = .bl false ∧ H' = H) E) ∧ Q (.bl false) H
section
variable {X : Cx} {CX : CXT} {n : Nat} {f C : Addr} {fd : FuncData} {ps : List Str} {sp : Sp} {E : XK}
theorem eqBool_back {prog : Program} {w : World} {A : Around} {E : Value → Shared → Prop} {s : Shared} {y : Value} {x : Addr} {Q : Bool → Shared → Prop} (hy : y = .none ∨ ∃ b, y = .ref b ∧ b ≠ x)
    (h : wpAny (model prog w) A (richCompare .Eq y (.ref x)) (fun v s' => ∃ r, v = .bool r ∧ Q r s') E s) : wpAny (model prog w) A (eqBool y (.ref x)) Q E s := by
  rcases hy with rfl | ⟨b, rfl, hne⟩
  · unfold eqBool
    refine wpAny_holding ?_
    refine wpAny_ite_split (fun hab => absurd (eq_of_beq hab) (fun z => nomatch z)) (fun _ => ?_)
    refine wpAny_bind (wpAny_mono h (fun v s' hv => ?_) fun _ _ x => x)
    obtain ⟨r, rfl, q⟩ := hv
    exact wpAny_truthy_bool q
  · exact GQ.eqBool_refG hne h
theorem op_inOwn (G : FnOk X.prog X.w X.K X.mg X.base CX n f fd ps sp) (hs : PySem.W.findIn X.K (.ref C) "__eq__" = some (some (.ref f))) (hf : PySem.W.isFn X.K (.ref f) = true) (hb : Binds X.K fd ps []) (hB : Beside X.K C) (hr : Room (n + 1) X.A) (hx : Passes CX X E) : OpR X (compareOp .In) (rInOwn C sp E) := by
  intro pins s σ H x y v u Q I rx ry h
  obtain ⟨a, dx, fs, l, ys, rfl, rfl, ha, hl, hall, q⟩ := h
  cases (show v = Value.ref a from rx)
  cases (show u = Value.ref l from ry)
  have hu1 : X.A.in1.units < cLine := hr.in1.units0
  show wpAny (model X.prog X.w) X.A (do return .bool (← contains (.ref l) (.ref a))) (EP X pins σ Q) X.xe s
  obtain ⟨z0, its0, k0, r0, e0⟩ := I.hok l _ hl
  refine wpAny_bind (wpAny_contains_slot (T := "list") ⟨_, e0, rfl⟩ F.slot_list_contains (wpAny_mono (Q := fun v s' => v = .bool false ∧ Inv X pins σ H s') (GQ.call_here F.slot_list_contains ⟨_, e0, rfl⟩ F.entry_list_contains (F.args_list_contains_2 _ _) ?_) (fun v s' hv => ?_) fun _ _ e => e))
  case refine_2 =>
    obtain ⟨rfl, I'⟩ := hv
    exact wpAny_truthy_bool (wpAny_pure ⟨.bl false, H, I', rfl, q⟩)
  refine GQ.list_containsF l (.ref a) ys.length (fun s' => Inv X pins σ H s') (fun s' I' => ?_) (fun s' I' => ⟨rfl, I'⟩) I
  obtain ⟨z, its, k, r, e⟩ := I'.hok l _ hl
  refine ⟨its.toArray, k, e, by rw [List.size_toArray, ← r.length], fun i h1 => ?_⟩
  have h1' : i < its.length := by simpa using h1
  have k1 : i < ys.length := by rw [r.length]; exact h1'
  obtain ⟨u, hu, ru⟩ := r.get (List.getElem?_eq_getElem k1)
  have eu : its.toArray[i] = u := by
    have g1 : its[i]? = some its.toArray[i] := by
      rw [List.getElem?_eq_getElem h1'] <;> simp
    exact Option.some.inj (g1.symm.trans hu)
  rw [eu]
  obtain ⟨hn, hsp⟩ := hall _ (List.getElem_mem k1)
  generalize ys[i] = y at hn hsp ru
  obtain ⟨mA, J, _⟩ := ins_get I'.hok ha
  obtain ⟨od, J, _⟩ := J.look
  obtain ⟨m, hF⟩ := I'.fr
  have XK := I'.ok.mod.kin.keeps hF.keep
  -- the own ==
  have own : wpAny (model X.prog X.w) X.A.in1 (call (.ref f) [.ref a, u]) (PySem.W.CmpBack fun v s' => ∃ r, v = .bool r ∧ (r = false ∧ Inv X pins σ H s')) X.xe s' := by
    have hl := G.len _ _ _ _ hsp
    have r2 : Vals [V.ref a, y] [Value.ref a, u] := .cons rfl (.cons ru .nil)
    have e0 : Env0 X.prog X.w X.K X.mg X.base X.A.in1 X.stack s' H := I'.env0.in1
    refine wpAny_call (codeAny_mono (G.run X.A.in1 X.stack s' H ⟨[.ref a, u], []⟩ [.ref a, u] [.ref a, y] _ E hr.in1 e0 (by
      have := hb s' [.ref a, u] I'.kIn (by simpa using hl)
      simpa using this) r2 hsp) fun r s2 hq => ?_)
    cases r with
    | error e => exact hx pins σ H s' e s2 I' hq
    | ok fl =>
      cases fl with
      | ret w =>
        obtain ⟨z, H', I2, rz, ez, eh⟩ := I'.after hq
        subst ez
        subst eh
        cases rz
        exact ⟨false, rfl, rfl, I2⟩
      | next => exact False.elim hq
      | brk => exact False.elim hq
      | cont => exact False.elim hq
  rcases hn with rfl | ⟨b, rfl, ⟨xs, hb'⟩ | ⟨xs, hb'⟩ | ⟨kvs, hb'⟩⟩
  · cases ru
    exact eqBool_back (.inl rfl) (PySem.W.rc_back (T := "NoneType") hu1 hF I'.ok.mod.kin J rfl hB.n F.slot_NoneType_eq (GQ.call_here F.slot_NoneType_eq rfl F.entry_NoneType_eq (F.args_NoneType_eq_2 _ _) (GQ.none_decl ⟨rfl, rfl⟩)) hs hf own)
  all_goals
    cases ru
    have nba : Value.ref b = .none ∨ ∃ b', Value.ref b = .ref b' ∧ b' ≠ a := .inr ⟨b, rfl, ne_of hb' ha (fun z => by cases z)⟩
  · obtain ⟨_, its2, k2, _, e2⟩ := I'.hok b _ hb'
    exact eqBool_back nba (PySem.W.rc_back (T := "list") hu1 hF I'.ok.mod.kin J ⟨_, e2, rfl⟩ hB.l F.slot_list_eq (GQ.call_here F.slot_list_eq ⟨_, e2, rfl⟩ F.entry_list_eq (F.args_list_eq_2 _ _) (GQ.list_decl (J.type.andThen (PySem.W.looks_subIn XK hB.l)) ⟨rfl, rfl⟩)) hs hf own)
  · obtain ⟨_, _, _, o, e2, c2, _⟩ := (show ObjOk X.prog X.w H s'.heap b (.tup xs) from I'.hok b _ hb')
    exact eqBool_back nba (PySem.W.rc_back (T := "tuple") hu1 hF I'.ok.mod.kin J ⟨_, e2, c2⟩ hB.t F.slot_tuple_eq (GQ.call_here F.slot_tuple_eq ⟨_, e2, c2⟩ F.entry_tuple_eq (F.args_tuple_eq_2 _ _) (GQ.tuple_decl (J.type.andThen (PySem.W.looks_subIn XK hB.t)) ⟨rfl, rfl⟩)) hs hf own)
  · obtain ⟨_, _, _, _, o, es, ep, e2, c2, _⟩ := (show ObjOk X.prog X.w H s'.heap b (.dT kvs) from I'.hok b _ hb')
    exact eqBool_back nba (PySem.W.rc_back (T := "dict") hu1 hF I'.ok.mod.kin J ⟨_, e2, c2.1⟩ hB.d F.slot_dict_eq (GQ.call_here F.slot_dict_eq ⟨_, e2, c2.1⟩ F.entry_dict_eq (F.args_dict_eq_2 _ _) (GQ.dict_decl ⟨_, e2, c2.1⟩ (J.type.andThen (PySem.W.looks_subIn XK hB.d)) ⟨rfl, rfl⟩)) hs hf own)
end
end L2

set_option Elab.async false
set_option maxRecDepth 100000
set_option maxHeartbeats 4000000
namespace L2
open PySem PySem.Spec PyProof.Rows
set_option linter.unusedVariables false
/-! comprehensions with several clauses: a core for the first, one for each behind it -/
section
variable {prog : Program} {w : World} {A : Around} {R : Result → Shared → Prop} {s : Shared}
/-- such a node's loops and starts run where they stand -/
structure Runs (prog : Program) (w : World) (A : Around) (node : Expr) : Prop where
  lu : ∀ k it acc env, A.under (.compLoop node k it acc env) = A
  ld : ∀ k it acc env, (model prog w).den (.compLoop node k it acc env) = (compTurn node k it acc env).onRaise (fun x => do noteFrame x env; theTreesLotGoes x)
  su : ∀ k it acc env, A.under (.compStart node k it acc env) = A
  sd : ∀ k it acc env, (model prog w).den (.compStart node k it acc env) = (compStart node k it acc env).onRaise (fun x => do noteFrame x env; standAt theWindowsPlace)
theorem runs_list {elt : Expr} {cs : List Comprehension} {scope : Scope} {pos : Pos} : Runs prog w A (.ListComp elt cs scope pos) := ⟨fun _ _ _ _ => rfl, fun _ _ _ _ => rfl, fun _ _ _ _ => rfl, fun _ _ _ _ => rfl⟩
theorem runs_dict {kx vx : Expr} {cs : List Comprehension} {scope : Scope} {pos : Pos} : Runs prog w A (.DictComp kx vx cs scope pos) := ⟨fun _ _ _ _ => rfl, fun _ _ _ _ => rfl, fun _ _ _ _ => rfl, fun _ _ _ _ => rfl⟩
/-- how a clause goes over to the next -/
abbrev BodyTo (prog : Program) (w : World) (A : Around) (env : Env) (node i1 : Expr) (k1 : Nat) (acc : Value) (R : Result → Shared → Prop) : (Shared → Prop) → Shared → Prop := fun back s =>
  wpAny (model prog w) A (eval i1 env) (fun x s4 => wpAny (model prog w) A (pyIter x) (fun it1 s5 => codeAny (model prog w) A (.compStart node k1 it1 acc env) (fun r s' => match r with
    | .ok _ => back s'
    | .error _ => False) s5) (notedBy (model prog w) A env fun e s' => R (.error e) s') s4) (notedBy (model prog w) A env fun e s' => R (.error e) s') s
/-- what a turn of such a clause is -/
abbrev OutEq (node : Expr) (k : Nat) (t0 i0 : Expr) (ifs0 : List Expr) (i1 : Expr) : Prop := ∀ (it acc : Value) (env : Env), compTurn node k it acc env = (do
      standAt i0.pos
      match ← pyNext it with
      | none => pure (.done .next)
      | some v =>
        letOwnedTupleGo t0 it v
        assign t0 env v
        let mut ok := true
        for c in ifs0 do
          if ok then ok ← isTrue c env (eval c env)
        if ok then
          let x ← eval i1 env
          standAt i1.pos
          let x ← foldedSetIterable i1 env x
          let _ ← runOwn (.compStart node (k + 1) (← holding [x] (pyIter x)) acc env) env
        again (.compLoop node k it acc env))
theorem loop_out {node t0 i0 i1 : Expr} {k : Nat} {ifs0 : List Expr} (hr : Runs prog w A node) (eq : OutEq node k t0 i0 ifs0 i1) {it acc : Value} {env : Env} (hs : ∀ x, foldedSetIterable i1 env x = pure x) (I : Nat → Shared → Prop)
    (turn : ∀ n s, I n s → TurnIs prog w A t0 i0 ifs0 it env R (BodyTo prog w A env node i1 (k + 1) acc R) (fun s' => ∃ m, m < n ∧ I m s') s) (n : Nat) (s : Shared) (h : I n s) :
    codeAny (model prog w) A (.compLoop node k it acc env) R s := by
  refine codeAny_loop rfl I (fun n s hI => ?_) n h
  rw [hr.lu, hr.ld]
  refine wpAny_noted ?_
  rw [eq]
  refine wpAny_bind (wpAny_standAt (wpAny_bind (wpAny_mono (turn n s hI) (fun r s₁ h₁ => ?_) fun _ _ h' => h')))
  cases r with
  | none => exact wpAny_pure h₁
  | some v =>
    refine wpAny_bind (wpAny_mono h₁ (fun _ s₁' h₁' => ?_) fun _ _ h' => h')
    refine wpAny_bind (wpAny_mono h₁' (fun _ s₂ h₂ => wpAny_bind (wpAny_mono h₂ (fun ok s₃ h₃ => ?_) fun _ _ h' => h')) fun _ _ h' => h')
    cases ok with
    | false => exact wpAny_pure ⟨rfl, h₃⟩
    | true =>
      refine wpAny_bind (wpAny_mono h₃ (fun x s₄ h₄ => ?_) fun _ _ h' => h')
      refine wpAny_bind (wpAny_standAt (wpAny_bind (wpAny_of_eq (hs x) (wpAny_bind (wpAny_holding (wpAny_mono h₄ (fun it1 s₅ h₅ => ?_) fun _ _ h' => h'))))))
      refine wpAny_bind (wpAny_runOwn ?_)
      rw [Around.mark_none]
      refine codeAny_mono h₅ fun r s' hr => ?_
      cases r with
      | ok f =>
        first
          | exact wpAny_pure ⟨rfl, hr⟩
          | exact wpAny_bind (wpAny_pure (wpAny_pure ⟨rfl, hr⟩))
      | error e => exact hr.elim
/-- the last clause's turn, what it does with its element being elt -/
abbrev InEq (node : Expr) (k : Nat) (t0 i0 : Expr) (ifs0 : List Expr) (acc : Value) (env : Env) (elt : Sem Unit) : Prop := ∀ (it : Value), compTurn node k it acc env = (do
      standAt i0.pos
      match ← pyNext it with
      | none => pure (.done .next)
      | some v =>
        letOwnedTupleGo t0 it v
        assign t0 env v
        let mut ok := true
        for c in ifs0 do
          if ok then ok ← isTrue c env (eval c env)
        if ok then elt
        again (.compLoop node k it acc env))
theorem loop_in {node t0 i0 : Expr} {k : Nat} {ifs0 : List Expr} {it acc : Value} {env : Env} {elt : Sem Unit} (hr : Runs prog w A node) (eq : InEq node k t0 i0 ifs0 acc env elt) (I : Nat → Shared → Prop)
    (turn : ∀ n s, I n s → TurnIs prog w A t0 i0 ifs0 it env R (fun back s => wpAny (model prog w) A elt (fun _ s' => back s') (notedBy (model prog w) A env fun e s' => R (.error e) s') s) (fun s' => ∃ m, m < n ∧ I m s') s) (n : Nat) (s : Shared) (h : I n s) :
    codeAny (model prog w) A (.compLoop node k it acc env) R s := by
  refine codeAny_loop rfl I (fun n s hI => ?_) n h
  rw [hr.lu, hr.ld]
  refine wpAny_noted ?_
  rw [eq]
  refine wpAny_bind (wpAny_standAt (wpAny_bind (wpAny_mono (turn n s hI) (fun r s₁ h₁ => ?_) fun _ _ h' => h')))
  cases r with
  | none => exact wpAny_pure h₁
  | some v =>
    refine wpAny_bind (wpAny_mono h₁ (fun _ s₁' h₁' => ?_) fun _ _ h' => h')
    refine wpAny_bind (wpAny_mono h₁' (fun _ s₂ h₂ => wpAny_bind (wpAny_mono h₂ (fun ok s₃ h₃ => ?_) fun _ _ h' => h')) fun _ _ h' => h')
    cases ok with
    | false => exact wpAny_pure ⟨rfl, h₃⟩
    | true => exact wpAny_bind (wpAny_mono h₃ (fun _ s₄ h₄ => wpAny_pure ⟨rfl, h₄⟩) fun _ _ h' => h')
/-- a clause's start behind the first -/
theorem start_ok {node i1 : Expr} {k : Nat} {it acc : Value} {env : Env} (hr : Runs prog w A node) (hpos : ∃ t ifs, (clausesOf node)[k]? = some ⟨t, i1, ifs, 0⟩)
    (h0 : codeAny (model prog w) A (.compLoop node k it acc env) R s)
    (h : wpAny (model prog w) A (pyIter it) (fun it' s' => codeAny (model prog w) A (.compLoop node k it' acc env) R s') (notedBy (model prog w) A env fun x s' => R (.error x) s') s) :
    codeAny (model prog w) A (.compStart node k it acc env) R s := by
  obtain ⟨t, ifs, hc⟩ := hpos
  refine codeAny_of_tree ?_
  rw [hr.su, hr.sd]
  refine wpAny_notedAt ?_
  unfold compStart
  simp only [hc]
  refine wpAny_bind (wpAny_askSetting (wpAny_ite ?_))
  split
  · first
      | exact wpAny_bind (wpAny_pure (wpAny_pure (And.intro rfl h0)))
      | exact wpAny_pure (And.intro rfl h0)
  · first
      | exact wpAny_bind (wpAny_rule (wpAny_bind (wpAny_standAt (wpAny_bind (wpAny_mono h (fun it' s' h' => wpAny_pure (And.intro rfl h')) fun _ _ x => x)))))
      | (refine wpAny_bind (wpAny_rule ?_); show wpAny _ _ (standAt i1.pos >>= _) _ _ s; exact wpAny_bind (wpAny_standAt (wpAny_bind (wpAny_mono h (fun it' s' h' => wpAny_pure (And.intro rfl h')) fun _ _ x => x))))
end
end L2

set_option Elab.async false
set_option maxRecDepth 100000
set_option maxHeartbeats 4000000
namespace L2
open PySem PySem.Spec PyProof.Rows
set_option linter.unusedVariables false
/-- σ' knows what σ knows -/
def Knows (σ σ' : L2.St) : Prop := σ.length = σ'.length ∧ ∀ (j : Nat) v, σ[j]? = some (some v) → σ'[j]? = some (some v)
/-- what a clause behind the first does: its source's own loop, from whose end Nx is reached; vs1: the names of this target and of those behind it -/
def tIn (wi1 : TI) (g1 : TG) (tt1 : TT) (add1 : Addr → L2.St → Hp → (Hp → Prop) → Prop) (vs1 : List Nat) : Addr → L2.St → Hp → (Hp → Prop) → Prop := fun D σ2 H3 Nx => wi1 σ2 H3 fun J1 H4 => ∃ W1 : Nat → Nat → Hp → Prop, (∃ m, W1 0 m H4) ∧ ∀ j k H, W1 j k H →
  (J1.stop j H ∧ Nx H) ∨ (J1.go j H ∧ ∃ Nx1 : Hp → Prop, (∀ H', Nx1 H' → ∃ k', k' < k ∧ W1 (j + 1) k' H') ∧ ∀ x H', J1.yld j H x H' → g1 x (wipe σ2 vs1) H' fun σ3 H5 => wipe σ3 vs1 = wipe σ2 vs1 ∧ tt1 σ3 H5 fun b H6 => if b = true then add1 D σ3 H6 Nx1 else Nx1 H6)
section
variable {X : Cx}
variable {pins : List (Addr × Obj)} {s : Shared} {σ : L2.St} {H : Hp} {Q : VK} {node tg iter : Expr} {ifs : List Expr} {scope : Scope} {own : List (PySem.Str × Nat)} {pos' : Pos} {wi : TI} {g : TG} {tt : TT}
  {add : Addr → L2.St → Hp → (Hp → Prop) → Prop} {o0 : Addr → HO} {ob : Obj} {mk : Sem Value} {use : Option (Value → Sem Unit)} {Qf : Value → Shared → Prop} {Body : Value → Env → (Result → Shared → Prop) → (Shared → Prop) → Shared → Prop}
theorem gatherN {rest : List Comprehension} {vsI : List Nat} (hvI : ∀ i ∈ vsI, i ∈ own.map (·.2)) (hc : X.calm = true) (hN : X.N.Nodup) (I : Inv X pins σ H s) (hi : PI X tg iter wi) (ok : BlkOk X.N X.env.scope scope own) (hcl : clausesOf node = ⟨tg, iter, ifs, 0⟩ :: rest)
    (hmk : ∀ (A : Around) (E : Value → Shared → Prop) (s : Shared) (Q : Value → Shared → Prop), Q (.ref s.heap.objs.size) { s with heap := s.heap.push ob } → wpAny (model X.prog X.w) A mk Q E s)
    (hob : ∀ (h : Heap) (H : Hp), sysModules < h.objs.size → ObjOk X.prog X.w H (h.push ob) h.objs.size (o0 h.objs.size))
    (hloop : ∀ (it : Value) (D : Addr) (env : Env) (R : Result → Shared → Prop) (I : Nat → Shared → Prop), (∀ n s, I n s → TurnIs X.prog X.w X.A tg iter ifs it env R (Body (.ref D) env R) (fun s' => ∃ m, m < n ∧ I m s') s) →
      ∀ n s, I n s → codeAny (model X.prog X.w) X.A (.compLoop node 0 it (.ref D) env) R s)
    (hstart : ∀ (it acc : Value) (env : Env) (R : Result → Shared → Prop) (s : Shared), codeAny (model X.prog X.w) X.A (.compLoop node 0 it acc env) R s →
      wpAny (model X.prog X.w) X.A (pyIter it) (fun it' s' => codeAny (model X.prog X.w) X.A (.compLoop node 0 it' acc env) R s') (notedBy (model X.prog X.w) X.A env fun x s' => R (.error x) s') s →
      codeAny (model X.prog X.w) X.A (.compStart node 0 it acc env) R s)
    (hg : ∀ (s : Shared) (H : Hp) (C : Addr) (cl : List (PySem.Str × Addr)) (fp : List Addr), PG (X.blk s H scope (compEnvC scope cl C X.env) fp) tg g)
    (ht : ∀ (s : Shared) (H : Hp) (C : Addr) (cl : List (PySem.Str × Addr)) (fp : List Addr), PTs (X.blk s H scope (compEnvC scope cl C X.env) fp) ifs tt)
    (hadd : ∀ (s : Shared) (H : Hp) (C : Addr) (cl : List (PySem.Str × Addr)) (fp : List Addr) (D : Addr) (R : Result → Shared → Prop) (Nx : Hp → Prop) (back : Shared → Prop) (pins' : List (Addr × Obj)) (σ2 : L2.St) (H3 : Hp) (s3 : Shared),
      Inv (X.blk s H scope (compEnvC scope cl C X.env) fp) pins' σ2 H3 s3 → add D σ2 H3 Nx → (∀ s' σ' H', Inv (X.blk s H scope (compEnvC scope cl C X.env) fp) pins' σ' H' s' → Knows (wipe σ2 vsI) σ' → Nx H' → back s') → Body (.ref D) (compEnvC scope cl C X.env) R back s3)
    (hs : ∀ x, foldedSetIterable iter X.env x = pure x) (h : tGather o0 wi g tt add (own.map (·.2)) σ H Q)
    (hRR : ∀ D C s' m H', Inv X pins σ H' s' → Q (.ref D) H' → s'.heap.Ns C m → FpOk X pins H' C → compPost (model X.prog X.w) X.A X.xe use Qf (.ref D) C (.ok .next) s') :
    wpAny (model X.prog X.w) X.A (comprehension node scope X.env pos' mk false (eval iter X.env) use) Qf X.xe s := by
  have free : ∀ y ∈ scope.names, y.2 = .free → ∃ c, X.env.cells.lookup y.1 = some c := fun y hy e => (ok.free y hy e).elim (fun k => I.ok.has _ (.inl k)) (fun k => I.ok.has _ (.inr k))
  refine wpAny_comprehension_free (use := use) hcl hs (closure_ok free) ok.kind (fun y hy e => by rw [ok.uniq y hy, e]) (thn (hi.run pins s σ H _ I h) fun xv s1 hx => thn hx fun itv s2 h2 => ?_)
  obtain ⟨it, fp, tn, J, H2, e, I2, T, st2, f2, q⟩ := h2
  subst e
  refine hmk _ _ _ _ (newEnv_comp ?_)
  obtain ⟨W, ⟨m0, w0⟩, turn⟩ := q s2.heap.objs.size (I2.hok.fresh (Nat.le_refl _))
  have I3 : Inv X pins σ (upd H2 s2.heap.objs.size (o0 s2.heap.objs.size)) ({ s2 with heap := s2.heap.push ob } : Shared) :=
    I2.laid (t' := s2.toks) (fun b o e => Heap.get?_push_of_some _ e) (Nat.le_refl _) (hob _ _ I2.big)
  have f3 : ∀ b ∈ fp, FpOk X pins (upd H2 s2.heap.objs.size (o0 s2.heap.objs.size)) b ∧ b < (s2.heap.push ob).objs.size := fun b hb => by
    obtain ⟨o, e, _⟩ := T.obj _ _ st2 b hb
    have lt := Heap.lt_size e
    exact ⟨⟨by rw [upd_ne (Nat.ne_of_lt lt)]; exact (f2 b hb).1, (f2 b hb).2⟩, by rw [Heap.size_push]; exact Nat.lt_succ_of_lt lt⟩
  have st3 : tn 0 (s2.heap.push ob) := T.keep _ _ _ st2 fun b _ o e => Heap.get?_push_of_some _ e
  generalize hD : s2.heap.objs.size = D at I3 w0 turn f3 ⊢
  generalize hs3 : ({ s2 with heap := s2.heap.push ob } : Shared) = s3 at I3 ⊢
  have h3 : s3.heap = s2.heap.push ob := by rw [← hs3]
  rw [← h3] at f3 st3
  generalize upd H2 D (o0 D) = H3 at I3 w0 f3
  have I4 := block_start I3 ok hN f3
  have pg := hg s3 H3 s3.heap.objs.size (cellsFrom (s3.heap.objs.size + 1) scope.names (cloFrom X.env.cells scope.names [])) fp
  have pt := ht s3 H3 s3.heap.objs.size (cellsFrom (s3.heap.objs.size + 1) scope.names (cloFrom X.env.cells scope.names [])) fp
  have pa := hadd s3 H3 s3.heap.objs.size (cellsFrom (s3.heap.objs.size + 1) scope.names (cloFrom X.env.cells scope.names [])) fp
  show codeAny _ _ (.compStart node 0 (.ref it) (.ref D) (compEnvC scope (cellsFrom (s3.heap.objs.size + 1) scope.names (cloFrom X.env.cells scope.names [])) s3.heap.objs.size X.env)) (compPost (model X.prog X.w) X.A X.xe use Qf (.ref D) s3.heap.objs.size) { s3 with heap := pushCells (s3.heap.push { cls := .type "dict", data := .dict #[] }) scope.names }
  generalize hce : compEnvC scope (cellsFrom (s3.heap.objs.size + 1) scope.names (cloFrom X.env.cells scope.names [])) s3.heap.objs.size X.env = ce at I4 pg pt pa ⊢
  have cL : ce.locals = s3.heap.objs.size := by subst hce; rfl
  generalize hs4 : ({ s3 with heap := pushCells (s3.heap.push { cls := .type "dict", data := .dict #[] }) scope.names } : Shared) = s4 at I4 ⊢
  have st4 : tn 0 s4.heap := T.keep _ _ _ st3 fun b _ o e => by rw [← hs4]; exact pushCells_keeps _ _ _ _ (Heap.get?_push_of_some _ e)
  have still : ∀ {σ' : L2.St} {H' : Hp} {s' : Shared}, Inv (X.blk s3 H3 scope ce fp) [] σ' H' s' → (∀ b ∈ fp, H' b = none) → ∀ b ∈ fp, FpOk (X.blk s3 H3 scope ce fp) [] H' b := fun I' hn b hb =>
    ⟨hn b hb, (I'.ok.exf b hb).1, I'.ok.exfs b hb, .inl hb, fun x c e => (I'.ok.exf b hb).2 x c e, fun p hp => absurd (show p ∈ ([] : List (Addr × Obj)) ++ [] from hp) (by simp)⟩
  have loop := hloop (.ref it) D ce (compPost (model X.prog X.w) X.A X.xe use Qf (.ref D) s3.heap.objs.size)
    (fun n s' => ∃ i H', Inv (X.blk s3 H3 scope ce fp) [] (wipe σ (own.map (·.2))) H' s' ∧ tn i s'.heap ∧ (∀ b ∈ fp, H' b = none) ∧ W i n H') ?_ m0 s4 ⟨0, H3, I4, st4, fun b hb => (f3 b hb).1.1, w0⟩
  · exact hstart _ _ _ _ _ loop (T.self X.A 0 _ _ _ st4 loop)
  rintro n s5 ⟨i, H5, I5, st5, n5, w5⟩
  rcases turn i n H5 w5 with ⟨stop, qq⟩ | ⟨go, Nx, hNx, step⟩
  · refine thnF (T.done (X.blk s3 H3 scope ce fp) rfl rfl rfl hc i [] s5 _ H5 (fun _ _ => False) I5 (still I5 n5) st5 stop) fun r s6 ⟨hr, I6⟩ => ?_
    subst hr
    have I7 : Inv X pins σ H5 s6 := I3.call' (ch := fp) I6.os I6.base I6.hok I6.bare fun b hb => ⟨(f3 b hb).1.2.2.2.1, (f3 b hb).1.2.1, (f3 b hb).1.2.2.2.2.1, (f3 b hb).1.2.2.2.2.2⟩
    have nC : H5 s3.heap.objs.size = none := by
      have z : H5 ce.locals = none := I6.free
      rwa [cL] at z
    obtain ⟨m, hn, _⟩ := I6.loc
    have hn : s6.heap.Ns ce.locals m := hn
    rw [cL] at hn
    exact hRR D s3.heap.objs.size s6 m H5 I7 qq hn (I3.fpOk (Nat.le_refl _) nC)
  · refine thnF (T.item (X.blk s3 H3 scope ce fp) rfl rfl rfl hc i [] s5 _ H5 (fun _ _ => False) I5 (still I5 n5) st5 go) fun r s6 ⟨u, hr, h6⟩ => ?_
    subst hr
    refine thnF h6 fun _ s7 ⟨x, H7, I7, r7, y7, st7, n7⟩ => ?_
    refine thnF (pg.run _ s7 _ H7 x u _ (I7.pinned (still I7 n7) (T.obj _ _ st7)) r7 (step x H7 y7)) fun _ s8 ⟨σ8, H8, I8, hw8, q8⟩ => ?_
    refine thnF (pt.run _ s8 σ8 H8 _ I8 q8) fun b s9 ⟨H9, I9, q9⟩ => ?_
    have again : ∀ (s' : Shared) (σ' : L2.St) (H' : Hp), Inv (X.blk s3 H3 scope ce fp) ([] ++ pinsAt fp s7.heap) σ' H' s' → Knows (wipe σ8 vsI) σ' → Nx H' → ∃ m, m < n ∧ ∃ i H', Inv (X.blk s3 H3 scope ce fp) [] (wipe σ (own.map (·.2))) H' s' ∧ tn i s'.heap ∧ (∀ b ∈ fp, H' b = none) ∧ W i m H' := fun s' σ' H' I' kn nx => by
      obtain ⟨m', hm, w'⟩ := hNx H' nx
      have stands : ∀ b ∈ fp, ∀ o, s7.heap.get? b = some o → s'.heap.get? b = some o ∧ H' b = none := fun b hb o e =>
        let z := I'.pin (b, o) (List.mem_append_right _ (List.mem_append_right _ (mem_pinsAt hb e)))
        ⟨z.1, z.2.1⟩
      refine ⟨m', hm, i + 1, H', (I'.unpinned (pins := [])).weak ((congrArg List.length hw8).symm.trans ((wipe_length _ _).trans ((wipe_length _ vsI).symm.trans kn.1))) (fun j v e => ?_), T.keep _ _ _ st7 fun b hb o e => (stands b hb o e).1, fun b hb => ?_, w'⟩
      · rw [← hw8] at e
        obtain ⟨e1, e2⟩ := wipe_some e
        exact kn.2 j v (by rw [wipe_out fun z => e2 (hvI j z)]; exact e1)
      · obtain ⟨o, e, _⟩ := T.obj _ _ st7 b hb
        exact (stands b hb o e).2
    cases b with
    | false => exact again s9 σ8 H9 I9 ⟨wipe_length _ _, fun j v e => (wipe_some e).1⟩ q9
    | true => exact pa D _ Nx _ _ σ8 H9 s9 I9 q9 again

theorem inner_core {s3 : Shared} {H3 : Hp} {ce : Env} {fp : List Addr} {k : Nat} {acc : Value} {D : Addr} {vs1 vsI : List Nat} {Body1 : (Result → Shared → Prop) → (Shared → Prop) → Shared → Prop} {R : Result → Shared → Prop} (hc : X.calm = true) (hvI : ∀ i ∈ vsI, i ∈ vs1)
    (pi1 : PI (X.blk s3 H3 scope ce fp) tg iter wi) (pg1 : PG (X.blk s3 H3 scope ce fp) tg g) (pt1 : PTs (X.blk s3 H3 scope ce fp) ifs tt)
    (hloop : ∀ (it : Value) (R : Result → Shared → Prop) (I : Nat → Shared → Prop), (∀ n s, I n s → TurnIs X.prog X.w X.A tg iter ifs it ce R (Body1 R) (fun s' => ∃ m, m < n ∧ I m s') s) → ∀ n s, I n s → codeAny (model X.prog X.w) X.A (.compLoop node k it acc ce) R s)
    (hstart : ∀ (it : Value) (R : Result → Shared → Prop) (s : Shared), codeAny (model X.prog X.w) X.A (.compLoop node k it acc ce) R s →
      wpAny (model X.prog X.w) X.A (pyIter it) (fun it' s' => codeAny (model X.prog X.w) X.A (.compLoop node k it' acc ce) R s') (notedBy (model X.prog X.w) X.A ce fun x s' => R (.error x) s') s → codeAny (model X.prog X.w) X.A (.compStart node k it acc ce) R s)
    (hadd : ∀ (R : Result → Shared → Prop) (Nx : Hp → Prop) (back : Shared → Prop) (pins' : List (Addr × Obj)) (σ2 : L2.St) (H6 : Hp) (s6 : Shared), Inv (X.blk s3 H3 scope ce fp) pins' σ2 H6 s6 → add D σ2 H6 Nx →
      (∀ s' σ' H', Inv (X.blk s3 H3 scope ce fp) pins' σ' H' s' → Knows (wipe σ2 vsI) σ' → Nx H' → back s') → Body1 R back s6)
    (I : Inv (X.blk s3 H3 scope ce fp) pins σ H s) {Nx : Hp → Prop} (q : tIn wi g tt add vs1 D σ H Nx) {back : Shared → Prop}
    (hb : ∀ s' σ' H', Inv (X.blk s3 H3 scope ce fp) pins σ' H' s' → Knows (wipe σ vs1) σ' → Nx H' → back s') : BodyTo X.prog X.w X.A ce node iter k acc R back s := by
  refine thnF (pi1.run pins s σ H _ I q) fun xv s10 hx => thnF hx fun itv s11 h11 => ?_
  obtain ⟨it1, fp1, tn1, J1, H11, e1, I11, T1, st11, f11, W1, ⟨m1, w1⟩, turn1⟩ := h11
  subst e1
  have stat1 : ∀ {H' : Hp}, (∀ b ∈ fp1, H' b = none) → ∀ b ∈ fp1, FpOk (X.blk s3 H3 scope ce fp) pins H' b := fun hn b hb => ⟨hn b hb, (f11 b hb).2⟩
  have loop1 : codeAny (model X.prog X.w) X.A (.compLoop node k (.ref it1) acc ce) (fun r s' => match r with
      | .ok _ => back s'
      | .error _ => False) s11 := by
    refine hloop _ _ (fun k s' => ∃ j H', Inv (X.blk s3 H3 scope ce fp) pins (wipe σ vs1) H' s' ∧ tn1 j s'.heap ∧ (∀ b ∈ fp1, H' b = none) ∧ W1 j k H') ?_ m1 s11 ⟨0, H11, I11.weak (wipe_length _ _) (fun j v e => (wipe_some e).1), st11, fun b hb => (f11 b hb).1, w1⟩
    rintro k s12 ⟨j, H12, I12, st12, n12, w12⟩
    rcases turn1 j k H12 w12 with ⟨stop1, nx1⟩ | ⟨go1, Nx1, hNx1, step1⟩
    · refine thnF (T1.done (X.blk s3 H3 scope ce fp) rfl rfl rfl hc j _ s12 (wipe σ vs1) H12 (fun _ _ => False) I12 (stat1 n12) st12 stop1) fun r s13 ⟨hr, I13⟩ => ?_
      subst hr
      exact hb _ _ _ I13 ⟨rfl, fun _ _ e => e⟩ nx1
    · refine thnF (T1.item (X.blk s3 H3 scope ce fp) rfl rfl rfl hc j _ s12 (wipe σ vs1) H12 (fun _ _ => False) I12 (stat1 n12) st12 go1) fun r s13 ⟨u1, hr, h13⟩ => ?_
      subst hr
      refine thnF h13 fun _ s14 ⟨x1, H14, I14, r14, y14, st14, n14⟩ => ?_
      have I14' := I14.pinned (stat1 n14) (T1.obj _ _ st14)
      refine thnF (pg1.run _ s14 (wipe σ vs1) H14 x1 u1 _ I14' r14 (step1 x1 H14 y14)) fun _ s15 ⟨σ15, H15, I15, hw15, q15⟩ => ?_
      refine thnF (pt1.run _ s15 σ15 H15 _ I15 q15) fun b1 s16 ⟨H16, I16, q16⟩ => ?_
      have fin1 : ∀ (s' : Shared) (σ' : L2.St) (H' : Hp), Inv (X.blk s3 H3 scope ce fp) (pins ++ pinsAt fp1 s14.heap) σ' H' s' → Knows (wipe σ15 vsI) σ' → Nx1 H' → ∃ m, m < k ∧ ∃ j H', Inv (X.blk s3 H3 scope ce fp) pins (wipe σ vs1) H' s' ∧ tn1 j s'.heap ∧ (∀ b ∈ fp1, H' b = none) ∧ W1 j m H' := fun s' σ' H' I' kn nx => by
        obtain ⟨m', hm, w'⟩ := hNx1 H' nx
        have pin' : ∀ b ∈ fp1, ∀ o, s14.heap.get? b = some o → s'.heap.get? b = some o ∧ H' b = none := fun b hb o e =>
          let z := I'.pin (b, o) (List.mem_append_right _ (List.mem_append_right _ (mem_pinsAt hb e)))
          ⟨z.1, z.2.1⟩
        refine ⟨m', hm, j + 1, H', I'.unpinned.weak ((congrArg List.length hw15).symm.trans ((wipe_length _ _).trans ((wipe_length _ vsI).symm.trans kn.1))) (fun j v e => ?_), T1.keep _ _ _ st14 fun b hb o e => (pin' b hb o e).1, fun b hb => ?_, w'⟩
        · rw [← hw15] at e
          obtain ⟨e1, e2⟩ := wipe_some e
          exact kn.2 j v (by rw [wipe_out fun z => e2 (hvI j z)]; exact e1)
        · obtain ⟨o, e, _⟩ := T1.obj _ _ st14 b hb
          exact (pin' b hb o e).2
      cases b1 with
      | false => exact fin1 s16 σ15 H16 I16 ⟨wipe_length _ _, fun j v e => (wipe_some e).1⟩ q16
      | true => exact hadd _ Nx1 _ _ σ15 H16 s16 I16 q16 fin1
  exact hstart _ _ _ loop1 (T1.self X.A 0 _ _ _ st11 loop1)
end
end L2

set_option Elab.async false
set_option maxRecDepth 100000
set_option maxHeartbeats 4000000
namespace L2
open PySem PySem.Spec PyProof.Rows
set_option linter.unusedVariables false
/-! [e for .. for .. for ..] and {k: v for .. for ..} -/
/-- a turn of [e for ..] -/
def addL (te : TE) : Addr → L2.St → Hp → (Hp → Prop) → Prop := fun D σ H Nx => te σ H fun y H1 => ∃ acc, H1 D = some (.lst acc) ∧ acc.length < sizeLine ∧ Nx (upd H1 D (.lst (acc ++ [y])))
section
variable {X : Cx}
theorem pe_lc3 {elt tg iter tg1 iter1 tg2 iter2 : Expr} {ifs ifs1 ifs2 : List Expr} {scope : Scope} {own : List (PySem.Str × Nat)} {pos : Pos} {vs1 vs2 : List Nat} {wi wi1 wi2 : TI} {g g1 g2 : TG} {tt tt1 tt2 : TT} {te : TE} (hc : X.calm = true) (hN : X.N.Nodup) (hv1 : ∀ i ∈ vs1, i ∈ own.map (·.2)) (hv2 : ∀ i ∈ vs2, i ∈ vs1) (hi : PI X tg iter wi) (ok : BlkOk X.N X.env.scope scope own)
    (hg : ∀ (s : Shared) (H : Hp) (C : Addr) (cl : List (PySem.Str × Addr)) (fp : List Addr), PG (X.blk s H scope (compEnvC scope cl C X.env) fp) tg g)
    (ht : ∀ (s : Shared) (H : Hp) (C : Addr) (cl : List (PySem.Str × Addr)) (fp : List Addr), PTs (X.blk s H scope (compEnvC scope cl C X.env) fp) ifs tt)
    (hi1 : ∀ (s : Shared) (H : Hp) (C : Addr) (cl : List (PySem.Str × Addr)) (fp : List Addr), PI (X.blk s H scope (compEnvC scope cl C X.env) fp) tg1 iter1 wi1)
    (hg1 : ∀ (s : Shared) (H : Hp) (C : Addr) (cl : List (PySem.Str × Addr)) (fp : List Addr), PG (X.blk s H scope (compEnvC scope cl C X.env) fp) tg1 g1)
    (ht1 : ∀ (s : Shared) (H : Hp) (C : Addr) (cl : List (PySem.Str × Addr)) (fp : List Addr), PTs (X.blk s H scope (compEnvC scope cl C X.env) fp) ifs1 tt1)
    (hi2 : ∀ (s : Shared) (H : Hp) (C : Addr) (cl : List (PySem.Str × Addr)) (fp : List Addr), PI (X.blk s H scope (compEnvC scope cl C X.env) fp) tg2 iter2 wi2)
    (hg2 : ∀ (s : Shared) (H : Hp) (C : Addr) (cl : List (PySem.Str × Addr)) (fp : List Addr), PG (X.blk s H scope (compEnvC scope cl C X.env) fp) tg2 g2)
    (ht2 : ∀ (s : Shared) (H : Hp) (C : Addr) (cl : List (PySem.Str × Addr)) (fp : List Addr), PTs (X.blk s H scope (compEnvC scope cl C X.env) fp) ifs2 tt2)
    (he : ∀ (s : Shared) (H : Hp) (C : Addr) (cl : List (PySem.Str × Addr)) (fp : List Addr), PE (X.blk s H scope (compEnvC scope cl C X.env) fp) elt te)
    (hs : ∀ x, foldedSetIterable iter X.env x = pure x := by intro _; rfl) (hs1 : ∀ env x, foldedSetIterable iter1 env x = pure x := by intro _ _; rfl) (hs2 : ∀ env x, foldedSetIterable iter2 env x = pure x := by intro _ _; rfl) :
    PE X (.ListComp elt [⟨tg, iter, ifs, 0⟩, ⟨tg1, iter1, ifs1, 0⟩, ⟨tg2, iter2, ifs2, 0⟩] scope pos) (tGather (fun _ => .lst []) wi g tt (tIn wi1 g1 tt1 (tIn wi2 g2 tt2 (addL te) vs2) vs1) (own.map (·.2))) := by
  refine ⟨fun pins s σ H Q I h => ?_⟩
  rw [eval_ListComp]
  refine gatherN (rest := [⟨tg1, iter1, ifs1, 0⟩, ⟨tg2, iter2, ifs2, 0⟩]) (vsI := vs1) (ob := { cls := .type "list", data := .seq ([] : List Value).toArray }) (mk := newList []) (o0 := fun _ => .lst []) (add := tIn wi1 g1 tt1 (tIn wi2 g2 tt2 (addL te) vs2) vs1)
    (Body := fun acc env R => BodyTo X.prog X.w X.A env (.ListComp elt [⟨tg, iter, ifs, 0⟩, ⟨tg1, iter1, ifs1, 0⟩, ⟨tg2, iter2, ifs2, 0⟩] scope pos) iter1 1 acc R)
    hv1 hc hN I hi ok rfl (fun A E s Q q => wpAny_newObj_type q (by show 0 ≤ sizeLine; decide)) (fun h H hb => ⟨Nat.zero_le _, [], 0, .nil, Heap.get?_push_size _ rfl⟩) (fun it D env R I turn n s => loop_out runs_list (fun _ _ _ => rfl) (hs1 env) I turn n s) (fun it acc env R s a b => codeAny_compStart_list a b) hg ht ?_ hs h ?_
  · intro s H C cl fp D R Nx back pins' σ2 H3 s3 I3 q3 k
    refine inner_core (vsI := vs2) (Body1 := fun R => BodyTo X.prog X.w X.A (compEnvC scope cl C X.env) (.ListComp elt [⟨tg, iter, ifs, 0⟩, ⟨tg1, iter1, ifs1, 0⟩, ⟨tg2, iter2, ifs2, 0⟩] scope pos) iter2 2 (.ref D) R) hc hv2 (hi1 s H C cl fp) (hg1 s H C cl fp) (ht1 s H C cl fp) (fun it R I turn n s => loop_out runs_list (fun _ _ _ => rfl) (hs2 _) I turn n s) (fun it R s a b => start_ok runs_list ⟨_, _, rfl⟩ a b) ?_ I3 q3 k
    intro R Nx back pins' σ3 H6 s6 I6 q6 k6
    refine inner_core (vsI := []) (Body1 := fun R back s => wpAny (model X.prog X.w) X.A (do let _ ← call (.builtin "list.append") [.ref D, ← eval elt (compEnvC scope cl C X.env)]) (fun _ s' => back s') (notedBy (model X.prog X.w) X.A (compEnvC scope cl C X.env) fun e s' => R (.error e) s') s) hc (fun _ h => nomatch h) (hi2 s H C cl fp) (hg2 s H C cl fp) (ht2 s H C cl fp) (fun it R I turn n s => loop_in runs_list (fun _ => rfl) I turn n s) (fun it R s a b => start_ok runs_list ⟨_, _, rfl⟩ a b) ?_ I6 q6 k6
    intro R Nx back pins' σ4 H9 s9 I9 q9 k9
    refine wpAny_bind (thnF ((he s H C cl fp).run _ s9 σ4 H9 _ I9 q9) fun z s10 ⟨yv, H10, I10, r10, acc, hD, hz, nx⟩ => ?_)
    refine wpAny_bind (app_ok (X := X.blk s H scope (compEnvC scope cl C X.env) fp) I10 hD hz r10 fun s11 I11 => ?_)
    exact wpAny_pure (k9 _ _ _ I11 ⟨rfl, fun _ _ e => e⟩ nx)
  · intro D C s' m H' I' q hn ⟨f0, f1, f2, f3, f4, f5⟩
    exact ⟨m, hn, fun h'' sb => ⟨.ref D, H', I'.turned (t' := s'.toks) (fun b o hb e => (sb.2 b hb).trans e) f0 f1 f3 f4 f5, rfl, q⟩⟩
theorem ps_setLc3 {i : Nat} {y : PySem.Str} {py : Pos} {spos : Pos} {elt tg iter tg1 iter1 tg2 iter2 : Expr} {ifs ifs1 ifs2 : List Expr} {scope : Scope} {own : List (PySem.Str × Nat)} {pos : Pos} {vs1 vs2 : List Nat} {wi wi1 wi2 : TI} {g g1 g2 : TG} {tt tt1 tt2 : TT} {te : TE} (hc : X.calm = true) (hN : X.N.Nodup) (hy : X.N[i]? = some y) (hyl : X.env.scope.names.lookup y = some .local)
    (hsw : swapsWith (.ListComp elt [⟨tg, iter, ifs, 0⟩, ⟨tg1, iter1, ifs1, 0⟩, ⟨tg2, iter2, ifs2, 0⟩] scope pos) (some (.Name y py)) spos.line X.env = pure true) (hv1 : ∀ i ∈ vs1, i ∈ own.map (·.2)) (hv2 : ∀ i ∈ vs2, i ∈ vs1) (hi : PI X tg iter wi) (ok : BlkOk X.N X.env.scope scope own)
    (hg : ∀ (s : Shared) (H : Hp) (C : Addr) (cl : List (PySem.Str × Addr)) (fp : List Addr), PG (X.blk s H scope (compEnvC scope cl C X.env) fp) tg g)
    (ht : ∀ (s : Shared) (H : Hp) (C : Addr) (cl : List (PySem.Str × Addr)) (fp : List Addr), PTs (X.blk s H scope (compEnvC scope cl C X.env) fp) ifs tt)
    (hi1 : ∀ (s : Shared) (H : Hp) (C : Addr) (cl : List (PySem.Str × Addr)) (fp : List Addr), PI (X.blk s H scope (compEnvC scope cl C X.env) fp) tg1 iter1 wi1)
    (hg1 : ∀ (s : Shared) (H : Hp) (C : Addr) (cl : List (PySem.Str × Addr)) (fp : List Addr), PG (X.blk s H scope (compEnvC scope cl C X.env) fp) tg1 g1)
    (ht1 : ∀ (s : Shared) (H : Hp) (C : Addr) (cl : List (PySem.Str × Addr)) (fp : List Addr), PTs (X.blk s H scope (compEnvC scope cl C X.env) fp) ifs1 tt1)
    (hi2 : ∀ (s : Shared) (H : Hp) (C : Addr) (cl : List (PySem.Str × Addr)) (fp : List Addr), PI (X.blk s H scope (compEnvC scope cl C X.env) fp) tg2 iter2 wi2)
    (hg2 : ∀ (s : Shared) (H : Hp) (C : Addr) (cl : List (PySem.Str × Addr)) (fp : List Addr), PG (X.blk s H scope (compEnvC scope cl C X.env) fp) tg2 g2)
    (ht2 : ∀ (s : Shared) (H : Hp) (C : Addr) (cl : List (PySem.Str × Addr)) (fp : List Addr), PTs (X.blk s H scope (compEnvC scope cl C X.env) fp) ifs2 tt2)
    (he : ∀ (s : Shared) (H : Hp) (C : Addr) (cl : List (PySem.Str × Addr)) (fp : List Addr), PE (X.blk s H scope (compEnvC scope cl C X.env) fp) elt te)
    (hs : ∀ x, foldedSetIterable iter X.env x = pure x := by intro _; rfl) (hs1 : ∀ env x, foldedSetIterable iter1 env x = pure x := by intro _ _; rfl) (hs2 : ∀ env x, foldedSetIterable iter2 env x = pure x := by intro _ _; rfl) :
    PS X (.Assign [.Name y py] (.ListComp elt [⟨tg, iter, ifs, 0⟩, ⟨tg1, iter1, ifs1, 0⟩, ⟨tg2, iter2, ifs2, 0⟩] scope pos) spos) (tAsg (tGather (fun _ => .lst []) wi g tt (tIn wi1 g1 tt1 (tIn wi2 g2 tt2 (addL te) vs2) vs1) (own.map (·.2))) (gName i)) := by
  refine ⟨fun pins s σ H D I h => ?_⟩
  rw [exec_Assign_Name_used _ _ _ _ hsw]
  refine wpAny_bind (wpAny_standAt (wpAny_bind ?_))
  show wpAny _ X.A (do let _ ← comprehension (.ListComp elt [⟨tg, iter, ifs, 0⟩, ⟨tg1, iter1, ifs1, 0⟩, ⟨tg2, iter2, ifs2, 0⟩] scope pos) scope X.env (firstIterPos [⟨tg, iter, ifs, 0⟩, ⟨tg1, iter1, ifs1, 0⟩, ⟨tg2, iter2, ifs2, 0⟩] pos) (newList []) false (eval iter X.env) (some (assign (.Name y py) X.env))) _ _ s
  have h : tGather (fun _ => .lst []) wi g tt (tIn wi1 g1 tt1 (tIn wi2 g2 tt2 (addL te) vs2) vs1) (own.map (·.2)) σ H (fun x H1 => gName i x σ H1 D.nx) := h
  refine wpAny_bind (thn (gatherN (rest := [⟨tg1, iter1, ifs1, 0⟩, ⟨tg2, iter2, ifs2, 0⟩]) (vsI := vs1) (Qf := fun _ s1 => SP X pins D .next s1) (use := some (assign (.Name y py) X.env)) (ob := { cls := .type "list", data := .seq ([] : List Value).toArray }) (mk := newList []) (o0 := fun _ => .lst []) (add := tIn wi1 g1 tt1 (tIn wi2 g2 tt2 (addL te) vs2) vs1)
    (Body := fun acc env R => BodyTo X.prog X.w X.A env (.ListComp elt [⟨tg, iter, ifs, 0⟩, ⟨tg1, iter1, ifs1, 0⟩, ⟨tg2, iter2, ifs2, 0⟩] scope pos) iter1 1 acc R)
    hv1 hc hN I hi ok rfl (fun A E s Q q => wpAny_newObj_type q (by show 0 ≤ sizeLine; decide)) (fun h H hb => ⟨Nat.zero_le _, [], 0, .nil, Heap.get?_push_size _ rfl⟩) (fun it D env R I turn n s => loop_out runs_list (fun _ _ _ => rfl) (hs1 env) I turn n s) (fun it acc env R s a b => codeAny_compStart_list a b) hg ht ?_ hs h ?_) fun _ s' hq => wpAny_pure (wpAny_pure hq))
  · intro s H C cl fp D R Nx back pins' σ2 H3 s3 I3 q3 k
    refine inner_core (vsI := vs2) (Body1 := fun R => BodyTo X.prog X.w X.A (compEnvC scope cl C X.env) (.ListComp elt [⟨tg, iter, ifs, 0⟩, ⟨tg1, iter1, ifs1, 0⟩, ⟨tg2, iter2, ifs2, 0⟩] scope pos) iter2 2 (.ref D) R) hc hv2 (hi1 s H C cl fp) (hg1 s H C cl fp) (ht1 s H C cl fp) (fun it R I turn n s => loop_out runs_list (fun _ _ _ => rfl) (hs2 _) I turn n s) (fun it R s a b => start_ok runs_list ⟨_, _, rfl⟩ a b) ?_ I3 q3 k
    intro R Nx back pins' σ3 H6 s6 I6 q6 k6
    refine inner_core (vsI := []) (Body1 := fun R back s => wpAny (model X.prog X.w) X.A (do let _ ← call (.builtin "list.append") [.ref D, ← eval elt (compEnvC scope cl C X.env)]) (fun _ s' => back s') (notedBy (model X.prog X.w) X.A (compEnvC scope cl C X.env) fun e s' => R (.error e) s') s) hc (fun _ h => nomatch h) (hi2 s H C cl fp) (hg2 s H C cl fp) (ht2 s H C cl fp) (fun it R I turn n s => loop_in runs_list (fun _ => rfl) I turn n s) (fun it R s a b => start_ok runs_list ⟨_, _, rfl⟩ a b) ?_ I6 q6 k6
    intro R Nx back pins' σ4 H9 s9 I9 q9 k9
    refine wpAny_bind (thnF ((he s H C cl fp).run _ s9 σ4 H9 _ I9 q9) fun z s10 ⟨yv, H10, I10, r10, acc, hD, hz, nx⟩ => ?_)
    refine wpAny_bind (app_ok (X := X.blk s H scope (compEnvC scope cl C X.env) fp) I10 hD hz r10 fun s11 I11 => ?_)
    exact wpAny_pure (k9 _ _ _ I11 ⟨rfl, fun _ _ e => e⟩ nx)
  · intro L C s' m H' I' q hn f
    show wpAny _ _ (assign (.Name y py) X.env (.ref L)) _ _ _
    refine wpAny_assign_Name (store_ok2 (v := V.ref L) I' hN hy (.inl hyl) rfl (fun s2 I2 ⟨a, sb, ha⟩ => ?_) (.inr hyl))
    obtain ⟨f0, f1, f2, f3, f4, f5⟩ := f
    have haC : C ≠ a := by
      rcases ha with z | z
      · rw [z]; exact f1
      · exact fun e => f4 y a z e.symm
    refine ⟨m, hn.sameBut sb haC, fun h3 sb3 => ?_⟩
    exact ⟨_, H', I2.turned (t' := s2.toks) (fun b o hb e => (sb3.2 b hb).trans e) f0 f1 f3 f4 f5, q⟩
theorem pe_dcT2 {kx vx tg iter tg1 iter1 : Expr} {ifs ifs1 : List Expr} {scope : Scope} {own : List (PySem.Str × Nat)} {pos : Pos} {vs1 : List Nat} {wi wi1 : TI} {g g1 : TG} {tt tt1 : TT} {tk tv : TE} (hu : X.A.units + 1 < cLine) (hc : X.calm = true) (hN : X.N.Nodup) (hv1 : ∀ i ∈ vs1, i ∈ own.map (·.2)) (hi : PI X tg iter wi) (ok : BlkOk X.N X.env.scope scope own)
    (hg : ∀ (s : Shared) (H : Hp) (C : Addr) (cl : List (PySem.Str × Addr)) (fp : List Addr), PG (X.blk s H scope (compEnvC scope cl C X.env) fp) tg g)
    (ht : ∀ (s : Shared) (H : Hp) (C : Addr) (cl : List (PySem.Str × Addr)) (fp : List Addr), PTs (X.blk s H scope (compEnvC scope cl C X.env) fp) ifs tt)
    (hi1 : ∀ (s : Shared) (H : Hp) (C : Addr) (cl : List (PySem.Str × Addr)) (fp : List Addr), PI (X.blk s H scope (compEnvC scope cl C X.env) fp) tg1 iter1 wi1)
    (hg1 : ∀ (s : Shared) (H : Hp) (C : Addr) (cl : List (PySem.Str × Addr)) (fp : List Addr), PG (X.blk s H scope (compEnvC scope cl C X.env) fp) tg1 g1)
    (ht1 : ∀ (s : Shared) (H : Hp) (C : Addr) (cl : List (PySem.Str × Addr)) (fp : List Addr), PTs (X.blk s H scope (compEnvC scope cl C X.env) fp) ifs1 tt1)
    (hk : ∀ (s : Shared) (H : Hp) (C : Addr) (cl : List (PySem.Str × Addr)) (fp : List Addr), PE (X.blk s H scope (compEnvC scope cl C X.env) fp) kx tk)
    (he : ∀ (s : Shared) (H : Hp) (C : Addr) (cl : List (PySem.Str × Addr)) (fp : List Addr), PE (X.blk s H scope (compEnvC scope cl C X.env) fp) vx tv)
    (hs : ∀ x, foldedSetIterable iter X.env x = pure x := by intro _; rfl) (hs1 : ∀ env x, foldedSetIterable iter1 env x = pure x := by intro _ _; rfl) :
    PE X (.DictComp kx vx [⟨tg, iter, ifs, 0⟩, ⟨tg1, iter1, ifs1, 0⟩] scope pos) (tGather (fun _ => .dT []) wi g tt (tIn wi1 g1 tt1 (addT tk tv) vs1) (own.map (·.2))) := by
  refine ⟨fun pins s σ H Q I h => ?_⟩
  rw [arm_eval_DictComp]
  refine gatherN (rest := [⟨tg1, iter1, ifs1, 0⟩]) (vsI := vs1) (ob := { cls := .type "dict", data := .dict #[] }) (mk := newDict) (o0 := fun _ => .dT []) (add := tIn wi1 g1 tt1 (addT tk tv) vs1)
    (Body := fun acc env R => BodyTo X.prog X.w X.A env (.DictComp kx vx [⟨tg, iter, ifs, 0⟩, ⟨tg1, iter1, ifs1, 0⟩] scope pos) iter1 1 acc R)
    hv1 hc hN I hi ok rfl (fun A E s Q q => wpAny_newObj_type q) (fun h H hb => dt_empty h hb) (fun it D env R I turn n s => loop_out runs_dict (fun _ _ _ => rfl) (hs1 env) I turn n s) (fun it acc env R s a b => codeAny_compStart_dict a b) hg ht ?_ hs h ?_
  · intro s H C cl fp D R Nx back pins' σ2 H3 s3 I3 q3 k
    refine inner_core (vsI := []) (Body1 := fun R back s => wpAny (model X.prog X.w) X.A (do
            let kv ← eval kx (compEnvC scope cl C X.env)
            let vv ← holding [kv] (eval vx (compEnvC scope cl C X.env))
            standAt { kx.pos with endLine := vx.pos.endLine, endCol := vx.pos.endCol }
            holding [kv, vv] (dictSet D kv vv)) (fun _ s' => back s') (notedBy (model X.prog X.w) X.A (compEnvC scope cl C X.env) fun e s' => R (.error e) s') s) hc (fun _ h => nomatch h) (hi1 s H C cl fp) (hg1 s H C cl fp) (ht1 s H C cl fp) (fun it R I turn n s => loop_in runs_dict (fun _ => rfl) I turn n s) (fun it R s a b => start_ok runs_dict ⟨_, _, rfl⟩ a b) ?_ I3 q3 k
    intro R Nx back pins' σ4 H9 s9 I9 q9 k9
    refine wpAny_bind (thnF ((hk s H C cl fp).run _ s9 σ4 H9 _ I9 q9) fun z s10 ⟨yk, H10, I10, r10, q10⟩ => ?_)
    refine wpAny_bind (wpAny_holding (thnF ((he s H C cl fp).run _ s10 σ4 H10 _ I10 q10) fun z2 s11 ⟨yv, H11, I11, r11, kvs, ks, b, ey, hb, hD, hz, nx⟩ => ?_))
    refine wpAny_bind (wpAny_standAt (wpAny_holding ?_))
    subst ey
    cases (show z = Value.ref b from r10)
    obtain ⟨hl, hd, xs, rel, dd⟩ := dt_of I11.hok hD
    have hz' : xs.length ≤ sizeLine := by rw [← Paired.length rel]; exact hl
    have grown : (putK kvs ks yv).length ≤ sizeLine := by have := length_putK kvs ks yv; omega
    refine wpAny_dictSet_heap (hsz := hz') (show X.A.units < cLine by omega) (key_of I11.hok hb) dd fun h' dd' same => k9 _ _ _ ?_ ⟨rfl, fun _ _ e => e⟩ nx
    obtain ⟨q, es, ep, hq, h2, h3, h4, _, h5⟩ := dd'
    refine d_write I11 (by rw [hD]; exact True.intro) same ⟨q, hq⟩ ⟨grown, hd, _, (rel.put ks hb r11).keeps fun c ys ec => ?_, q, es, ep, hq, h2, h3, h4, h5⟩
    rw [upd_ne (ne_of ec hD (fun z => nomatch z))]
    exact ec
  · intro D C s' m H' I' q hn ⟨f0, f1, f2, f3, f4, f5⟩
    exact ⟨m, hn, fun h'' sb => ⟨.ref D, H', I'.turned (t' := s'.toks) (fun b o hb e => (sb.2 b hb).trans e) f0 f1 f3 f4 f5, rfl, q⟩⟩
theorem ps_setDcT2 {i : Nat} {y : PySem.Str} {py : Pos} {spos : Pos} {kx vx tg iter tg1 iter1 : Expr} {ifs ifs1 : List Expr} {scope : Scope} {own : List (PySem.Str × Nat)} {pos : Pos} {vs1 : List Nat} {wi wi1 : TI} {g g1 : TG} {tt tt1 : TT} {tk tv : TE} (hu : X.A.units + 1 < cLine) (hc : X.calm = true) (hN : X.N.Nodup) (hy : X.N[i]? = some y) (hyl : X.env.scope.names.lookup y = some .local)
    (hsw : swapsWith (.DictComp kx vx [⟨tg, iter, ifs, 0⟩, ⟨tg1, iter1, ifs1, 0⟩] scope pos) (some (.Name y py)) spos.line X.env = pure true) (hv1 : ∀ i ∈ vs1, i ∈ own.map (·.2)) (hi : PI X tg iter wi) (ok : BlkOk X.N X.env.scope scope own)
    (hg : ∀ (s : Shared) (H : Hp) (C : Addr) (cl : List (PySem.Str × Addr)) (fp : List Addr), PG (X.blk s H scope (compEnvC scope cl C X.env) fp) tg g)
    (ht : ∀ (s : Shared) (H : Hp) (C : Addr) (cl : List (PySem.Str × Addr)) (fp : List Addr), PTs (X.blk s H scope (compEnvC scope cl C X.env) fp) ifs tt)
    (hi1 : ∀ (s : Shared) (H : Hp) (C : Addr) (cl : List (PySem.Str × Addr)) (fp : List Addr), PI (X.blk s H scope (compEnvC scope cl C X.env) fp) tg1 iter1 wi1)
    (hg1 : ∀ (s : Shared) (H : Hp) (C : Addr) (cl : List (PySem.Str × Addr)) (fp : List Addr), PG (X.blk s H scope (compEnvC scope cl C X.env) fp) tg1 g1)
    (ht1 : ∀ (s : Shared) (H : Hp) (C : Addr) (cl : List (PySem.Str × Addr)) (fp : List Addr), PTs (X.blk s H scope (compEnvC scope cl C X.env) fp) ifs1 tt1)
    (hk : ∀ (s : Shared) (H : Hp) (C : Addr) (cl : List (PySem.Str × Addr)) (fp : List Addr), PE (X.blk s H scope (compEnvC scope cl C X.env) fp) kx tk)
    (he : ∀ (s : Shared) (H : Hp) (C : Addr) (cl : List (PySem.Str × Addr)) (fp : List Addr), PE (X.blk s H scope (compEnvC scope cl C X.env) fp) vx tv)
    (hs : ∀ x, foldedSetIterable iter X.env x = pure x := by intro _; rfl) (hs1 : ∀ env x, foldedSetIterable iter1 env x = pure x := by intro _ _; rfl) :
    PS X (.Assign [.Name y py] (.DictComp kx vx [⟨tg, iter, ifs, 0⟩, ⟨tg1, iter1, ifs1, 0⟩] scope pos) spos) (tAsg (tGather (fun _ => .dT []) wi g tt (tIn wi1 g1 tt1 (addT tk tv) vs1) (own.map (·.2))) (gName i)) := by
  refine ⟨fun pins s σ H D I h => ?_⟩
  rw [exec_Assign_Name_used _ _ _ _ hsw]
  refine wpAny_bind (wpAny_standAt (wpAny_bind ?_))
  show wpAny _ X.A (do let _ ← comprehension (.DictComp kx vx [⟨tg, iter, ifs, 0⟩, ⟨tg1, iter1, ifs1, 0⟩] scope pos) scope X.env (firstIterPos [⟨tg, iter, ifs, 0⟩, ⟨tg1, iter1, ifs1, 0⟩] pos) newDict false (eval iter X.env) (some (assign (.Name y py) X.env))) _ _ s
  have h : tGather (fun _ => .dT []) wi g tt (tIn wi1 g1 tt1 (addT tk tv) vs1) (own.map (·.2)) σ H (fun x H1 => gName i x σ H1 D.nx) := h
  refine wpAny_bind (thn (gatherN (rest := [⟨tg1, iter1, ifs1, 0⟩]) (vsI := vs1) (Qf := fun _ s1 => SP X pins D .next s1) (use := some (assign (.Name y py) X.env)) (ob := { cls := .type "dict", data := .dict #[] }) (mk := newDict) (o0 := fun _ => .dT []) (add := tIn wi1 g1 tt1 (addT tk tv) vs1)
    (Body := fun acc env R => BodyTo X.prog X.w X.A env (.DictComp kx vx [⟨tg, iter, ifs, 0⟩, ⟨tg1, iter1, ifs1, 0⟩] scope pos) iter1 1 acc R)
    hv1 hc hN I hi ok rfl (fun A E s Q q => wpAny_newObj_type q) (fun h H hb => dt_empty h hb) (fun it D env R I turn n s => loop_out runs_dict (fun _ _ _ => rfl) (hs1 env) I turn n s) (fun it acc env R s a b => codeAny_compStart_dict a b) hg ht ?_ hs h ?_) fun _ s' hq => wpAny_pure (wpAny_pure hq))
  · intro s H C cl fp D R Nx back pins' σ2 H3 s3 I3 q3 k
    refine inner_core (vsI := []) (Body1 := fun R back s => wpAny (model X.prog X.w) X.A (do
            let kv ← eval kx (compEnvC scope cl C X.env)
            let vv ← holding [kv] (eval vx (compEnvC scope cl C X.env))
            standAt { kx.pos with endLine := vx.pos.endLine, endCol := vx.pos.endCol }
            holding [kv, vv] (dictSet D kv vv)) (fun _ s' => back s') (notedBy (model X.prog X.w) X.A (compEnvC scope cl C X.env) fun e s' => R (.error e) s') s) hc (fun _ h => nomatch h) (hi1 s H C cl fp) (hg1 s H C cl fp) (ht1 s H C cl fp) (fun it R I turn n s => loop_in runs_dict (fun _ => rfl) I turn n s) (fun it R s a b => start_ok runs_dict ⟨_, _, rfl⟩ a b) ?_ I3 q3 k
    intro R Nx back pins' σ4 H9 s9 I9 q9 k9
    refine wpAny_bind (thnF ((hk s H C cl fp).run _ s9 σ4 H9 _ I9 q9) fun z s10 ⟨yk, H10, I10, r10, q10⟩ => ?_)
    refine wpAny_bind (wpAny_holding (thnF ((he s H C cl fp).run _ s10 σ4 H10 _ I10 q10) fun z2 s11 ⟨yv, H11, I11, r11, kvs, ks, b, ey, hb, hD, hz, nx⟩ => ?_))
    refine wpAny_bind (wpAny_standAt (wpAny_holding ?_))
    subst ey
    cases (show z = Value.ref b from r10)
    obtain ⟨hl, hd, xs, rel, dd⟩ := dt_of I11.hok hD
    have hz' : xs.length ≤ sizeLine := by rw [← Paired.length rel]; exact hl
    have grown : (putK kvs ks yv).length ≤ sizeLine := by have := length_putK kvs ks yv; omega
    refine wpAny_dictSet_heap (hsz := hz') (show X.A.units < cLine by omega) (key_of I11.hok hb) dd fun h' dd' same => k9 _ _ _ ?_ ⟨rfl, fun _ _ e => e⟩ nx
    obtain ⟨q, es, ep, hq, h2, h3, h4, _, h5⟩ := dd'
    refine d_write I11 (by rw [hD]; exact True.intro) same ⟨q, hq⟩ ⟨grown, hd, _, (rel.put ks hb r11).keeps fun c ys ec => ?_, q, es, ep, hq, h2, h3, h4, h5⟩
    rw [upd_ne (ne_of ec hD (fun z => nomatch z))]
    exact ec
  · intro L C s' m H' I' q hn f
    show wpAny _ _ (assign (.Name y py) X.env (.ref L)) _ _ _
    refine wpAny_assign_Name (store_ok2 (v := V.ref L) I' hN hy (.inl hyl) rfl (fun s2 I2 ⟨a, sb, ha⟩ => ?_) (.inr hyl))
    obtain ⟨f0, f1, f2, f3, f4, f5⟩ := f
    have haC : C ≠ a := by
      rcases ha with z | z
      · rw [z]; exact f1
      · exact fun e => f4 y a z e.symm
    refine ⟨m, hn.sameBut sb haC, fun h3 sb3 => ?_⟩
    exact ⟨_, H', I2.turned (t' := s2.toks) (fun b o hb e => (sb3.2 b hb).trans e) f0 f1 f3 f4 f5, q⟩
end
end L2

set_option Elab.async false
set_option maxRecDepth 100000
set_option maxHeartbeats 4000000
namespace L2
open PySem PySem.Spec PyProof.Rows PySem.W
set_option linter.unusedVariables false
/-! for x in d.values(), d a locked dict of tuple keys -/
def Itvt (d : Addr) (o : Obj) (kvs : List (List Key × V)) : It :=
  ⟨fun i H => H d = some (.frz o (.dT kvs)) ∧ i < kvs.length, fun i H x H' => H' = H ∧ ∃ k, kvs[i]? = some (k, x), fun i H => H d = some (.frz o (.dT kvs)) ∧ kvs.length ≤ i⟩
theorem turn_valsT {P : Program} {w : World} {K : PySem.W.Frag} {tg : Expr} {d : Addr} {o : Obj} {es : Array DictEntry} {ep : Nat} {kvs : List (List Key × V)} (it : Addr) (hod : o.data = .dict es ep) :
    Turn P w K tg (Itvt d o kvs) [it] it (fun i h => h.IsValIter it d i kvs.length ep) where
  mem := by simp
  obj := fun i h st b hb => by
    have e : b = it := by simpa using hb
    subst e
    obtain ⟨oi, e, c, dd⟩ := st
    exact ⟨oi, e, fun v z => by rw [dd] at z; cases z⟩
  keep := fun i h h' st k => st.at fun oi e => k it (by simp) oi e
  item := by
    rintro X rfl rfl rfl hc i pins s σ H E I hf st ⟨hd, hi⟩
    obtain ⟨f0, f1, f2, f3, f4, f5⟩ := hf it (by simp)
    obtain ⟨_, es', ep', hdt, raw, hsz, ent⟩ := I.entriesT hd
    obtain ⟨rfl, rfl⟩ := dict_ep hod hdt
    obtain ⟨⟨k, v⟩, hkv⟩ : ∃ p, kvs[i]? = some p := ⟨kvs[i], List.getElem?_eq_getElem hi⟩
    obtain ⟨hi', q, hkey, hq, rv⟩ := ent i k v hkv
    rw [← hsz] at st
    refine wpAny_pyNext_values_item_raw st raw hi' fun h' st' sb => ?_
    have I1 : Inv X pins σ H { s with heap := h' } := I.turned (t' := s.toks) (fun b ob hb e => (sb.2 b hb).trans e) f0 f1 f3 f4 f5
    obtain ⟨oi, e, c, dd⟩ := id st'
    refine ⟨_, rfl, go_of (s := { s with heap := h' }) e c dd (by decide) ⟨v, H, I1, rv, ⟨rfl, k, hkv⟩, ?_, fun b hb => (hf b hb).1⟩⟩
    show h'.IsValIter it d (i + 1) kvs.length _
    rw [← hsz]
    exact st'
  done := by
    rintro X rfl rfl rfl hc i pins s σ H E I hf st ⟨hd, hi⟩
    obtain ⟨f0, f1, f2, f3, f4, f5⟩ := hf it (by simp)
    obtain ⟨_, es', ep', hdt, raw, hsz, ent⟩ := I.entriesT hd
    obtain ⟨rfl, rfl⟩ := dict_ep hod hdt
    rw [← hsz] at st
    exact wpAny_pyNext_values_end_raw (I.ok.hd hc) st raw (by omega) fun h' eb => ⟨rfl, I.turned (t' := s.toks) (fun b ob hb e => eb b ob hb e) f0 f1 f3 f4 f5⟩
  self := fun A i s Q E st h => wpAny_pyIter_valiter st h
def iValsT (td : TE) : TI := fun σ H R => td σ H fun x H1 => ∃ d o kvs, x = .ref d ∧ H1 d = some (.frz o (.dT kvs)) ∧ R (Itvt d o kvs) H1
theorem pi_valuesT {X : Cx} {tg e : Expr} {td : TE} {apos cpos : Pos} (he : PE X e td) (hbase : attributeBase e "values" X.env (eval e X.env) = eval e X.env := by rfl) (hline : (apos.endLine == cpos.line) = true := by rfl) : PI X tg (.Call (.Attribute e "values" apos) [] [] cpos) (iValsT td) := by
  refine ⟨fun pins s σ H R I h => ?_⟩
  refine wpAny_Call_method (T := "dict") (id := "dict.values") hbase rfl hline F.plainAttrs_dict F.slot_dict_values F.type_dict_values (thn (he.run pins s σ H _ I h) fun u s1 ⟨x, H1, I1, rx, d, o, kvs, ex, hd, q⟩ => ?_)
  subst ex
  obtain rfl : u = Value.ref d := rx
  obtain ⟨notSys, es, ep, hdt, raw, hsz, ent⟩ := I1.entriesT hd
  refine ⟨raw.typeIs, fun b z => ?_, ?_⟩
  · cases z
    obtain ⟨ob, h1, h2, h3⟩ := raw
    exact ⟨ob, h1, h2.2.1⟩
  have I2 : Inv X pins σ H1 { s1 with heap := s1.heap.push { cls := .type "dict_values", data := .fields #[.ref d] } } := I1.kept (t' := s1.toks) fun b ob q => Heap.get?_push_of_some _ q
  have fin : wpAny (model X.prog X.w) X.A (pyIter (.ref s1.heap.objs.size)) (PIE X pins σ tg R) X.xe { s1 with heap := s1.heap.push { cls := .type "dict_values", data := .fields #[.ref d] } } := by
    refine wpAny_pyIter_values_raw (d := d) (es := es) (ep := ep) ⟨_, Heap.get?_push_size _ rfl, rfl, rfl⟩ (raw.push _) (pi_one (tk := s1.toks) I2 _ (turn_valsT _ hdt) ⟨_, Heap.get?_push_size _ rfl, rfl, ?_⟩ q)
    rw [hsz] <;> rfl
  show wpAny _ _ (callWith cpos (.builtin "dict.values") [.ref d] [] []) _ X.xe s1
  exact method_meetsIn F.slot_dict_values F.entry_dict_values rfl (PySem.evalArgs_none ⟨rfl, raw.typeIs, F.args_dict_values_1 _, _, meets_dict_values_raw d notSys, ⟨es, ep, raw⟩, fin⟩)
end L2

set_option Elab.async false
set_option maxRecDepth 100000
set_option maxHeartbeats 4000000
namespace L2
open PySem PySem.Spec PyProof.Rows
set_option linter.unusedVariables false
/-! sorted(d), d a dict whose keys are pairs of ints, any number of them -/
/-- what the key at b is -/
def pairAt (H : Hp) (v : Value) : Int × Int := match v with
  | .ref b => (match H b with
    | some (.tup [.int x, .int y]) => (x, y)
    | _ => (0, 0))
  | _ => (0, 0)
theorem pairAt_of {H : Hp} {b : Addr} {x y : Int} (h : H b = some (.tup [.int x, .int y])) : pairAt H (.ref b) = (x, y) := by
  unfold pairAt
  dsimp only
  rw [h]
theorem vals_of_refs2 : ∀ (ks : List (Addr × (Int × Int))), Vals (ks.map fun p => V.ref p.1) (ks.map fun p => Value.ref p.1)
  | [] => .nil
  | p :: ks => .cons rfl (vals_of_refs2 ks)
def rSortDTO : List V → Hp → VK → Prop := fun vs H Q => ∃ (a : Addr) (kvs : List (List Key × V)) (ips : List (Int × Int)), vs = [V.ref a] ∧ Rd H a (.dT kvs) ∧ kvs.map (·.1) = ips.map (fun p => [Sum.inl p.1, Sum.inl p.2]) ∧ ips.length ≤ 100000 ∧
  ∀ (L : List (Addr × (Int × Int))) (p : Addr), (L.map (·.2)).Perm ips → L.Pairwise (fun q r => SrtO.lexB r.2 q.2 = false) → (∀ q ∈ L, H q.1 = some (.tup [.int q.2.1, .int q.2.2])) → H p = none → Q (.ref p) (upd H p (.lst (L.map fun q => V.ref q.1)))
section
variable {X : Cx}
theorem cr_sortedDTO (hc : X.calm = true) : CallR X (.builtin "sorted") rSortDTO := by
  intro pins s σ H vs us Q I r h
  obtain ⟨a, kvs, ips, rfl, hR, hkeys, few, q⟩ := h
  rw [Vals.ref1 r]
  obtain ⟨hz, notSys, ks, pairs, o, es, ep, ho, hx, hdt, rows, nd⟩ := (show ObjOk X.prog X.w H s.heap a (.dT kvs) from hR.ok I.hok)
  have l1 : es.size = ks.length := size_of_entries rows
  have l2 : kvs.length = ks.length := Paired.length pairs
  have l3 : kvs.length = ips.length := by have e := congrArg List.length hkeys; rwa [List.length_map, List.length_map] at e
  -- each row: its tuple, by number
  have row : ∀ (j : Nat) (x : List Key × Addr × Value), ks[j]? = some x → ∃ ns, ips[j]? = some ns ∧ H x.2.1 = some (.tup [.int ns.1, .int ns.2]) := fun j x hj => by
    have lt : j < kvs.length := by have := (List.getElem?_eq_some_iff.mp hj).1; omega
    obtain ⟨b, hb, e1, e2, _⟩ := paired_get pairs (List.getElem?_eq_getElem lt)
    rw [hj] at hb
    cases hb
    have e3 : (kvs.map (·.1))[j]? = some kvs[j].1 := by rw [List.getElem?_map, List.getElem?_eq_getElem lt]; rfl
    rw [hkeys, List.getElem?_map] at e3
    obtain ⟨ns, hns, e4⟩ := Option.map_eq_some_iff.mp e3
    refine ⟨ns, hns, ?_⟩
    rw [e2, ← e4]
    rfl
  refine Calls.call_function_entry kind_sorted plain_sorted entry_sorted (args_sorted1 _) ?_
  unfold Builtin.«sorted»
  refine wpAny_bind (m := checkCount "sorted" 1 1 _) (wpAny_pure ?_)
  refine wpAny_bind (PySem.W.kdu_collect (A := X.A.in1) (kdl_raw notSys hx hdt) (I.ok.hd hc) ho (by rw [sizeLine_eq]; omega) fun h' tk acc kept its => ?_)
  have eq : acc.toList = ks.map fun x => Value.ref x.2.1 := by
    apply List.ext_getElem?
    intro j
    rw [List.getElem?_map]
    rcases Nat.lt_or_ge j ks.length with lt | ge
    · have hacc : j < acc.toList.length := by rw [Array.length_toList, its.1, l1]; exact lt
      obtain ⟨en, hen, hv⟩ := its.2 j acc.toList[j] (by rw [← Array.getElem?_toList]; exact List.getElem?_eq_getElem hacc)
      have qe := entry_at rows j
      rw [hen, List.getElem?_eq_getElem lt] at qe
      have e2 : en = entryOfKey (tupleKind (mixKind X.prog X.w)) ks[j] := Option.some.inj qe
      rw [List.getElem?_eq_getElem hacc, List.getElem?_eq_getElem lt, hv, e2]
      rfl
    · rw [List.getElem?_eq_none (by rw [Array.length_toList, its.1, l1]; exact ge), List.getElem?_eq_none ge]
      rfl
  have I1 : Inv X pins σ H { s with heap := h', toks := tk } := I.kept kept
  have zs : ks.length ≤ sizeLine := by rw [sizeLine_eq]; omega
  refine wpAny_bind (wpAny_newList ?_ (by rw [eq, List.length_map]; exact zs))
  have made : (h'.push (seqObj "list" acc.toList.toArray 0)).get? h'.objs.size = some (seqObj "list" acc.toList.toArray 0) := Heap.get?_push_size _ rfl
  generalize hvs : acc.toList = vs at made eq ⊢
  have I2 : Inv X pins σ H { s with heap := h'.push (seqObj "list" vs.toArray 0), toks := tk } := I1.kept (t' := tk) fun b o e => Heap.get?_push_of_some _ e
  have tups : ∀ v ∈ vs, ∃ (b : Addr) (ns : Int × Int), v = .ref b ∧ ns ∈ ips ∧ H b = some (.tup [.int ns.1, .int ns.2]) := fun v hv => by
    rw [eq] at hv
    obtain ⟨x, hx, rfl⟩ := List.mem_map.mp hv
    obtain ⟨j, hj⟩ := List.getElem?_of_mem hx
    obtain ⟨ns, h1, h2⟩ := row j x hj
    exact ⟨_, ns, rfl, List.mem_of_getElem? h1, h2⟩
  show wpAny _ _ _ _ _ { s with heap := h'.push (seqObj "list" vs.toArray 0), toks := tk }
  refine wpAny_bind (wpAny_holding (wpAny_call_entry slot_list_sort ⟨_, made, rfl⟩ entry_list_sort (SrtO.list_sort_ord (s := { s with heap := h'.push (seqObj "list" vs.toArray 0), toks := tk }) (SrtO.swo_lex (pairAt H)) made (by rw [eq, List.length_map]; exact zs) (fun h2 => SrtO.pairs_sortableO (by omega) (fun v hv => ?_) fun o e => ?_) fun out a2 a1 => ⟨_, rfl, ?_⟩) (args_list_sort _)))
  · obtain ⟨b, ns, rfl, _, ht⟩ := tups v hv
    rw [pairAt_of ht]
    obtain ⟨_, its2, r2, o, ho, hc, n, hd⟩ := I2.hok _ _ ht
    obtain ⟨u1, u2, rfl, ri, rj⟩ := vals2 r2
    obtain ⟨t1, rfl⟩ := ri
    obtain ⟨t2, rfl⟩ := rj
    exact ⟨b, o, t1, t2, n, rfl, ho, hc, hd⟩
  · have e' : some o = some (seqObj "list" vs.toArray 0) := e.symm.trans made
    cases e'
    intro c
    exact absurd (Value.type.inj c) (by decide)
  obtain ⟨e', he'⟩ := sortedHeap_at (vs := vs) (out := out.toArray) made
  have kept2 : ∀ b u, h'.get? b = some u → (sortedHeap (h'.push (seqObj "list" vs.toArray 0)) h'.objs.size vs out.toArray).get? b = some u := fun b u e => by
    have hb : b < h'.objs.size := Heap.lt_size e
    rw [sortedHeap_old (Nat.ne_of_lt hb) (by rw [size_push']; exact Nat.lt_succ_of_lt hb)]
    exact Heap.get?_push_of_some _ e
  -- the rows that come out
  have L0 : ∀ ws : List Value, (∀ v ∈ ws, v ∈ vs) → ∃ L : List (Addr × (Int × Int)), ws = L.map (fun q => Value.ref q.1) ∧ L.map (·.2) = ws.map (pairAt H) ∧ ∀ q ∈ L, H q.1 = some (.tup [.int q.2.1, .int q.2.2]) := by
    intro ws
    induction ws with
    | nil => intro _; exact ⟨[], rfl, rfl, fun q hq => by cases hq⟩
    | cons v ws ih =>
      intro hv
      obtain ⟨b, ns, e, _, h2⟩ := tups v (hv v List.mem_cons_self)
      obtain ⟨L, e1, e2, e3⟩ := ih fun u hu => hv u (List.mem_cons_of_mem _ hu)
      refine ⟨(b, ns) :: L, by rw [List.map_cons, e, e1], by rw [List.map_cons, List.map_cons, e2, e, pairAt_of h2], fun q hq => ?_⟩
      rcases List.mem_cons.mp hq with rfl | z
      · exact h2
      · exact e3 q z
  obtain ⟨L, e1, e2, e3⟩ := L0 out fun v hv => a1.perm.mem_iff.mp hv
  have lenL : (L.map fun q => V.ref q.1).length ≤ sizeLine := by
    have e4 := a1.perm.length_eq
    rw [e1, eq, List.length_map, List.length_map] at e4
    rw [List.length_map, e4]
    exact zs
  refine wpAny_pure ⟨_, rfl, .ref h'.objs.size, upd H h'.objs.size (.lst (L.map fun q => V.ref q.1)), I1.laid (t' := tk) kept2 (Nat.le_refl _)
    (show ObjOk X.prog X.w _ _ _ (.lst (L.map fun q => V.ref q.1)) from ⟨lenL, out, e', by rw [e1]; exact vals_of_refs2 L, he'⟩), rfl, q L _ ?_ ?_ e3 (I1.hok.fresh (Nat.le_refl _))⟩
  · rw [e2]
    refine (a1.perm.map _).trans (List.Perm.of_eq ?_)
    rw [eq, List.map_map]
    apply List.ext_getElem?
    intro j
    rw [List.getElem?_map]
    cases hj : ks[j]? with
    | none => rw [List.getElem?_eq_none (by have := List.getElem?_eq_none_iff.mp hj; omega)]; rfl
    | some x =>
      obtain ⟨ns, h1, h2⟩ := row j x hj
      rw [h1]
      exact congrArg some (pairAt_of h2)
  · have a3 : (out.map (pairAt H)).Pairwise fun x y => SrtO.lexB y x = false := List.pairwise_map.mpr a2
    rw [← e2] at a3
    exact List.pairwise_map.mp a3
end
/-- the same, told as rSortDT tells it, keys of two small ints -/
def rSortDTB (B : Int) : List V → Hp → VK → Prop := fun vs H Q => ∃ (a : Addr) (kvs : List (List Key × V)) (nss : List (List Int)), vs = [V.ref a] ∧ Rd H a (.dT kvs) ∧ kvs.map (·.1) = nss.map (fun ns => ns.map Sum.inl) ∧ nss.length ≤ 100000 ∧
  (∀ ns ∈ nss, ns.length = 2 ∧ TS.Bd B ns) ∧
  ∀ (L : List (Addr × List Int)) (p : Addr), (L.map (·.2)).Perm nss → L.Pairwise (fun q r => TS.code B q.2 ≤ TS.code B r.2) → (∀ q ∈ L, H q.1 = some (.tup (q.2.map V.int))) → H p = none → Q (.ref p) (upd H p (.lst (L.map fun q => V.ref q.1)))
section
variable {X : Cx}
theorem cr_sortedDTB {B : Int} (hc : X.calm = true) : CallR X (.builtin "sorted") (rSortDTB B) := by
  intro pins s σ H vs us Q I r h
  obtain ⟨a, kvs, nss, rfl, hR, hkeys, few, hB, q⟩ := h
  refine cr_sortedDTO hc pins s σ H [V.ref a] us Q I r ⟨a, kvs, nss.map fun ns => (ns.getD 0 0, ns.getD 1 0), rfl, hR, ?_, by rw [List.length_map]; exact few, fun L p pm pw hL hp => ?_⟩
  · rw [hkeys, List.map_map]
    refine List.map_congr_left fun ns hns => ?_
    obtain ⟨e, _⟩ := hB ns hns
    match ns, e with
    | [x, y], _ => rfl
  · have qq := q (L.map fun e => (e.1, [e.2.1, e.2.2])) p ?_ ?_ ?_ hp
    · rw [List.map_map] at qq
      exact qq
    · rw [List.map_map]
      have e1 := pm.map fun e : Int × Int => [e.1, e.2]
      rw [List.map_map, List.map_map] at e1
      refine e1.trans (List.Perm.of_eq ?_)
      conv => rhs; rw [← List.map_id nss]
      refine List.map_congr_left fun ns hns => ?_
      obtain ⟨e, _⟩ := hB ns hns
      match ns, e with
      | [x, y], _ => rfl
    · refine List.pairwise_map.mpr (pw.imp_of_mem fun {x y} hx hy hl => ?_)
      have bd : ∀ z ∈ L, TS.Bd B [z.2.1, z.2.2] := fun z hz => by
        obtain ⟨ns, hns, e⟩ := List.mem_map.mp (pm.mem_iff.mp (List.mem_map_of_mem (f := (·.2)) hz))
        obtain ⟨e1, e2⟩ := hB ns hns
        match ns, e1, e2, e with
        | [u, v], _, e2, e =>
          rw [← e]
          exact e2
      show TS.code B [x.2.1, x.2.2] ≤ TS.code B [y.2.1, y.2.2]
      have hl := SrtO.lexB_no.mp hl
      rcases Int.lt_or_le (TS.code B [y.2.1, y.2.2]) (TS.code B [x.2.1, x.2.2]) with c | c
      · rcases code_lex (bd y hy) (bd x hx) (Int.le_of_lt c) with k | ⟨k1, k2⟩
        · exact absurd (.inl k) hl
        · by_cases k3 : y.2.2 < x.2.2
          · exact absurd (.inr ⟨k1, k3⟩) hl
          · have k4 : y.2.2 = x.2.2 := by omega
            rw [k1, k4] at c
            exact absurd c (Int.lt_irrefl _)
      · exact c
    · intro e he
      obtain ⟨z, hz, rfl⟩ := List.mem_map.mp he
      exact hL z hz
end
end L2

set_option Elab.async false
set_option maxRecDepth 100000
set_option maxHeartbeats 4000000
namespace L2
open PySem PySem.Spec PyProof.Rows
set_option linter.unusedVariables false
/-! o.m(k = v, ..), m a method of o's own class -/
def tMethK (C : Addr) (m : Str) (n : Nat) (sp : Sp) (gV : List V → List V → List V) (E : XK) (ta : TE) (tk : TA) : TE := fun σ H Q => ta σ H fun x H1 => ∃ a dx fs, x = .ref a ∧ H1 a = some (.ins C dx fs) ∧ fs.lookup m = none ∧ tk σ H1 fun zs H2 => zs.length = n ∧ sp (gV [x] zs) H2 Q E
section
variable {X : Cx} {CX : CXT} {k : Nat} {f C : Addr} {fd : FuncData} {ps ks : List Str} {sp : Sp} {E : XK} {m : Str} {o : Expr} {apos pos : Pos} {kws : List Keyword} {ta : TE} {tk : TA} {g : List Value → List Value → List Value} {gV : List V → List V → List V}
theorem pe_methK0 {pl : Sem Bool} (he : PE X o ta) (c : Cls X.K C) (hm : Meth X.K C m f) (F : FnOk X.prog X.w X.K X.mg X.base CX k f fd ps sp) (hr : Room k X.A) (hb : KBn X.K fd ps 1 ks g gV) (hx : Passes CX X E) (hkw : PK X kws tk)
    (ht : eval (.Call (.Attribute o m apos) [] kws pos) X.env = (do
      let ov ← eval o X.env
      standAt apos.atName
      let (f, first) ← holding [ov] (getMethod ov m pl)
      callWith pos f first (backTo pos (starEach [] X.env)) (backToKw pos (keywordEach kws X.env))) := by rfl)
    (hall : (backToKw pos (keywordEach kws X.env)).all (·.1.isSome) = true := by rfl) (hks : (backToKw pos (keywordEach kws X.env)).filterMap (·.1) = ks := by rfl)
    (hpl : ((backTo pos (starEach [] X.env)).any (·.1) || (backToKw pos (keywordEach kws X.env)).any (·.1.isNone)) = false := by rfl) :
    PE X (.Call (.Attribute o m apos) [] kws pos) (tMethK C m ks.length sp gV E ta tk) := by
  refine ⟨fun pins s σ H Q I h => ?_⟩
  refine PySem.W.methodCall_KW (pl := pl) (thn (he.run pins s σ H _ I h) fun u s1 ⟨x, H1, I1, rx, a, dx, fs, ex, ea, l, q⟩ => ?_) ht
  subst ex
  obtain rfl : u = Value.ref a := rx
  refine getmeth_ok I1 ea c hm l ?_
  refine PySem.W.callWith_KW0 (first := [.ref a]) (h₀ := X.base) I.ok.mod.kin hm.kp hall ?_ hpl
  refine thn (hkw.run pos pins s1 σ H1 _ I1 q) fun ws s2 ⟨zs, H2, I2, rz, l2, q2⟩ => ⟨I2.kIn, ?_⟩
  rw [hks]
  exact run_fnN (us := [.ref a]) (vs := [.ref a]) F hr hb hx I2 (.cons rfl .nil) rz rfl l2 q2
end
end L2

set_option Elab.async false
set_option maxRecDepth 100000
set_option maxHeartbeats 4000000
namespace TA
open PySem L2 PyProof.Rows
set_option linter.unusedVariables false
def top (i : Nat) : Stmt := PySem.Challenge.pw_twoalone_k82_boxed_ones_judged.main.body.getD i (.Pass ⟨0, 0, 0, 0⟩)
abbrev sWhole : Stmt := top 2
abbrev sWithin : Stmt := top 3
abbrev sHand : Stmt := top 4
abbrev s_is_rising : Stmt := top 5
abbrev s_AloneError : Stmt := top 7
abbrev s_NoTask : Stmt := top 8
abbrev s_NoHand : Stmt := top 9
abbrev s_is_output : Stmt := top 12
abbrev s_is_outputs : Stmt := top 13
abbrev s_is_rows : Stmt := top 14
abbrev s_is_alone : Stmt := top 15
abbrev s_is_output_pair : Stmt := top 16
abbrev s_is_let : Stmt := top 17
abbrev s_is_input_pair : Stmt := top 18
abbrev s_each_comes : Stmt := top 19
abbrev s_is_both : Stmt := top 20
abbrev s_Task : Stmt := top 21
abbrev s_is_pair : Stmt := top 22
abbrev s__law_outs : Stmt := top 42
abbrev s__law_parts : Stmt := top 43
abbrev sLaw : Stmt := top 52
abbrev s_is_row : Stmt := top 24
abbrev s_is_chosen : Stmt := top 25
abbrev s_alone_fault : Stmt := top 26
abbrev s_is_answers : Stmt := top 28
abbrev s_is_boxed : Stmt := top 29
abbrev s_is_answered : Stmt := top 30
abbrev s_at_odds : Stmt := top 31
abbrev s_answers_to : Stmt := top 32
abbrev s_boxed : Stmt := top 33
abbrev s_answers_fault : Stmt := top 34
abbrev s_boxed_fault : Stmt := top 35
abbrev s_is_boxed_bar : Stmt := top 36
abbrev s_boxed_bar_fault : Stmt := top 37
abbrev s__law_cell_at : Stmt := top 39
abbrev s__law_digit : Stmt := top 40
abbrev s__law_few : Stmt := top 41
abbrev s__law_whole : Stmt := top 44
abbrev s__law_outputs : Stmt := top 45
abbrev s__law_form : Stmt := top 46
abbrev s__law_due : Stmt := top 47
abbrev s__law_bar_due : Stmt := top 48
abbrev s__law_drawn : Stmt := top 49
abbrev s__law_spoilt : Stmt := top 50
abbrev s__law_any_bar : Stmt := top 51
structure Def (P : Program) (w : World) (K : PySem.W.Frag) (mg : Str → Option Value) (base : Heap) (x : Str) (ps : List Str) (k : Nat) (sp : Sp) (f : Addr) (fd : FuncData) : Prop where
  G : FnOk P w K mg base CX0 k f fd ps sp
  b : Binds K fd ps []
  k : PySem.W.keepIn K (.ref f) = true
  m : mg x = some (.ref f)
def isN : PyData → Bool
  | .none => true
  | _ => false
structure Txt (K : PySem.W.Frag) (mg : Str → Option Value) : Prop where
  isi : mg "isinstance" = none
  int : mg "int" = none
  bool : mg "bool" = none
  len : mg "len" = none
  range : mg "range" = none
  list : mg "list" = none
  tuple : mg "tuple" = none
  all : mg "all" = none
  sum : mg "sum" = none
  min : mg "min" = none
theorem same_new {H : Hp} {p : Addr} (h : H p = none) (o : HO) : Same H (upd H p o) := fun b u q => by rw [upd_ne (ne_of_none q h)]; exact q

theorem iteT' {c : Bool} {A B : Prop} (e : c = true) (a : A) : if c = true then A else B := by rw [if_pos e]; exact a
theorem iteF' {c : Bool} {A B : Prop} (e : c = false) (b : B) : if c = true then A else B := by rw [e]; exact b
theorem join2 {b : Bool} {X : Prop} {R : L2.St → Hp → Prop} {σ : L2.St} {H : Hp} (Iv : L2.St → Hp → Prop) (h0 : Iv σ H) (k : ∀ σ Hc, Iv σ Hc → R σ Hc) (h1 : b = true → (∀ σ Hc, Iv σ Hc → R σ Hc) → X) : if b = true then X else R σ H := by
  cases b with
  | false => exact iteF (k σ H h0)
  | true => exact iteT (h1 rfl k)
/-! things of any kind, by their data -/
def tyN : PyData → String
  | .none => "NoneType"
  | .bool _ => "bool"
  | .int _ => "int"
  | .str _ => "str"
  | .list _ => "list"
  | .tuple _ => "tuple"
  | .dict _ => "dict"
theorem sqT_ty {K : PySem.W.Frag} {H : Hp} {a : Addr} {xs : List V} (h : SqT K H a xs) : TyX K H (.ref a) (.type "tuple") := by
  rcases h with h | ⟨o, its, n, h1, h2, _⟩
  · rcases h with h | ⟨o, h⟩
    · exact .base (.tup h)
    · exact .fTuple h
  · exact .kTuple h1 h2
theorem sqL_ty {K : PySem.W.Frag} {H : Hp} {a : Addr} {xs : List V} (h : SqL K H a xs) : TyX K H (.ref a) (.type "list") := by
  rcases h with h | ⟨o, its, n, h1, h2, _⟩
  · rcases h with h | ⟨o, h⟩
    · exact .base (.lst h)
    · exact .base (.frz h)
  · exact .kList h1 h2
theorem dp_ty {K : PySem.W.Frag} {H : Hp} {v : V} {d : PyData} (h : Dp K H v d) : TyX K H v (.type (tyN d)) := by
  cases h with
  | non => exact .base .non
  | bl b => exact .base (.bl b)
  | int i => exact .base (.int i)
  | str x => exact .base (.str x)
  | lst h _ => exact sqL_ty h
  | tup h _ => exact sqT_ty h
theorem dp_non {K : PySem.W.Frag} {H : Hp} {v : V} {d : PyData} (h : Dp K H v d) : decide (v = .non) = isN d := by
  cases h <;> rfl
def isWholeD : PyData → Bool
  | .int _ => true
  | _ => false
def isTupD : PyData → Bool
  | .tuple _ => true
  | _ => false
def within : PyData → Int → Int → Bool
  | .int n, lo, hi => decide (lo ≤ n ∧ n ≤ hi)
  | _, _, _ => false
theorem kit_int (d : PyData) {K : PySem.W.Frag} : ∃ b1 b2, PySem.W.kitOne K (.type (tyN d)) (.type "int") = some b1 ∧ PySem.W.kitOne K (.type (tyN d)) (.type "bool") = some b2 ∧ isWholeD d = (b1 && !b2) := by
  cases d with
  | none => exact ⟨false, false, kit_ty (a := "NoneType") (b := "int") (by decide +kernel), kit_ty (a := "NoneType") (b := "bool") (by decide +kernel), rfl⟩
  | bool b => exact ⟨true, true, kit_ty (a := "bool") (b := "int") (by decide +kernel), kit_ty (a := "bool") (b := "bool") (by decide +kernel), rfl⟩
  | int i => exact ⟨true, false, kit_ty (a := "int") (b := "int") (by decide +kernel), kit_ty (a := "int") (b := "bool") (by decide +kernel), rfl⟩
  | str s => exact ⟨false, false, kit_ty (a := "str") (b := "int") (by decide +kernel), kit_ty (a := "str") (b := "bool") (by decide +kernel), rfl⟩
  | list l => exact ⟨false, false, kit_ty (a := "list") (b := "int") (by decide +kernel), kit_ty (a := "list") (b := "bool") (by decide +kernel), rfl⟩
  | tuple l => exact ⟨false, false, kit_ty (a := "tuple") (b := "int") (by decide +kernel), kit_ty (a := "tuple") (b := "bool") (by decide +kernel), rfl⟩
  | dict l => exact ⟨false, false, kit_ty (a := "dict") (b := "int") (by decide +kernel), kit_ty (a := "dict") (b := "bool") (by decide +kernel), rfl⟩
theorem kit_tup (d : PyData) {K : PySem.W.Frag} : PySem.W.kitOne K (.type (tyN d)) (.type "tuple") = some (isTupD d) := by
  cases d with
  | none => exact (show PySem.W.kitOne K (.type "NoneType") (.type "tuple") = some false from kit_ty (a := "NoneType") (b := "tuple") (by decide +kernel))
  | bool b => exact (show PySem.W.kitOne K (.type "bool") (.type "tuple") = some false from kit_ty (a := "bool") (b := "tuple") (by decide +kernel))
  | int i => exact (show PySem.W.kitOne K (.type "int") (.type "tuple") = some false from kit_ty (a := "int") (b := "tuple") (by decide +kernel))
  | str s => exact (show PySem.W.kitOne K (.type "str") (.type "tuple") = some false from kit_ty (a := "str") (b := "tuple") (by decide +kernel))
  | list l => exact (show PySem.W.kitOne K (.type "list") (.type "tuple") = some false from kit_ty (a := "list") (b := "tuple") (by decide +kernel))
  | tuple l => exact (show PySem.W.kitOne K (.type "tuple") (.type "tuple") = some true from kit_ty (a := "tuple") (b := "tuple") (by decide +kernel))
  | dict l => exact (show PySem.W.kitOne K (.type "dict") (.type "tuple") = some false from kit_ty (a := "dict") (b := "tuple") (by decide +kernel))
theorem dp_tup {K : PySem.W.Frag} {H : Hp} {v : V} {ds : List PyData} (h : Dp K H v (.tuple ds)) : ∃ a xs, v = .ref a ∧ SqT K H a xs ∧ DpAll K H xs ds := by
  cases h with
  | tup h1 h2 => exact ⟨_, _, rfl, h1, h2⟩
theorem dpAll_len {K : PySem.W.Frag} {H : Hp} : ∀ {vs : List V} {ds : List PyData}, DpAll K H vs ds → vs.length = ds.length
  | _, _, .nil => rfl
  | _, _, .cons _ b => congrArg (· + 1) (dpAll_len b)
theorem rd_mono {H H' : Hp} (s : Same H H') {a : Addr} {o : HO} (h : Rd H a o) : Rd H' a o := by
  rcases h with h | ⟨ob, h⟩
  · exact .inl (s _ _ h)
  · exact .inr ⟨ob, s _ _ h⟩
theorem seqT_mono {K : PySem.W.Frag} {H H' : Hp} (s : Same H H') {a : Addr} {xs : List V} (h : SqT K H a xs) : SqT K H' a xs := by
  rcases h with h | h
  · exact .inl (rd_mono s h)
  · exact .inr h
mutual
theorem dp_mono {K : PySem.W.Frag} {H H' : Hp} (s : Same H H') : ∀ (d : PyData) (v : V), Dp K H v d → Dp K H' v d
  | .none, _, h => by cases h; exact .non
  | .bool b, _, h => by cases h; exact .bl b
  | .int i, _, h => by cases h; exact .int i
  | .str x, _, h => by cases h; exact .str x
  | .list ds, _, h => by
    cases h with
    | lst a b => exact .lst (s.seq a) (dpAll_mono s ds _ b)
  | .tuple ds, _, h => by
    cases h with
    | tup a b => exact .tup (seqT_mono s a) (dpAll_mono s ds _ b)
  | .dict _, _, h => by cases h
theorem dpAll_mono {K : PySem.W.Frag} {H H' : Hp} (s : Same H H') : ∀ (ds : List PyData) (vs : List V), DpAll K H vs ds → DpAll K H' vs ds
  | [], _, h => by cases h; exact .nil
  | d :: ds, _, h => by
    cases h with
    | cons a b => exact .cons (dp_mono s d _ a) (dpAll_mono s ds _ b)
end
def spWholeG (K : PySem.W.Frag) : Sp := fun vs H Q _ => ∃ (v : V) (d : PyData), vs = [v] ∧ Dp K H v d ∧ Q (.bl (isWholeD d)) H
def spWithinG (K : PySem.W.Frag) : Sp := fun vs H Q _ => ∃ (v : V) (d : PyData) (lo hi : Int), vs = [v, .int lo, .int hi] ∧ Dp K H v d ∧ Q (.bl (within d lo hi)) H
def spHandG (K : PySem.W.Frag) : Sp := fun vs H Q _ => ∃ (v : V) (d : PyData), vs = [v] ∧ Dp K H v d ∧ Q (.bl (within d 0 1)) H
/-! a walk of n turns, whatever is walked: the word Pv is kept from turn to turn -/
theorem turns {J : It} (n : Nat) {H0 : Hp} {Qd : Hp → Prop} {B : (Hp → Prop) → V → Hp → Prop} (Pv : Nat → Hp → Prop) (start : Pv 0 H0) (last : ∀ H, Pv n H → J.stop n H ∧ Qd H)
    (turn : ∀ i H, i < n → Pv i H → J.go i H ∧ ∀ x H', J.yld i H x H' → B (Pv (i + 1)) x H') :
    ∃ W : Nat → Nat → Hp → Prop, (∃ m, W 0 m H0) ∧ ∀ i m H, W i m H →
      (J.stop i H ∧ Qd H) ∨ (J.go i H ∧ ∃ Nx : Hp → Prop, (∀ H', Nx H' → ∃ m', m' < m ∧ W (i + 1) m' H') ∧ ∀ x H', J.yld i H x H' → B Nx x H') := by
  refine ⟨fun i m H => i + m = n ∧ Pv i H, ⟨n, by omega, start⟩, fun i m H h => ?_⟩
  obtain ⟨hm, word⟩ := h
  cases m with
  | zero =>
    have hin : i = n := by omega
    rw [hin] at word ⊢
    exact Or.inl (last H word)
  | succ m =>
    obtain ⟨go, step⟩ := turn i H (by omega) word
    exact Or.inr ⟨go, Pv (i + 1), fun H' w' => ⟨m, by omega, by omega, w'⟩, step⟩
theorem list_turns {K : PySem.W.Frag} {a : Addr} {xs : List V} {H0 : Hp} {Qd : Hp → Prop} {B : (Hp → Prop) → V → Hp → Prop} (Pv : Nat → Hp → Prop) (start : Pv 0 H0) (still : ∀ i H, i ≤ xs.length → Pv i H → SqL K H a xs)
    (turn : ∀ i x H, xs[i]? = some x → Pv i H → B (Pv (i + 1)) x H) (last : ∀ H, Pv xs.length H → Qd H) :
    ∃ W : Nat → Nat → Hp → Prop, (∃ m, W 0 m H0) ∧ ∀ i m H, W i m H →
      ((Itl K a).stop i H ∧ Qd H) ∨ ((Itl K a).go i H ∧ ∃ Nx : Hp → Prop, (∀ H', Nx H' → ∃ m', m' < m ∧ W (i + 1) m' H') ∧ ∀ x H', (Itl K a).yld i H x H' → B Nx x H') :=
  turns xs.length Pv start (fun H w => ⟨⟨xs, still _ H (Nat.le_refl _) w, Nat.le_refl _⟩, last H w⟩) fun i H hi w =>
    have there := still i H (Nat.le_of_lt hi) w
    ⟨⟨xs, xs[i], there, List.getElem?_eq_getElem hi⟩, fun x H' ⟨same, given⟩ => by rw [same]; exact turn i x H (given xs there) w⟩
theorem tup_turns {K : PySem.W.Frag} {a : Addr} {xs : List V} {H0 : Hp} {Qd : Hp → Prop} {B : (Hp → Prop) → V → Hp → Prop} (Pv : Nat → Hp → Prop) (start : Pv 0 H0) (still : ∀ i H, i ≤ xs.length → Pv i H → SqT K H a xs)
    (turn : ∀ i x H, xs[i]? = some x → Pv i H → B (Pv (i + 1)) x H) (last : ∀ H, Pv xs.length H → Qd H) :
    ∃ W : Nat → Nat → Hp → Prop, (∃ m, W 0 m H0) ∧ ∀ i m H, W i m H →
      ((Itt K a).stop i H ∧ Qd H) ∨ ((Itt K a).go i H ∧ ∃ Nx : Hp → Prop, (∀ H', Nx H' → ∃ m', m' < m ∧ W (i + 1) m' H') ∧ ∀ x H', (Itt K a).yld i H x H' → B Nx x H') :=
  turns xs.length Pv start (fun H w => ⟨⟨xs, still _ H (Nat.le_refl _) w, Nat.le_refl _⟩, last H w⟩) fun i H hi w =>
    have there := still i H (Nat.le_of_lt hi) w
    ⟨⟨xs, xs[i], there, List.getElem?_eq_getElem hi⟩, fun x H' ⟨same, given⟩ => by rw [same]; exact turn i x H (given xs there) w⟩
theorem range_turns {lo : Int} {n : Nat} {H0 : Hp} {Qd : Hp → Prop} {B : (Hp → Prop) → V → Hp → Prop} (Pv : Nat → Hp → Prop) (start : Pv 0 H0)
    (turn : ∀ i H, i < n → Pv i H → B (Pv (i + 1)) (.int (lo + i)) H) (last : ∀ H, Pv n H → Qd H) :
    ∃ W : Nat → Nat → Hp → Prop, (∃ m, W 0 m H0) ∧ ∀ i m H, W i m H →
      ((Itr lo n).stop i H ∧ Qd H) ∨ ((Itr lo n).go i H ∧ ∃ Nx : Hp → Prop, (∀ H', Nx H' → ∃ m', m' < m ∧ W (i + 1) m' H') ∧ ∀ x H', (Itr lo n).yld i H x H' → B Nx x H') :=
  turns n Pv start (fun H w => ⟨Nat.le_refl _, last H w⟩) fun i H hi w => ⟨hi, fun x H' ⟨same, given⟩ => by rw [same, given]; exact turn i H hi w⟩
theorem small13 {n : Nat} (h : n ≤ 100000) : n ≤ sizeLine := Nat.le_trans h (by decide)

section
variable {P : Program} {w : World} {K : PySem.W.Frag} {mg : Str → Option Value} {base : Heap}
theorem scWhole : FnScope ["thing"] ["thing"] (defScope sWhole) := ⟨rfl, rfl, rfl, by decide +kernel, rfl, by decide +kernel, by decide +kernel⟩
theorem scWithin : FnScope ["thing", "least", "most"] ["thing", "least", "most"] (defScope sWithin) := ⟨rfl, rfl, rfl, by decide +kernel, rfl, by decide +kernel, by decide +kernel⟩
theorem scHand : FnScope ["thing"] ["thing"] (defScope sHand) := ⟨rfl, rfl, rfl, by decide +kernel, rfl, by decide +kernel, by decide +kernel⟩
theorem ok_wholeG {f : Addr} {fd : FuncData} (F : Fun K "is_whole" "is_whole" sWhole f fd) (T : Txt K mg) : FnOk P w K mg base CX0 1 f fd ["thing"] (spWholeG K) := by
  refine F.ok scWhole (fun vs H Q E h => ?_) (fun cdv A outer s H vs Q E hr h => ?_)
  · obtain ⟨v, d, rfl, _⟩ := h
    rfl
  obtain ⟨v, d, rfl, hk, q⟩ := h
  refine ⟨_, pss_one (ps_ret (pe_and (pe_callB call_isi (by rfl) T.isi boot_isinstance (pa_cons (pv 0) (pa_cons (pe_bltn (v := .ty "int") (by rfl) T.int boot_int rfl) pa_nil)))
    (pe_one (pe_not (pe_callB call_isi (by rfl) T.isi boot_isinstance (pa_cons (pv 0) (pa_cons (pe_bltn (v := .ty "bool") (by rfl) T.bool boot_bool rfl) pa_nil))))))), ?_⟩
  obtain ⟨b1, b2, e1, e2, e3⟩ := kit_int d (K := K)
  rw [e3] at q
  refine ⟨_, rfl, v, V.ty "int", _, _, b1, rfl, .ty "int", (dp_ty hk), e1, b1, rfl, ?_⟩
  cases b1 with
  | false => exact iteF q
  | true => exact iteT ⟨_, rfl, v, V.ty "bool", _, _, b2, rfl, .ty "bool", (dp_ty hk), e2, b2, rfl, q⟩
theorem ok_withinG {f g : Addr} {fd gd : FuncData} (F : Fun K "is_whole_within" "is_whole_within" sWithin f fd) (W : Def P w K mg base "is_whole" ["thing"] 1 (spWholeG K) g gd) : FnOk P w K mg base CX0 2 f fd ["thing", "least", "most"] (spWithinG K) := by
  refine F.ok scWithin (fun vs H Q E h => ?_) (fun cdv A outer s H vs Q E hr h => ?_)
  · obtain ⟨v, d, lo, hi, rfl, _⟩ := h
    rfl
  obtain ⟨v, d, lo, hi, rfl, hk, q⟩ := h
  refine ⟨_, pss_one (ps_ret (pe_and (pe_call W.G hr rfl W.m W.k W.b .nil pass0 (pa_cons (pv 0) pa_nil)) (pe_one (pe_chain op_le op_le (pv 1) (pv 0) (pv 2))))), ?_⟩
  refine ⟨_, rfl, v, d, rfl, hk, isWholeD d, rfl, ?_⟩
  by_cases hw : ∃ n, d = .int n
  · obtain ⟨n, rfl⟩ := hw
    have ev : v = .int n := by
      cases hk; rfl
    subst ev
    refine iteT ⟨_, rfl, _, rfl, _, _, rfl, rfl, _, rfl, ?_⟩
    by_cases h1 : lo ≤ n
    · rw [decide_eq_true h1]
      refine iteT ⟨_, rfl, _, _, rfl, rfl, ?_⟩
      have e : within (.int n) lo hi = decide (n ≤ hi) := by unfold within; simp [h1]
      rw [e] at q
      exact q
    · rw [decide_eq_false h1]
      refine iteF ?_
      have e : within (.int n) lo hi = false := by unfold within; simp [h1]
      rw [e] at q
      exact q
  · have e1 : isWholeD d = false := by
      cases d with
      | int n => exact absurd ⟨n, rfl⟩ hw
      | _ => rfl
    have e2 : within d lo hi = false := by
      cases d with
      | int n => exact absurd ⟨n, rfl⟩ hw
      | _ => rfl
    rw [e1]
    rw [e2] at q
    exact iteF q
theorem ok_handG {f g : Addr} {fd gd : FuncData} (F : Fun K "is_hand" "is_hand" sHand f fd) (W : Def P w K mg base "is_whole_within" ["thing", "least", "most"] 2 (spWithinG K) g gd) : FnOk P w K mg base CX0 3 f fd ["thing"] (spHandG K) := by
  refine F.ok scHand (fun vs H Q E h => ?_) (fun cdv A outer s H vs Q E hr h => ?_)
  · obtain ⟨v, d, rfl, _⟩ := h
    rfl
  obtain ⟨v, d, rfl, hk, q⟩ := h
  refine ⟨_, pss_one (ps_ret (pe_call W.G hr rfl W.m W.k W.b .nil pass0 (pa_cons (pv 0) (pa_cons pe_int (pa_cons pe_int pa_nil))))), ?_⟩
  exact ⟨_, rfl, v, d, 0, 1, rfl, hk, q⟩
end
end TA

set_option Elab.async false
set_option maxRecDepth 100000
set_option maxHeartbeats 4000000
namespace TA
open PySem L2 PyProof.Rows
set_option linter.unusedVariables false
/-! a task's parts, of any data -/
theorem dpAll_get {K : PySem.W.Frag} {H : Hp} : ∀ {vs : List V} {ds : List PyData} {i : Nat} {x : V}, DpAll K H vs ds → vs[i]? = some x → ∃ d, ds[i]? = some d ∧ Dp K H x d
  | _, _, _, _, .nil, e => by simp at e
  | _, _, 0, _, .cons a b, e => ⟨_, rfl, by simp at e; rw [← e]; exact a⟩
  | _, _, i + 1, x, .cons a b, e => by
    obtain ⟨d, h1, h2⟩ := dpAll_get (i := i) (x := x) b (by simpa using e)
    exact ⟨d, by simpa using h1, h2⟩
theorem same_upd {H0 H : Hp} {p : Addr} {o : HO} (s : Same H0 H) (f : H0 p = none) : Same H0 (upd H p o) := fun b u e => by
  rw [upd_ne (ne_of_none e f)]
  exact s _ _ e
theorem take_bl (bs : List Bool) {i : Nat} {b : Bool} (h : bs[i]? = some b) : (bs.take i).map V.bl ++ [V.bl b] = (bs.take (i + 1)).map V.bl := by
  rw [List.take_add_one, h, List.map_append]
  rfl
def isLstD : PyData → Bool
  | .list _ => true
  | _ => false
theorem kit_lst (d : PyData) {K : PySem.W.Frag} : PySem.W.kitOne K (.type (tyN d)) (.type "list") = some (isLstD d) := by
  cases d with
  | none => exact (show PySem.W.kitOne K (.type "NoneType") (.type "list") = some false from kit_ty (by decide +kernel))
  | bool b => exact (show PySem.W.kitOne K (.type "bool") (.type "list") = some false from kit_ty (by decide +kernel))
  | int b => exact (show PySem.W.kitOne K (.type "int") (.type "list") = some false from kit_ty (by decide +kernel))
  | str b => exact (show PySem.W.kitOne K (.type "str") (.type "list") = some false from kit_ty (by decide +kernel))
  | list b => exact (show PySem.W.kitOne K (.type "list") (.type "list") = some true from kit_ty (by decide +kernel))
  | tuple b => exact (show PySem.W.kitOne K (.type "tuple") (.type "list") = some false from kit_ty (by decide +kernel))
  | dict b => exact (show PySem.W.kitOne K (.type "dict") (.type "list") = some false from kit_ty (by decide +kernel))
/-- what stands in a list of ints, one behind the other -/
def risI (ns : List Int) : Bool := ((List.range (ns.length - 1)).map fun i => decide (ns.getD i 0 < ns.getD (i + 1) 0)).all id
def intsOf : List PyData → List Int := List.map fun d => match d with
  | .int i => i
  | _ => 0
def outB (d : PyData) : Bool := within d 0 63
def outsB : PyData → Bool
  | .list ds => decide (0 < ds.length) && ((ds.map outB).all id && risI (intsOf ds))
  | _ => false
def rowsB : PyData → Bool
  | .list ds => decide (0 < ds.length) && (ds.map outsB).all id
  | _ => false
def aloneB : PyData → Bool
  | .list ds => decide (ds.length = 2) && (ds.map rowsB).all id
  | _ => false
theorem outs_ints {K : PySem.W.Frag} {H : Hp} : ∀ {ds : List PyData} {vs : List V}, DpAll K H vs ds → (ds.map outB).all id = true → vs = (intsOf ds).map V.int
  | [], _, h, _ => by cases h; rfl
  | d :: ds, _, h, a => by
    rw [List.map_cons, List.all_cons] at a
    obtain ⟨a1, a2⟩ := Bool.and_eq_true_iff.mp a
    cases h with
    | cons h1 h2 =>
      cases d with
      | int i =>
        cases h1
        rw [outs_ints h2 a2]
        rfl
      | _ => exact Bool.noConfusion (show false = true from a1)
def spOut (K : PySem.W.Frag) : Sp := fun vs H Q _ => ∃ (v : V) (d : PyData), vs = [v] ∧ Dp K H v d ∧ Q (.bl (outB d)) H
def spRisI (K : PySem.W.Frag) : Sp := fun vs H Q _ => ∃ (p : Addr) (ns : List Int), vs = [.ref p] ∧ SqL K H p (ns.map V.int) ∧ 1 ≤ ns.length ∧ ns.length ≤ 1000 ∧ ∀ H', Same H H' → Q (.bl (risI ns)) H'
def small (d : PyData) : Prop := ∀ ds, d = .list ds → ds.length ≤ 1000
def spOuts (K : PySem.W.Frag) : Sp := fun vs H Q _ => ∃ (v : V) (d : PyData), vs = [v] ∧ Dp K H v d ∧ small d ∧ ∀ H', Same H H' → Q (.bl (outsB d)) H'
def spRows (K : PySem.W.Frag) : Sp := fun vs H Q _ => ∃ (v : V) (d : PyData), vs = [v] ∧ Dp K H v d ∧ small d ∧ (∀ ds, d = .list ds → ∀ e ∈ ds, small e) ∧ ∀ H', Same H H' → Q (.bl (rowsB d)) H'
def spAlone (K : PySem.W.Frag) : Sp := fun vs H Q _ => ∃ (v : V) (d : PyData), vs = [v] ∧ Dp K H v d ∧ small d ∧ (∀ ds, d = .list ds → ∀ e ∈ ds, small e ∧ ∀ es, e = .list es → ∀ g ∈ es, small g) ∧ ∀ H', Same H H' → Q (.bl (aloneB d)) H'
section
variable {P : Program} {w : World} {K : PySem.W.Frag} {mg : Str → Option Value} {base : Heap}
theorem scOut : FnScope ["thing"] ["thing"] (defScope s_is_output) := ⟨rfl, rfl, rfl, by decide +kernel, rfl, by decide +kernel, by decide +kernel⟩
theorem ok_out {f g : Addr} {fd gd : FuncData} {t63 : Tok} (F : Fun K "is_output" "is_output" s_is_output f fd) (m63 : mg "MOST_OUTPUT" = some (.int 63 t63)) (W : Def P w K mg base "is_whole_within" ["thing", "least", "most"] 2 (spWithinG K) g gd) : FnOk P w K mg base CX0 3 f fd ["thing"] (spOut K) := by
  refine F.ok scOut (fun vs H Q E h => ?_) (fun cdv A outer s H vs Q E hr h => ?_)
  · obtain ⟨v, d, rfl, _⟩ := h
    rfl
  obtain ⟨v, d, rfl, hk, q⟩ := h
  refine ⟨_, pss_one (ps_ret (pe_call W.G hr rfl W.m W.k W.b .nil pass0 (pa_cons (pv 0) (pa_cons pe_int (pa_cons (pe_glob (v := .int 63) rfl m63 ⟨_, rfl⟩) pa_nil))))), ?_⟩
  exact ⟨_, rfl, v, d, 0, 63, rfl, hk, q⟩
theorem scRis : FnScope ["things", "at"] ["things"] (defScope s_is_rising) := ⟨rfl, rfl, rfl, by decide +kernel, rfl, by decide +kernel, by decide +kernel⟩
theorem ok_risI {f : Addr} {fd : FuncData} (F : Fun K "is_rising" "is_rising" s_is_rising f fd) (T : Txt K mg) : FnOk P w K mg base CX0 1 f fd ["things"] (spRisI K) := by
  refine F.ok scRis (fun vs H Q E h => ?_) (fun cdv A outer s H vs Q E hr h => ?_)
  · obtain ⟨p, ns, rfl, _⟩ := h
    rfl
  obtain ⟨p, ns, rfl, hS, n1, n2, q⟩ := h
  have nd := scRis.nd
  refine ⟨_, pss_one (ps_ret (pe_callB (cr_all rfl) (by rfl) T.all (by decide +kernel) (pa_cons
      (pe_lc (own := [("at", 1)]) (g := gName 1) (tt := tYes) (te := tOp (rI0 fun i j => .bl (decide (i < j))) (tOp (rIxL K) (tVar 0) (tVar 1)) (tOp (rIxL K) (tVar 0) (tOp (rI0 fun i j => .int (i + j)) (tVar 1) (tC (.int 1))))) rfl nd
        (pi_range1 (by rfl) T.range (pa_cons (pe_op op_sub (pe_callB call_len_seq (by rfl) T.len PySem.boot_len (pa_cons (pv 0) pa_nil)) pe_int) pa_nil))
        (blkOk_by (N := ["things", "at"]) (sc := defScope s_is_rising) (by decide +kernel)) (fun _ _ _ _ _ => pg_name (i := 1) nd rfl (Or.inl rfl)) (fun _ _ _ _ _ => pts_nil)
        (fun _ _ _ _ _ => (by refine pe_cmpR op_lt ?_ ?_ (nomark _); (exact pe_ix ix_list (pv 0) (pv 1) (fun _ _ => rfl)); (exact pe_ix ix_list (pv 0) (pe_op op_add (pv 1) pe_int) (fun _ _ => rfl))))) pa_nil))), ?_⟩
  refine ⟨_, rfl, p, _, rfl, .inl hS, _, _, rfl, rfl, ?_⟩
  rw [List.length_map]
  have e1 : ((ns.length : Nat) : Int) - 1 = ((ns.length - 1 : Nat) : Int) := by omega
  refine ⟨((ns.length - 1 : Nat) : Int), congrArg (fun z => [V.int z]) e1, by omega, by omega, fun D hD => ?_⟩
  refine range_turns (n := ns.length - 1) (fun i H' => Same H H' ∧ H' D = some (.lst ((((List.range (ns.length - 1)).map fun i => decide (ns.getD i 0 < ns.getD (i + 1) 0)).take i).map V.bl))) ⟨same_new hD _, upd_same⟩ ?_ ?_
  · rintro i H' hi ⟨s1, h1⟩
    have ei : (0 : Int) + (i : Int) = (i : Int) := by omega
    rw [ei]
    have g0 : ns[i]? = some (ns.getD i 0) := by rw [List.getD_eq_getElem?_getD, List.getElem?_eq_getElem (by omega)]; rfl
    have g1 : ns[i + 1]? = some (ns.getD (i + 1) 0) := by rw [List.getD_eq_getElem?_getD, List.getElem?_eq_getElem (by omega)]; rfl
    have hb : ((List.range (ns.length - 1)).map fun i => decide (ns.getD i 0 < ns.getD (i + 1) 0))[i]? = some (decide (ns.getD i 0 < ns.getD (i + 1) 0)) := by
      rw [List.getElem?_map, List.getElem?_range hi]; rfl
    refine ⟨rfl, _, rfl, _, rfl, p, _, _, _, rfl, rfl, s1.seq hS, atI_nat (by rw [List.getElem?_map, g0]; rfl), _, rfl, _, rfl, _, _, rfl, rfl, p, _, _, _, rfl, rfl, s1.seq hS, (by rw [show (i : Int) + 1 = ((i + 1 : Nat) : Int) by omega]; exact atI_nat (by rw [List.getElem?_map, g1]; rfl)), _, _, rfl, rfl, _, h1, ?_, same_upd s1 hD, by rw [upd_same, take_bl _ hb]⟩
    rw [List.length_map]
    exact Nat.lt_of_le_of_lt (List.length_take_le _ _) (Nat.lt_of_lt_of_le hi (Nat.le_trans (by omega) (show 1000 ≤ sizeLine by decide)))
  · rintro H' ⟨s1, h1⟩
    rw [List.take_of_length_le (by rw [List.length_map, List.length_range]; exact Nat.le_refl _)] at h1
    exact ⟨D, _, rfl, SqL.of h1, q _ s1⟩
theorem scOuts : FnScope ["thing", "x"] ["thing"] (defScope s_is_outputs) := ⟨rfl, rfl, rfl, by decide +kernel, rfl, by decide +kernel, by decide +kernel⟩
theorem ok_outs {f g1 g2 : Addr} {fd d1 d2 : FuncData} (F : Fun K "is_outputs" "is_outputs" s_is_outputs f fd) (T : Txt K mg) (W : Def P w K mg base "is_output" ["thing"] 3 (spOut K) g1 d1) (R : Def P w K mg base "is_rising" ["things"] 1 (spRisI K) g2 d2) : FnOk P w K mg base CX0 4 f fd ["thing"] (spOuts K) := by
  refine F.ok scOuts (fun vs H Q E h => ?_) (fun cdv A outer s H vs Q E hr h => ?_)
  · obtain ⟨v, d, rfl, _⟩ := h
    rfl
  obtain ⟨v, d, rfl, hk, hz, q⟩ := h
  have nd := scOuts.nd
  refine ⟨_, pss_one (ps_ret (pe_and (pe_callB call_isi (by rfl) T.isi boot_isinstance (pa_cons (pv 0) (pa_cons (pe_bltn (v := .ty "list") (by rfl) T.list boot_list rfl) pa_nil)))
    (pe_and (pe_cmpR op_gt (pe_callB call_len_seq (by rfl) T.len PySem.boot_len (pa_cons (pv 0) pa_nil)) pe_int (nomark _))
    (pe_and (pe_callB (cr_all rfl) (by rfl) T.all (by decide +kernel) (pa_cons
      (pe_lc (own := [("x", 1)]) (g := gName 1) (tt := tYes) (te := tCall (spOut K) [] E0 (tCons (tVar 1) tNil)) rfl nd (pi_list (pv 0)) (blkOk_by (N := ["thing", "x"]) (sc := defScope s_is_outputs) (by decide +kernel)) (fun _ _ _ _ _ => pg_name (i := 1) nd rfl (Or.inl rfl)) (fun _ _ _ _ _ => pts_nil)
        (fun _ _ _ _ _ => (by exact pe_call W.G hr rfl W.m W.k W.b .nil pass0 (pa_cons (pv 1) pa_nil)))) pa_nil))
    (pe_one (pe_call R.G (hr.mono (by decide)) rfl R.m R.k R.b .nil pass0 (pa_cons (pv 0) pa_nil))))))), ?_⟩
  refine ⟨_, rfl, v, .ty "list", _, _, isLstD d, rfl, .ty "list", dp_ty hk, kit_lst d, _, rfl, ?_⟩
  cases cl : isLstD d with
  | false =>
    have : outsB d = false := by cases d <;> first | rfl | cases cl
    rw [this] at q
    exact iteF (q _ (Same.refl H))
  | true =>
    obtain ⟨ds, rfl⟩ : ∃ ds, d = .list ds := by cases d <;> first | exact ⟨_, rfl⟩ | cases cl
    obtain ⟨p, vs, rfl, hS, hD⟩ : ∃ t vs, v = .ref t ∧ SqL K H t vs ∧ DpAll K H vs ds := by
      cases hk with
      | lst a b => exact ⟨_, _, rfl, a, b⟩
    have hl := dpAll_len hD
    have hds := hz ds rfl
    have eO : outsB (.list ds) = (decide (0 < ds.length) && ((ds.map outB).all id && risI (intsOf ds))) := rfl
    refine iteT ⟨_, rfl, p, _, rfl, .inl hS, _, _, rfl, rfl, ?_⟩
    by_cases c : 0 < ds.length
    case neg =>
      rw [eO, decide_eq_false c, Bool.false_and] at q
      refine ⟨_, rfl, iteF' (decide_eq_false (by omega)) ?_⟩
      exact q _ (Same.refl H)
    rw [eO, decide_eq_true c, Bool.true_and] at q
    refine ⟨_, rfl, iteT' (decide_eq_true (by omega)) ?_⟩
    refine ⟨_, rfl, p, rfl, ⟨_, hS⟩, fun D hD' => ?_⟩
    refine list_turns (xs := vs) (fun i H' => Same H H' ∧ H' D = some (.lst (((ds.map outB).take i).map V.bl))) ⟨same_new hD' _, upd_same⟩ (fun i H' _ h => h.1.seq hS) ?_ ?_
    · rintro i x H' hx ⟨s1, h1⟩
      obtain ⟨di, hdi, hxi⟩ := dpAll_get hD hx
      have hi : i < ds.length := (List.getElem?_eq_some_iff.mp hdi).1
      have hb : (ds.map outB)[i]? = some (outB di) := by rw [List.getElem?_map, hdi]; rfl
      refine ⟨rfl, _, rfl, x, di, rfl, dp_mono s1 _ _ hxi, _, h1, ?_, same_upd s1 hD', by rw [upd_same, take_bl _ hb]⟩
      rw [List.length_map]
      exact Nat.lt_of_le_of_lt (List.length_take_le _ _) (Nat.lt_of_lt_of_le hi (Nat.le_trans hds (by decide)))
    · rintro H1 ⟨s1, h1⟩
      rw [hl, ← List.length_map (f := outB), List.take_length] at h1
      refine ⟨D, _, rfl, SqL.of h1, _, rfl, ?_⟩
      cases ca : (ds.map outB).all id with
      | false =>
        rw [ca, Bool.false_and] at q
        exact iteF (q _ s1)
      | true =>
        rw [ca, Bool.true_and] at q
        have ev := outs_ints hD ca
        have hS' : SqL K H1 p ((intsOf ds).map V.int) := by rw [← ev]; exact s1.seq hS
        have li : (intsOf ds).length = ds.length := List.length_map _
        exact iteT ⟨_, rfl, p, intsOf ds, rfl, hS', by omega, by omega, fun H2 s2 => q _ (s1.trans s2)⟩
theorem sc_rows : FnScope ["thing", "outputs"] ["thing"] (defScope s_is_rows) := ⟨rfl, rfl, rfl, by decide +kernel, rfl, by decide +kernel, by decide +kernel⟩
theorem ok_rows {f g1 : Addr} {fd d1 : FuncData} (F : Fun K "is_rows" "is_rows" s_is_rows f fd) (T : Txt K mg) (W : Def P w K mg base "is_outputs" ["thing"] 4 (spOuts K) g1 d1) : FnOk P w K mg base CX0 5 f fd ["thing"] (spRows K) := by
  refine F.ok sc_rows (fun vs H Q E h => ?_) (fun cdv A outer s H vs Q E hr h => ?_)
  · obtain ⟨v, d, rfl, _⟩ := h
    rfl
  obtain ⟨v, d, rfl, hk, hz, hin, q⟩ := h
  have nd := sc_rows.nd
  refine ⟨_, pss_one (ps_ret (pe_and (pe_callB call_isi (by rfl) T.isi boot_isinstance (pa_cons (pv 0) (pa_cons (pe_bltn (v := .ty "list") (by rfl) T.list boot_list rfl) pa_nil)))
    (pe_and (pe_cmpR op_gt (pe_callB call_len_seq (by rfl) T.len PySem.boot_len (pa_cons (pv 0) pa_nil)) pe_int (nomark _))
    (pe_one (pe_callB (cr_all rfl) (by rfl) T.all (by decide +kernel) (pa_cons
      (pe_lc (own := [("outputs", 1)]) (g := gName 1) (tt := tYes) (te := tCall (spOuts K) [] E0 (tCons (tVar 1) tNil)) rfl nd (pi_list (pv 0)) (blkOk_by (N := ["thing", "outputs"]) (sc := defScope s_is_rows) (by decide +kernel)) (fun _ _ _ _ _ => pg_name (i := 1) nd rfl (Or.inl rfl)) (fun _ _ _ _ _ => pts_nil)
        (fun _ _ _ _ _ => (by exact pe_call W.G hr rfl W.m W.k W.b .nil pass0 (pa_cons (pv 1) pa_nil)))) pa_nil)))))), ?_⟩
  refine ⟨_, rfl, v, .ty "list", _, _, isLstD d, rfl, .ty "list", dp_ty hk, kit_lst d, _, rfl, ?_⟩
  cases cl : isLstD d with
  | false =>
    have : rowsB d = false := by cases d <;> first | rfl | cases cl
    rw [this] at q
    exact iteF (q _ (Same.refl H))
  | true =>
    obtain ⟨ds, rfl⟩ : ∃ ds, d = .list ds := by cases d <;> first | exact ⟨_, rfl⟩ | cases cl
    obtain ⟨p, vs, rfl, hS, hD⟩ : ∃ t vs, v = .ref t ∧ SqL K H t vs ∧ DpAll K H vs ds := by
      cases hk with
      | lst a b => exact ⟨_, _, rfl, a, b⟩
    have hl := dpAll_len hD
    have hds := hz ds rfl
    have eO : rowsB (.list ds) = (decide (0 < ds.length) && (ds.map outsB).all id) := rfl
    refine iteT ⟨_, rfl, p, _, rfl, .inl hS, _, _, rfl, rfl, ?_⟩
    by_cases c : 0 < ds.length
    case neg =>
      rw [eO, decide_eq_false c, Bool.false_and] at q
      refine ⟨_, rfl, iteF' (decide_eq_false (by omega)) ?_⟩
      exact q _ (Same.refl H)
    rw [eO, decide_eq_true c, Bool.true_and] at q
    refine ⟨_, rfl, iteT' (decide_eq_true (by omega)) ?_⟩
    refine ⟨_, rfl, p, rfl, ⟨_, hS⟩, fun D hD' => ?_⟩
    refine list_turns (xs := vs) (fun i H' => Same H H' ∧ H' D = some (.lst (((ds.map outsB).take i).map V.bl))) ⟨same_new hD' _, upd_same⟩ (fun i H' _ h => h.1.seq hS) ?_ ?_
    · rintro i x H' hx ⟨s1, h1⟩
      obtain ⟨di, hdi, hxi⟩ := dpAll_get hD hx
      have hi : i < ds.length := (List.getElem?_eq_some_iff.mp hdi).1
      have hb : (ds.map outsB)[i]? = some (outsB di) := by rw [List.getElem?_map, hdi]; rfl
      refine ⟨rfl, _, rfl, x, di, rfl, dp_mono s1 _ _ hxi, hin ds rfl di (List.mem_of_getElem? hdi), fun H2 s2 => ⟨_, s2 _ _ h1, ?_, same_upd (s1.trans s2) hD', by rw [upd_same, take_bl _ hb]⟩⟩
      rw [List.length_map]
      exact Nat.lt_of_le_of_lt (List.length_take_le _ _) (Nat.lt_of_lt_of_le hi (Nat.le_trans hds (by decide)))
    · rintro H1 ⟨s1, h1⟩
      rw [hl, ← List.length_map (f := outsB), List.take_length] at h1
      exact ⟨D, _, rfl, SqL.of h1, q _ s1⟩
theorem sc_alone : FnScope ["thing", "rows"] ["thing"] (defScope s_is_alone) := ⟨rfl, rfl, rfl, by decide +kernel, rfl, by decide +kernel, by decide +kernel⟩
theorem ok_alone {f g1 : Addr} {fd d1 : FuncData} (F : Fun K "is_alone" "is_alone" s_is_alone f fd) (T : Txt K mg) (W : Def P w K mg base "is_rows" ["thing"] 5 (spRows K) g1 d1) : FnOk P w K mg base CX0 6 f fd ["thing"] (spAlone K) := by
  refine F.ok sc_alone (fun vs H Q E h => ?_) (fun cdv A outer s H vs Q E hr h => ?_)
  · obtain ⟨v, d, rfl, _⟩ := h
    rfl
  obtain ⟨v, d, rfl, hk, hz, hin, q⟩ := h
  have nd := sc_alone.nd
  refine ⟨_, pss_one (ps_ret (pe_and (pe_callB call_isi (by rfl) T.isi boot_isinstance (pa_cons (pv 0) (pa_cons (pe_bltn (v := .ty "list") (by rfl) T.list boot_list rfl) pa_nil)))
    (pe_and (pe_cmpR op_eq (pe_callB call_len_seq (by rfl) T.len PySem.boot_len (pa_cons (pv 0) pa_nil)) pe_int (nomark _))
    (pe_one (pe_callB (cr_all rfl) (by rfl) T.all (by decide +kernel) (pa_cons
      (pe_lc (own := [("rows", 1)]) (g := gName 1) (tt := tYes) (te := tCall (spRows K) [] E0 (tCons (tVar 1) tNil)) rfl nd (pi_list (pv 0)) (blkOk_by (N := ["thing", "rows"]) (sc := defScope s_is_alone) (by decide +kernel)) (fun _ _ _ _ _ => pg_name (i := 1) nd rfl (Or.inl rfl)) (fun _ _ _ _ _ => pts_nil)
        (fun _ _ _ _ _ => (by exact pe_call W.G hr rfl W.m W.k W.b .nil pass0 (pa_cons (pv 1) pa_nil)))) pa_nil)))))), ?_⟩
  refine ⟨_, rfl, v, .ty "list", _, _, isLstD d, rfl, .ty "list", dp_ty hk, kit_lst d, _, rfl, ?_⟩
  cases cl : isLstD d with
  | false =>
    have : aloneB d = false := by cases d <;> first | rfl | cases cl
    rw [this] at q
    exact iteF (q _ (Same.refl H))
  | true =>
    obtain ⟨ds, rfl⟩ : ∃ ds, d = .list ds := by cases d <;> first | exact ⟨_, rfl⟩ | cases cl
    obtain ⟨p, vs, rfl, hS, hD⟩ : ∃ t vs, v = .ref t ∧ SqL K H t vs ∧ DpAll K H vs ds := by
      cases hk with
      | lst a b => exact ⟨_, _, rfl, a, b⟩
    have hl := dpAll_len hD
    have hds := hz ds rfl
    have eO : aloneB (.list ds) = (decide (ds.length = 2) && (ds.map rowsB).all id) := rfl
    refine iteT ⟨_, rfl, p, _, rfl, .inl hS, rfl, _, rfl, ?_⟩
    by_cases c : ds.length = 2
    case neg =>
      rw [eO, decide_eq_false c, Bool.false_and] at q
      refine iteF' (decide_eq_false fun e => by injection e with e; omega) ?_
      exact q _ (Same.refl H)
    rw [eO, decide_eq_true c, Bool.true_and] at q
    refine iteT' (decide_eq_true (by rw [hl, c]; rfl)) ?_
    refine ⟨_, rfl, p, rfl, ⟨_, hS⟩, fun D hD' => ?_⟩
    refine list_turns (xs := vs) (fun i H' => Same H H' ∧ H' D = some (.lst (((ds.map rowsB).take i).map V.bl))) ⟨same_new hD' _, upd_same⟩ (fun i H' _ h => h.1.seq hS) ?_ ?_
    · rintro i x H' hx ⟨s1, h1⟩
      obtain ⟨di, hdi, hxi⟩ := dpAll_get hD hx
      have hi : i < ds.length := (List.getElem?_eq_some_iff.mp hdi).1
      have hb : (ds.map rowsB)[i]? = some (rowsB di) := by rw [List.getElem?_map, hdi]; rfl
      refine ⟨rfl, _, rfl, x, di, rfl, dp_mono s1 _ _ hxi, (hin ds rfl di (List.mem_of_getElem? hdi)).1, (hin ds rfl di (List.mem_of_getElem? hdi)).2, fun H2 s2 => ⟨_, s2 _ _ h1, ?_, same_upd (s1.trans s2) hD', by rw [upd_same, take_bl _ hb]⟩⟩
      rw [List.length_map]
      exact Nat.lt_of_le_of_lt (List.length_take_le _ _) (Nat.lt_of_lt_of_le hi (Nat.le_trans hds (by decide)))
    · rintro H1 ⟨s1, h1⟩
      rw [hl, ← List.length_map (f := rowsB), List.take_length] at h1
      exact ⟨D, _, rfl, SqL.of h1, q _ s1⟩
end
end TA

set_option Elab.async false
set_option maxRecDepth 100000
set_option maxHeartbeats 4000000
namespace TA
open PySem L2 PyProof.Rows
set_option linter.unusedVariables false
def pairB : PyData → Bool
  | .tuple ds => decide (ds.length = 2) && (ds.map outB).all id
  | _ => false
def pairOf : PyData → List Int
  | .tuple ds => intsOf ds
  | _ => []
def risP (ps : List (List Int)) : Bool := ((List.range (ps.length - 1)).map fun i => HT.lexLt (ps.getD i []) (ps.getD (i + 1) [])).all id
def letB : PyData → Bool
  | .list ds => decide (0 < ds.length) && ((ds.map pairB).all id && risP (ds.map pairOf))
  | _ => false
def spPairB (K : PySem.W.Frag) : Sp := fun vs H Q _ => ∃ (v : V) (d : PyData), vs = [v] ∧ Dp K H v d ∧ ∀ H', Same H H' → Q (.bl (pairB d)) H'
/-- pairs of ints stand at these places -/
def PairsAt (K : PySem.W.Frag) (H : Hp) (xs : List V) (ps : List (List Int)) : Prop := xs.length = ps.length ∧ ∀ i : Nat, i < ps.length → ∃ a, xs[i]? = some (.ref a) ∧ SqT K H a ((ps.getD i []).map V.int)
def spRisP (K : PySem.W.Frag) : Sp := fun vs H Q _ => ∃ (p : Addr) (xs : List V) (ps : List (List Int)), vs = [.ref p] ∧ SqL K H p xs ∧ PairsAt K H xs ps ∧ 1 ≤ ps.length ∧ ps.length ≤ 1000 ∧ ∀ H', Same H H' → Q (.bl (risP ps)) H'
def spLetB (K : PySem.W.Frag) : Sp := fun vs H Q _ => ∃ (v : V) (d : PyData), vs = [v] ∧ Dp K H v d ∧ small d ∧ ∀ H', Same H H' → Q (.bl (letB d)) H'
theorem pairs_at {K : PySem.W.Frag} {H : Hp} {ds : List PyData} {vs : List V} (h : DpAll K H vs ds) (a : (ds.map pairB).all id = true) : PairsAt K H vs (ds.map pairOf) := by
  refine ⟨by rw [List.length_map]; exact dpAll_len h, fun i hi => ?_⟩
  rw [List.length_map] at hi
  have hl := dpAll_len h
  obtain ⟨d, hd, hx⟩ := dpAll_get h (List.getElem?_eq_getElem (show i < vs.length by omega))
  have hb : pairB d = true := by
    have := List.all_eq_true.mp a (pairB d) (List.mem_map.mpr ⟨d, List.mem_of_getElem? hd, rfl⟩)
    exact this
  cases d with
  | tuple es =>
    obtain ⟨_, b2⟩ := Bool.and_eq_true_iff.mp (show (decide (es.length = 2) && (es.map outB).all id) = true from hb)
    obtain ⟨t, xs, ex, ht, hes⟩ := dp_tup hx
    refine ⟨t, by rw [List.getElem?_eq_getElem (show i < vs.length by omega), ex], ?_⟩
    have e : (ds.map pairOf).getD i [] = intsOf es := by
      rw [List.getD_eq_getElem?_getD, List.getElem?_map, hd]; rfl
    rw [e, ← outs_ints hes b2]
    exact ht
  | _ => cases hb
section
variable {P : Program} {w : World} {K : PySem.W.Frag} {mg : Str → Option Value} {base : Heap}
theorem sc_outpair : FnScope ["thing", "x"] ["thing"] (defScope s_is_output_pair) := ⟨rfl, rfl, rfl, by decide +kernel, rfl, by decide +kernel, by decide +kernel⟩
theorem ok_outpair {f g1 : Addr} {fd d1 : FuncData} (F : Fun K "is_output_pair" "is_output_pair" s_is_output_pair f fd) (T : Txt K mg) (W : Def P w K mg base "is_output" ["thing"] 3 (spOut K) g1 d1) : FnOk P w K mg base CX0 4 f fd ["thing"] (spPairB K) := by
  refine F.ok sc_outpair (fun vs H Q E h => ?_) (fun cdv A outer s H vs Q E hr h => ?_)
  · obtain ⟨v, d, rfl, _⟩ := h
    rfl
  obtain ⟨v, d, rfl, hk, q⟩ := h
  have nd := sc_outpair.nd
  refine ⟨_, pss_one (ps_ret (pe_and (pe_callB call_isi (by rfl) T.isi boot_isinstance (pa_cons (pv 0) (pa_cons (pe_bltn (v := .ty "tuple") (by rfl) T.tuple boot_tuple rfl) pa_nil)))
    (pe_and (pe_cmpR op_eq (pe_callB call_len_seq (by rfl) T.len PySem.boot_len (pa_cons (pv 0) pa_nil)) pe_int (nomark _))
    (pe_one (pe_callB (cr_all rfl) (by rfl) T.all (by decide +kernel) (pa_cons
      (pe_lc (own := [("x", 1)]) (g := gName 1) (tt := tYes) (te := tCall (spOut K) [] E0 (tCons (tVar 1) tNil)) rfl nd (pi_tup (pv 0)) (blkOk_by (N := ["thing", "x"]) (sc := defScope s_is_output_pair) (by decide +kernel)) (fun _ _ _ _ _ => pg_name (i := 1) nd rfl (Or.inl rfl)) (fun _ _ _ _ _ => pts_nil)
        (fun _ _ _ _ _ => (by exact pe_call W.G hr rfl W.m W.k W.b .nil pass0 (pa_cons (pv 1) pa_nil)))) pa_nil)))))), ?_⟩
  refine ⟨_, rfl, v, .ty "tuple", _, _, isTupD d, rfl, .ty "tuple", dp_ty hk, kit_tup d, _, rfl, ?_⟩
  cases cl : isTupD d with
  | false =>
    have : pairB d = false := by cases d <;> first | rfl | cases cl
    rw [this] at q
    exact iteF (q _ (Same.refl H))
  | true =>
    obtain ⟨ds, rfl⟩ : ∃ ds, d = .tuple ds := by cases d <;> first | exact ⟨_, rfl⟩ | cases cl
    obtain ⟨p, vs, rfl, hS, hD⟩ := dp_tup hk
    have hl := dpAll_len hD
    have eO : pairB (.tuple ds) = (decide (ds.length = 2) && (ds.map outB).all id) := rfl
    refine iteT ⟨_, rfl, p, _, rfl, .inr hS, rfl, _, rfl, ?_⟩
    by_cases c : ds.length = 2
    case neg =>
      rw [eO, decide_eq_false c, Bool.false_and] at q
      refine iteF' (decide_eq_false fun e => by injection e with e; omega) ?_
      exact q _ (Same.refl H)
    rw [eO, decide_eq_true c, Bool.true_and] at q
    refine iteT' (decide_eq_true (by rw [hl, c]; rfl)) ?_
    refine ⟨_, rfl, p, rfl, ⟨_, hS⟩, fun D hD' => ?_⟩
    refine tup_turns (xs := vs) (fun i H' => Same H H' ∧ H' D = some (.lst (((ds.map outB).take i).map V.bl))) ⟨same_new hD' _, upd_same⟩ (fun i H' _ h => seqT_mono h.1 hS) ?_ ?_
    · rintro i x H' hx ⟨s1, h1⟩
      obtain ⟨di, hdi, hxi⟩ := dpAll_get hD hx
      have hi : i < ds.length := (List.getElem?_eq_some_iff.mp hdi).1
      have hb : (ds.map outB)[i]? = some (outB di) := by rw [List.getElem?_map, hdi]; rfl
      refine ⟨rfl, _, rfl, x, di, rfl, dp_mono s1 _ _ hxi, _, h1, ?_, same_upd s1 hD', by rw [upd_same, take_bl _ hb]⟩
      rw [List.length_map]
      exact Nat.lt_of_le_of_lt (List.length_take_le _ _) (Nat.lt_of_lt_of_le hi (by rw [c]; decide))
    · rintro H1 ⟨s1, h1⟩
      rw [hl, ← List.length_map (f := outB), List.take_length] at h1
      exact ⟨D, _, rfl, SqL.of h1, q _ s1⟩
theorem ok_risP {f : Addr} {fd : FuncData} (F : Fun K "is_rising" "is_rising" s_is_rising f fd) (T : Txt K mg) : FnOk P w K mg base CX0 1 f fd ["things"] (spRisP K) := by
  refine F.ok scRis (fun vs H Q E h => ?_) (fun cdv A outer s H vs Q E hr h => ?_)
  · obtain ⟨p, xs, ps, rfl, _⟩ := h
    rfl
  obtain ⟨p, xs, ps, rfl, hS, ⟨hl, hp⟩, n1, n2, q⟩ := h
  have nd := scRis.nd
  refine ⟨_, pss_one (ps_ret (pe_callB (cr_all rfl) (by rfl) T.all (by decide +kernel) (pa_cons
      (pe_lc (own := [("at", 1)]) (g := gName 1) (tt := tYes) (te := tOp (rLtT K) (tOp (rIxL K) (tVar 0) (tVar 1)) (tOp (rIxL K) (tVar 0) (tOp (rI0 fun i j => .int (i + j)) (tVar 1) (tC (.int 1))))) rfl nd
        (pi_range1 (by rfl) T.range (pa_cons (pe_op op_sub (pe_callB call_len_seq (by rfl) T.len PySem.boot_len (pa_cons (pv 0) pa_nil)) pe_int) pa_nil))
        (blkOk_by (N := ["things", "at"]) (sc := defScope s_is_rising) (by decide +kernel)) (fun _ _ _ _ _ => pg_name (i := 1) nd rfl (Or.inl rfl)) (fun _ _ _ _ _ => pts_nil)
        (fun _ _ _ _ _ => (by refine pe_cmpR (op_ltT ?_) ?_ ?_ (nomark _); (have := hr.un; show (A.deeper (envOfC "is_rising" (defScope s_is_rising) s.heap.objs.size f cdv)).units < cLine; omega); (exact pe_ix ix_list (pv 0) (pv 1) (fun _ _ => rfl)); (exact pe_ix ix_list (pv 0) (pe_op op_add (pv 1) pe_int) (fun _ _ => rfl))))) pa_nil))), ?_⟩
  refine ⟨_, rfl, p, _, rfl, .inl hS, _, _, rfl, rfl, ?_⟩
  rw [hl]
  have e1 : ((ps.length : Nat) : Int) - 1 = ((ps.length - 1 : Nat) : Int) := by omega
  refine ⟨((ps.length - 1 : Nat) : Int), congrArg (fun z => [V.int z]) e1, by omega, by omega, fun D hD => ?_⟩
  refine range_turns (n := ps.length - 1) (fun i H' => Same H H' ∧ H' D = some (.lst ((((List.range (ps.length - 1)).map fun i => HT.lexLt (ps.getD i []) (ps.getD (i + 1) [])).take i).map V.bl))) ⟨same_new hD _, upd_same⟩ ?_ ?_
  · rintro i H' hi ⟨s1, h1⟩
    have ei : (0 : Int) + (i : Int) = (i : Int) := by omega
    rw [ei]
    obtain ⟨a0, g0, t0⟩ := hp i (by omega)
    obtain ⟨a1, g1, t1⟩ := hp (i + 1) (by omega)
    have hb : ((List.range (ps.length - 1)).map fun i => HT.lexLt (ps.getD i []) (ps.getD (i + 1) []))[i]? = some (HT.lexLt (ps.getD i []) (ps.getD (i + 1) [])) := by
      rw [List.getElem?_map, List.getElem?_range hi]; rfl
    refine ⟨rfl, _, rfl, _, rfl, p, _, _, _, rfl, rfl, s1.seq hS, atI_nat g0, _, rfl, _, rfl, _, _, rfl, rfl, p, _, _, _, rfl, rfl, s1.seq hS, (by rw [show (i : Int) + 1 = ((i + 1 : Nat) : Int) by omega]; exact atI_nat g1), a0, a1, _, _, rfl, rfl, seqT_mono s1 t0, seqT_mono s1 t1, _, h1, ?_, same_upd s1 hD, by rw [upd_same, take_bl _ hb]⟩
    rw [List.length_map]
    exact Nat.lt_of_le_of_lt (List.length_take_le _ _) (Nat.lt_of_lt_of_le hi (Nat.le_trans (by omega) (show 1000 ≤ sizeLine by decide)))
  · rintro H' ⟨s1, h1⟩
    rw [List.take_of_length_le (by rw [List.length_map, List.length_range]; exact Nat.le_refl _)] at h1
    exact ⟨D, _, rfl, SqL.of h1, q _ s1⟩
end
end TA

set_option Elab.async false
set_option maxRecDepth 100000
set_option maxHeartbeats 4000000
namespace TA
open PySem L2 PyProof.Rows
set_option linter.unusedVariables false
section
variable {P : Program} {w : World} {K : PySem.W.Frag} {mg : Str → Option Value} {base : Heap}
theorem sc_let : FnScope ["thing", "x"] ["thing"] (defScope s_is_let) := ⟨rfl, rfl, rfl, by decide +kernel, rfl, by decide +kernel, by decide +kernel⟩
theorem ok_let {f g1 g2 : Addr} {fd d1 d2 : FuncData} (F : Fun K "is_let" "is_let" s_is_let f fd) (T : Txt K mg) (W : Def P w K mg base "is_output_pair" ["thing"] 4 (spPairB K) g1 d1) (R : Def P w K mg base "is_rising" ["things"] 1 (spRisP K) g2 d2) : FnOk P w K mg base CX0 5 f fd ["thing"] (spLetB K) := by
  refine F.ok sc_let (fun vs H Q E h => ?_) (fun cdv A outer s H vs Q E hr h => ?_)
  · obtain ⟨v, d, rfl, _⟩ := h
    rfl
  obtain ⟨v, d, rfl, hk, hz, q⟩ := h
  have nd := sc_let.nd
  refine ⟨_, pss_one (ps_ret (pe_and (pe_callB call_isi (by rfl) T.isi boot_isinstance (pa_cons (pv 0) (pa_cons (pe_bltn (v := .ty "list") (by rfl) T.list boot_list rfl) pa_nil)))
    (pe_and (pe_cmpR op_gt (pe_callB call_len_seq (by rfl) T.len PySem.boot_len (pa_cons (pv 0) pa_nil)) pe_int (nomark _))
    (pe_and (pe_callB (cr_all rfl) (by rfl) T.all (by decide +kernel) (pa_cons
      (pe_lc (own := [("x", 1)]) (g := gName 1) (tt := tYes) (te := tCall (spPairB K) [] E0 (tCons (tVar 1) tNil)) rfl nd (pi_list (pv 0)) (blkOk_by (N := ["thing", "x"]) (sc := defScope s_is_let) (by decide +kernel)) (fun _ _ _ _ _ => pg_name (i := 1) nd rfl (Or.inl rfl)) (fun _ _ _ _ _ => pts_nil)
        (fun _ _ _ _ _ => (by exact pe_call W.G hr rfl W.m W.k W.b .nil pass0 (pa_cons (pv 1) pa_nil)))) pa_nil))
    (pe_one (pe_call R.G (hr.mono (by decide)) rfl R.m R.k R.b .nil pass0 (pa_cons (pv 0) pa_nil))))))), ?_⟩
  refine ⟨_, rfl, v, .ty "list", _, _, isLstD d, rfl, .ty "list", dp_ty hk, kit_lst d, _, rfl, ?_⟩
  cases cl : isLstD d with
  | false =>
    have : letB d = false := by cases d <;> first | rfl | cases cl
    rw [this] at q
    exact iteF (q _ (Same.refl H))
  | true =>
    obtain ⟨ds, rfl⟩ : ∃ ds, d = .list ds := by cases d <;> first | exact ⟨_, rfl⟩ | cases cl
    obtain ⟨p, vs, rfl, hS, hD⟩ : ∃ t vs, v = .ref t ∧ SqL K H t vs ∧ DpAll K H vs ds := by
      cases hk with
      | lst a b => exact ⟨_, _, rfl, a, b⟩
    have hl := dpAll_len hD
    have hds := hz ds rfl
    have eO : letB (.list ds) = (decide (0 < ds.length) && ((ds.map pairB).all id && risP (ds.map pairOf))) := rfl
    refine iteT ⟨_, rfl, p, _, rfl, .inl hS, _, _, rfl, rfl, ?_⟩
    by_cases c : 0 < ds.length
    case neg =>
      rw [eO, decide_eq_false c, Bool.false_and] at q
      refine ⟨_, rfl, iteF' (decide_eq_false (by omega)) ?_⟩
      exact q _ (Same.refl H)
    rw [eO, decide_eq_true c, Bool.true_and] at q
    refine ⟨_, rfl, iteT' (decide_eq_true (by omega)) ?_⟩
    refine ⟨_, rfl, p, rfl, ⟨_, hS⟩, fun D hD' => ?_⟩
    refine list_turns (xs := vs) (fun i H' => Same H H' ∧ H' D = some (.lst (((ds.map pairB).take i).map V.bl))) ⟨same_new hD' _, upd_same⟩ (fun i H' _ h => h.1.seq hS) ?_ ?_
    · rintro i x H' hx ⟨s1, h1⟩
      obtain ⟨di, hdi, hxi⟩ := dpAll_get hD hx
      have hi : i < ds.length := (List.getElem?_eq_some_iff.mp hdi).1
      have hb : (ds.map pairB)[i]? = some (pairB di) := by rw [List.getElem?_map, hdi]; rfl
      refine ⟨rfl, _, rfl, x, di, rfl, dp_mono s1 _ _ hxi, fun H2 s2 => ⟨_, s2 _ _ h1, ?_, same_upd (s1.trans s2) hD', by rw [upd_same, take_bl _ hb]⟩⟩
      rw [List.length_map]
      exact Nat.lt_of_le_of_lt (List.length_take_le _ _) (Nat.lt_of_lt_of_le hi (Nat.le_trans hds (by decide)))
    · rintro H1 ⟨s1, h1⟩
      rw [hl, ← List.length_map (f := pairB), List.take_length] at h1
      refine ⟨D, _, rfl, SqL.of h1, _, rfl, ?_⟩
      cases ca : (ds.map pairB).all id with
      | false =>
        rw [ca, Bool.false_and] at q
        exact iteF (q _ s1)
      | true =>
        rw [ca, Bool.true_and] at q
        have hp := pairs_at (dpAll_mono s1 _ _ hD) ca
        have li : (ds.map pairOf).length = ds.length := List.length_map _
        exact iteT ⟨_, rfl, p, vs, ds.map pairOf, rfl, s1.seq hS, hp, by omega, by omega, fun H2 s2 => q _ (s1.trans s2)⟩
end
end TA

set_option Elab.async false
set_option maxRecDepth 100000
set_option maxHeartbeats 4000000
namespace TA
open PySem L2 PyProof.Rows
set_option linter.unusedVariables false
/-- a pair of inputs, so many of each hand -/
def inB (n0 n1 : Nat) : PyData → Bool
  | .tuple [x, y] => within x 0 ((n0 : Int) - 1) && within y 0 ((n1 : Int) - 1)
  | _ => false
theorem inB_no {n0 n1 : Nat} {d : PyData} (h : ∀ x y, d ≠ .tuple [x, y]) : inB n0 n1 d = false := by
  match d, h with
  | .tuple [x, y], h => exact absurd rfl (h x y)
  | .tuple [], _ | .tuple [_], _ | .tuple (_ :: _ :: _ :: _), _ | .none, _ | .bool _, _ | .int _, _ | .str _, _ | .list _, _ | .dict _, _ => rfl
theorem tup_cases (d : PyData) : (∃ x y, d = .tuple [x, y]) ∨ (∀ x y, d ≠ .tuple [x, y]) := by
  match d with
  | .tuple [x, y] => exact .inl ⟨x, y, rfl⟩
  | .tuple [] | .tuple [_] | .tuple (_ :: _ :: _ :: _) | .none | .bool _ | .int _ | .str _ | .list _ | .dict _ => exact .inr (fun x y e => by cases e)
theorem dp_pair {K : PySem.W.Frag} {H : Hp} {v : V} {d : PyData} (h : Dp K H v d) : (∃ a x y e f, v = .ref a ∧ d = .tuple [e, f] ∧ SqT K H a [x, y] ∧ Dp K H x e ∧ Dp K H y f) ∨ ((∀ x y, d ≠ .tuple [x, y]) ∧ (isTupD d = false ∨ (isTupD d = true ∧ ∃ a xs, v = .ref a ∧ SqT K H a xs ∧ xs.length ≠ 2))) := by
  rcases tup_cases d with ⟨e, f, rfl⟩ | hn
  · left
    obtain ⟨a, xs, rfl, hs, ha⟩ := dp_tup h
    cases ha with
    | cons h1 h2 =>
      cases h2 with
      | cons h2 h3 =>
        cases h3
        exact ⟨_, _, _, _, _, rfl, rfl, hs, h1, h2⟩
  · right
    refine ⟨hn, ?_⟩
    cases h with
    | @tup a xs ds h1 h2 =>
      refine .inr ⟨rfl, a, xs, rfl, h1, fun e => ?_⟩
      have el := dpAll_len h2
      rw [e] at el
      match ds, el, hn with
      | [x, y], _, hn => exact hn x y rfl
    | _ => exact .inl rfl
/-- the outputs let alone, as two lists of rows -/
structure AloneAt (K : PySem.W.Frag) (H : Hp) (al : Addr) (n0 n1 : Nat) : Prop where
  ex : ∃ (r0 r1 : Addr) (xs0 xs1 : List V), SqL K H al [.ref r0, .ref r1] ∧ SqL K H r0 xs0 ∧ SqL K H r1 xs1 ∧ xs0.length = n0 ∧ xs1.length = n1
theorem AloneAt.mono {K : PySem.W.Frag} {H H' : Hp} {al : Addr} {n0 n1 : Nat} (s : Same H H') (h : AloneAt K H al n0 n1) : AloneAt K H' al n0 n1 := by
  obtain ⟨r0, r1, xs0, xs1, a, b, c, d⟩ := h.ex
  exact ⟨r0, r1, xs0, xs1, s.seq a, s.seq b, s.seq c, d⟩
def spInp (K : PySem.W.Frag) : Sp := fun vs H Q _ => ∃ (v : V) (d : PyData) (al : Addr) (n0 n1 : Nat), vs = [v, .ref al] ∧ Dp K H v d ∧ AloneAt K H al n0 n1 ∧ ∀ H', Same H H' → Q (.bl (inB n0 n1 d)) H'
structure TxtH (K : PySem.W.Frag) (mg : Str → Option Value) : Prop where
  hands : ∃ hA, mg "HANDS" = some (.ref hA) ∧ ∀ H, SqT K H hA [.int 0, .int 1]
section
variable {P : Program} {w : World} {K : PySem.W.Frag} {mg : Str → Option Value} {base : Heap}
abbrev nInp : List Str := ["thing", "alone", "hand"]
theorem sc_inp : FnScope nInp ["thing", "alone"] (defScope s_is_input_pair) := ⟨rfl, rfl, rfl, by decide +kernel, rfl, by decide +kernel, by decide +kernel⟩
theorem ok_inp {f g1 : Addr} {fd d1 : FuncData} (F : Fun K "is_input_pair" "is_input_pair" s_is_input_pair f fd) (T : Txt K mg) (U : TxtH K mg) (W : Def P w K mg base "is_whole_within" ["thing", "least", "most"] 2 (spWithinG K) g1 d1) : FnOk P w K mg base CX0 3 f fd ["thing", "alone"] (spInp K) := by
  refine F.ok sc_inp (fun vs H Q E h => ?_) (fun cdv A outer s H vs Q E hr h => ?_)
  · obtain ⟨v, d, al, n0, n1, rfl, _⟩ := h
    rfl
  obtain ⟨v, d, al, n0, n1, rfl, hk, hA, q⟩ := h
  obtain ⟨hT, mH, hH⟩ := U.hands
  have nd := sc_inp.nd
  refine ⟨_, pss_one (ps_ret (pe_and (pe_callB call_isi (by rfl) T.isi boot_isinstance (pa_cons (pv 0) (pa_cons (pe_bltn (v := .ty "tuple") (by rfl) T.tuple boot_tuple rfl) pa_nil)))
    (pe_and (pe_cmpR op_eq (pe_callB call_len_seq (by rfl) T.len PySem.boot_len (pa_cons (pv 0) pa_nil)) pe_int (nomark _))
    (pe_one (pe_callB (cr_all rfl) (by rfl) T.all (by decide +kernel) (pa_cons
      (pe_lc (own := [("hand", 2)]) (g := gName 2) (tt := tYes) (te := tCall (spWithinG K) [] E0 (tCons (tOp (rIxT K) (tVar 0) (tVar 2)) (tCons (tC (.int 0)) (tCons (tOp (rI0 fun i j => .int (i - j)) (tCB (fun xs H Q => ∃ p ys, xs = [.ref p] ∧ (SqL K H p ys ∨ SqT K H p ys) ∧ Q (.int ys.length) H) (tCons (tOp (rIxL K) (tVar 1) (tVar 2)) tNil)) (tC (.int 1))) tNil)))) rfl nd
        (pi_tup (pe_glob (v := .ref hT) rfl mH rfl)) (blkOk_by (N := nInp) (sc := defScope s_is_input_pair) (by decide +kernel)) (fun _ _ _ _ _ => pg_name (i := 2) nd rfl (Or.inl rfl)) (fun _ _ _ _ _ => pts_nil)
        (fun _ _ _ _ _ => (by refine pe_call W.G hr rfl W.m W.k W.b .nil pass0 (pa_cons ?_ (pa_cons pe_int (pa_cons (pe_op op_sub ?_ pe_int) pa_nil))); (exact pe_ix ix_tup (pv 0) (pv 2) (fun _ _ => rfl)); (refine pe_callB call_len_seq (by rfl) T.len PySem.boot_len (pa_cons ?_ pa_nil); (exact pe_ix ix_list (pv 1) (pv 2) (fun _ _ => rfl)))))) pa_nil)))))), ?_⟩
  rcases dp_pair hk with ⟨a, x, y, e, g, rfl, rfl, ha, hx, hy⟩ | ⟨hn, c2 | ⟨c2, a, xs, rfl, ha, hl⟩⟩
  case inr.inl =>
    rw [inB_no hn] at q
    exact ⟨_, rfl, v, V.ty "tuple", _, _, false, rfl, .ty "tuple", dp_ty hk, (by rw [kit_tup, c2]), _, rfl, iteF (q _ (Same.refl H))⟩
  case inr.inr =>
    rw [inB_no hn] at q
    refine ⟨_, rfl, V.ref a, V.ty "tuple", _, _, true, rfl, .ty "tuple", dp_ty hk, (by rw [kit_tup, c2]), _, rfl, iteT ?_⟩
    refine ⟨_, rfl, a, _, rfl, .inr ha, rfl, _, rfl, iteF' (decide_eq_false fun e => hl (by injection e with e; omega)) ?_⟩
    exact q _ (Same.refl H)
  refine ⟨_, rfl, V.ref a, V.ty "tuple", _, _, true, rfl, .ty "tuple", dp_ty hk, kit_tup _, _, rfl, iteT ?_⟩
  refine ⟨_, rfl, a, _, rfl, .inr ha, rfl, _, rfl, iteT ?_⟩
  obtain ⟨r0, r1, xs0, xs1, k1, k2, k3, rfl, rfl⟩ := hA.ex
  refine ⟨hT, rfl, ⟨_, hH H⟩, fun D hD => ?_⟩
  refine tup_turns (xs := [V.int 0, V.int 1]) (fun i H' => Same H H' ∧ H' D = some (.lst (([within e 0 ((xs0.length : Int) - 1), within g 0 ((xs1.length : Int) - 1)].take i).map V.bl))) ⟨same_new hD _, upd_same⟩ (fun i H' _ _ => hH H') ?_ ?_
  · rintro i z H' hz ⟨s1, h1⟩
    rcases i with _ | _ | i
    · obtain rfl : z = .int 0 := by simpa using hz.symm
      exact ⟨rfl, _, rfl, _, rfl, a, _, _, _, rfl, rfl, seqT_mono s1 ha, (by rfl), _, rfl, _, rfl, al, _, _, _, rfl, rfl, s1.seq k1, (by rfl), r0, _, rfl, .inl (s1.seq k2), _, _, rfl, rfl, x, e, 0, _, rfl, dp_mono s1 _ _ hx, _, h1, (by show 0 < sizeLine; decide), same_upd s1 hD, by rw [upd_same]; rfl⟩
    · obtain rfl : z = .int 1 := by simpa using hz.symm
      exact ⟨rfl, _, rfl, _, rfl, a, _, _, _, rfl, rfl, seqT_mono s1 ha, (by rfl), _, rfl, _, rfl, al, _, _, _, rfl, rfl, s1.seq k1, (by rfl), r1, _, rfl, .inl (s1.seq k3), _, _, rfl, rfl, y, g, 0, _, rfl, dp_mono s1 _ _ hy, _, h1, (by show 1 < sizeLine; decide), same_upd s1 hD, by rw [upd_same]; rfl⟩
    · simp at hz
  · rintro H' ⟨s1, h1⟩
    refine ⟨D, _, rfl, SqL.of h1, ?_⟩
    have z := q _ s1
    have e2 : inB xs0.length xs1.length (.tuple [e, g]) = (within e 0 ((xs0.length : Int) - 1) && within g 0 ((xs1.length : Int) - 1)) := rfl
    rw [e2] at z
    show Q (.bl (_ && (_ && true))) H'
    rw [Bool.and_true]
    exact z
end
end TA

set_option Elab.async false
set_option maxRecDepth 100000
set_option maxHeartbeats 4000000
namespace TA
open PySem L2 PyProof.Rows
set_option linter.unusedVariables false
/-! a task's things in the heap -/
inductive A2 {α β : Type} (R : α → β → Prop) : List α → List β → Prop
  | nil : A2 R [] []
  | cons {x y xs ys} : R x y → A2 R xs ys → A2 R (x :: xs) (y :: ys)
theorem A2.len {α β : Type} {R : α → β → Prop} : ∀ {xs : List α} {ys : List β}, A2 R xs ys → xs.length = ys.length
  | _, _, .nil => rfl
  | _, _, .cons _ b => congrArg (· + 1) b.len
theorem A2.imp {α β : Type} {R S : α → β → Prop} (f : ∀ x y, R x y → S x y) : ∀ {xs : List α} {ys : List β}, A2 R xs ys → A2 S xs ys
  | _, _, .nil => .nil
  | _, _, .cons a b => .cons (f _ _ a) (b.imp f)
theorem A2.get {α β : Type} {R : α → β → Prop} : ∀ {xs : List α} {ys : List β} {i : Nat} {x : α}, A2 R xs ys → xs[i]? = some x → ∃ y, ys[i]? = some y ∧ R x y
  | _, _, i, _, .nil, e => by simp at e
  | _, _, 0, _, .cons a _, e => ⟨_, rfl, by simp at e; rw [← e]; exact a⟩
  | _, _, i + 1, x, .cons _ b, e => by
    obtain ⟨y, h1, h2⟩ := A2.get (i := i) (x := x) b (by simpa using e)
    exact ⟨y, by simpa using h1, h2⟩
theorem A2.at {α β : Type} {R : α → β → Prop} {xs : List α} {ys : List β} {i : Nat} {y : β} (h : A2 R xs ys) (e : ys[i]? = some y) : ∃ x, xs[i]? = some x ∧ R x y := by
  have hi : i < xs.length := by rw [h.len]; exact (List.getElem?_eq_some_iff.mp e).1
  obtain ⟨y', h1, h2⟩ := h.get (List.getElem?_eq_getElem hi)
  rw [e] at h1
  cases h1
  exact ⟨_, List.getElem?_eq_getElem hi, h2⟩
theorem A2.snoc {α β : Type} {R : α → β → Prop} : ∀ {xs : List α} {ys : List β} {x : α} {y : β}, A2 R xs ys → R x y → A2 R (xs ++ [x]) (ys ++ [y])
  | _, _, _, _, .nil, h => .cons h .nil
  | _, _, _, _, .cons a b, h => .cons a (b.snoc h)
theorem A2.mem {α β : Type} {R : α → β → Prop} {xs : List α} {ys : List β} {x : α} (h : A2 R xs ys) (m : x ∈ xs) : ∃ y, y ∈ ys ∧ R x y := by
  obtain ⟨i, e⟩ := List.getElem?_of_mem m
  obtain ⟨y, e2, r⟩ := h.get e
  exact ⟨y, List.mem_of_getElem? e2, r⟩
theorem A2.ofMap {α β γ : Type} {R : α → β → Prop} (f : γ → α) (g : γ → β) : ∀ (zs : List γ), (∀ z ∈ zs, R (f z) (g z)) → A2 R (zs.map f) (zs.map g)
  | [], _ => .nil
  | z :: zs, h => .cons (h z List.mem_cons_self) (A2.ofMap f g zs fun x m => h x (List.mem_cons_of_mem _ m))
/-- a pair of ints, a list of ints, rows of these, what is let alone, pairs let -/
def TpAt (H : Hp) (v : V) (p : Int × Int) : Prop := ∃ t, v = .ref t ∧ H t = some (.tup [.int p.1, .int p.2])
def RowAt (H : Hp) (v : V) (row : List Int) : Prop := ∃ t, v = .ref t ∧ H t = some (.lst (row.map .int))
def RowsAt (H : Hp) (v : V) (rows : List (List Int)) : Prop := ∃ t xs, v = .ref t ∧ H t = some (.lst xs) ∧ A2 (RowAt H) xs rows
def AlAt (H : Hp) (v : V) (al : Nat → List (List Int)) : Prop := ∃ t x0 x1, v = .ref t ∧ H t = some (.lst [x0, x1]) ∧ RowsAt H x0 (al 0) ∧ RowsAt H x1 (al 1)
def LetAt (H : Hp) (v : V) (l : List (Int × Int)) : Prop := ∃ t xs, v = .ref t ∧ H t = some (.lst xs) ∧ A2 (TpAt H) xs l
/-- pairs of inputs -/
abbrev IP := Nat × Nat
def kI (p : IP) : List Key := [.inl (p.1 : Int), .inl (p.2 : Int)]
def iI (p : IP) : Int × Int := ((p.1 : Int), (p.2 : Int))
abbrev BD := List (IP × List (Int × Int))
def EnAt (H : Hp) (e : List Key × V) (b : IP × List (Int × Int)) : Prop := e.1 = kI b.1 ∧ LetAt H e.2 b.2
def BoAt (H : Hp) (d : Addr) (bo : BD) : Prop := ∃ kvs, H d = some (.dT kvs) ∧ A2 (EnAt H) kvs bo
/-- what is no dict stands as it stood -/
def flatO (o : HO) : Prop := (∃ xs, o = .lst xs) ∨ (∃ xs, o = .tup xs)
def Kp (H H' : Hp) : Prop := ∀ b o, flatO o → H b = some o → H' b = some o
theorem Kp.lst {H H' : Hp} (s : Kp H H') {b xs} (e : H b = some (.lst xs)) : H' b = some (.lst xs) := s _ _ (.inl ⟨_, rfl⟩) e
theorem Kp.tup {H H' : Hp} (s : Kp H H') {b xs} (e : H b = some (.tup xs)) : H' b = some (.tup xs) := s _ _ (.inr ⟨_, rfl⟩) e
theorem Kp.refl (H : Hp) : Kp H H := fun _ _ _ e => e
theorem Kp.trans {H H1 H2 : Hp} (s : Kp H H1) (t : Kp H1 H2) : Kp H H2 := fun b o f e => t b o f (s b o f e)
theorem Kp.same {H H' : Hp} (s : Same H H') : Kp H H' := fun b o _ e => s b o e
theorem Kp.put {H : Hp} {d : Addr} {u : HO} {o : HO} (e : H d = some u) (n : ¬ flatO u) : Kp H (upd H d o) := fun b x f h => by
  by_cases c : b = d
  · subst c
    rw [e] at h
    cases h
    exact absurd f n
  · rw [upd_ne c]; exact h
theorem nf_dT {k : List (List Key × V)} : ¬ flatO (.dT k) := by rintro (⟨_, h⟩ | ⟨_, h⟩) <;> cases h
theorem nf_frz {o u} : ¬ flatO (.frz o u) := by rintro (⟨_, h⟩ | ⟨_, h⟩) <;> cases h
theorem TpAt.mono {H H' : Hp} (s : Kp H H') {v : V} {p : Int × Int} (h : TpAt H v p) : TpAt H' v p := by
  obtain ⟨t, e, h⟩ := h
  exact ⟨t, e, s.tup h⟩
theorem RowAt.mono {H H' : Hp} (s : Kp H H') {v : V} {p} (h : RowAt H v p) : RowAt H' v p := by
  obtain ⟨t, e, h⟩ := h
  exact ⟨t, e, s.lst h⟩
theorem RowsAt.mono {H H' : Hp} (s : Kp H H') {v : V} {p} (h : RowsAt H v p) : RowsAt H' v p := by
  obtain ⟨t, xs, e, h, a⟩ := h
  exact ⟨t, xs, e, s.lst h, a.imp fun _ _ r => r.mono s⟩
theorem AlAt.mono {H H' : Hp} (s : Kp H H') {v : V} {p} (h : AlAt H v p) : AlAt H' v p := by
  obtain ⟨t, x0, x1, e, h, a, b⟩ := h
  exact ⟨t, x0, x1, e, s.lst h, a.mono s, b.mono s⟩
theorem LetAt.mono {H H' : Hp} (s : Kp H H') {v : V} {p} (h : LetAt H v p) : LetAt H' v p := by
  obtain ⟨t, xs, e, h, a⟩ := h
  exact ⟨t, xs, e, s.lst h, a.imp fun _ _ r => r.mono s⟩
theorem EnAt.mono {H H' : Hp} (s : Kp H H') {v} {p} (h : EnAt H v p) : EnAt H' v p := ⟨h.1, h.2.mono s⟩
theorem BoAt.mono {H H' : Hp} (s : Same H H') {v} {p} (h : BoAt H v p) : BoAt H' v p := by
  obtain ⟨kvs, h, a⟩ := h
  exact ⟨kvs, s _ _ h, a.imp fun _ _ r => r.mono (.same s)⟩
def But (a : Addr) (H H' : Hp) : Prop := ∀ b o, b ≠ a → H b = some o → H' b = some o
theorem But.trans {a : Addr} {H H1 H2 : Hp} (h : But a H H1) (g : But a H1 H2) : But a H H2 := fun b o e q => g b o e (h b o e q)
theorem But.same {a : Addr} {H H' : Hp} (s : Same H H') : But a H H' := fun b o _ q => s b o q
theorem But.at {a : Addr} {H : Hp} {o : HO} : But a H (upd H a o) := fun b u nb e => by rw [upd_ne nb]; exact e
theorem But.kp {d : Addr} {H H' : Hp} {u : HO} (e : H d = some u) (n : ¬ flatO u) (s : But d H H') : Kp H H' := fun b x f h => s b x (fun c => by subst c; rw [e] at h; cases h; exact n f) h
/-- a dict that was locked and is unlocked again -/
theorem But.unlock {d : Addr} {H H' : Hp} {u : HO} (e : H d = some u) (s : But d H H') : Same H (upd H' d u) := fun b x h => by
  by_cases c : b = d
  · subst c
    rw [e] at h
    cases h
    exact upd_same
  · rw [upd_ne c]; exact s b x c h
theorem But.new {d p : Addr} {H0 H : Hp} {o : HO} (s : But d H0 H) (f : H0 p = none) : But d H0 (upd H p o) := fun b u nb e => by
  rw [upd_ne (ne_of_none e f)]
  exact s b u nb e
/-! the same as data -/
def pairD (p : Int × Int) : PyData := .tuple [.int p.1, .int p.2]
def rowD (row : List Int) : PyData := .list (row.map .int)
def rowsD (rows : List (List Int)) : PyData := .list (rows.map rowD)
def alD (al : Nat → List (List Int)) : PyData := .list [rowsD (al 0), rowsD (al 1)]
def letD (l : List (Int × Int)) : PyData := .list (l.map pairD)
theorem dp_ints {K : PySem.W.Frag} {H : Hp} : ∀ (row : List Int), DpAll K H (row.map V.int) (row.map PyData.int)
  | [] => .nil
  | i :: r => .cons (.int i) (dp_ints r)
theorem A2.dp {K : PySem.W.Frag} {H : Hp} {α : Type} {R : V → α → Prop} (f : α → PyData) (g : ∀ x y, R x y → Dp K H x (f y)) : ∀ {xs : List V} {ys : List α}, A2 R xs ys → DpAll K H xs (ys.map f)
  | _, _, .nil => .nil
  | _, _, .cons a b => .cons (g _ _ a) (b.dp f g)
theorem TpAt.dp {K : PySem.W.Frag} {H : Hp} {v : V} {p} (h : TpAt H v p) : Dp K H v (pairD p) := by
  obtain ⟨t, rfl, h⟩ := h
  exact .tup (SqT.of h) (.cons (.int _) (.cons (.int _) .nil))
theorem RowAt.dp {K : PySem.W.Frag} {H : Hp} {v : V} {p} (h : RowAt H v p) : Dp K H v (rowD p) := by
  obtain ⟨t, rfl, h⟩ := h
  exact .lst (SqL.of h) (dp_ints p)
theorem RowsAt.dp {K : PySem.W.Frag} {H : Hp} {v : V} {p} (h : RowsAt H v p) : Dp K H v (rowsD p) := by
  obtain ⟨t, xs, rfl, h, a⟩ := h
  exact .lst (SqL.of h) (a.dp rowD fun _ _ r => r.dp)
theorem AlAt.dp {K : PySem.W.Frag} {H : Hp} {v : V} {p} (h : AlAt H v p) : Dp K H v (alD p) := by
  obtain ⟨t, x0, x1, rfl, h, a, b⟩ := h
  exact .lst (SqL.of h) (.cons a.dp (.cons b.dp .nil))
theorem LetAt.dp {K : PySem.W.Frag} {H : Hp} {v : V} {p} (h : LetAt H v p) : Dp K H v (letD p) := by
  obtain ⟨t, xs, rfl, h, a⟩ := h
  exact .lst (SqL.of h) (a.dp pairD fun _ _ r => r.dp)
/-! what is drawn -/
def ltP (p q : Int × Int) : Prop := p.1 < q.1 ∨ (p.1 = q.1 ∧ p.2 < q.2)
def ltN (p q : IP) : Prop := p.1 < q.1 ∨ (p.1 = q.1 ∧ p.2 < q.2)
def okOut (x : Int) : Prop := 0 ≤ x ∧ x ≤ 63
def okRow (row : List Int) : Prop := 1 ≤ row.length ∧ row.length ≤ 60 ∧ row.Pairwise (· < ·) ∧ ∀ x ∈ row, okOut x
def okLet (l : List (Int × Int)) : Prop := 1 ≤ l.length ∧ l.length ≤ 200 ∧ l.Pairwise ltP ∧ ∀ p ∈ l, okOut p.1 ∧ okOut p.2
structure TD where
  al : Nat → List (List Int)
  bo : BD
structure WF (T : TD) : Prop where
  n0 : ∀ h, h < 2 → 1 ≤ (T.al h).length ∧ (T.al h).length ≤ 20
  row : ∀ h, h < 2 → ∀ r ∈ T.al h, okRow r
  srt : (T.bo.map (·.1)).Pairwise (· ≠ ·)
  rng : ∀ e ∈ T.bo, e.1.1 < (T.al 0).length ∧ e.1.2 < (T.al 1).length
  lets : ∀ e ∈ T.bo, okLet e.2
  com0 : ∀ a, a < (T.al 0).length → ∃ e ∈ T.bo, e.1.1 = a
  com1 : ∀ a, a < (T.al 1).length → ∃ e ∈ T.bo, e.1.2 = a
  many : T.bo.length ≤ 60
/-! the checks say yes to what is drawn -/
theorem risI_yes {ns : List Int} (h : ns.Pairwise (· < ·)) : risI ns = true := by
  unfold risI
  rw [List.all_eq_true]
  intro b hb
  obtain ⟨i, hi, rfl⟩ := List.mem_map.mp hb
  have hi := List.mem_range.mp hi
  have h1 : i < ns.length := by omega
  have h2 : i + 1 < ns.length := by omega
  show decide _ = true
  rw [decide_eq_true_eq, List.getD_eq_getElem?_getD, List.getD_eq_getElem?_getD, List.getElem?_eq_getElem h1, List.getElem?_eq_getElem h2]
  exact List.pairwise_iff_getElem.mp h i (i + 1) h1 h2 (by omega)
theorem out_yes {x : Int} (h : okOut x) : outB (.int x) = true := by
  unfold outB within
  exact decide_eq_true h
theorem intsOf_ints : ∀ row : List Int, intsOf (row.map PyData.int) = row
  | [] => rfl
  | x :: r => by
    have := intsOf_ints r
    unfold intsOf at this ⊢
    rw [List.map_cons, List.map_cons, this]
theorem outs_yes {row : List Int} (h : okRow row) : outsB (rowD row) = true := by
  show (decide (0 < (row.map PyData.int).length) && (((row.map PyData.int).map outB).all id && risI (intsOf (row.map PyData.int)))) = true
  rw [intsOf_ints, risI_yes h.2.2.1, List.length_map, decide_eq_true (show 0 < row.length by have := h.1; omega), Bool.and_true, Bool.true_and, List.all_eq_true]
  intro b hb
  obtain ⟨d, hd, rfl⟩ := List.mem_map.mp hb
  obtain ⟨x, hx, rfl⟩ := List.mem_map.mp hd
  exact out_yes (h.2.2.2 x hx)
theorem rows_yes {rows : List (List Int)} (h0 : 1 ≤ rows.length) (h : ∀ r ∈ rows, okRow r) : rowsB (rowsD rows) = true := by
  show (decide (0 < (rows.map rowD).length) && ((rows.map rowD).map outsB).all id) = true
  rw [List.length_map, decide_eq_true (show 0 < rows.length by omega), Bool.true_and, List.all_eq_true]
  intro b hb
  obtain ⟨d, hd, rfl⟩ := List.mem_map.mp hb
  obtain ⟨x, hx, rfl⟩ := List.mem_map.mp hd
  exact outs_yes (h x hx)
theorem alone_yes {T : TD} (W : WF T) : aloneB (alD T.al) = true := by
  show (decide (2 = 2) && [rowsB (rowsD (T.al 0)), rowsB (rowsD (T.al 1))].all id) = true
  rw [rows_yes (W.n0 0 (by decide)).1 (W.row 0 (by decide)), rows_yes (W.n0 1 (by decide)).1 (W.row 1 (by decide))]
  rfl
theorem lex_yes {p q : Int × Int} (h : ltP p q) : HT.lexLt [p.1, p.2] [q.1, q.2] = true := by
  rcases h with h | ⟨h1, h2⟩
  · have : ¬ p.1 = q.1 := by omega
    simp [HT.lexLt, h, this]
  · have : ¬ p.2 = q.2 := by omega
    simp [HT.lexLt, h1, h2, this]
theorem risP_yes {l : List (Int × Int)} (h : l.Pairwise ltP) : risP ((l.map pairD).map pairOf) = true := by
  unfold risP
  rw [List.all_eq_true]
  intro b hb
  obtain ⟨i, hi, rfl⟩ := List.mem_map.mp hb
  have hi := List.mem_range.mp hi
  rw [List.length_map, List.length_map] at hi
  have h1 : i < l.length := by omega
  have h2 : i + 1 < l.length := by omega
  have e : ∀ j (hj : j < l.length), ((l.map pairD).map pairOf).getD j [] = [l[j].1, l[j].2] := fun j hj => by
    rw [List.getD_eq_getElem?_getD, List.getElem?_map, List.getElem?_map, List.getElem?_eq_getElem hj]
    rfl
  show HT.lexLt _ _ = true
  rw [e i h1, e (i + 1) h2]
  exact lex_yes (List.pairwise_iff_getElem.mp h i (i + 1) h1 h2 (by omega))
theorem pair_yes {p : Int × Int} (h : okOut p.1 ∧ okOut p.2) : pairB (pairD p) = true := by
  show (decide (2 = 2) && [outB (.int p.1), outB (.int p.2)].all id) = true
  rw [out_yes h.1, out_yes h.2]
  rfl
theorem let_yes {l : List (Int × Int)} (h : okLet l) : letB (letD l) = true := by
  show (decide (0 < (l.map pairD).length) && (((l.map pairD).map pairB).all id && risP ((l.map pairD).map pairOf))) = true
  rw [risP_yes h.2.2.1, List.length_map, decide_eq_true (show 0 < l.length by have := h.1; omega), Bool.and_true, Bool.true_and, List.all_eq_true]
  intro b hb
  obtain ⟨d, hd, rfl⟩ := List.mem_map.mp hb
  obtain ⟨x, hx, rfl⟩ := List.mem_map.mp hd
  exact pair_yes (h.2.2.2 x hx)
theorem in_yes {n0 n1 : Nat} {p : IP} (h : p.1 < n0 ∧ p.2 < n1) : inB n0 n1 (pairD (iI p)) = true := by
  show (decide ((0 : Int) ≤ (p.1 : Int) ∧ (p.1 : Int) ≤ (n0 : Int) - 1) && decide ((0 : Int) ≤ (p.2 : Int) ∧ (p.2 : Int) ≤ (n1 : Int) - 1)) = true
  rw [decide_eq_true (show (0 : Int) ≤ (p.1 : Int) ∧ (p.1 : Int) ≤ (n0 : Int) - 1 by omega), decide_eq_true (show (0 : Int) ≤ (p.2 : Int) ∧ (p.2 : Int) ≤ (n1 : Int) - 1 by omega)]
  rfl
theorem small_row {row : List Int} (h : okRow row) : small (rowD row) := fun ds e => by
  cases e
  rw [List.length_map]
  have := h.2.1
  omega
end TA

set_option Elab.async false
set_option maxRecDepth 100000
set_option maxHeartbeats 4000000
namespace TA
open PySem L2 PyProof.Rows
set_option linter.unusedVariables false
structure Txt2 (K : PySem.W.Frag) (mg : Str → Option Value) : Prop where
  sorted : mg "sorted" = none
  set : mg "set" = none
  max : mg "max" = none
  zip : mg "zip" = none
  dict : mg "dict" = none
theorem hu65_of {A : Around} {k : Nat} (hr : Room k A) : A.units + 65 < cLine := by have := hr.un; omega
theorem keyT_turns {d : Addr} {o : Obj} {kvs : List (List Key × V)} {H0 : Hp} {Qd : Hp → Prop} {B : (Hp → Prop) → V → Hp → Prop} (Pv : Nat → Hp → Prop) (start : Pv 0 H0) (still : ∀ i H, Pv i H → H d = some (.frz o (.dT kvs)))
    (turn : ∀ i k v q H, kvs[i]? = some (k, v) → H q = some (.tup (k.map kV)) → Pv i H → B (Pv (i + 1)) (.ref q) H) (last : ∀ H, Pv kvs.length H → Qd H) :
    ∃ W : Nat → Nat → Hp → Prop, (∃ m, W 0 m H0) ∧ ∀ i m H, W i m H →
      ((Itkt d o kvs).stop i H ∧ Qd H) ∨ ((Itkt d o kvs).go i H ∧ ∃ Nx : Hp → Prop, (∀ H', Nx H' → ∃ m', m' < m ∧ W (i + 1) m' H') ∧ ∀ x H', (Itkt d o kvs).yld i H x H' → B Nx x H') :=
  turns kvs.length Pv start (fun H w => ⟨⟨still _ H w, Nat.le_refl _⟩, last H w⟩) fun i H hi w => ⟨⟨still i H w, hi⟩, fun x H' ⟨e, k, v, q, e1, e2, e3⟩ => by rw [e, e2]; exact turn i k v q H e1 e3 w⟩
theorem itemT_turns {d : Addr} {o : Obj} {kvs : List (List Key × V)} {H0 : Hp} {Qd : Hp → Prop} {B : (Hp → Prop) → V → Hp → Prop} (Pv : Nat → Hp → Prop) (start : Pv 0 H0) (still : ∀ i H, Pv i H → H d = some (.frz o (.dT kvs)))
    (turn : ∀ i k v q T H, kvs[i]? = some (k, v) → H q = some (.tup (k.map kV)) → H T = none → Pv i H → B (Pv (i + 1)) (.ref T) (upd H T (.tup [.ref q, v]))) (last : ∀ H, Pv kvs.length H → Qd H) :
    ∃ W : Nat → Nat → Hp → Prop, (∃ m, W 0 m H0) ∧ ∀ i m H, W i m H →
      ((Itit d o kvs).stop i H ∧ Qd H) ∨ ((Itit d o kvs).go i H ∧ ∃ Nx : Hp → Prop, (∀ H', Nx H' → ∃ m', m' < m ∧ W (i + 1) m' H') ∧ ∀ x H', (Itit d o kvs).yld i H x H' → B Nx x H') :=
  turns kvs.length Pv start (fun H w => ⟨⟨still _ H w, Nat.le_refl _⟩, last H w⟩) fun i H hi w => ⟨⟨still i H w, hi⟩, fun x H' ⟨T, q, k, v, e1, e2, e3, e4, e5⟩ => by rw [e3, e5]; exact turn i k v q T H e1 e2 e4 w⟩
/-! what comes, each once -/
def sel (h : Nat) (p : IP) : Nat := if h = 0 then p.1 else p.2
def distStep (acc : List Int) (x : Int) : List Int := if x ∈ acc then acc else acc ++ [x]
def dist (l : List Int) : List Int := l.foldl distStep []
theorem dist_snoc (l : List Int) (x : Int) : dist (l ++ [x]) = distStep (dist l) x := by
  unfold dist
  rw [List.foldl_append]
  rfl
theorem dist_mem_aux (x : Int) : ∀ (l acc : List Int), x ∈ l.foldl distStep acc ↔ x ∈ acc ∨ x ∈ l
  | [], acc => by simp
  | y :: l, acc => by
    rw [List.foldl_cons, dist_mem_aux x l]
    unfold distStep
    split
    · rename_i h
      constructor
      · rintro (a | a)
        · exact .inl a
        · exact .inr (List.mem_cons_of_mem _ a)
      · rintro (a | a)
        · exact .inl a
        · rcases List.mem_cons.mp a with rfl | a
          · exact .inl h
          · exact .inr a
    · rw [List.mem_append, List.mem_singleton, List.mem_cons]
      constructor
      · rintro ((a | a) | a)
        · exact .inl a
        · exact .inr (.inl a)
        · exact .inr (.inr a)
      · rintro (a | a | a)
        · exact .inl (.inl a)
        · exact .inl (.inr a)
        · exact .inr a
theorem dist_mem {l : List Int} {x : Int} : x ∈ dist l ↔ x ∈ l := by
  unfold dist
  rw [dist_mem_aux]
  simp
theorem dist_nd_aux : ∀ (l acc : List Int), acc.Nodup → (l.foldl distStep acc).Nodup
  | [], _, h => h
  | y :: l, acc, h => by
    rw [List.foldl_cons]
    refine dist_nd_aux l _ ?_
    unfold distStep
    split
    · exact h
    · rename_i c
      exact List.nodup_append.mpr ⟨h, by simp, fun a ha b hb e => by rw [List.mem_singleton] at hb; subst hb; subst e; exact c ha⟩
theorem dist_nd (l : List Int) : (dist l).Nodup := dist_nd_aux l [] List.nodup_nil
theorem nodup_sub : ∀ {xs ys : List Int}, xs.Nodup → (∀ x ∈ xs, x ∈ ys) → xs.length ≤ ys.length
  | [], _, _, _ => Nat.zero_le _
  | x :: xs, ys, h, s => by
    have hx := s x List.mem_cons_self
    obtain ⟨h1, h2⟩ := List.nodup_cons.mp h
    have r := nodup_sub (xs := xs) (ys := ys.erase x) h2 fun y hy => by
      have ne : y ≠ x := fun e => h1 (e ▸ hy)
      exact (List.mem_erase_of_ne ne).mpr (s y (List.mem_cons_of_mem _ hy))
    rw [List.length_erase_of_mem hx] at r
    have : 0 < ys.length := List.length_pos_of_mem hx
    rw [List.length_cons]
    omega
/-- all below n come, nothing else does -/
theorem dist_all {l : List Int} {n : Nat} (h1 : ∀ x ∈ l, ∃ a : Nat, a < n ∧ x = (a : Int)) (h2 : ∀ a : Nat, a < n → (a : Int) ∈ l) : (dist l).length = n := by
  have e : ((List.range n).map fun (a : Nat) => (a : Int)).length = n := by rw [List.length_map, List.length_range]
  have nd : ((List.range n).map fun (a : Nat) => (a : Int)).Nodup := List.Pairwise.map _ (fun a b (h : a ≠ b) => by show (a : Int) ≠ (b : Int); omega) List.nodup_range
  refine Nat.le_antisymm ?_ ?_
  · rw [← e]
    refine nodup_sub (dist_nd l) fun x hx => ?_
    obtain ⟨a, ha, rfl⟩ := h1 x (dist_mem.mp hx)
    exact List.mem_map.mpr ⟨a, List.mem_range.mpr ha, rfl⟩
  · have r := nodup_sub (xs := (List.range n).map fun (a : Nat) => (a : Int)) (ys := dist l) nd fun x hx => by
      obtain ⟨a, ha, rfl⟩ := List.mem_map.mp hx
      exact dist_mem.mpr (h2 a (List.mem_range.mp ha))
    rw [e] at r
    exact r
theorem dist_len_le (l : List Int) : (dist l).length ≤ l.length := nodup_sub (dist_nd l) fun x hx => dist_mem.mp hx
/-- row h of what is let alone -/
theorem AlAt.row {H : Hp} {v : V} {al : Nat → List (List Int)} (h : AlAt H v al) : ∃ t x0 x1, v = .ref t ∧ H t = some (.lst [x0, x1]) ∧ ∀ k, k < 2 → ∃ x, ([x0, x1] : List V)[k]? = some x ∧ RowsAt H x (al k) := by
  obtain ⟨t, x0, x1, e, h, a, b⟩ := h
  refine ⟨t, x0, x1, e, h, fun k hk => ?_⟩
  obtain rfl | rfl : k = 0 ∨ k = 1 := by omega
  · exact ⟨x0, rfl, a⟩
  · exact ⟨x1, rfl, b⟩
theorem kI_at {p : IP} {h : Nat} (hh : h < 2) : ((kI p).map kV)[h]? = some (.int (sel h p : Int)) := by
  obtain rfl | rfl : h = 0 ∨ h = 1 := by omega
  · rfl
  · rfl
theorem dec_nat {a b : Nat} : decide (V.int (a : Int) = V.int (b : Int)) = decide (a = b) := by
  by_cases c : a = b
  · rw [decide_eq_true c, c]; exact decide_eq_true rfl
  · rw [decide_eq_false c]; exact decide_eq_false fun e => by injection e with e; omega
def spEach (K : PySem.W.Frag) : Sp := fun vs H Q _ => ∃ (d : Addr) (v : V) (h : Nat) (kvs : List (List Key × V)) (ips : List IP) (al : Nat → List (List Int)), vs = [.ref d, v, .int (h : Int)] ∧ h < 2 ∧ H d = some (.dT kvs) ∧ kvs.map (·.1) = ips.map kI ∧ AlAt H v al ∧ ips.length ≤ 60 ∧
  ∀ H', Same H H' → Q (.bl (decide ((dist (ips.map fun p => ((sel h p : Nat) : Int))).length = (al h).length))) H'
section
variable {P : Program} {w : World} {K : PySem.W.Frag} {mg : Str → Option Value} {base : Heap}
abbrev nEach : List Str := ["both", "alone", "hand", "pair"]
theorem sc_each : FnScope nEach ["both", "alone", "hand"] (defScope s_each_comes) := ⟨rfl, rfl, rfl, by decide +kernel, rfl, by decide +kernel, by decide +kernel⟩
theorem ok_each {f : Addr} {fd : FuncData} (F : Fun K "each_comes" "each_comes" s_each_comes f fd) (T : Txt K mg) (T2 : Txt2 K mg) : FnOk P w K mg base CX0 1 f fd ["both", "alone", "hand"] (spEach K) := by
  refine F.ok sc_each (fun vs H Q E h => ?_) (fun cdv A outer s H vs Q E hr h => ?_)
  · obtain ⟨d, v, h, kvs, ips, al, rfl, _⟩ := h
    rfl
  obtain ⟨d, v, h, kvs, ips, al, rfl, hh, hd, hk, hA, hn, q⟩ := h
  have nd := sc_each.nd
  refine ⟨_, (pss_one (ps_ret (pe_cmpR op_eq (pe_callB call_len_SI (by rfl) T.len PySem.boot_len (pa_cons (pe_lock (pe_scI (own := [("pair", 3)]) (g := (gName 3)) (tt := tYes) (te := (tOp (rIxT K) (tVar 3) (tVar 2))) rfl nd (pi_keys (pv 0)) (blkOk_by (N := nEach) (sc := defScope s_each_comes) (by decide +kernel)) (fun _ _ _ _ _ => (by exact (pg_name (i := 3) nd rfl (Or.inl rfl)))) (fun _ _ _ _ _ => pts_nil) (fun _ _ _ _ _ => (by exact (pe_ix ix_tup (pv 3) (pv 2) (fun _ _ => rfl)))))) pa_nil)) (pe_callB call_len_seq (by rfl) T.len PySem.boot_len (pa_cons (pe_ix ix_list (pv 1) (pv 2) (fun _ _ => rfl)) pa_nil)) (nomark _)))), ?_⟩
  have hkl : kvs.length = ips.length := by
    have := congrArg List.length hk
    rwa [List.length_map, List.length_map] at this
  refine ⟨d, _, hd, trivial, fun od => ?_⟩
  have hd1 : (upd H d (.frz od (.dT kvs))) d = some (.frz od (.dT kvs)) := upd_same
  refine ⟨_, rfl, d, od, rfl, .inr ⟨kvs, hd1, fun D hD => ?_⟩⟩
  have nD : d ≠ D := ne_of_none hd1 hD
  refine keyT_turns (fun i H' => But d H H' ∧ H' d = some (.frz od (.dT kvs)) ∧ H' D = some (SetO w D (fun j => decide (j ∈ dist ((ips.take i).map fun p => ((sel h p : Nat) : Int)))) (dist ((ips.take i).map fun p => ((sel h p : Nat) : Int))).length)) ?_ (fun i H' h => h.2.1) ?_ ?_
  · refine ⟨But.at.trans (.same (same_new hD _)), by rw [upd_ne nD]; exact hd1, ?_⟩
    rw [upd_same]
    exact congrArg (fun z => some (SetO w D z 0)) (funext fun j => by simp [dist])
  · rintro i k v' qa H' hi hq ⟨b1, e1, e2⟩
    have hi2 : i < ips.length := by rw [← hkl]; exact (List.getElem?_eq_some_iff.mp hi).1
    have ek : k = kI ips[i] := by
      have z : (kvs.map (·.1))[i]? = some k := by rw [List.getElem?_map, hi]; rfl
      rw [hk, List.getElem?_map, List.getElem?_eq_getElem hi2] at z
      exact (Option.some.inj z).symm
    subst ek
    refine ⟨rfl, _, rfl, _, rfl, qa, _, _, _, rfl, rfl, SqT.of hq, atI_nat (kI_at hh), _, _, _, rfl, e2, ?_, ?_⟩
    · have := dist_len_le ((ips.take i).map fun p => ((sel h p : Nat) : Int))
      rw [List.length_map, List.length_take] at this
      unfold scanBound
      omega
    · have hDn : H D = none := by
        cases e : H D with
        | none => rfl
        | some o =>
          have z := But.at (H := H) (o := .frz od (.dT kvs)) D o (Ne.symm nD) e
          rw [z] at hD
          cases hD
      refine ⟨b1.new hDn, by rw [upd_ne nD]; exact e1, ?_⟩
      have et : (ips.take (i + 1)).map (fun p => ((sel h p : Nat) : Int)) = (ips.take i).map (fun p => ((sel h p : Nat) : Int)) ++ [((sel h ips[i] : Nat) : Int)] := by
        rw [List.take_add_one, List.getElem?_eq_getElem hi2, List.map_append]
        rfl
      rw [upd_same, et, dist_snoc]
      generalize dist ((ips.take i).map fun p => ((sel h p : Nat) : Int)) = L
      generalize ((sel h ips[i] : Nat) : Int) = x
      unfold distStep
      by_cases c : x ∈ L
      · rw [if_pos c, if_pos (decide_eq_true c)]
        refine congrArg (fun z => some (SetO w D z L.length)) (funext fun j => ?_)
        by_cases cj : j = x
        · subst cj; simp [c]
        · simp [cj]
      · rw [if_neg c, if_neg (by simp [c])]
        rw [List.length_append]
        refine congrArg (fun z => some (SetO w D z (L.length + 1))) (funext fun j => ?_)
        by_cases cj : j = x
        · subst cj; simp
        · simp [cj]
  · rintro H1 ⟨b1, e1, e2⟩
    rw [hkl, List.take_length] at e2
    have s1 : Same H (upd H1 d (.dT kvs)) := b1.unlock hd
    refine ⟨e1, D, _, _, rfl, (by rw [upd_ne (Ne.symm nD)]; exact e2), ?_⟩
    obtain ⟨t, x0, x1, rfl, ht, hrow⟩ := hA.row
    obtain ⟨x, hx, r, xs, rfl, hr2, ha2⟩ := hrow h hh
    refine ⟨_, rfl, _, rfl, t, _, _, _, rfl, rfl, SqL.of (s1 _ _ ht), atI_nat hx, r, xs, rfl, .inl (SqL.of (s1 _ _ hr2)), rfl, ?_⟩
    rw [dec_nat, ha2.len]
    exact q _ s1
end
end TA

set_option Elab.async false
set_option maxRecDepth 100000
set_option maxHeartbeats 4000000
namespace TA
open PySem L2 PyProof.Rows
set_option linter.unusedVariables false
theorem AlAt.at2 {K : PySem.W.Frag} {H : Hp} {v : V} {al : Nat → List (List Int)} (h : AlAt H v al) : ∃ t, v = .ref t ∧ AloneAt K H t (al 0).length (al 1).length := by
  obtain ⟨t, x0, x1, e, h, ⟨r0, xs0, rfl, h0, a0⟩, ⟨r1, xs1, rfl, h1, a1⟩⟩ := h
  exact ⟨t, e, ⟨r0, r1, xs0, xs1, SqL.of h, SqL.of h0, SqL.of h1, a0.len, a1.len⟩⟩
theorem all_true (n : Nat) : (List.replicate n true).all id = true := by
  rw [List.all_eq_true]
  intro b hb
  exact (List.mem_replicate.mp hb).2
theorem rep_snoc {n : Nat} : (List.replicate n true).map V.bl ++ [V.bl true] = (List.replicate (n + 1) true).map V.bl := by
  rw [List.replicate_succ', List.map_append]
  rfl
theorem comes_all {T : TD} (W : WF T) {h : Nat} (hh : h < 2) : (dist ((T.bo.map (·.1)).map fun p => ((sel h p : Nat) : Int))).length = (T.al h).length := by
  refine dist_all (fun x hx => ?_) (fun a ha => ?_)
  · obtain ⟨p, hp, rfl⟩ := List.mem_map.mp hx
    obtain ⟨e, he, rfl⟩ := List.mem_map.mp hp
    refine ⟨_, ?_, rfl⟩
    obtain ⟨r1, r2⟩ := W.rng e he
    obtain rfl | rfl : h = 0 ∨ h = 1 := by omega
    · exact r1
    · exact r2
  · obtain rfl | rfl : h = 0 ∨ h = 1 := by omega
    · obtain ⟨e, he, rfl⟩ := W.com0 a ha
      exact List.mem_map.mpr ⟨e.1, List.mem_map.mpr ⟨e, he, rfl⟩, rfl⟩
    · obtain ⟨e, he, rfl⟩ := W.com1 a ha
      exact List.mem_map.mpr ⟨e.1, List.mem_map.mpr ⟨e, he, rfl⟩, rfl⟩
theorem small_let {l : List (Int × Int)} (h : okLet l) : small (letD l) := fun ds e => by
  cases e
  rw [List.length_map]
  have := h.2.1
  omega
theorem keys_of {H : Hp} : ∀ {kvs : List (List Key × V)} {bo : BD}, A2 (EnAt H) kvs bo → kvs.map (·.1) = (bo.map (·.1)).map kI
  | _, _, .nil => rfl
  | _, _, .cons a b => by rw [List.map_cons, List.map_cons, List.map_cons, keys_of b, a.1]
theorem kI_tp {H : Hp} {q : Addr} {p : IP} (h : H q = some (.tup ((kI p).map kV))) : TpAt H (.ref q) (iI p) := ⟨q, rfl, h⟩
def spBoth (K : PySem.W.Frag) : Sp := fun vs H Q _ => ∃ (d : Addr) (v : V) (T : TD), vs = [.ref d, v] ∧ BoAt H d T.bo ∧ AlAt H v T.al ∧ WF T ∧ ∀ H', Same H H' → Q (.bl true) H'
section
variable {P : Program} {w : World} {K : PySem.W.Frag} {mg : Str → Option Value} {base : Heap}
abbrev nBoth : List Str := ["thing", "alone", "pair", "let", "hand"]
theorem sc_both : FnScope nBoth ["thing", "alone"] (defScope s_is_both) := ⟨rfl, rfl, rfl, by decide +kernel, rfl, by decide +kernel, by decide +kernel⟩
theorem ok_both {f g1 g2 g3 : Addr} {fd d1 d2 d3 : FuncData} (F : Fun K "is_both" "is_both" s_is_both f fd) (T : Txt K mg) (T2 : Txt2 K mg) (U : TxtH K mg) (W1 : Def P w K mg base "is_input_pair" ["thing", "alone"] 3 (spInp K) g1 d1)
    (W2 : Def P w K mg base "is_let" ["thing"] 5 (spLetB K) g2 d2) (W3 : Def P w K mg base "each_comes" ["both", "alone", "hand"] 1 (spEach K) g3 d3) : FnOk P w K mg base CX0 6 f fd ["thing", "alone"] (spBoth K) := by
  refine F.ok sc_both (fun vs H Q E h => ?_) (fun cdv A outer s H vs Q E hr h => ?_)
  · obtain ⟨d, v, D, rfl, _⟩ := h
    rfl
  obtain ⟨d, v, D, rfl, ⟨kvs, hd, ha⟩, hA, hW, q⟩ := h
  obtain ⟨hT, mH, hH⟩ := U.hands
  have nd := sc_both.nd
  refine ⟨_, (pss_one (ps_ret (pe_and (pe_callB call_isi (by rfl) T.isi boot_isinstance (pa_cons (pv 0) (pa_cons (pe_bltn (v := .ty "dict") (by rfl) T2.dict boot_dict rfl) pa_nil))) (pe_and (pe_callB (cr_all rfl) (by rfl) T.all (by decide +kernel) (pa_cons (pe_lock (pe_lc (own := [("pair", 2), ("let", 3)]) (g := (gTup K 2 (gCons (gName 2) (gCons (gName 3) gNil)))) (tt := tYes) (te := (tAndV (tCall (spInp K) [] E0 (tCons (tVar 2) (tCons (tVar 1) tNil))) (tCall (spLetB K) [] E0 (tCons (tVar 3) tNil)))) rfl nd (pi_itemsT (pv 0)) (blkOk_by (N := nBoth) (sc := defScope s_is_both) (by decide +kernel)) (fun _ _ _ _ _ => (by exact (pg_tup (by rfl) (pgs_cons (pg_name (i := 2) nd rfl (Or.inl rfl)) (pgs_cons (pg_name (i := 3) nd rfl (Or.inl rfl)) pgs_nil))))) (fun _ _ _ _ _ => pts_nil) (fun _ _ _ _ _ => (by exact (pe_and (pe_call W1.G (hr.mono (by decide)) rfl W1.m W1.k W1.b .nil pass0 (pa_cons (pv 2) (pa_cons (pv 1) pa_nil))) (pe_one (pe_call W2.G (hr.mono (by decide)) rfl W2.m W2.k W2.b .nil pass0 (pa_cons (pv 3) pa_nil)))))))) pa_nil)) (pe_one (pe_callB (cr_all rfl) (by rfl) T.all (by decide +kernel) (pa_cons (pe_lc (own := [("hand", 4)]) (g := (gName 4)) (tt := tYes) (te := (tCall (spEach K) [] E0 (tCons (tVar 0) (tCons (tVar 1) (tCons (tVar 4) tNil))))) rfl nd (pi_tup (pe_glob (v := .ref hT) rfl mH rfl)) (blkOk_by (N := nBoth) (sc := defScope s_is_both) (by decide +kernel)) (fun _ _ _ _ _ => (by exact (pg_name (i := 4) nd rfl (Or.inl rfl)))) (fun _ _ _ _ _ => pts_nil) (fun _ _ _ _ _ => (by exact (pe_call W3.G (hr.mono (by decide)) rfl W3.m W3.k W3.b .nil pass0 (pa_cons (pv 0) (pa_cons (pv 1) (pa_cons (pv 4) pa_nil))))))) pa_nil))))))), ?_⟩
  have hkl := ha.len
  refine ⟨_, rfl, V.ref d, .ty "dict", .type "dict", .type "dict", true, rfl, .ty "dict", .base (.dT hd), kit_ty (by decide +kernel), _, rfl, iteT ?_⟩
  refine ⟨d, _, hd, trivial, fun od => ?_⟩
  have hd1 : (upd H d (.frz od (.dT kvs))) d = some (.frz od (.dT kvs)) := upd_same
  refine ⟨_, rfl, d, od, kvs, rfl, hd1, fun L hL => ?_⟩
  have nL : d ≠ L := ne_of_none hd1 hL
  have hLn : H L = none := by
    cases e : H L with
    | none => rfl
    | some o =>
      have z := But.at (H := H) (o := .frz od (.dT kvs)) L o (Ne.symm nL) e
      rw [z] at hL
      cases hL
  refine itemT_turns (fun i H' => But d H H' ∧ H' d = some (.frz od (.dT kvs)) ∧ H' L = some (.lst ((List.replicate i true).map V.bl))) ⟨But.at.trans (.same (same_new hL _)), by rw [upd_ne nL]; exact hd1, upd_same⟩ (fun i H' h => h.2.1) ?_ ?_
  · rintro i k x qa Tt H' hi hq hTn ⟨b1, e1, e2⟩
    obtain ⟨eb, hbi, ek, hx⟩ := ha.get hi
    have hm := List.mem_of_getElem? hbi
    dsimp only at ek hx
    subst ek
    have s1 := same_new hTn (.tup [V.ref qa, x])
    have kp : Kp H (upd H' Tt (.tup [V.ref qa, x])) := (b1.kp hd nf_dT).trans (.same s1)
    obtain ⟨al, rfl, hAl⟩ := (hA.mono kp).at2 (K := K)
    have hi2 : i < kvs.length := (List.getElem?_eq_some_iff.mp hi).1
    refine ⟨Tt, _, rfl, SqT.of upd_same, rfl, _, _, rfl, _, _, rfl, rfl, rfl, _, rfl, _, rfl, _, _, al, _, _, rfl, (kI_tp (s1 _ _ hq)).dp, hAl, fun H2 s2 => ?_⟩
    rw [in_yes (hW.rng eb hm)]
    refine ⟨_, rfl, iteT ⟨_, rfl, _, _, rfl, ((hx.mono kp).mono (.same s2)).dp, small_let (hW.lets eb hm), fun H3 s3 => ?_⟩⟩
    rw [let_yes (hW.lets eb hm)]
    have s13 := (s1.trans s2).trans s3
    refine ⟨_, s13 _ _ e2, ?_, (b1.trans (.same s13)).new hLn, by rw [upd_ne nL]; exact s13 _ _ e1, by rw [upd_same, rep_snoc]⟩
    rw [List.length_map, List.length_replicate]
    have := hW.many
    exact Nat.lt_of_lt_of_le (show i < 100 by omega) (by decide)
  · rintro H1 ⟨b1, e1, e2⟩
    have s1 : Same H (upd H1 d (.dT kvs)) := b1.unlock hd
    refine ⟨e1, L, _, rfl, SqL.of (by rw [upd_ne (Ne.symm nL)]; exact e2), ?_⟩
    rw [all_true]
    refine ⟨_, rfl, iteT ⟨hT, rfl, ⟨_, hH _⟩, fun L2 hL2 => ?_⟩⟩
    generalize upd H1 d (.dT kvs) = H2 at s1 hL2 ⊢
    refine tup_turns (xs := [V.int 0, V.int 1]) (fun i H' => Same H H' ∧ H' L2 = some (.lst ((List.replicate i true).map V.bl))) ⟨s1.trans (same_new hL2 _), upd_same⟩ (fun i H' _ _ => hH H') ?_ ?_
    · rintro i z H' hz ⟨s3, h3⟩
      have hi : i < 2 := (List.getElem?_eq_some_iff.mp hz).1
      obtain rfl : z = .int (i : Int) := by
        obtain rfl | rfl : i = 0 ∨ i = 1 := by omega
        · simpa using hz.symm
        · simpa using hz.symm
      obtain ⟨al, x0, x1, rfl, _⟩ := id hA
      refine ⟨rfl, _, rfl, _, rfl, _, rfl, d, _, i, kvs, D.bo.map (·.1), D.al, rfl, hi, s3 _ _ hd, keys_of ha, hA.mono (.same s3), by rw [List.length_map]; exact hW.many, fun H4 s4 => ?_⟩
      rw [comes_all hW hi, decide_eq_true rfl]
      have hL2n : H L2 = none := by
        cases e : H L2 with
        | none => rfl
        | some o => rw [s1 _ _ e] at hL2; cases hL2
      refine ⟨_, s4 _ _ h3, ?_, same_upd (s3.trans s4) hL2n, by rw [upd_same, rep_snoc]⟩
      rw [List.length_map, List.length_replicate]
      exact Nat.lt_of_lt_of_le (show i < 100 by omega) (by decide)
    · rintro H3 ⟨s3, h3⟩
      refine ⟨L2, _, rfl, SqL.of h3, ?_⟩
      rw [all_true]
      exact q _ s3
end
end TA

set_option Elab.async false
set_option maxRecDepth 100000
set_option maxHeartbeats 4000000
namespace TA
open PySem L2 PyProof.Rows
set_option linter.unusedVariables false
abbrev s_init : Stmt := inClass s_Task 0
abbrev s_eq : Stmt := inClass s_Task 1
abbrev s_inputs : Stmt := inClass s_Task 2
abbrev s_pairs : Stmt := inClass s_Task 3
theorem kfld : ¬ (("alone" : Str) = "both") := by decide +kernel
/-- a task's fields -/
def flds (a d : Addr) : List (Str × V) := putF "both" (.ref d) (putF "alone" (.ref a) [])
theorem flds_eq (a d : Addr) : flds a d = ([("alone", V.ref a), ("both", V.ref d)] : List (Str × V)) := by
  show (if ("alone" : Str) = "both" then [(("alone" : Str), V.ref d)] else (("alone" : Str), V.ref a) :: putF "both" (V.ref d) []) = ([("alone", V.ref a), ("both", V.ref d)] : List (Str × V))
  rw [if_neg kfld]
  all_goals rfl
theorem flds_alone (a d : Addr) : (flds a d).lookup ("alone" : Str) = some (.ref a) := by
  unfold flds
  rw [lookup_putF, if_neg kfld, lookup_putF, if_pos rfl]
theorem flds_both (a d : Addr) : (flds a d).lookup ("both" : Str) = some (.ref d) := by
  unfold flds
  rw [lookup_putF, if_pos rfl]
theorem flds_no (a d : Addr) {m : Str} (h1 : ¬ m = "both") (h2 : ¬ m = "alone") : (flds a d).lookup m = none := by
  unfold flds
  rw [lookup_putF, if_neg h1, lookup_putF, if_neg h2]
  all_goals rfl
/-- a task stands at p -/
def TaskAt (C : Addr) (H : Hp) (p : Addr) (T : TD) : Prop := ∃ dx a d, H p = some (.ins C dx (flds a d)) ∧ AlAt H (.ref a) T.al ∧ BoAt H d T.bo
theorem TaskAt.mono {C : Addr} {H H' : Hp} (s : Same H H') {p : Addr} {T : TD} (h : TaskAt C H p T) : TaskAt C H' p T := by
  obtain ⟨dx, a, d, h1, h2, h3⟩ := h
  exact ⟨dx, a, d, s _ _ h1, h2.mono (.same s), h3.mono s⟩
/-- a task whose dict is perhaps walked just now -/
def BoR (H : Hp) (d : Addr) (bo : BD) : Prop := ∃ kvs, Rd H d (.dT kvs) ∧ A2 (EnAt H) kvs bo
def TaskR (C : Addr) (H : Hp) (p : Addr) (T : TD) : Prop := ∃ dx a d, H p = some (.ins C dx (flds a d)) ∧ AlAt H (.ref a) T.al ∧ BoR H d T.bo
theorem rd_same {H H' : Hp} (s : Same H H') {a : Addr} {u : HO} (h : Rd H a u) : Rd H' a u := by
  rcases h with h | ⟨o, h⟩
  · exact .inl (s _ _ h)
  · exact .inr ⟨o, s _ _ h⟩
theorem rd_some {H : Hp} {a : Addr} {u : HO} (h : Rd H a u) : H a ≠ none := by
  rcases h with h | ⟨o, h⟩ <;> rw [h] <;> exact fun c => by cases c
theorem BoR.mono {H H' : Hp} (s : Same H H') {v} {p} (h : BoR H v p) : BoR H' v p := by
  obtain ⟨kvs, h, a⟩ := h
  exact ⟨kvs, rd_same s h, a.imp fun _ _ r => r.mono (.same s)⟩
theorem TaskAt.r {C : Addr} {H : Hp} {p : Addr} {T : TD} (h : TaskAt C H p T) : TaskR C H p T := by
  obtain ⟨dx, a, d, h1, h2, kvs, h3, h4⟩ := h
  exact ⟨dx, a, d, h1, h2, kvs, .inl h3, h4⟩
theorem TaskR.mono {C : Addr} {H H' : Hp} (s : Same H H') {p : Addr} {T : TD} (h : TaskR C H p T) : TaskR C H' p T := by
  obtain ⟨dx, a, d, h1, h2, h3⟩ := h
  exact ⟨dx, a, d, s _ _ h1, h2.mono (.same s), h3.mono s⟩
theorem dget_rd {H : Hp} {a b : Addr} {kvs : List (List Key × V)} {k : List Key} (e : Rd H a (.dT kvs)) (eb : H b = some (.tup (k.map kV))) : DGet H a (.ref b) (valV kvs k) := .inr ⟨kvs, k, b, e, rfl, eb, rfl⟩
def rLenTR : List V → Hp → VK → Prop := fun xs H Q => ∃ (p : Addr) (kvs : List (List Key × V)), xs = [.ref p] ∧ Rd H p (.dT kvs) ∧ Q (.int ((kvs.length : Nat) : Int)) H
theorem len_dTR {X : Cx} : CallR X (.builtin "len") rLenTR := by
  intro pins s σ H xs us Q I r h
  obtain ⟨p, kvs, rfl, hp, q⟩ := h
  obtain ⟨u, rfl, rx⟩ := vals1 r
  obtain rfl : u = .ref p := rx
  obtain ⟨z, hd, ys, rel, dd⟩ := dt_rd I.hok hp
  have hl : kvs.length = ys.length := Paired.length rel
  refine call_len_dictH hd dd (by rw [← hl]; rw [sizeLine_eq] at z; omega) ?_
  rw [← hl]
  exact ⟨.int ((kvs.length : Nat) : Int), H, I.tok _, ⟨_, rfl⟩, q⟩
structure TxtC (K : PySem.W.Frag) (mg : Str → Option Value) (C : Addr) : Prop where
  cl : Cls K C
  nA : NoAttr K C "alone"
  nB : NoAttr K C "both"
  mg : mg "Task" = some (.ref C)
structure MDef (P : Program) (w : World) (K : PySem.W.Frag) (mg : Str → Option Value) (base : Heap) (C : Addr) (m : Str) (ps : List Str) (k : Nat) (sp : Sp) (f : Addr) (fd : FuncData) : Prop where
  G : FnOk P w K mg base CX0 k f fd ps sp
  b : Binds K fd ps []
  M : Meth K C m f
/-- what is new in H' behind H0, but for D -/
def nwx (H0 : Hp) (D : Addr) (H' : Hp) : Hp := fun b => if H0 b = none ∧ b ≠ D then H' b else none
theorem nwx_some {H0 : Hp} {D : Addr} {H' : Hp} {b : Addr} {o : HO} (h : nwx H0 D H' b = some o) : H0 b = none ∧ b ≠ D ∧ H' b = some o := by
  unfold nwx at h
  split at h
  · rename_i c
    exact ⟨c.1, c.2, h⟩
  · cases h
theorem nwx_put {H0 : Hp} {D : Addr} {H' : Hp} {b : Addr} {o : HO} (h0 : H0 b = none) (hD : b ≠ D) (h : H' b = some o) : nwx H0 D H' b = some o := by
  unfold nwx
  rw [if_pos ⟨h0, hD⟩, h]
theorem kp_nwx {H0 : Hp} {D : Addr} {H' : Hp} : Kp (nwx H0 D H') H' := fun b o _ h => (nwx_some h).2.2
theorem kp_nwx_but {H0 : Hp} {D : Addr} {H H' : Hp} (s : But D H H') : Kp (nwx H0 D H) (nwx H0 D H') := fun b o _ h => by
  obtain ⟨h1, h2, h3⟩ := nwx_some h
  exact nwx_put h1 h2 (s b o h2 h3)
theorem none_of_same {H H' : Hp} (s : Same H H') {b : Addr} (h : H' b = none) : H b = none := by
  cases e : H b with
  | none => rfl
  | some o => rw [s _ _ e] at h; cases h
theorem none_of_but {d : Addr} {H H' : Hp} (s : But d H H') {b : Addr} (n : b ≠ d) (h : H' b = none) : H b = none := by
  cases e : H b with
  | none => rfl
  | some o => rw [s _ _ n e] at h; cases h
theorem kp_nwx_in {H0 H1 : Hp} {D D1 : Addr} {H2 : Hp} (s : Same H0 H1) {o1 : HO} (e1 : H1 D1 = some o1) : Kp (nwx H1 D H2) (nwx H0 D1 H2) := fun b o _ h => by
  obtain ⟨h1, h2, h3⟩ := nwx_some h
  exact nwx_put (none_of_same s h1) (fun c => by subst c; rw [e1] at h1; cases h1) h3
/-- pairs let in a new list, the pairs' tuples anywhere -/
def Let2 (Hl H : Hp) (v : V) (l : List (Int × Int)) : Prop := ∃ t xs, v = .ref t ∧ Hl t = some (.lst xs) ∧ A2 (TpAt H) xs l
theorem Let2.mono {Hl Hl' H H' : Hp} (s : Kp Hl Hl') (s' : Kp H H') {v : V} {p} (h : Let2 Hl H v p) : Let2 Hl' H' v p := by
  obtain ⟨t, xs, e, h, a⟩ := h
  exact ⟨t, xs, e, s.lst h, a.imp fun _ _ r => r.mono s'⟩
def En2 (Hl H : Hp) (e : List Key × V) (b : IP × List (Int × Int)) : Prop := e.1 = kI b.1 ∧ Let2 Hl H e.2 b.2
theorem En2.mono {Hl Hl' H H' : Hp} (s : Kp Hl Hl') (s' : Kp H H') {v} {p} (h : En2 Hl H v p) : En2 Hl' H' v p := ⟨h.1, h.2.mono s s'⟩
theorem En2.en {Hl H : Hp} (s : Kp Hl H) {v} {p} (h : En2 Hl H v p) : EnAt H v p := by
  obtain ⟨e, t, xs, e2, h, a⟩ := h
  exact ⟨e, t, xs, e2, s.lst h, a⟩
theorem kI_inj {p q : IP} (h : kI p = kI q) : p = q := by
  unfold kI at h
  injection h with h1 h2
  injection h2 with h2 _
  injection h1 with h1
  injection h2 with h2
  have a : p.1 = q.1 := by omega
  have b : p.2 = q.2 := by omega
  exact Prod.ext a b
theorem valV_noneP : ∀ {kvs : List (List Key × V)} {k : List Key}, (∀ e ∈ kvs, e.1 ≠ k) → valV kvs k = none
  | [], _, _ => rfl
  | e :: r, k, h => by
    rw [valV_neg (h e List.mem_cons_self)]
    exact valV_noneP fun x hx => h x (List.mem_cons_of_mem _ hx)
theorem ltN_ne {p q : IP} (h : ltN p q) : p ≠ q := by
  rintro rfl
  rcases h with h | ⟨_, h⟩ <;> omega
/-- what a new task holds: its lists are new, all of them -/
def NewAt (C : Addr) (H H' : Hp) (p : Addr) (T : TD) : Prop := ∃ dx a d kvs, H' p = some (.ins C dx (flds a d)) ∧ AlAt (nwx H p H') (.ref a) T.al ∧ H d = none ∧ (kvs.map (·.2)).Nodup ∧ H' d = some (.dT kvs) ∧ A2 (En2 (nwx H p H') H') kvs T.bo
theorem NewAt.task {C : Addr} {H H' : Hp} {p : Addr} {T : TD} (h : NewAt C H H' p T) : TaskAt C H' p T := by
  obtain ⟨dx, a, d, kvs, h1, h2, _, _, h3, h4⟩ := h
  exact ⟨dx, a, d, h1, h2.mono kp_nwx, kvs, h3, h4.imp fun _ _ r => r.en kp_nwx⟩
def spInit (K : PySem.W.Frag) (C : Addr) : Sp := fun vs H Q _ => ∃ (p dx a d : Addr) (T : TD), vs = [.ref p, .ref a, .ref d] ∧ H p = some (.ins C dx []) ∧ AlAt H (.ref a) T.al ∧ BoAt H d T.bo ∧ WF T ∧
  ∀ H', But p H H' → NewAt C H H' p T → Q .non H'
theorem al_rows {H : Hp} {v : V} {al : Nat → List (List Int)} (h : AlAt H v al) : ∃ t xs, v = .ref t ∧ H t = some (.lst xs) ∧ A2 (RowsAt H) xs [al 0, al 1] := by
  obtain ⟨t, x0, x1, e, h, a, b⟩ := h
  exact ⟨t, _, e, h, .cons a (.cons b .nil)⟩
theorem al_of {H : Hp} {t : Addr} {xs : List V} {al : Nat → List (List Int)} (h : H t = some (.lst xs)) (a : A2 (RowsAt H) xs [al 0, al 1]) : AlAt H (.ref t) al := by
  cases a with
  | cons a b =>
    cases b with
    | cons b c =>
      cases c
      exact ⟨t, _, _, rfl, h, a, b⟩
theorem small_rows {T : TD} (W : WF T) {h : Nat} (hh : h < 2) : ∀ e ∈ (T.al h).map rowD, small e := fun e he => by
  obtain ⟨r, hr, rfl⟩ := List.mem_map.mp he
  exact small_row (W.row h hh r hr)
theorem take_get {α : Type} {l : List α} {i : Nat} {x : α} (h : l[i]? = some x) : l.take (i + 1) = l.take i ++ [x] := by
  rw [List.take_add_one, h]
  rfl
section
variable {P : Program} {w : World} {K : PySem.W.Frag} {mg : Str → Option Value} {base : Heap}
abbrev nInit : List Str := ["self", "alone", "both", "rows", "outputs", "pair", "let"]
theorem sc_init : FnScope nInit ["self", "alone", "both"] (defScope s_init) := ⟨rfl, rfl, rfl, by decide +kernel, rfl, by decide +kernel, by decide +kernel⟩
theorem ok_init {f g4 g5 C : Addr} {fd d4 d5 : FuncData} (F : Fun K "__init__" "Task.__init__" s_init f fd) (T : Txt K mg) (T2 : Txt2 K mg) (Z : TxtC K mg C) (W4 : Def P w K mg base "is_alone" ["thing"] 6 (spAlone K) g4 d4)
    (W5 : Def P w K mg base "is_both" ["thing", "alone"] 6 (spBoth K) g5 d5) : FnOk P w K mg base CX0 7 f fd ["self", "alone", "both"] (spInit K C) := by
  refine F.ok sc_init (fun vs H Q E h => ?_) (fun cdv A outer s H vs Q E hr h => ?_)
  · obtain ⟨p, dx, a, d, D, rfl, _⟩ := h
    rfl
  obtain ⟨p, dx, a, d, D, rfl, hp, hA, hB, hW, q⟩ := h
  have nd := sc_init.nd
  have hu := hu_of hr
  refine ⟨_, (pss_cons (ps_if (pt_not (pt_val (pe_call W4.G (hr.mono (by decide)) rfl W4.m W4.k W4.b .nil pass0 (pa_cons (pv 1) pa_nil))))
      pss_never
      pss_nil)
    (pss_cons (ps_if (pt_not (pt_val (pe_call W5.G (hr.mono (by decide)) rfl W5.m W5.k W5.b .nil pass0 (pa_cons (pv 2) (pa_cons (pv 1) pa_nil)))))
      pss_never
      pss_nil)
    (pss_cons (ps_fld (pv 0) (pe_lc (own := [("rows", 3)]) (g := (gName 3)) (tt := tYes) (te := (tLc (iList K (tVar 3)) (gName 4) tYes (tCB (fun xs H Q => ∃ p ys, xs = [.ref p] ∧ (SqL K H p ys ∨ SqT K H p ys) ∧ ∀ l, H l = none → Q (.ref l) (upd H l (.lst ys))) (tCons (tVar 4) tNil)) [4])) rfl nd (pi_list (pv 1)) (blkOk_by (N := nInit) (sc := defScope s_init) (by decide +kernel)) (fun _ _ _ _ _ => (by exact (pg_name (i := 3) nd rfl (Or.inl rfl)))) (fun _ _ _ _ _ => pts_nil) (fun _ _ _ _ _ => (by exact (pe_lc (own := [("outputs", 4)]) (g := (gName 4)) (tt := tYes) (te := (tCB (fun xs H Q => ∃ p ys, xs = [.ref p] ∧ (SqL K H p ys ∨ SqT K H p ys) ∧ ∀ l, H l = none → Q (.ref l) (upd H l (.lst ys))) (tCons (tVar 4) tNil))) rfl nd (pi_list (pv 3)) (blkOk_by (N := nInit)  (by kernel_rfl)) (fun _ _ _ _ _ => (by exact (pg_name (i := 4) nd rfl (Or.inl rfl)))) (fun _ _ _ _ _ => pts_nil) (fun _ _ _ _ _ => (by exact (pe_callTy call_list_of (by rfl) T.list boot_list (pa_cons (pv 4) pa_nil)))))))) rfl)
    (pss_one (ps_fld (pv 0) (pe_lock (pe_dcT (own := [("pair", 5), ("let", 6)]) (g := (gTup K 2 (gCons (gName 5) (gCons (gName 6) gNil)))) (tt := tYes) (tk := (tVar 5)) (tv := (tCB (fun xs H Q => ∃ p ys, xs = [.ref p] ∧ (SqL K H p ys ∨ SqT K H p ys) ∧ ∀ l, H l = none → Q (.ref l) (upd H l (.lst ys))) (tCons (tVar 6) tNil))) hu rfl nd (pi_itemsT (pv 2)) (blkOk_by (N := nInit) (sc := defScope s_init) (by decide +kernel)) (fun _ _ _ _ _ => (by exact (pg_tup (by rfl) (pgs_cons (pg_name (i := 5) nd rfl (Or.inl rfl)) (pgs_cons (pg_name (i := 6) nd rfl (Or.inl rfl)) pgs_nil))))) (fun _ _ _ _ _ => pts_nil) (fun _ _ _ _ _ => (by exact (pv 5))) (fun _ _ _ _ _ => (by exact (pe_callTy call_list_of (by rfl) T.list boot_list (pa_cons (pv 6) pa_nil)))))) rfl))))), ?_⟩
  refine ⟨_, rfl, _, _, rfl, hA.dp, (fun ds e => by cases e; exact (by decide : 2 ≤ 1000)), ?_, fun H1 s1 => ?_⟩
  · rintro ds e z hz
    cases e
    rcases List.mem_cons.mp hz with rfl | hz
    · refine ⟨fun es e => ?_, fun es e => ?_⟩
      · cases e
        rw [List.length_map]
        have := hW.n0 0 (by decide); omega
      · cases e
        exact small_rows hW (by decide)
    · obtain rfl := List.mem_singleton.mp hz
      refine ⟨fun es e => ?_, fun es e => ?_⟩
      · cases e
        rw [List.length_map]
        have := hW.n0 1 (by decide); omega
      · cases e
        exact small_rows hW (by decide)
  rw [alone_yes hW]
  refine ⟨true, rfl, iteF ?_⟩
  refine ⟨_, rfl, _, rfl, d, _, D, rfl, hB.mono s1, hA.mono (.same s1), hW, fun H2 s2 => ⟨true, rfl, iteF ?_⟩⟩
  have s12 := s1.trans s2
  obtain ⟨al, xs, e, hal, hrows⟩ := al_rows (hA.mono (.same s12))
  obtain rfl : a = al := by injection e
  clear e
  refine ⟨_, rfl, a, rfl, ⟨_, SqL.of hal⟩, fun D1 hD1 => ?_⟩
  have hD1n : H D1 = none := none_of_same s12 hD1
  refine list_turns (xs := xs) (fun i H' => Same H2 H' ∧ ∃ ys, H' D1 = some (.lst ys) ∧ A2 (RowsAt (nwx H2 D1 H')) ys ([D.al 0, D.al 1].take i)) ⟨same_new hD1 _, [], upd_same, .nil⟩ (fun i H' _ h => h.1.seq (SqL.of hal)) ?_ ?_
  · rintro i x H' hx ⟨s3, ys, hy, ay⟩
    obtain ⟨rows, hr1, t, zs, rfl, ht, az⟩ := hrows.get hx
    have ht3 := s3 _ _ ht
    have hsz : rows.length ≤ 20 := by
      have hi : i < 2 := (List.getElem?_eq_some_iff.mp hr1).1
      obtain rfl | rfl : i = 0 ∨ i = 1 := by omega
      · obtain rfl : D.al 0 = rows := by simpa using hr1
        exact (hW.n0 0 (by decide)).2
      · obtain rfl : D.al 1 = rows := by simpa using hr1
        exact (hW.n0 1 (by decide)).2
    refine ⟨rfl, _, rfl, t, rfl, ⟨_, SqL.of ht3⟩, fun D2 hD2 => ?_⟩
    refine list_turns (xs := zs) (fun j H4 => Same H' H4 ∧ ∃ us, H4 D2 = some (.lst us) ∧ A2 (RowAt (nwx H' D2 H4)) us (rows.take j)) ⟨same_new hD2 _, [], upd_same, .nil⟩ (fun j H4 _ h => h.1.seq (SqL.of ht3)) ?_ ?_
    · rintro j z H4 hz ⟨s4, us, hu4, au⟩
      obtain ⟨row, hr2, tt, rfl, htt⟩ := az.get hz
      have htt4 := s4 _ _ (s3 _ _ htt)
      refine ⟨rfl, _, rfl, tt, _, rfl, .inl (SqL.of htt4), fun l hl => ?_⟩
      have s5 := same_new hl (.lst (row.map V.int))
      have nl : l ≠ D2 := (ne_of_none hu4 hl).symm
      have hjr : us.length < rows.length := by
        rw [au.len, List.length_take]
        have := (List.getElem?_eq_some_iff.mp hr2).1
        omega
      refine ⟨us, s5 _ _ hu4, Nat.lt_of_lt_of_le (show us.length < 100 by omega) (by decide), ?_⟩
      refine ⟨same_upd (s4.trans s5) hD2, _, upd_same, ?_⟩
      rw [take_get hr2]
      refine A2.snoc (au.imp fun _ _ r => r.mono (kp_nwx_but ((But.same s5).trans But.at))) ⟨l, rfl, nwx_put (none_of_same s4 hl) nl ?_⟩
      rw [upd_ne nl]
      exact upd_same
    · rintro H4 ⟨s4, us, hu4, au⟩
      have hzl := az.len
      rw [hzl, List.take_length] at au
      have ne : D2 ≠ D1 := (ne_of_none hy hD2).symm
      refine ⟨ys, s4 _ _ hy, ?_, ?_⟩
      · rw [ay.len, List.length_take]
        exact Nat.lt_of_le_of_lt (Nat.min_le_right _ _) (by show 2 < sizeLine; decide)
      refine ⟨same_upd (s3.trans s4) hD1, _, upd_same, ?_⟩
      rw [take_get hr1]
      refine A2.snoc (ay.imp fun _ _ r => r.mono (kp_nwx_but ((But.same s4).trans But.at))) ?_
      have r0 : RowsAt (nwx H2 D1 H4) (.ref D2) rows := ⟨D2, us, rfl, nwx_put (none_of_same s3 hD2) ne hu4, au.imp fun _ _ r => r.mono (kp_nwx_in s3 hy)⟩
      exact r0.mono (kp_nwx_but But.at)
  · rintro H3 ⟨s3, ys, hy, ay⟩
    have hxl := hrows.len
    rw [hxl, List.take_length] at ay
    have hp3 := s3 _ _ (s12 _ _ hp)
    refine ⟨_, rfl, p, C, dx, _, rfl, hp3, Z.cl, Z.nA, (by show 0 < 1000; decide), ?_⟩
    have npD1 : D1 ≠ p := (ne_of_none (s12 _ _ hp) hD1).symm
    generalize hH5 : upd H3 p (.ins C dx (putF "alone" (.ref D1) [])) = H5
    have b5 : But p H H5 := by rw [← hH5]; exact (But.same (s12.trans s3)).trans But.at
    have hp5 : H5 p = some (.ins C dx (putF "alone" (.ref D1) [])) := by rw [← hH5]; exact upd_same
    have hD15 : H5 D1 = some (.lst ys) := by rw [← hH5, upd_ne npD1]; exact hy
    have ay5 : A2 (RowsAt (nwx H p H5)) ys [D.al 0, D.al 1] := ay.imp fun _ _ r => r.mono fun b o _ h => by
      obtain ⟨h1, h2, h3⟩ := nwx_some h
      have hb : b ≠ p := fun c => by subst c; rw [s12 _ _ hp] at h1; cases h1
      refine nwx_put (none_of_same s12 h1) hb ?_
      rw [← hH5, upd_ne hb]; exact h3
    obtain ⟨kvs, hd, ha⟩ := hB
    have ndp : d ≠ p := ne_of hd hp (fun z => by cases z)
    have hd5 : H5 d = some (.dT kvs) := b5 _ _ ndp hd
    have ha5 : A2 (EnAt H5) kvs D.bo := ha.imp fun _ _ r => r.mono (b5.kp hp (by rintro (⟨_, h⟩ | ⟨_, h⟩) <;> cases h))
    refine ⟨d, _, hd5, trivial, fun od => ?_⟩
    have hd6 : (upd H5 d (.frz od (.dT kvs))) d = some (.frz od (.dT kvs)) := upd_same
    refine ⟨_, rfl, d, od, kvs, rfl, hd6, fun L hL => ?_⟩
    have nL : d ≠ L := ne_of_none hd6 hL
    have hLn : H5 L = none := none_of_but But.at (Ne.symm nL) hL
    refine itemT_turns (fun i H' => But d H5 H' ∧ H' d = some (.frz od (.dT kvs)) ∧ ∃ ks, H' L = some (.dT ks) ∧ (ks.map (·.2)).Nodup ∧ A2 (En2 (nwx H5 L H') H') ks (D.bo.take i)) ⟨But.at.trans (.same (same_new hL _)), by rw [upd_ne nL]; exact hd6, [], upd_same, List.nodup_nil, .nil⟩ (fun i H' h => h.2.1) ?_ ?_
    · rintro i k x qa Tt H' hi hq hTn ⟨b1, e1, ks, e2, nks, as⟩
      obtain ⟨eb, hbi, ek, hx⟩ := ha5.get hi
      dsimp only at ek hx
      subst ek
      have s1 := same_new hTn (.tup [V.ref qa, x])
      have kp : Kp H5 (upd H' Tt (.tup [V.ref qa, x])) := (b1.kp hd5 nf_dT).trans (.same s1)
      obtain ⟨t, xs2, rfl, ht, at2⟩ := hx.mono kp
      refine ⟨Tt, _, rfl, SqT.of upd_same, rfl, _, _, rfl, _, _, rfl, rfl, rfl, _, rfl, _, rfl, t, _, rfl, .inl (SqL.of ht), fun l hl => ?_⟩
      have s2 := same_new hl (.lst xs2)
      have hil : i < D.bo.length := (List.getElem?_eq_some_iff.mp hbi).1
      have hks : ks.length < 100 := by
        rw [as.len, List.length_take]
        have := hW.many
        omega
      refine ⟨ks, _, qa, rfl, s2 _ _ (s1 _ _ hq), s2 _ _ (s1 _ _ e2), Nat.lt_of_lt_of_le hks (by decide), ?_⟩
      have nl : l ≠ L := (ne_of_none (s1 _ _ e2) hl).symm
      have hvn : valV ks (kI eb.1) = none := valV_noneP fun e he c => by
        obtain ⟨y, hy1, hy2, _⟩ := as.mem he
        rw [hy2] at c
        have c := kI_inj c
        obtain ⟨j, hj⟩ := List.getElem?_of_mem hy1
        have hjl : j < i := by
          have := (List.getElem?_eq_some_iff.mp hj).1
          rw [List.length_take] at this
          omega
        rw [List.getElem?_take_of_lt hjl] at hj
        have sr := List.pairwise_iff_getElem.mp hW.srt j i (by rw [List.length_map]; omega) (by rw [List.length_map]; exact hil) hjl
        rw [List.getElem_map, List.getElem_map, (List.getElem?_eq_some_iff.mp hj).2, (List.getElem?_eq_some_iff.mp hbi).2] at sr
        exact sr c
      rw [putK_new _ hvn]
      have s12' := s1.trans s2
      have kpl : Kp (upd (upd H' Tt (.tup [V.ref qa, V.ref t])) l (.lst xs2)) (upd (upd (upd H' Tt (.tup [V.ref qa, V.ref t])) l (.lst xs2)) L (.dT (ks ++ [(kI eb.1, V.ref l)]))) := .put (s12' _ _ e2) nf_dT
      refine ⟨(b1.trans (.same s12')).new hLn, by rw [upd_ne nL]; exact s12' _ _ e1, _, upd_same, ?_, ?_⟩
      · rw [List.map_append, List.nodup_append]
        refine ⟨nks, by simp, fun y hy' w' hw c => ?_⟩
        obtain ⟨e, he, rfl⟩ := List.mem_map.mp hy'
        obtain ⟨_, _, _, t', xs', et', ht', _⟩ := as.mem he
        rw [List.mem_singleton.mp hw, et'] at c
        injection c with c
        have h' := (nwx_some ht').2.2
        rw [c] at h'
        rw [s1 _ _ h'] at hl
        cases hl
      rw [take_get hbi]
      refine A2.snoc (as.imp fun _ _ r => r.mono (kp_nwx_but ((But.same s12').trans But.at)) ((Kp.same s12').trans kpl)) ⟨rfl, l, xs2, rfl, nwx_put ?_ nl ?_, at2.imp fun _ _ r => r.mono ((Kp.same s2).trans kpl)⟩
      · refine none_of_but (b1.trans (.same s1)) (fun c => ?_) hl
        subst c
        rw [s1 _ _ e1] at hl
        cases hl
      · rw [upd_ne nl]; exact upd_same
    · rintro H6 ⟨b1, e1, ks, e2, nks, as⟩
      rw [ha5.len, List.take_length] at as
      have s6 : Same H5 (upd H6 d (.dT kvs)) := b1.unlock hd5
      generalize hH7 : upd H6 d (.dT kvs) = H7 at s6
      have e27 : H7 L = some (.dT ks) := by rw [← hH7, upd_ne (Ne.symm nL)]; exact e2
      have kp67 : Kp H6 H7 := by rw [← hH7]; exact .put e1 nf_frz
      refine ⟨e1, ?_⟩
      have hp7 := s6 _ _ hp5
      refine ⟨_, rfl, p, C, dx, _, rfl, hp7, Z.cl, Z.nB, (by show 1 < 1000; decide), ?_⟩
      have npL : L ≠ p := fun c => by subst c; rw [hp5] at hLn; cases hLn
      have nLp : H L = none := none_of_but b5 npL hLn
      have b7 : But p H (upd H7 p (.ins C dx (flds D1 L))) := (b5.trans (.same s6)).trans But.at
      refine q _ b7 ⟨dx, D1, L, ks, upd_same, al_of (nwx_put hD1n npD1 ?_) (ay5.imp fun _ _ r => r.mono (kp_nwx_but ((But.same s6).trans But.at))), nLp, nks, ?_, as.imp fun _ _ r => r.mono (fun b o _ h => ?_) ?_⟩
      · rw [upd_ne npD1]; exact s6 _ _ hD15
      · rw [upd_ne npL]; exact e27
      · obtain ⟨h1, h2, h3⟩ := nwx_some h
        have hb : b ≠ p := fun c => by subst c; rw [hp5] at h1; cases h1
        have hbd : b ≠ d := fun c => by subst c; rw [hd5] at h1; cases h1
        refine nwx_put (none_of_but b5 hb h1) hb ?_
        rw [upd_ne hb, ← hH7, upd_ne hbd]
        exact h3
      · exact kp67.trans (.put hp7 (by rintro (⟨_, h⟩ | ⟨_, h⟩) <;> cases h))
end
end TA

set_option Elab.async false
set_option maxRecDepth 100000
set_option maxHeartbeats 4000000
namespace TA
open PySem L2 PyProof.Rows
set_option linter.unusedVariables false
theorem inV_int (x : Int) (fs : List Int) : inV (.int x) (fs.map V.int) = decide (x ∈ fs) := by
  induction fs with
  | nil => rfl
  | cons y r ih =>
    show (eqV (.int y) (.int x) || inV (.int x) (r.map V.int)) = _
    rw [ih]
    by_cases c : y = x
    · subst c
      rw [show eqV (.int y) (.int y) = true from by simp [eqV]]
      simp
    · rw [show eqV (.int y) (.int x) = false from by simp [eqV, c]]
      by_cases m : x ∈ r
      · simp [m]
      · have : ¬ x = y := fun e => c e.symm
        simp [m, this]
theorem flat_ints (fs : List Int) : (fs.map V.int).all flatV = true := by
  rw [List.all_eq_true]
  intro v hv
  obtain ⟨x, _, rfl⟩ := List.mem_map.mp hv
  rfl
def hasK (bo : BD) (xy : Int × Int) : Bool := bo.any fun e => decide (iI e.1 = xy)
theorem hasK_yes {bo : BD} {e : IP × List (Int × Int)} (h : e ∈ bo) : hasK bo (iI e.1) = true := List.any_eq_true.mpr ⟨e, h, decide_eq_true rfl⟩
def k2 (xy : Int × Int) : List Key := [.inl xy.1, .inl xy.2]
theorem k2_iff {p : IP} {xy : Int × Int} : kI p = k2 xy ↔ iI p = xy := by
  unfold kI k2 iI
  constructor
  · intro h
    injection h with h1 h2
    injection h2 with h2 _
    injection h1 with h1
    injection h2 with h2
    exact Prod.ext h1 h2
  · intro h
    rw [← h]
theorem some_hasK {H : Hp} : ∀ {kvs : List (List Key × V)} {bo : BD}, A2 (EnAt H) kvs bo → ∀ xy, (valV kvs (k2 xy)).isSome = hasK bo xy
  | _, _, .nil, _ => rfl
  | (k, v) :: kvs, b :: bo, .cons a r, xy => by
    obtain ⟨ek, _⟩ := a
    dsimp only at ek
    subst ek
    show _ = (decide (iI b.1 = xy) || hasK bo xy)
    by_cases c : iI b.1 = xy
    · rw [valV_pos (k2_iff.mpr c), decide_eq_true c]
      rfl
    · rw [valV_neg (fun h => c (k2_iff.mp h)), some_hasK r xy, decide_eq_false c, Bool.false_or]
theorem iI_inj {p q : IP} (h : iI p = iI q) : p = q := by
  unfold iI at h
  injection h with h1 h2
  exact Prod.ext (by omega) (by omega)
/-- what the dict holds at a pair that comes -/
theorem val_at {H : Hp} : ∀ {kvs : List (List Key × V)} {bo : BD}, A2 (EnAt H) kvs bo → (bo.map (·.1)).Pairwise (· ≠ ·) → ∀ e ∈ bo, ∃ v, valV kvs (kI e.1) = some v ∧ LetAt H v e.2
  | _, _, .nil, _, e, m => by cases m
  | (k, v) :: kvs, b :: bo, .cons a r, s, e, m => by
    obtain ⟨ek, hl⟩ := a
    dsimp only at ek hl
    subst ek
    rw [List.map_cons, List.pairwise_cons] at s
    rcases List.mem_cons.mp m with rfl | m
    · exact ⟨v, valV_pos rfl, hl⟩
    · rw [valV_neg (fun h => s.1 _ (List.mem_map.mpr ⟨e, m, rfl⟩) (kI_inj h))]
      exact val_at r s.2 e m
/-- the pairs in order -/
def leN (p q : IP × List (Int × Int)) : Bool := decide (p.1.1 < q.1.1 ∨ (p.1.1 = q.1.1 ∧ p.1.2 ≤ q.1.2))
def sb (T : TD) : BD := T.bo.mergeSort leN
theorem sb_perm (T : TD) : (sb T).Perm T.bo := List.mergeSort_perm _ _
theorem sb_mem {T : TD} {e : IP × List (Int × Int)} : e ∈ sb T ↔ e ∈ T.bo := (sb_perm T).mem_iff
theorem sb_sorted (T : TD) : (sb T).Pairwise fun a b => leN a b = true := by
  refine List.pairwise_mergeSort (fun a b c h1 h2 => ?_) (fun a b => ?_) _
  · have h1 := of_decide_eq_true h1
    have h2 := of_decide_eq_true h2
    refine decide_eq_true ?_
    omega
  · unfold leN
    rw [Bool.or_eq_true, decide_eq_true_eq, decide_eq_true_eq]
    omega
def rowB (d : PyData) (m : Nat) : Bool := match d with
  | .list ds => decide (ds.length = m) && (ds.map outB).all id
  | _ => false
def chosenB (d : PyData) (n0 n1 : Nat) : Bool := match d with
  | .list [d0, d1] => rowB d0 n0 && rowB d1 n1
  | _ => false
def okA (T : TD) (ch : Nat → List Int) (h a : Nat) : Prop := (ch h).getD a 0 ∈ (T.al h).getD a []
instance {T : TD} {ch : Nat → List Int} {h a : Nat} : Decidable (okA T ch h a) := by unfold okA; exact inferInstance
def spInputs (K : PySem.W.Frag) (C : Addr) : Sp := fun vs H Q _ => ∃ (p : Addr) (h : Nat) (T : TD), vs = [.ref p, .int (h : Int)] ∧ h < 2 ∧ TaskR C H p T ∧ Q (.int ((T.al h).length : Int)) H
def spPairs (K : PySem.W.Frag) (C : Addr) : Sp := fun vs H Q _ => ∃ (p : Addr) (T : TD), vs = [.ref p] ∧ TaskAt C H p T ∧ WF T ∧ ∀ (r : Addr) (xs : List V), H r = none → A2 (TpAt H) xs ((sb T).map fun e => iI e.1) → Q (.ref r) (upd H r (.lst xs))
def spPair (K : PySem.W.Frag) (C : Addr) : Sp := fun vs H Q _ => ∃ (p : Addr) (v : V) (T : TD) (xy : Int × Int), vs = [.ref p, v] ∧ TaskR C H p T ∧ WF T ∧ TpAt H v xy ∧ ∀ H', Same H H' → Q (.bl (hasK T.bo xy)) H'
def spRow (K : PySem.W.Frag) : Sp := fun vs H Q _ => ∃ (v : V) (d : PyData) (m : Nat), vs = [v, .int (m : Int)] ∧ Dp K H v d ∧ small d ∧ ∀ H', Same H H' → Q (.bl (rowB d m)) H'
def spChosen (K : PySem.W.Frag) (C : Addr) : Sp := fun vs H Q _ => ∃ (p : Addr) (v : V) (d : PyData) (T : TD), vs = [.ref p, v] ∧ TaskR C H p T ∧ Dp K H v d ∧ (∀ ds, d = .list ds → ∀ e ∈ ds, small e) ∧ ∀ H', Same H H' → Q (.bl (chosenB d (T.al 0).length (T.al 1).length)) H'
/-- what alone_fault tells -/
def AloneRes (T : TD) (ch : Nat → List Int) (fv : V) (H' : Hp) : Prop := (fv = .non ∧ ∀ h a, h < 2 → a < (T.al h).length → okA T ch h a) ∨
  ∃ r h a, fv = .ref r ∧ H' r = some (.tup [.str "alone", .int ((h : Nat) : Int), .int ((a : Nat) : Int)]) ∧ h < 2 ∧ a < (T.al h).length ∧ ¬ okA T ch h a ∧ ∀ h' a', h' < 2 → a' < (T.al h').length → (h' < h ∨ (h' = h ∧ a' < a)) → okA T ch h' a'
def spAloneF (K : PySem.W.Frag) (C : Addr) : Sp := fun vs H Q _ => ∃ (p : Addr) (v : V) (T : TD) (ch : Nat → List Int), vs = [.ref p, v] ∧ TaskAt C H p T ∧ WF T ∧ RowsAt H v [ch 0, ch 1] ∧ (∀ h, h < 2 → (ch h).length = (T.al h).length) ∧
  ∀ fv H', Same H H' → AloneRes T ch fv H' → Q fv H'
section
variable {P : Program} {w : World} {K : PySem.W.Frag} {mg : Str → Option Value} {base : Heap}
abbrev nInputs : List Str := ["self", "hand"]
theorem sc_inputs : FnScope nInputs nInputs (defScope s_inputs) := ⟨rfl, rfl, rfl, by decide +kernel, rfl, by decide +kernel, by decide +kernel⟩
theorem within_hand {h : Nat} (hh : h < 2) : within (.int (h : Int)) 0 1 = true := by
  show decide ((0 : Int) ≤ (h : Int) ∧ (h : Int) ≤ 1) = true
  exact decide_eq_true (by omega)
theorem ok_inputs {f g C : Addr} {fd gd : FuncData} (F : Fun K "inputs" "Task.inputs" s_inputs f fd) (T : Txt K mg) (Z : TxtC K mg C) (WH : Def P w K mg base "is_hand" ["thing"] 3 (spHandG K) g gd) : FnOk P w K mg base CX0 4 f fd nInputs (spInputs K C) := by
  refine F.ok sc_inputs (fun vs H Q E h => ?_) (fun cdv A outer s H vs Q E hr h => ?_)
  · obtain ⟨p, h, D, rfl, _⟩ := h
    rfl
  obtain ⟨p, h, D, rfl, hh, hT, q⟩ := h
  refine ⟨_, (pss_cons (ps_if (pt_not (pt_val (pe_call WH.G (hr.mono (by decide)) rfl WH.m WH.k WH.b .nil pass0 (pa_cons (pv 1) pa_nil))))
      pss_never
      pss_nil)
    (pss_one (ps_ret (pe_callB call_len_seq (by rfl) T.len PySem.boot_len (pa_cons (pe_ix ix_list (pe_fld (pv 0) rfl) (pv 1) (fun _ _ => rfl)) pa_nil))))), ?_⟩
  obtain ⟨dx, a, d, hp, hA, _⟩ := hT
  obtain ⟨t, x0, x1, e, ht, hrow⟩ := hA.row
  obtain rfl : a = t := by injection e
  obtain ⟨x, hx, r, xs, rfl, hr2, ha2⟩ := hrow h hh
  refine ⟨_, rfl, _, _, rfl, .int _, ?_⟩
  rw [within_hand hh]
  refine ⟨true, rfl, iteF ?_⟩
  refine ⟨_, rfl, p, C, dx, _, _, rfl, hp, Z.cl, Z.nA, flds_alone _ _, _, rfl, a, _, _, _, rfl, rfl, SqL.of ht, atI_nat hx, r, xs, rfl, .inl (SqL.of hr2), ?_⟩
  rw [ha2.len]
  exact q
abbrev nPairs : List Str := ["self"]
theorem sc_pairs : FnScope nPairs nPairs (defScope s_pairs) := ⟨rfl, rfl, rfl, by decide +kernel, rfl, by decide +kernel, by decide +kernel⟩
theorem keys_sorted {T : TD} (W : WF T) {L : List (Addr × List Int)} (h1 : (L.map (·.2)).Perm (T.bo.map fun e => [((e.1.1 : Nat) : Int), ((e.1.2 : Nat) : Int)])) (h2 : L.Pairwise (fun q r => TS.code 64 q.2 ≤ TS.code 64 r.2)) :
    L.map (·.2) = (sb T).map fun e => [((e.1.1 : Nat) : Int), ((e.1.2 : Nat) : Int)] := by
  have n0 := (W.n0 0 (by decide)).2
  have n1 := (W.n0 1 (by decide)).2
  have bd : ∀ x ∈ T.bo.map (fun e => [((e.1.1 : Nat) : Int), ((e.1.2 : Nat) : Int)]), ∃ a b : Nat, a < 20 ∧ b < 20 ∧ x = [(a : Int), (b : Int)] := fun x hx => by
    obtain ⟨e, he, rfl⟩ := List.mem_map.mp hx
    have := W.rng e he
    exact ⟨e.1.1, e.1.2, by omega, by omega, rfl⟩
  have hp := (sb_perm T).map (fun e => [((e.1.1 : Nat) : Int), ((e.1.2 : Nat) : Int)])
  have h3 := h1.trans hp.symm
  refine List.Perm.eq_of_pairwise (le := fun a b => TS.code 64 a ≤ TS.code 64 b) (fun a b ha hb h h' => ?_) (List.pairwise_map.mpr h2) ?_ h3
  · obtain ⟨a1, a2, _, _, rfl⟩ := bd a (h1.mem_iff.mp ha)
    obtain ⟨b1, b2, _, _, rfl⟩ := bd b (hp.mem_iff.mp hb)
    rw [code_pair, code_pair] at h h'
    have e1 : a1 = b1 := by omega
    have e2 : a2 = b2 := by omega
    rw [e1, e2]
  · rw [List.pairwise_map]
    refine (sb_sorted T).imp_of_mem fun {a b} ha hb h => ?_
    have := W.rng a (sb_mem.mp ha)
    have := W.rng b (sb_mem.mp hb)
    rw [code_pair, code_pair]
    have h := of_decide_eq_true h
    rcases h with h | ⟨h, h'⟩
    · omega
    · omega
theorem ok_pairs {f C : Addr} {fd : FuncData} (F : Fun K "pairs" "Task.pairs" s_pairs f fd) (T2 : Txt2 K mg) (Z : TxtC K mg C) : FnOk P w K mg base CX0 1 f fd nPairs (spPairs K C) := by
  refine F.ok sc_pairs (fun vs H Q E h => ?_) (fun cdv A outer s H vs Q E hr h => ?_)
  · obtain ⟨p, D, rfl, _⟩ := h
    rfl
  obtain ⟨p, D, rfl, hT, hW, q⟩ := h
  refine ⟨_, (pss_one (ps_ret (pe_callB (cr_sortedDT (d := 2) (B := 64) (by decide) rfl) (by rfl) T2.sorted (by decide +kernel) (pa_cons (pe_fld (pv 0) rfl) pa_nil)))), ?_⟩
  obtain ⟨dx, a, d, hp, hA, kvs, hd, ha⟩ := hT
  refine ⟨_, rfl, p, C, dx, _, _, rfl, hp, Z.cl, Z.nB, flds_both _ _, d, kvs, D.bo.map (fun e => [((e.1.1 : Nat) : Int), ((e.1.2 : Nat) : Int)]), rfl, .inl hd, ?_, ?_, ?_, fun L r h1 h2 h3 hr0 => ?_⟩
  · rw [keys_of ha, List.map_map, List.map_map]
    rfl
  · rw [List.length_map]
    have := hW.many
    omega
  · intro ns hns
    obtain ⟨e, he, rfl⟩ := List.mem_map.mp hns
    have := hW.rng e he
    have := (hW.n0 0 (by decide)).2
    have := (hW.n0 1 (by decide)).2
    refine ⟨rfl, fun m hm => ?_⟩
    rcases List.mem_cons.mp hm with rfl | hm
    · omega
    · obtain rfl := List.mem_singleton.mp hm
      omega
  · refine q r _ hr0 ?_
    have e := keys_sorted hW h1 h2
    clear h1 h2 q
    generalize sb D = bo at e
    induction L generalizing bo with
    | nil =>
      cases bo with
      | nil => exact .nil
      | cons _ _ => cases e
    | cons x L ih =>
      cases bo with
      | nil => cases e
      | cons b bo =>
        rw [List.map_cons, List.map_cons] at e
        injection e with e1 e2
        refine .cons ⟨x.1, rfl, ?_⟩ (ih (fun y hy => h3 y (List.mem_cons_of_mem _ hy)) bo e2)
        rw [h3 x List.mem_cons_self, e1]
        rfl
end
end TA

set_option Elab.async false
set_option maxRecDepth 100000
set_option maxHeartbeats 4000000
namespace TA
open PySem L2 PyProof.Rows
set_option linter.unusedVariables false
abbrev sCell : Stmt := s__law_cell_at
def WellAt (H : Hp) (a : Addr) (n : Int) : Prop := ∃ x y z : Int, H a = some (.lst [.int x, .int y, .int z]) ∧ 0 ≤ x ∧ 0 ≤ y ∧ y < 2147483647 ∧ 0 ≤ z ∧ z ≤ n
theorem WellAt.same {H H' : Hp} {a : Addr} {n : Int} (s : Same H H') (w : WellAt H a n) : WellAt H' a n := by
  obtain ⟨x, y, z, h, r⟩ := w
  exact ⟨x, y, z, s _ _ h, r⟩
theorem join3 {b : Bool} {X : Prop} {R : L2.St → Hp → Prop} {σ : L2.St} {H : Hp} (Iv : L2.St → Hp → Prop) (h0 : b = false → Iv σ H) (k : ∀ σ Hc, Iv σ Hc → R σ Hc) (h1 : b = true → (∀ σ Hc, Iv σ Hc → R σ Hc) → X) : if b = true then X else R σ H := by
  cases b with
  | false => exact iteF (k σ H (h0 rfl))
  | true => exact iteT (h1 rfl k)
def spCell (K : PySem.W.Frag) : Sp := fun vs H Q _ => ∃ (a : Addr) (ns : List Int) (k : Int), vs = [.ref a, .int k] ∧ SqL K H a (ns.map V.int) ∧ ns.length ≤ 1000 ∧ 0 ≤ k ∧ ∀ c : Int, Q (.int c) H
def spDigit : Sp := fun vs H Q _ => ∃ (a : Addr) (n m : Int), vs = [.ref a, .int m] ∧ ((∃ x : Int, H a = some (.lst [.int x])) ∨ WellAt H a n) ∧ 0 ≤ n ∧ n < 999999 ∧ 0 < m ∧ m < 1000 ∧ ∀ (r : Int) (H' : Hp), 0 ≤ r → r < m → But a H H' → WellAt H' a (n + 1) → Q (.int r) H'
theorem WellAt.but {H H' : Hp} {a d : Addr} {n : Int} (w : WellAt H a n) (ne : a ≠ d) (s : But d H H') : WellAt H' a n := by
  obtain ⟨x, y, z, h, r⟩ := w
  exact ⟨x, y, z, s _ _ ne h, r⟩
theorem WellAt.up {H : Hp} {a : Addr} {n m : Int} (w : WellAt H a n) (h : n ≤ m) : WellAt H a m := by
  obtain ⟨x, y, z, h0, a1, a2, a3, a4, a5⟩ := w
  exact ⟨x, y, z, h0, a1, a2, a3, a4, by omega⟩
theorem WellAt.ne {H : Hp} {a b : Addr} {n : Int} (w : WellAt H a n) (h : H b = none) : a ≠ b := by
  obtain ⟨x, y, z, h0, _⟩ := w
  exact ne_of_none h0 h
/-- a well that is drawn from, or not yet -/
def Dr (H : Hp) (a : Addr) (n : Int) : Prop := (∃ x : Int, H a = some (.lst [.int x])) ∨ WellAt H a n

section
variable {P : Program} {w : World} {K : PySem.W.Frag} {mg : Str → Option Value} {base : Heap}
theorem scCell : FnScope ["_law_script", "_law_k"] ["_law_script", "_law_k"] (defScope sCell) := ⟨rfl, rfl, rfl, by decide +kernel, rfl, by decide +kernel, by decide +kernel⟩
theorem ok_cell {f : Addr} {fd : FuncData} (F : Fun K "_law_cell_at" "_law_cell_at" sCell f fd) (T : Txt K mg) : FnOk P w K mg base CX0 1 f fd ["_law_script", "_law_k"] (spCell K) := by
  refine F.ok scCell (fun vs H Q E h => ?_) (fun cdv A outer s H vs Q E hr h => ?_)
  · obtain ⟨a, ns, k, rfl, _⟩ := h
    rfl
  obtain ⟨a, ns, k, rfl, hS, hn, hk, q⟩ := h
  refine ⟨_, pss_cons (ps_if (pt_cmpR op_lt (pv 1) (pe_callB call_len_seq (by rfl) T.len PySem.boot_len (pa_cons (pv 0) pa_nil)) (nomark _)) (pss_one (ps_ret (pe_ix ix_list (pv 0) (pv 1) (fun _ _ => rfl)))) pss_nil)
    (pss_one (ps_ret pe_int)), ?_⟩
  refine ⟨_, rfl, _, rfl, a, _, rfl, .inl hS, _, _, rfl, rfl, _, rfl, ?_⟩
  refine ite2 (fun c => ?_) (fun c => ?_)
  · have c' : k < (((ns.map V.int).length : Nat) : Int) := of_decide_eq_true c
    rw [List.length_map] at c'
    have hk' : k.toNat < ns.length := by omega
    have ek : k = ((k.toNat : Nat) : Int) := by omega
    have g : atI (ns.map V.int) ((k.toNat : Nat) : Int) = some (.int ns[k.toNat]) := atI_nat (by rw [List.getElem?_map, List.getElem?_eq_getElem hk'] <;> rfl)
    rw [← ek] at g
    exact ⟨_, rfl, _, rfl, a, _, _, _, rfl, rfl, hS, g, q _⟩
  · exact q 0
theorem scDigit : FnScope ["_law_state", "_law_base", "_law_cell", "_law_found", "_law_number"] ["_law_state", "_law_base"] (defScope s__law_digit) := ⟨rfl, rfl, rfl, by decide +kernel, rfl, by decide +kernel, by decide +kernel⟩
theorem ok_digit {f : Addr} {fd : FuncData} (F : Fun K "_law_digit" "_law_digit" s__law_digit f fd) (T : Txt K mg) : FnOk P w K mg base CX0 1 f fd ["_law_state", "_law_base"] spDigit := by
  refine F.ok scDigit (fun vs H Q E h => ?_) (fun cdv A outer s H vs Q E hr h => ?_)
  · obtain ⟨a, n, m, rfl, _⟩ := h
    rfl
  obtain ⟨a, n, m, rfl, hst, hn0, hn, hm, hm2, q⟩ := h
  have nd := scDigit.nd
  have ix : ∀ {X : Cx} {e1 e2 : Expr} {t1 t2 : TE} {p : Pos}, PE X e1 t1 → PE X e2 t2 → PlainIx e2 → PE X (.Subscript e1 e2 p) (tOp (rIxL X.K) t1 t2) := fun h1 h2 h3 => pe_ix ix_list h1 h2 h3
  refine ⟨_, pss_cons (ps_if (pt_cmpR op_eq (pe_callB call_len_seq (by rfl) T.len PySem.boot_len (pa_cons (pv 0) pa_nil)) pe_int (nomark _))
      (pss_cons (ps_set (i := 2) nd rfl (Or.inl rfl) (pe_ix ix_list (pv 0) pe_int (fun _ _ => rfl)))
      (pss_cons (ps_asg (pe_ix ix_list (pe_lst (pa_cons pe_int (pa_cons (pv 2) pa_nil))) (pe_callTy call_int1 (by rfl) T.int boot_int (pa_cons (pe_cmpR op_ge (pv 2) (pe_op op_pow pe_int pe_int) (nomark _)) pa_nil)) (fun _ _ => rfl)) (pg_sub (pv 0) pe_int set_list))
      (pss_one (ps_expr (pe_bm PySem.F.plainAttrs_list PySem.F.slot_list_extend PySem.F.type_list_extend mt_extend (pv 0) (pa_cons (pe_lst (pa_cons (pe_op op_mod (pv 2) pe_int) (pa_cons pe_int pa_nil))) pa_nil)))))) pss_nil)
    (pss_cons (ps_if (pt_cmpR op_gt (pe_ix ix_list (pv 0) pe_int (fun _ _ => rfl)) pe_int (nomark _))
      (pss_cons (ps_set (i := 3) nd rfl (Or.inl rfl) (pe_op op_mod (pe_ix ix_list (pv 0) pe_int (fun _ _ => rfl)) (pv 1)))
      (pss_cons (ps_asg (pe_op op_fdiv (pe_ix ix_list (pv 0) pe_int (fun _ _ => rfl)) (pv 1)) (pg_sub (pv 0) pe_int set_list))
      (pss_one (ps_ret (pv 3))))) pss_nil)
    (pss_cons (ps_asg (pe_op op_add (pe_ix ix_list (pv 0) pe_int (fun _ _ => rfl)) pe_int) (pg_sub (pv 0) pe_int set_list))
    (pss_cons (ps_set (i := 4) nd rfl (Or.inl rfl) (pe_op op_mod (pe_op op_mul (pe_op op_add (pe_op op_add (pe_ix ix_list (pv 0) pe_int (fun _ _ => rfl)) (pe_op op_mul pe_int (pe_ix ix_list (pv 0) pe_int (fun _ _ => rfl)))) pe_int) pe_int) pe_int))
    (pss_cons (ps_set (i := 4) nd rfl (Or.inl rfl) (pe_op op_mod (pe_op op_mul (pv 4) (pe_op op_add (pe_op op_fdiv (pv 4) pe_int) pe_int)) pe_int))
    (pss_one (ps_ret (pe_op op_mod (pe_op op_mod (pe_op op_mul (pv 4) (pe_op op_add (pe_op op_fdiv (pv 4) pe_int) pe_int)) pe_int) (pv 1)))))))), ?_⟩
  obtain ⟨xs, hxs, hlen⟩ : ∃ xs, H a = some (.lst xs) ∧ ((xs.length = 1 ∧ ∃ x : Int, xs = [.int x]) ∨ (xs.length = 3 ∧ WellAt H a n)) := by
    rcases hst with ⟨x, h⟩ | ⟨x, y, z, h, r⟩
    · exact ⟨_, h, .inl ⟨rfl, x, rfl⟩⟩
    · exact ⟨_, h, .inr ⟨rfl, x, y, z, h, r⟩⟩
  refine ⟨_, rfl, a, xs, rfl, .inl (SqL.of hxs), rfl, _, rfl, ?_⟩
  refine join3 (fun σ Hc => ∃ g, σ = [some (.ref a), some (.int m), g, none, none] ∧ But a H Hc ∧ WellAt Hc a n) ?_ ?_ ?_
  · intro hb
    rcases hlen with ⟨h1, _⟩ | ⟨_, hw⟩
    · rw [h1] at hb
      cases hb
    · exact ⟨none, rfl, fun b o _ e => e, hw⟩
  · rintro σ Hc ⟨g, rfl, b, x, y, z, hL, hx, hy, hy2, hz, hz2⟩
    refine ⟨_, rfl, a, _, _, _, rfl, rfl, SqL.of hL, rfl, _, _, rfl, rfl, _, rfl, ?_⟩
    refine ite2 (fun c => ?_) (fun c => ?_)
    · refine ⟨_, rfl, a, _, _, _, rfl, rfl, SqL.of hL, rfl, _, rfl, _, _, rfl, rfl, hm, ?_⟩
      refine ⟨_, rfl, a, _, _, _, rfl, rfl, SqL.of hL, rfl, _, rfl, _, _, rfl, rfl, ⟨hm, by omega⟩, ?_⟩
      refine ⟨_, rfl, a, _, _, 0, rfl, rfl, hL, rfl, _, rfl, ?_⟩
      exact q _ _ (Int.emod_nonneg _ (by omega)) (Int.emod_lt_of_pos _ hm) (b.trans But.at) ⟨_, y, z, upd_same, Int.ediv_nonneg hx (by omega), hy, hy2, hz, by omega⟩
    · have hL2 : (upd Hc a (.lst [.int x, .int y, .int (z + 1)])) a = some (.lst [.int x, .int y, .int (z + 1)]) := upd_same
      refine ⟨_, rfl, a, _, _, _, rfl, rfl, SqL.of hL, rfl, _, _, rfl, rfl, ?_⟩
      refine ⟨_, rfl, a, _, _, 2, rfl, rfl, hL, rfl, ?_⟩
      refine ⟨_, rfl, a, _, _, _, rfl, rfl, SqL.of hL2, rfl, _, rfl, a, _, _, _, rfl, rfl, SqL.of hL2, rfl, _, _, rfl, rfl, .inl ⟨by decide, by decide⟩, _, _, rfl, rfl, _, _, rfl, rfl, _, _, rfl, rfl, .inr ⟨by decide, by decide⟩, _, _, rfl, rfl, (by show (0 : Int) < 2147483647; decide), ?_⟩
      have n0 := Int.emod_nonneg ((y + 7919 * (z + 1) + 1) * 48271) (show (2147483647 : Int) ≠ 0 by decide)
      have n1 := Int.emod_lt_of_pos ((y + 7919 * (z + 1) + 1) * 48271) (show (0 : Int) < 2147483647 by decide)
      generalize ((y + 7919 * (z + 1) + 1) * 48271) % 2147483647 = i at n0 n1 ⊢
      refine ⟨_, rfl, _, rfl, _, _, rfl, rfl, ⟨by decide, by decide⟩, _, _, rfl, rfl, _, _, rfl, rfl, .inl ⟨by omega, by omega⟩, _, _, rfl, rfl, (by show (0 : Int) < 2147483647; decide), ?_⟩
      have k0 := Int.emod_nonneg (i * (i / 1009 + 69621)) (show (2147483647 : Int) ≠ 0 by decide)
      have k1 := Int.emod_lt_of_pos (i * (i / 1009 + 69621)) (show (0 : Int) < 2147483647 by decide)
      generalize (i * (i / 1009 + 69621)) % 2147483647 = j at k0 k1 ⊢
      refine ⟨_, rfl, _, rfl, _, _, rfl, rfl, ⟨by decide, by decide⟩, _, _, rfl, rfl, _, _, rfl, rfl, .inl ⟨by omega, by omega⟩, _, _, rfl, rfl, (by show (0 : Int) < 2147483399; decide), _, rfl, _, _, rfl, rfl, hm, ?_⟩
      exact q _ _ (Int.emod_nonneg _ (by omega)) (Int.emod_lt_of_pos _ hm) (b.trans But.at) ⟨x, y, z + 1, upd_same, hx, hy, hy2, by omega, by omega⟩
  · intro hb k
    obtain ⟨x, rfl⟩ : ∃ x : Int, xs = [.int x] := by
      rcases hlen with ⟨_, h⟩ | ⟨h3, _⟩
      · exact h
      · rw [h3] at hb
        cases hb
    refine ⟨_, rfl, a, _, _, _, rfl, rfl, SqL.of hxs, rfl, ?_⟩
    refine ⟨_, rfl, (by show 2 ≤ sizeLine; decide), fun l hl => ?_⟩
    have s1 := same_new hl (.lst [V.int 0, V.int x])
    refine ⟨_, rfl, _, _, rfl, rfl, ⟨by decide, by decide, by decide⟩, _, _, rfl, rfl, .inr ⟨_, rfl, ?_⟩⟩
    obtain ⟨y, hy, y0⟩ : ∃ y : Int, atI [V.int 0, V.int x] (if decide (x ≥ 10 ^ (18 : Int).toNat) = true then 1 else 0) = some (.int y) ∧ 0 ≤ y := by
      by_cases c : x ≥ 10 ^ (18 : Int).toNat
      · rw [decide_eq_true c]
        have : (0 : Int) ≤ 10 ^ (18 : Int).toNat := by decide
        exact ⟨x, rfl, by omega⟩
      · rw [decide_eq_false c]
        exact ⟨0, rfl, Int.le_refl 0⟩
    refine ⟨l, _, _, _, rfl, rfl, SqL.of upd_same, hy, _, rfl, a, [.int x], _, 0, rfl, rfl, s1 _ _ hxs, rfl, ?_⟩
    have hL : (upd (upd H l (.lst [V.int 0, V.int x])) a (.lst ([V.int x].set 0 (.int y)))) a = some (.lst [.int y]) := upd_same
    refine ⟨_, rfl, .inl ⟨rfl, _, SqL.of hL⟩, _, rfl, _, _, rfl, rfl, (by show (0 : Int) < 2147483647; decide), (by show 2 ≤ sizeLine; decide), fun l2 hl2 => ?_⟩
    have nl : a ≠ l2 := ne_of_none hL hl2
    refine ⟨a, l2, [.int y], _, rfl, rfl, (by rw [upd_ne nl]; exact hL), upd_same, (by show 3 ≤ sizeLine; decide), ?_⟩
    refine k _ _ ⟨_, rfl, ?_, y, x % 2147483647, 0, upd_same, y0, Int.emod_nonneg _ (by decide), Int.emod_lt_of_pos _ (by decide), Int.le_refl 0, hn0⟩
    exact (((But.same s1).trans But.at).trans (But.same (same_new hl2 _))).trans But.at

end
end TA

set_option Elab.async false
set_option maxRecDepth 100000
set_option maxHeartbeats 4000000
namespace TA
open PySem L2 PyProof.Rows
set_option linter.unusedVariables false
/-! data that may be compared -/
def Ok (n : Nat) (d : PyData) : Prop := d.canLay0 = true ∧ d.depth ≤ n
theorem Ok.shaped {n : Nat} {d : PyData} (h : Ok n d) (e : n ≤ 64) : SeqAt.shaped d = true := by
  unfold SeqAt.shaped
  rw [h.1, decide_eq_true (Nat.le_trans h.2 e)]
  rfl
theorem ok_int {n : Nat} (i : Int) : Ok (n + 1) (.int i) := ⟨by simp [PyData.canLay0], by simp [PyData.depth]⟩
theorem ok_non {n : Nat} : Ok (n + 1) .none := ⟨by simp [PyData.canLay0], by simp [PyData.depth]⟩
theorem ok_all {n : Nat} : ∀ {ds : List PyData}, (∀ d ∈ ds, Ok n d) → PyData.canLayAll0 ds = true ∧ PyData.depthAll ds ≤ n
  | [], _ => ⟨rfl, by simp [PyData.depthAll]⟩
  | d :: ds, q => by
    obtain ⟨a, b⟩ := ok_all (ds := ds) (fun x hx => q x (List.mem_cons_of_mem _ hx))
    obtain ⟨c, e⟩ := q d List.mem_cons_self
    refine ⟨by simp [PyData.canLayAll0, a, c], ?_⟩
    simp only [PyData.depthAll]
    omega
theorem ok_list {n : Nat} {ds : List PyData} (q : ∀ d ∈ ds, Ok n d) : Ok (n + 1) (.list ds) := by
  obtain ⟨a, b⟩ := ok_all q
  refine ⟨by simpa [PyData.canLay0] using a, ?_⟩
  simp only [PyData.depth]
  omega
theorem ok_tuple {n : Nat} {ds : List PyData} (q : ∀ d ∈ ds, Ok n d) : Ok (n + 1) (.tuple ds) := by
  obtain ⟨a, b⟩ := ok_all q
  refine ⟨by simpa [PyData.canLay0] using a, ?_⟩
  simp only [PyData.depth]
  omega
theorem okD_pair (p : Int × Int) : Ok 2 (pairD p) := ok_tuple fun d hd => by
  rcases List.mem_cons.mp hd with rfl | hd
  · exact ok_int _
  · obtain rfl := List.mem_singleton.mp hd
    exact ok_int _
theorem okD_pairs (l : List (Int × Int)) : Ok 3 (.list (l.map pairD)) := ok_list fun d hd => by
  obtain ⟨p, _, rfl⟩ := List.mem_map.mp hd
  exact okD_pair p
theorem eqv_pair (p q : Int × Int) : PyData.eqv (pairD p) (pairD q) = decide (p = q) := by
  show ((p.1 == q.1) && ((p.2 == q.2) && true)) = decide (p = q)
  rw [Bool.and_true]
  by_cases h : p = q
  · subst h
    simp
  · rw [decide_eq_false h]
    by_cases h1 : p.1 = q.1
    · have : ¬ p.2 = q.2 := fun h2 => h (Prod.ext h1 h2)
      simp [this]
    · simp [h1]
/-! == of the data of tasks -/
theorem eqvAll_map {α : Type} [DecidableEq α] (f : α → PyData) (h : ∀ x y, PyData.eqv (f x) (f y) = decide (x = y)) : ∀ xs ys : List α, PyData.eqvAll (xs.map f) (ys.map f) = decide (xs = ys)
  | [], [] => rfl
  | [], _ :: _ => rfl
  | _ :: _, [] => rfl
  | x :: xs, y :: ys => by
    show (PyData.eqv (f x) (f y) && PyData.eqvAll (xs.map f) (ys.map f)) = _
    rw [h, eqvAll_map f h xs ys, ← Bool.decide_and]
    exact decide_eq_decide.mpr ⟨fun ⟨a, b⟩ => by rw [a, b], fun c => by injection c with a b; exact ⟨a, b⟩⟩
theorem eqv_list {α : Type} [DecidableEq α] (f : α → PyData) (h : ∀ x y, PyData.eqv (f x) (f y) = decide (x = y)) (xs ys : List α) : PyData.eqv (.list (xs.map f)) (.list (ys.map f)) = decide (xs = ys) := eqvAll_map f h xs ys
theorem eqv_ints (x y : Int) : PyData.eqv (.int x) (.int y) = decide (x = y) := by
  show (x == y) = _
  exact Bool.beq_eq_decide_eq x y
theorem eqv_row (x y : List Int) : PyData.eqv (rowD x) (rowD y) = decide (x = y) := eqv_list _ eqv_ints x y
theorem eqv_rows (x y : List (List Int)) : PyData.eqv (rowsD x) (rowsD y) = decide (x = y) := eqv_list _ eqv_row x y
theorem eqv_let (x y : List (Int × Int)) : PyData.eqv (letD x) (letD y) = decide (x = y) := eqv_list _ eqv_pair x y
theorem eqv_al (a b : Nat → List (List Int)) : PyData.eqv (alD a) (alD b) = decide (a 0 = b 0 ∧ a 1 = b 1) := by
  show (PyData.eqv (rowsD (a 0)) (rowsD (b 0)) && (PyData.eqv (rowsD (a 1)) (rowsD (b 1)) && true)) = _
  rw [eqv_rows, eqv_rows, Bool.and_true, ← Bool.decide_and]
theorem okD_row (r : List Int) : Ok 2 (rowD r) := ok_list fun d hd => by
  obtain ⟨p, _, rfl⟩ := List.mem_map.mp hd
  exact ok_int _
theorem okD_rows (r : List (List Int)) : Ok 3 (rowsD r) := ok_list fun d hd => by
  obtain ⟨p, _, rfl⟩ := List.mem_map.mp hd
  exact okD_row p
theorem okD_al (a : Nat → List (List Int)) : Ok 4 (alD a) := ok_list fun d hd => by
  rcases List.mem_cons.mp hd with rfl | hd
  · exact okD_rows _
  · obtain rfl := List.mem_singleton.mp hd
    exact okD_rows _
/-! both of two tasks -/
theorem nodup_perm {α : Type} [DecidableEq α] : ∀ {l m : List α}, l.Nodup → (∀ x ∈ l, x ∈ m) → m.length ≤ l.length → l.Perm m
  | [], m, _, _, h => by
    have : m = [] := List.eq_nil_of_length_eq_zero (by simpa using h)
    rw [this]
  | x :: l, m, n, h, hl => by
    rw [List.nodup_cons] at n
    have hx := h x List.mem_cons_self
    refine (List.Perm.cons x (nodup_perm (m := m.erase x) n.2 (fun y hy => ?_) ?_)).trans (List.perm_cons_erase hx).symm
    · refine (List.mem_erase_of_ne (fun c => ?_)).mpr (h y (List.mem_cons_of_mem _ hy))
      subst c
      exact n.1 hy
    · rw [List.length_erase_of_mem hx]
      rw [List.length_cons] at hl
      omega
abbrev EB := IP × List (Int × Int)
def uniq (bo : BD) : Prop := (bo.map (·.1)).Pairwise (· ≠ ·)
theorem uniq_nodup {bo : BD} (h : uniq bo) : bo.Nodup := List.Pairwise.imp (fun h c => h (congrArg _ c)) (List.pairwise_map.mp h)
theorem uniq_key {bo : BD} (h : uniq bo) : ∀ {e f : EB}, e ∈ bo → f ∈ bo → e.1 = f.1 → e = f := by
  induction bo with
  | nil => intro e f he; cases he
  | cons b r ih =>
    intro e f he hf k
    unfold uniq at h
    rw [List.map_cons, List.pairwise_cons] at h
    rcases List.mem_cons.mp he with e1 | he'
    · rcases List.mem_cons.mp hf with e2 | hf'
      · rw [e1, e2]
      · exact (h.1 _ (List.mem_map.mpr ⟨f, hf', rfl⟩) (by rw [← e1]; exact k)).elim
    · rcases List.mem_cons.mp hf with e2 | hf'
      · exact (h.1 _ (List.mem_map.mpr ⟨e, he', rfl⟩) (by rw [← e2]; exact k.symm)).elim
      · exact ih h.2 he' hf' k
theorem sort_perm {a b : BD} (ua : uniq a) : a.mergeSort leN = b.mergeSort leN ↔ a.Perm b := by
  constructor
  · intro h
    exact ((List.mergeSort_perm a leN).symm.trans (h ▸ List.Perm.refl _)).trans (List.mergeSort_perm b leN)
  · intro h
    have hp := ((List.mergeSort_perm a leN).trans h).trans (List.mergeSort_perm b leN).symm
    refine List.Perm.eq_of_pairwise (le := fun x y => leN x y = true) (fun x y hx hy h1 h2 => ?_) (sb_sorted ⟨fun _ => [], a⟩) (sb_sorted ⟨fun _ => [], b⟩) hp
    have hx := (List.mergeSort_perm a leN).mem_iff.mp hx
    have hy := h.mem_iff.mpr ((List.mergeSort_perm b leN).mem_iff.mp hy)
    refine uniq_key ua hx hy ?_
    have h1 := of_decide_eq_true h1
    have h2 := of_decide_eq_true h2
    refine Prod.ext ?_ ?_ <;> omega
def sameB (a b : BD) : Bool := decide (a.mergeSort leN = b.mergeSort leN)
theorem sameB_iff {a b : BD} (ua : uniq a) (ub : uniq b) : sameB a b = (a.length == b.length && a.all fun e => decide (e ∈ b)) := by
  unfold sameB
  rw [Bool.eq_iff_iff, decide_eq_true_eq, Bool.and_eq_true, sort_perm ua, beq_iff_eq, List.all_eq_true]
  constructor
  · intro h
    exact ⟨h.length_eq, fun e he => decide_eq_true (h.mem_iff.mp he)⟩
  · rintro ⟨h1, h2⟩
    exact nodup_perm (uniq_nodup ua) (fun e he => of_decide_eq_true (h2 e he)) (by omega)
def sameTD (T U : TD) : Bool := decide (T.al 0 = U.al 0 ∧ T.al 1 = U.al 1) && sameB T.bo U.bo
end TA

set_option Elab.async false
set_option maxRecDepth 100000
set_option maxHeartbeats 4000000
namespace TA
open PySem L2 PyProof.Rows
set_option linter.unusedVariables false
theorem hu140_of {A : Around} {k : Nat} (hr : Room k A) : A.units + 140 < cLine := by have := hr.un; omega
/-- what isinstance asks of the own class, and == of its instances -/
structure EqC (K : PySem.W.Frag) (C : Addr) : Prop where
  ha : PySem.W.findIn K (.ref C) "__class__" = some (some (.builtin "object.__class__"))
  hn : PySem.W.specialIn K (.builtin "object.__class__") "__get__" = some (some (.builtin "getset_descriptor.__get__"))
  htk : PySem.W.takesIn K (.builtin "object.__class__") = some true
  hm : PySem.W.mroIn K C (.type "object") = some true
  ne : PySem.W.findIn K (.ref C) "__ne__" = some (some (.builtin "object.__ne__"))
  ob : PySem.W.subIn K (.ref C) (.type "object") = some true
  kN : PySem.W.kitOne K (.type "NoneType") (.ref C) = some false
  kL : PySem.W.kitOne K (.type "list") (.ref C) = some false
  kT : PySem.W.kitOne K (.type "tuple") (.ref C) = some false
  kD : PySem.W.kitOne K (.type "dict") (.ref C) = some false
structure EqD (P : Program) (w : World) (K : PySem.W.Frag) (mg : Str → Option Value) (base : Heap) (C : Addr) (k : Nat) (sp : Sp) (f : Addr) (fd : FuncData) : Prop where
  G : FnOk P w K mg base CX0 k f fd ["self", "other"] sp
  b : Binds K fd ["self", "other"] []
  at_ : PySem.W.findIn K (.ref C) "__eq__" = some (some (.ref f))
  fn : PySem.W.isFn K (.ref f) = true
/-- no task, but a list, a tuple, a dict or None -/
def NoT (H : Hp) (v : V) : Prop := v = .non ∨ ∃ a, v = .ref a ∧ ((∃ xs, H a = some (.lst xs)) ∨ (∃ xs, H a = some (.tup xs)) ∨ ∃ kvs, H a = some (.dT kvs))
def spEq (K : PySem.W.Frag) (C : Addr) : Sp := fun vs H Q _ => ∃ (p : Addr) (v : V) (T : TD), vs = [.ref p, v] ∧ TaskAt C H p T ∧ uniq T.bo ∧ ((∃ (q : Addr) (U : TD), v = .ref q ∧ TaskAt C H q U ∧ uniq U.bo ∧ Q (.bl (sameTD T U)) H) ∨ (NoT H v ∧ Q (.bl false) H))
theorem kit_self {K : PySem.W.Frag} {C : Addr} : PySem.W.kitOne K (.ref C) (.ref C) = some true := by
  unfold PySem.W.kitOne
  rw [if_pos (by simp)]
/-- what the dict of a task holds at a key -/
theorem val_no {H : Hp} {kvs : List (List Key × V)} {bo : BD} (a : A2 (EnAt H) kvs bo) {p : IP} (n : ∀ e ∈ bo, e.1 ≠ p) : valV kvs (kI p) = none := valV_noneP fun x hx c => by
  obtain ⟨f, hf, q⟩ := a.mem hx
  exact n f hf (kI_inj (q.1.symm.trans c))
theorem eqx_let {K : PySem.W.Frag} {H : Hp} {x y : V} {l m : List (Int × Int)} (h : LetAt H x l) (g : LetAt H y m) : EqX K H 1 x y (decide (l = m)) :=
  .inl ⟨letD l, letD m, h.dp, g.dp, (okD_pairs l).shaped (by decide), (okD_pairs m).shaped (by decide), (eqv_let l m).symm⟩
theorem rcx_bo {K : PySem.W.Frag} {H : Hp} {d d' : Addr} {bo bo' : BD} (h : BoAt H d bo) (g : BoAt H d' bo') (u : uniq bo) (u' : uniq bo') : RcX K H (EqX K H 1) (.ref d) (.ref d') (sameB bo bo') := by
  obtain ⟨ks, hd, a⟩ := h
  obtain ⟨ls, hd', a'⟩ := g
  refine .inr (.inr ⟨d, d', ks, ls, fun p => decide (∃ e ∈ bo', p.1 = kI e.1 ∧ ∃ f ∈ bo, p.1 = kI f.1 ∧ e = f), rfl, rfl, hd, hd', fun hl p hp => ?_, ?_⟩)
  · obtain ⟨e, he, ek, el⟩ := a.mem hp
    by_cases c : ∃ f ∈ bo', f.1 = e.1
    · obtain ⟨f, hf, ef⟩ := c
      obtain ⟨v, hv, hl⟩ := val_at a' u' f hf
      refine .inr ⟨v, by rw [ek, ← ef]; exact hv, ?_⟩
      have := eqx_let (K := K) el hl
      refine cast (congrArg (EqX K H 1 p.2 v) (decide_eq_decide.mpr ⟨fun h => ⟨f, hf, by rw [ek, ef], e, he, ek, Prod.ext ef h.symm⟩, ?_⟩)) this
      rintro ⟨f', hf', k', e', he', k2, rfl⟩
      have e1 : f'.1 = f.1 := by rw [ef]; exact kI_inj (k'.symm.trans ek)
      have e2 := uniq_key u' hf' hf e1
      have e3 := uniq_key u he' he (kI_inj (k2.symm.trans ek))
      rw [← e2, ← e3]
    · refine .inl ⟨by rw [ek]; exact val_no a' fun f hf k => c ⟨f, hf, k⟩, decide_eq_false ?_⟩
      rintro ⟨f, hf, k, _⟩
      exact c ⟨f, hf, (kI_inj (ek.symm.trans k)).symm⟩
  · rw [sameB_iff u u', a.len, a'.len]
    congr 1
    rw [Bool.eq_iff_iff, List.all_eq_true, List.all_eq_true]
    constructor
    · intro h p hp
      obtain ⟨e, he, ek, el⟩ := a.mem hp
      have hm := of_decide_eq_true (h e he)
      exact decide_eq_true ⟨e, hm, ek, e, he, ek, rfl⟩
    · intro h e he
      obtain ⟨p, hp, ek, el⟩ : ∃ p, p ∈ ks ∧ EnAt H p e := by
        obtain ⟨i, hi⟩ := List.getElem?_of_mem he
        obtain ⟨p, hp, r⟩ := a.at hi
        exact ⟨p, List.mem_of_getElem? hp, r⟩
      obtain ⟨f, hf, k, e', he', k2, rfl⟩ := of_decide_eq_true (h p hp)
      have e3 := uniq_key u he' he (kI_inj (k2.symm.trans ek))
      exact decide_eq_true (by rw [← e3]; exact hf)
section
variable {P : Program} {w : World} {K : PySem.W.Frag} {mg : Str → Option Value} {base : Heap}
abbrev nEq : List Str := ["self", "other"]
theorem sc_eq : FnScope nEq nEq (defScope s_eq) := ⟨rfl, rfl, rfl, by decide +kernel, rfl, by decide +kernel, by decide +kernel⟩
theorem ok_eq {f C : Addr} {fd : FuncData} (F : Fun K "__eq__" "Task.__eq__" s_eq f fd) (T : Txt K mg) (Z : TxtC K mg C) (EC : EqC K C) : FnOk P w K mg base CX0 1 f fd ["self", "other"] (spEq K C) := by
  refine F.ok sc_eq (fun vs H Q E h => ?_) (fun cdv A outer s H vs Q E hr h => ?_)
  · obtain ⟨p, v, D, rfl, _⟩ := h
    rfl
  obtain ⟨p, v, D, rfl, hT, uT, h⟩ := h
  have nd := sc_eq.nd
  have hu140 := hu140_of hr
  refine ⟨_, (pss_one (ps_ret (pe_and (pe_callB call_isi (by rfl) T.isi boot_isinstance (pa_cons (pv 1) (pa_cons (pe_glob (v := .ref C) rfl Z.mg rfl) pa_nil))) (pe_and (pe_cmpR (op_eqD hr.units) (pe_fld (pv 0) rfl) (pe_fld (pv 1) rfl) (nomark _)) (pe_one (pe_cmpR (op_eqX hu140) (pe_fld (pv 0) rfl) (pe_fld (pv 1) rfl) (nomark _))))))), ?_⟩
  rcases h with ⟨q, U, rfl, hU, uU, k⟩ | ⟨hv, k⟩
  case inr =>
    rcases hv with rfl | ⟨a, rfl, ⟨xs, e⟩ | ⟨xs, e⟩ | ⟨kvs, e⟩⟩
    · exact ⟨_, rfl, _, .ref C, _, _, false, rfl, .own C, .base .non, EC.kN, _, rfl, iteF k⟩
    · exact ⟨_, rfl, _, .ref C, _, _, false, rfl, .own C, .base (.lst e), EC.kL, _, rfl, iteF k⟩
    · exact ⟨_, rfl, _, .ref C, _, _, false, rfl, .own C, .base (.tup e), EC.kT, _, rfl, iteF k⟩
    · exact ⟨_, rfl, _, .ref C, _, _, false, rfl, .own C, .base (.dT e), EC.kD, _, rfl, iteF k⟩
  obtain ⟨dx, aa, d, hp, hA, hB⟩ := hT
  obtain ⟨dx', aa', d', hq, hA', hB'⟩ := hU
  refine ⟨_, rfl, _, .ref C, _, _, true, rfl, .own C, .base (.ins hq Z.cl EC.ha EC.hn EC.htk EC.hm), kit_self, _, rfl, iteT ?_⟩
  refine ⟨_, rfl, p, C, dx, _, _, rfl, hp, Z.cl, Z.nA, flds_alone _ _, _, rfl, q, C, dx', _, _, rfl, hq, Z.cl, Z.nA, flds_alone _ _, alD D.al, alD U.al, hA.dp, hA'.dp, (okD_al _).shaped (by decide), (okD_al _).shaped (by decide), _, rfl, ?_⟩
  have ek : sameTD D U = (PyData.eqv (alD D.al) (alD U.al) && sameB D.bo U.bo) := by unfold sameTD; rw [eqv_al]
  rw [ek] at k
  cases c : PyData.eqv (alD D.al) (alD U.al) with
  | false =>
    rw [c, Bool.false_and] at k
    exact iteF k
  | true =>
    rw [c, Bool.true_and] at k
    refine iteT ?_
    exact ⟨_, rfl, p, C, dx, _, _, rfl, hp, Z.cl, Z.nB, flds_both _ _, _, rfl, q, C, dx', _, _, rfl, hq, Z.cl, Z.nB, flds_both _ _, 1, _, by decide, rcx_bo hB hB' uT uU, k⟩
end
end TA

set_option Elab.async false
set_option maxRecDepth 100000
set_option maxHeartbeats 4000000
namespace TA
open PySem L2 PyProof.Rows
set_option linter.unusedVariables false
theorem sb_ne {T : TD} (W : WF T) : ((sb T).map (·.1)).Pairwise (· ≠ ·) := (((sb_perm T).map (·.1)).nodup_iff.mpr (show (T.bo.map (·.1)).Nodup from W.srt) : ((sb T).map (·.1)).Nodup)
theorem sb_many {T : TD} (W : WF T) : (sb T).length ≤ 60 := by rw [(sb_perm T).length_eq]; exact W.many
/-! boxes -/
def selO (h : Nat) (o : Int × Int) : Int := if h = 0 then o.1 else o.2
def ansB (l : List (Int × Int)) (h : Nat) (o : Int) : Bool := decide (o ∈ l.map (selO h))
theorem selO_at {h : Nat} (hh : h < 2) (o : Int × Int) : ([V.int o.1, V.int o.2] : List V)[h]? = some (.int (selO h o)) := by
  obtain rfl | rfl : h = 0 ∨ h = 1 := by omega
  · rfl
  · rfl
theorem iI_at {h : Nat} (hh : h < 2) (p : IP) : ([V.int (iI p).1, V.int (iI p).2] : List V)[h]? = some (.int ((sel h p : Nat) : Int)) := by
  obtain rfl | rfl : h = 0 ∨ h = 1 := by omega
  · rfl
  · rfl
theorem atI_one {xs : List V} {h : Nat} {v : V} (hh : h < 2) (e : xs[1 - h]? = some v) : atI xs ((1 : Int) - (h : Int)) = some v := by
  have : (1 : Int) - (h : Int) = ((1 - h : Nat) : Int) := by omega
  rw [this]
  exact atI_nat e
def oddsP (T : TD) (h a : Nat) (o : Int) (e : IP × List (Int × Int)) : Bool := decide (sel h e.1 = a) && !ansB e.2 h o
def oddsF (T : TD) (h a : Nat) (o : Int) : Option Nat := ((sb T).find? (oddsP T h a o)).map fun e => sel (1 - h) e.1
def oV : Option Nat → V
  | none => .non
  | some b => .int (b : Int)
def spAnswered (K : PySem.W.Frag) (C : Addr) : Sp := fun vs H Q _ => ∃ (p : Addr) (v : V) (h : Nat) (o : Int) (T : TD) (e : IP × List (Int × Int)), vs = [.ref p, v, .int (h : Int), .int o] ∧ h < 2 ∧ TaskAt C H p T ∧ WF T ∧ e ∈ T.bo ∧ TpAt H v (iI e.1) ∧ ∀ H', Same H H' → Q (.bl (ansB e.2 h o)) H'
def spOdds (K : PySem.W.Frag) (C : Addr) : Sp := fun vs H Q _ => ∃ (p : Addr) (h a : Nat) (o : Int) (T : TD), vs = [.ref p, .int (h : Int), .int (a : Int), .int o] ∧ h < 2 ∧ TaskAt C H p T ∧ WF T ∧ ∀ H', Same H H' → Q (oV (oddsF T h a o)) H'
section
variable {P : Program} {w : World} {K : PySem.W.Frag} {mg : Str → Option Value} {base : Heap}
abbrev nAnswered : List Str := ["task", "pair", "hand", "output", "outputs"]
theorem sc_answered : FnScope nAnswered ["task", "pair", "hand", "output"] (defScope s_is_answered) := ⟨rfl, rfl, rfl, by decide +kernel, rfl, by decide +kernel, by decide +kernel⟩
theorem ok_answered {f C : Addr} {fd : FuncData} (F : Fun K "is_answered" "is_answered" s_is_answered f fd) (Z : TxtC K mg C) : FnOk P w K mg base CX0 1 f fd ["task", "pair", "hand", "output"] (spAnswered K C) := by
  refine F.ok sc_answered (fun vs H Q E h => ?_) (fun cdv A outer s H vs Q E hr h => ?_)
  · obtain ⟨p, v, h, o, D, e, rfl, _⟩ := h
    rfl
  obtain ⟨p, v, h, o, D, e, rfl, hh, hTk, hW, he, hv, q⟩ := h
  have nd := sc_answered.nd
  have hu := hu_of hr
  refine ⟨_, (pss_one (ps_ret (pe_cmpR op_in_seq (pv 3) (pe_lc (own := [("outputs", 4)]) (g := (gName 4)) (tt := tYes) (te := (tOp (rIxT K) (tVar 4) (tVar 2))) rfl nd (pi_list (pe_dget hu (pe_fld (pv 0) rfl) (pv 1) (fun _ _ => rfl))) (blkOk_by (N := nAnswered) (sc := defScope s_is_answered) (by decide +kernel)) (fun _ _ _ _ _ => (by exact (pg_name (i := 4) nd rfl (Or.inl rfl)))) (fun _ _ _ _ _ => pts_nil) (fun _ _ _ _ _ => (by exact (pe_ix ix_tup (pv 4) (pv 2) (fun _ _ => rfl))))) (by rfl)))), ?_⟩
  obtain ⟨dx, a, d, hp, hA, kvs, hd, ha⟩ := hTk
  obtain ⟨t, rfl, ht⟩ := hv
  obtain ⟨lv, hlv, l, xs, rfl, hl, hx⟩ := val_at ha hW.srt e he
  refine ⟨_, rfl, _, rfl, p, C, dx, _, _, rfl, hp, Z.cl, Z.nB, flds_both _ _, _, rfl, d, _, rfl, hlv ▸ DGet.t (k := kI e.1) hd ht, l, rfl, ⟨_, SqL.of hl⟩, fun L hL => ?_⟩
  refine list_turns (xs := xs) (fun i H' => Same H H' ∧ H' L = some (.lst (((e.2.take i).map (selO h)).map V.int))) ⟨same_new hL _, upd_same⟩ (fun i H' _ h => h.1.seq (SqL.of hl)) ?_ ?_
  · rintro i x H' hxi ⟨s1, h1⟩
    obtain ⟨oo, ho, tt, rfl, htt⟩ := hx.get hxi
    refine ⟨rfl, _, rfl, _, rfl, tt, _, _, _, rfl, rfl, SqT.of (s1 _ _ htt), atI_nat (selO_at hh oo), _, h1, ?_, same_upd s1 hL, ?_⟩
    · rw [List.length_map, List.length_map, List.length_take]
      have := (hW.lets e he).2.1
      exact Nat.lt_of_le_of_lt (Nat.le_trans (Nat.min_le_right _ _) this) (by decide)
    · rw [upd_same, take_get ho, List.map_append, List.map_append]
      rfl
  · rintro H1 ⟨s1, h1⟩
    rw [hx.len, List.take_length] at h1
    refine ⟨L, _, rfl, .inl (SqL.of h1), rfl, flat_ints _, ?_⟩
    show Q (.bl (inV (.int o) ((e.2.map (selO h)).map V.int))) H1
    rw [inV_int]
    exact q _ s1
abbrev nOdds : List Str := ["task", "hand", "at", "output", "pair"]
theorem sc_odds : FnScope nOdds ["task", "hand", "at", "output"] (defScope s_at_odds) := ⟨rfl, rfl, rfl, by decide +kernel, rfl, by decide +kernel, by decide +kernel⟩
theorem ok_odds {f g1 g2 C : Addr} {fd d1 d2 : FuncData} (F : Fun K "at_odds" "at_odds" s_at_odds f fd) (T : Txt K mg) (Z : TxtC K mg C) (WAn : Def P w K mg base "is_answered" ["task", "pair", "hand", "output"] 1 (spAnswered K C) g1 d1)
    (Prs : MDef P w K mg base C "pairs" nPairs 1 (spPairs K C) g2 d2) : FnOk P w K mg base CX0 2 f fd ["task", "hand", "at", "output"] (spOdds K C) := by
  refine F.ok sc_odds (fun vs H Q E h => ?_) (fun cdv A outer s H vs Q E hr h => ?_)
  · obtain ⟨p, h, a, o, D, rfl, _⟩ := h
    rfl
  obtain ⟨p, h, a, o, D, rfl, hh, hTk, hW, q⟩ := h
  have nd := sc_odds.nd
  refine ⟨_, (pss_cons (ps_for PassesOwn.never (by rfl) (pi_list (pe_meth0 (pv 0) Z.cl Prs.M Prs.G (hr.mono (by decide)) Prs.b .nil pass0)) (pg_name (i := 4) nd rfl (Or.inl rfl))
      (pss_one (ps_if (PW.pt (pw_and (pt_cmpR op_eq (pe_ix ix_tup (pv 4) (pv 1) (fun _ _ => rfl)) (pv 2) (nomark _)) (pw_and1 (pt_not (pt_val (pe_call WAn.G (hr.mono (by decide)) rfl WAn.m WAn.k WAn.b .nil pass0 (pa_cons (pv 0) (pa_cons (pv 4) (pa_cons (pv 1) (pa_cons (pv 3) pa_nil))))))))))
      (pss_one (ps_ret (pe_ix ix_tup (pv 4) (pe_op op_sub pe_int (pv 1)) (fun _ _ => rfl))))
      pss_nil)))
    (pss_one (ps_ret pe_non))), ?_⟩
  obtain ⟨dx, a0, d, hp, hA, hB⟩ := id hTk
  refine ⟨_, rfl, p, dx, _, rfl, hp, flds_no _ _ (by decide +kernel) (by decide +kernel), p, D, rfl, hTk, hW, fun r xs hr0 hx => ?_⟩
  have s0 := same_new hr0 (.lst xs)
  have hr1 : (upd H r (.lst xs)) r = some (.lst xs) := upd_same
  refine ⟨r, rfl, ⟨_, SqL.of hr1⟩, for_list (xs := xs) (fun i σ H' => ∃ g, σ = [some (.ref p), some (.int (h : Int)), some (.int (a : Int)), some (.int o), g] ∧ Same (upd H r (.lst xs)) H' ∧ ∀ j (hj : j < (sb D).length), j < i → oddsP D h a o (sb D)[j] = false) ⟨_, rfl, Same.refl _, fun j _ h => absurd h (Nat.not_lt_zero _)⟩ (fun i σ H' _ ⟨_, _, s1, _⟩ => s1.seq (SqL.of hr1)) ?_ ?_⟩
  · rintro i x σ H' hxi ⟨g, rfl, s1, hn⟩
    obtain ⟨y, hy, tt, rfl, htt⟩ := hx.get hxi
    rw [List.getElem?_map] at hy
    obtain ⟨e, hbe, rfl⟩ := Option.map_eq_some_iff.mp hy
    have hib : i < (sb D).length := (List.getElem?_eq_some_iff.mp hbe).1
    have heq : (sb D)[i] = e := (List.getElem?_eq_some_iff.mp hbe).2
    have hem := sb_mem.mp (List.mem_of_getElem? hbe)
    have htt1 := s1 _ _ (s0 _ _ htt)
    refine ⟨_, rfl, _, rfl, tt, _, _, _, rfl, rfl, SqT.of htt1, atI_nat (iI_at hh e.1), _, rfl, rfl, _, rfl, ?_⟩
    rw [dec_nat]
    by_cases c1 : sel h e.1 = a
    case neg =>
      refine iteF' (decide_eq_false c1) ?_
      refine iteF ⟨_, rfl, s1, fun j hj hji => ?_⟩
      rcases Nat.lt_succ_iff_lt_or_eq.mp hji with z | rfl
      · exact hn j hj z
      · rw [heq]
        unfold oddsP
        rw [decide_eq_false c1, Bool.false_and]
    refine iteT' (decide_eq_true c1) ?_
    refine ⟨_, rfl, _, rfl, _, rfl, _, rfl, p, _, h, o, D, e, rfl, hh, hTk.mono (s0.trans s1), hW, hem, ⟨tt, rfl, htt1⟩, fun H2 s2 => ⟨_, rfl, ?_⟩⟩
    cases c2 : ansB e.2 h o with
    | true =>
      refine iteF ⟨_, rfl, s1.trans s2, fun j hj hji => ?_⟩
      rcases Nat.lt_succ_iff_lt_or_eq.mp hji with z | rfl
      · exact hn j hj z
      · rw [heq]
        unfold oddsP
        rw [c2]
        exact Bool.and_false _
    | false =>
      refine iteT ⟨_, rfl, _, rfl, _, _, rfl, rfl, tt, _, _, _, rfl, rfl, SqT.of (s2 _ _ htt1), atI_one hh (iI_at (by omega) e.1), ?_⟩
      have ef : oddsF D h a o = some (sel (1 - h) e.1) := by
        have z : (sb D).find? (oddsP D h a o) = some e := by
          refine List.find?_eq_some_iff_getElem.mpr ⟨?_, i, hib, heq, fun j hji => ?_⟩
          · unfold oddsP
            rw [decide_eq_true c1, c2]
            rfl
          · rw [hn j (by omega) hji]
            rfl
        unfold oddsF
        rw [z]
        rfl
      have z := q H2 ((s0.trans s1).trans s2)
      rw [ef] at z
      exact z
  · rintro σ H' ⟨g, rfl, s1, hn⟩
    have ef : oddsF D h a o = none := by
      have z : (sb D).find? (oddsP D h a o) = none := by
        rw [List.find?_eq_none]
        intro e he
        obtain ⟨j, hj⟩ := List.getElem?_of_mem he
        obtain ⟨hj1, hj2⟩ := List.getElem?_eq_some_iff.mp hj
        have := hn j hj1 (by rw [hx.len, List.length_map]; exact hj1)
        rw [hj2] at this
        rw [this]
        exact Bool.false_ne_true
      unfold oddsF
      rw [z]
      rfl
    have z := q H' (s0.trans s1)
    rw [ef] at z
    exact z
end
end TA

set_option Elab.async false
set_option maxRecDepth 100000
set_option maxHeartbeats 4000000
namespace TA
open PySem L2 PyProof.Rows
set_option linter.unusedVariables false
def wonO (ch : Nat → List Int) (h : Nat) (p : IP) : Int := (ch (1 - h)).getD (sel (1 - h) p) 0
def ansL (ch : Nat → List Int) (h : Nat) (e : IP × List (Int × Int)) : List Int := (e.2.filter fun o => decide (selO (1 - h) o = wonO ch h e.1)).map (selO h)
def ansO (ch : Nat → List Int) (h : Nat) (e : IP × List (Int × Int)) : Int := (ansL ch h e).headD 0
def ansKV (ch : Nat → List Int) (h : Nat) (bo : BD) : List (List Key × V) := bo.map fun e => (kI e.1, V.int (ansO ch h e))
def spAnsTo (K : PySem.W.Frag) (C : Addr) : Sp := fun vs H Q _ => ∃ (p : Addr) (h : Nat) (v : V) (T : TD) (ch : Nat → List Int), vs = [.ref p, .int (h : Int), v] ∧ h < 2 ∧ TaskAt C H p T ∧ WF T ∧ RowsAt H v [ch 0, ch 1] ∧ (∀ h, h < 2 → (ch h).length = (T.al h).length) ∧
  (∀ e ∈ T.bo, ansL ch h e ≠ []) ∧ ∀ (r : Addr) (H' : Hp), Same H H' → H r = none → H' r = some (.dT (ansKV ch h (sb T))) → Q (.ref r) H'
theorem filt_snoc {α : Type} (p : α → Bool) (l : List α) (x : α) : (l ++ [x]).filter p = if p x = true then l.filter p ++ [x] else l.filter p := by
  rw [List.filter_append]
  by_cases c : p x = true
  · rw [if_pos c, List.filter_cons_of_pos c]
    rfl
  · rw [if_neg c, List.filter_cons_of_neg c]
    exact List.append_nil _
section
variable {P : Program} {w : World} {K : PySem.W.Frag} {mg : Str → Option Value} {base : Heap}
abbrev nAnsTo : List Str := ["task", "hand", "alone", "answers", "pair", "won", "outputs"]
theorem sc_ansto : FnScope nAnsTo ["task", "hand", "alone"] (defScope s_answers_to) := ⟨rfl, rfl, rfl, by decide +kernel, rfl, by decide +kernel, by decide +kernel⟩
theorem ok_ansto {f g2 C : Addr} {fd d2 : FuncData} (F : Fun K "answers_to" "answers_to" s_answers_to f fd) (T : Txt K mg) (Z : TxtC K mg C)
    (Prs : MDef P w K mg base C "pairs" nPairs 1 (spPairs K C) g2 d2) : FnOk P w K mg base CX0 2 f fd ["task", "hand", "alone"] (spAnsTo K C) := by
  refine F.ok sc_ansto (fun vs H Q E h => ?_) (fun cdv A outer s H vs Q E hr h => ?_)
  · obtain ⟨p, h, v, D, ch, rfl, _⟩ := h
    rfl
  obtain ⟨p, h, v, D, ch, rfl, hh, hTk, hW, hR, hlen, hne, q⟩ := h
  have nd := sc_ansto.nd
  have hu := hu_of hr
  refine ⟨_, (pss_cons (ps_set (i := 3) nd rfl (Or.inl rfl) pe_dnewT)
    (pss_cons (ps_for PassesOwn.never (by rfl) (pi_list (pe_meth0 (pv 0) Z.cl Prs.M Prs.G (hr.mono (by decide)) Prs.b .nil pass0)) (pg_name (i := 4) nd rfl (Or.inl rfl))
      (pss_cons (ps_set (i := 5) nd rfl (Or.inr rfl) (pe_ix ix_list (pe_ix ix_list (pv 2) (pe_op op_sub pe_int (pv 1)) (fun _ _ => rfl)) (pe_ix ix_tup (pv 4) (pe_op op_sub pe_int (pv 1)) (fun _ _ => rfl)) (fun _ _ => rfl)))
    (pss_one (ps_dput hu (pv 3) (pv 4) (pe_ix ix_list (pe_lc (own := [("outputs", 6)]) (g := (gName 6)) (tt := (tTest (tOp rEq (tOp (rIxT K) (tVar 6) (tOp (rI0 fun i j => .int (i - j)) (tC (.int 1)) (tVar 1))) (tVar 5)))) (te := (tOp (rIxT K) (tVar 6) (tVar 1))) rfl nd (pi_list (pe_dget hu (pe_fld (pv 0) rfl) (pv 4) (fun _ _ => rfl))) (blkOk_by (N := nAnsTo) (sc := defScope s_answers_to) (by decide +kernel)) (fun _ _ _ _ _ => (by exact (pg_name (i := 6) nd rfl (Or.inl rfl)))) (fun _ _ _ _ _ => pts_one (by exact (pt_cmpR op_eq (pe_ix ix_tup (pv 6) (pe_op op_sub pe_int (pv 1)) (fun _ _ => rfl)) (pv 5) (nomark _)))) (fun _ _ _ _ _ => (by exact (pe_ix ix_tup (pv 6) (pv 1) (fun _ _ => rfl))))) pe_int (fun _ _ => rfl)) rfl))))
    (pss_one (ps_ret (pv 3))))), ?_⟩
  intro L hL
  have s0 := same_new hL (.dT [])
  obtain ⟨dx, a0, d, hp, hA, hB⟩ := hTk.mono s0
  refine ⟨_, rfl, p, dx, _, rfl, hp, flds_no _ _ (by decide +kernel) (by decide +kernel), p, D, rfl, ⟨dx, a0, d, hp, hA, hB⟩, hW, fun r xs hr0 hx => ?_⟩
  have s1 := same_new hr0 (.lst xs)
  have hr1 : (upd (upd H L (.dT [])) r (.lst xs)) r = some (.lst xs) := upd_same
  have hrH : H r = none := none_of_same s0 hr0
  have hLr : L ≠ r := ne_of_none upd_same hr0
  have s01 := s0.trans s1
  refine ⟨r, rfl, ⟨_, SqL.of hr1⟩, for_list (xs := xs) (fun i σ H' => ∃ g1 g2 g3, σ = [some (.ref p), some (.int (h : Int)), some v, some (.ref L), g1, g2, g3] ∧ Same H H' ∧ H' r = some (.lst xs) ∧ A2 (TpAt H') xs ((sb D).map fun e => iI e.1) ∧ H' L = some (.dT (ansKV ch h ((sb D).take i)))) ⟨_, _, _, rfl, s01, hr1, hx.imp fun _ _ r => r.mono (.same s1), s1 _ _ upd_same⟩ (fun i σ H' _ ⟨_, _, _, _, _, e, _⟩ => SqL.of e) ?_ ?_⟩
  · rintro i x σ H' hxi ⟨g1, g2, g3, rfl, sH, hrr, hxx, hLL⟩
    obtain ⟨y, hy, tt, rfl, htt⟩ := hxx.get hxi
    rw [List.getElem?_map] at hy
    obtain ⟨e, hbe, rfl⟩ := Option.map_eq_some_iff.mp hy
    have hib : i < (sb D).length := (List.getElem?_eq_some_iff.mp hbe).1
    have hem := sb_mem.mp (List.mem_of_getElem? hbe)
    obtain ⟨rg0, rg1⟩ := hW.rng e hem
    -- won
    obtain ⟨t, ys, rfl, ht, ar⟩ := hR.mono (.same sH)
    have h1 : 1 - h < 2 := by omega
    obtain ⟨z, hz, rr, rfl, hrow⟩ := ar.at (i := 1 - h) (y := ch (1 - h)) (by
      obtain rfl | rfl : h = 0 ∨ h = 1 := by omega
      · rfl
      · rfl)
    have hsl : sel (1 - h) e.1 < (ch (1 - h)).length := by
      rw [hlen _ h1]
      obtain rfl | rfl : h = 0 ∨ h = 1 := by omega
      · exact rg1
      · exact rg0
    have gw : ((ch (1 - h)).map V.int)[sel (1 - h) e.1]? = some (.int (wonO ch h e.1)) := by
      unfold wonO
      rw [List.getElem?_map, List.getD_eq_getElem?_getD, List.getElem?_eq_getElem hsl]
      rfl
    refine ⟨_, rfl, _, rfl, _, _, rfl, rfl, t, _, _, _, rfl, rfl, SqL.of ht, atI_one hh hz, _, rfl, _, rfl, _, _, rfl, rfl, tt, _, _, _, rfl, rfl, SqT.of htt, atI_one hh (iI_at h1 e.1), rr, _, _, _, rfl, rfl, SqL.of hrow, atI_nat gw, ?_⟩
    -- answers[pair]
    obtain ⟨dx, a0, d, hp, hA, kvs, hd, ha⟩ := hTk.mono sH
    obtain ⟨lv, hlv, l, zs, rfl, hl, hzs⟩ := val_at ha hW.srt e hem
    refine ⟨_, rfl, p, C, dx, _, _, rfl, hp, Z.cl, Z.nB, flds_both _ _, _, rfl, d, _, rfl, hlv ▸ DGet.t (k := kI e.1) hd htt, l, rfl, ⟨_, SqL.of hl⟩, fun M hM => ?_⟩
    refine list_turns (xs := zs) (fun j H2 => Same H' H2 ∧ H2 M = some (.lst ((((e.2.take j).filter fun o => decide (selO (1 - h) o = wonO ch h e.1)).map (selO h)).map V.int))) ⟨same_new hM _, upd_same⟩ (fun j H2 _ h => h.1.seq (SqL.of hl)) ?_ ?_
    · rintro j z H2 hzj ⟨s2, h2⟩
      obtain ⟨oo, ho, to, rfl, hto⟩ := hzs.get hzj
      have hto2 := s2 _ _ hto
      refine ⟨rfl, _, rfl, _, rfl, _, _, rfl, rfl, to, _, _, _, rfl, rfl, SqT.of hto2, atI_one hh (selO_at h1 oo), _, rfl, rfl, _, rfl, ?_⟩
      by_cases c : selO (1 - h) oo = wonO ch h e.1
      · refine iteT' (decide_eq_true (by rw [c])) ?_
        refine ⟨_, rfl, _, rfl, to, _, _, _, rfl, rfl, SqT.of hto2, atI_nat (selO_at hh oo), _, h2, ?_, same_upd s2 hM, ?_⟩
        · rw [List.length_map, List.length_map]
          refine Nat.lt_of_le_of_lt (List.length_filter_le _ _) ?_
          rw [List.length_take]
          have := (hW.lets e hem).2.1
          exact Nat.lt_of_le_of_lt (Nat.le_trans (Nat.min_le_right _ _) this) (by decide)
        · rw [upd_same, take_get ho, filt_snoc, if_pos (decide_eq_true c), List.map_append, List.map_append]
          rfl
      · refine iteF' (decide_eq_false fun q => c (by injection q)) ?_
        refine ⟨s2, ?_⟩
        rw [take_get ho, filt_snoc, if_neg (by rw [decide_eq_false c]; exact Bool.false_ne_true)]
        exact h2
    · rintro H2 ⟨s2, h2⟩
      rw [hzs.len, List.take_length] at h2
      have h2 : H2 M = some (.lst ((ansL ch h e).map V.int)) := h2
      have g0 : ((ansL ch h e).map V.int)[0]? = some (.int (ansO ch h e)) := by
        have := hne e hem
        unfold ansO
        cases c : ansL ch h e with
        | nil => exact absurd c this
        | cons x r => rfl
      refine ⟨M, _, _, _, rfl, rfl, SqL.of h2, atI_nat (j := 0) g0, ?_⟩
      have hLn : ansKV ch h ((sb D).take (i + 1)) = putK (ansKV ch h ((sb D).take i)) (kI e.1) (.int (ansO ch h e)) := by
        have hvn : valV (ansKV ch h ((sb D).take i)) (kI e.1) = none := valV_noneP fun kv hkv c => by
          obtain ⟨e', he', rfl⟩ := List.mem_map.mp hkv
          have c : kI e'.1 = kI e.1 := c
          have c := kI_inj c
          obtain ⟨j, hj⟩ := List.getElem?_of_mem he'
          have hjl : j < i := by
            have := (List.getElem?_eq_some_iff.mp hj).1
            rw [List.length_take] at this
            omega
          rw [List.getElem?_take_of_lt hjl] at hj
          have sr := List.pairwise_iff_getElem.mp (sb_ne hW) j i (by rw [List.length_map]; omega) (by rw [List.length_map]; exact hib) hjl
          rw [List.getElem_map, List.getElem_map, (List.getElem?_eq_some_iff.mp hj).2, (List.getElem?_eq_some_iff.mp hbe).2] at sr
          exact sr c
        rw [putK_new _ hvn, take_get hbe]
        unfold ansKV
        rw [List.map_append]
        rfl
      have hLL2 := s2 _ _ hLL
      refine ⟨_, rfl, _, rfl, L, _, rfl, DPut.t (k := kI e.1) hLL2 (s2 _ _ htt) ?_, ?_⟩
      · unfold ansKV
        rw [List.length_map, List.length_take]
        have := sb_many hW
        exact Nat.lt_of_le_of_lt (Nat.le_trans (Nat.min_le_right _ _) this) (by decide)
      refine ⟨_, _, _, rfl, same_upd (sH.trans s2) hL, by rw [upd_ne (Ne.symm hLr)]; exact s2 _ _ hrr, hxx.imp fun _ _ r => r.mono ((Kp.same s2).trans (.put hLL2 nf_dT)), ?_⟩
      rw [upd_same, hLn]
  · rintro σ H' ⟨g1, g2, g3, rfl, sH, hrr, hxx, hLL⟩
    rw [hx.len, List.length_map, List.take_length] at hLL
    exact ⟨_, rfl, q L H' sH hL hLL⟩
end
end TA

set_option Elab.async false
set_option maxRecDepth 100000
set_option maxHeartbeats 4000000
namespace TA
open PySem L2 PyProof.Rows
set_option linter.unusedVariables false
theorem hand_at {i : Nat} {z : V} (h : ([V.int 0, V.int 1] : List V)[i]? = some z) : i < 2 ∧ z = .int (i : Int) := by
  have hi : i < 2 := (List.getElem?_eq_some_iff.mp h).1
  refine ⟨hi, ?_⟩
  obtain rfl | rfl : i = 0 ∨ i = 1 := by omega
  · simpa using h.symm
  · simpa using h.symm
def okS (T : TD) (h a : Nat) (o : Int) : Bool := (oddsF T h a o).isNone
def canB (T : TD) (h a : Nat) : Bool := ((T.al h).getD a []).any (okS T h a)
theorem okS_iff {T : TD} {h a : Nat} {o : Int} : okS T h a o = true ↔ ∀ e ∈ T.bo, sel h e.1 = a → ansB e.2 h o = true := by
  unfold okS oddsF
  rw [Option.isNone_map, Option.isNone_iff_eq_none, List.find?_eq_none]
  unfold oddsP
  constructor
  · intro q e he hs
    have := q e (sb_mem.mpr he)
    rw [decide_eq_true hs, Bool.true_and] at this
    simpa using this
  · intro q e he c
    obtain ⟨c1, c2⟩ := Bool.and_eq_true_iff.mp c
    rw [q e (sb_mem.mp he) (of_decide_eq_true c1)] at c2
    cases c2
theorem inV_non {row : List Int} {T : TD} {h a : Nat} : inV .non (row.map fun o => oV (oddsF T h a o)) = row.any (okS T h a) := by
  induction row with
  | nil => rfl
  | cons x r ih =>
    show (eqV (oV (oddsF T h a x)) .non || inV .non (r.map fun o => oV (oddsF T h a o))) = (okS T h a x || r.any (okS T h a))
    rw [ih]
    unfold okS
    cases oddsF T h a x with
    | none => rfl
    | some b => rfl
theorem flat_oV {row : List Int} {T : TD} {h a : Nat} : (row.map fun o => oV (oddsF T h a o)).all flatV = true := by
  rw [List.all_eq_true]
  intro v hv
  obtain ⟨x, _, rfl⟩ := List.mem_map.mp hv
  cases oddsF T h a x with
  | none => rfl
  | some b => rfl
theorem first_any {p : Int → Bool} : ∀ {row : List Int}, row.any p = true → ∃ (j : Nat) (o : Int), row[j]? = some o ∧ p o = true ∧ ∀ (m : Nat) (o' : Int), m < j → row[m]? = some o' → p o' = false
  | [], h => by cases h
  | x :: r, h => by
    cases c : p x with
    | true => exact ⟨0, x, rfl, c, fun m o' hm => absurd hm (Nat.not_lt_zero _)⟩
    | false =>
      rw [List.any_cons, c, Bool.false_or] at h
      obtain ⟨j, o, h1, h2, h3⟩ := first_any h
      refine ⟨j + 1, o, h1, h2, fun m o' hm e => ?_⟩
      cases m with
      | zero =>
        obtain rfl : x = o' := by simpa using e
        exact c
      | succ m => exact h3 m o' (by omega) (by simpa using e)
theorem find_first {p : Int → Bool} : ∀ {row : List Int} {m : Nat} {o : Int}, row[m]? = some o → p o = true → (∀ (m' : Nat) (o' : Int), m' < m → row[m']? = some o' → p o' = false) → row.find? p = some o
  | [], _, _, h, _, _ => by simp at h
  | x :: r, 0, o, h, hp, _ => by
    obtain rfl : x = o := by simpa using h
    rw [List.find?_cons_of_pos hp]
  | x :: r, m + 1, o, h, hp, hm => by
    have hx : p x = false := hm 0 x (Nat.succ_pos _) rfl
    rw [List.find?_cons_of_neg (by rw [hx]; decide)]
    exact find_first (m := m) (by simpa using h) hp fun m' o' h1 h2 => hm (m' + 1) o' (by omega) (by simpa using h2)
def goodS (T : TD) (h a : Nat) (o : Int) : Prop := o ∈ (T.al h).getD a [] ∧ okS T h a o = true ∧ ((T.al h).getD a []).find? (okS T h a) = some o
theorem ansL_ne {T : TD} (W : WF T) {ch : Nat → List Int} (hl : ∀ h, h < 2 → (ch h).length = (T.al h).length) (hg : ∀ h a, h < 2 → a < (T.al h).length → goodS T h a ((ch h).getD a 0)) {h : Nat} (hh : h < 2) : ∀ e ∈ T.bo, ansL ch h e ≠ [] := by
  intro e he c
  have hr : sel (1 - h) e.1 < (T.al (1 - h)).length := by
    obtain ⟨r0, r1⟩ := W.rng e he
    obtain rfl | rfl : h = 0 ∨ h = 1 := by omega
    · exact r1
    · exact r0
  have g := okS_iff.mp (hg (1 - h) _ (by omega) hr).2.1 e he rfl
  have m := of_decide_eq_true (show decide (_ ∈ _) = true from g)
  obtain ⟨o, ho, eo⟩ := List.mem_map.mp m
  have : o ∈ e.2.filter fun o => decide (selO (1 - h) o = wonO ch h e.1) := List.mem_filter.mpr ⟨ho, decide_eq_true eo⟩
  have z : selO h o ∈ ansL ch h e := List.mem_map.mpr ⟨o, this, rfl⟩
  rw [c] at z
  cases z
/-- what boxed tells where there is a protocol -/
structure BxAt (H H' : Hp) (r : Addr) (T : TD) (ch : Nat → List Int) (t al an r0 r1 d0 d1 : Addr) : Prop where
  h_r : H' r = some (.tup [.str "boxed", .ref t])
  h_t : H' t = some (.tup [.ref al, .ref an])
  h_al : H' al = some (.lst [.ref r0, .ref r1])
  h_r0 : H' r0 = some (.lst ((ch 0).map .int))
  h_r1 : H' r1 = some (.lst ((ch 1).map .int))
  h_an : H' an = some (.lst [.ref d0, .ref d1])
  h_d0 : H' d0 = some (.dT (ansKV ch 0 (sb T)))
  h_d1 : H' d1 = some (.dT (ansKV ch 1 (sb T)))
  f0 : H r0 = none
  f1 : H d1 = none
  f2 : H d0 = none
  f3 : H r1 = none
  nr : r0 ≠ r1
  nd : d0 ≠ d1
def spBoxed (K : PySem.W.Frag) (C : Addr) : Sp := fun vs H Q _ => ∃ (p : Addr) (T : TD), vs = [.ref p] ∧ TaskAt C H p T ∧ WF T ∧
  (∀ H' r ch t al an r0 r1 d0 d1, Same H H' → BxAt H H' r T ch t al an r0 r1 d0 d1 → (∀ h, h < 2 → (ch h).length = (T.al h).length) → (∀ h a, h < 2 → a < (T.al h).length → goodS T h a ((ch h).getD a 0)) → Q (.ref r) H') ∧
  (∀ (H' : Hp) (r t l : Addr) (h a : Nat), Same H H' → H' r = some (.tup [.str "bar", .ref t]) → H' t = some (.tup [.int (h : Int), .int (a : Int), .ref l]) → H' l = some (.lst (((T.al h).getD a []).map fun o => oV (oddsF T h a o))) → H l = none → h < 2 → a < (T.al h).length → canB T h a = false → Q (.ref r) H')
section
variable {P : Program} {w : World} {K : PySem.W.Frag} {mg : Str → Option Value} {base : Heap}
abbrev nBoxed : List Str := ["task", "alone", "hand", "at", "outputs", "others", "output"]
theorem sc_boxed : FnScope nBoxed ["task"] (defScope s_boxed) := ⟨rfl, rfl, rfl, by decide +kernel, rfl, by decide +kernel, by decide +kernel⟩
theorem ok_boxed {f g1 g2 g3 C : Addr} {fd d1 d2 d3 : FuncData} (F : Fun K "boxed" "boxed" s_boxed f fd) (T : Txt K mg) (U : TxtH K mg) (Z : TxtC K mg C) (WOd : Def P w K mg base "at_odds" ["task", "hand", "at", "output"] 2 (spOdds K C) g1 d1)
    (WTo : Def P w K mg base "answers_to" ["task", "hand", "alone"] 2 (spAnsTo K C) g2 d2) (Inp : MDef P w K mg base C "inputs" nInputs 4 (spInputs K C) g3 d3) : FnOk P w K mg base CX0 5 f fd ["task"] (spBoxed K C) := by
  refine F.ok sc_boxed (fun vs H Q E h => ?_) (fun cdv A outer s H vs Q E hr h => ?_)
  · obtain ⟨p, D, rfl, _⟩ := h
    rfl
  obtain ⟨p, D, rfl, hTk, hW, qA, qB⟩ := h
  obtain ⟨hT, mH, hH⟩ := U.hands
  have nd := sc_boxed.nd
  refine ⟨_, (pss_cons (ps_set (i := 1) nd rfl (Or.inl rfl) (pe_lst (pa_cons (pe_lst pa_nil) (pa_cons (pe_lst pa_nil) pa_nil))))
    (pss_cons (ps_for PassesOwn.never (by rfl) (pi_tup (pe_glob (v := .ref hT) rfl mH rfl)) (pg_name (i := 2) nd rfl (Or.inr rfl))
      (pss_one (ps_for PassesOwn.never (by rfl) (pi_range1 (by rfl) T.range (pa_cons (pe_meth (pv 0) Z.cl Inp.M Inp.G (hr.mono (by decide)) Inp.b .nil pass0 (pa_cons (pv 2) pa_nil)) pa_nil)) (pg_name (i := 3) nd rfl (Or.inr rfl))
      (pss_cons (ps_set (i := 4) nd rfl (Or.inl rfl) (pe_ix ix_list (pe_ix ix_list (pe_fld (pv 0) rfl) (pv 2) (fun _ _ => rfl)) (pv 3) (fun _ _ => rfl)))
    (pss_cons (ps_setLc (i := 5) (own := [("output", 6)]) (g := (gName 6)) (tt := tYes) (te := (tCall (spOdds K C) [] E0 (tCons (tVar 0) (tCons (tVar 2) (tCons (tVar 3) (tCons (tVar 6) tNil)))))) rfl nd rfl rfl (sw_true rfl rfl rfl (by decide +kernel)) (pi_list (pv 4)) (blkOk_by (N := nBoxed) (sc := defScope s_boxed) (by decide +kernel)) (fun _ _ _ _ _ => (by exact (pg_name (i := 6) nd rfl (Or.inl rfl)))) (fun _ _ _ _ _ => pts_nil) (fun _ _ _ _ _ => (by exact (pe_call WOd.G (hr.mono (by decide)) rfl WOd.m WOd.k WOd.b .nil pass0 (pa_cons (pv 0) (pa_cons (pv 2) (pa_cons (pv 3) (pa_cons (pv 6) pa_nil))))))))
    (pss_cons (ps_if (pt_cmpR op_notIn_seq pe_non (pv 5) (by rfl))
      (pss_one (ps_ret (pe_tup (pa_cons pe_str (pa_cons (pe_tup (pa_cons (pv 2) (pa_cons (pv 3) (pa_cons (pv 5) pa_nil)))) pa_nil)))))
      pss_nil)
    (pss_one (ps_expr (pe_bm PySem.F.plainAttrs_list PySem.F.slot_list_append PySem.F.type_list_append mt_append (pe_ix ix_list (pv 1) (pv 2) (fun _ _ => rfl)) (pa_cons (pe_ix ix_list (pv 4) (pe_bm PySem.F.plainAttrs_list PySem.F.slot_list_index PySem.F.type_list_index mt_index (pv 5) (pa_cons pe_non pa_nil)) (fun _ _ => rfl)) pa_nil))))))))))
    (pss_one (ps_ret (pe_tup (pa_cons pe_str (pa_cons (pe_tup (pa_cons (pv 1) (pa_cons (pe_lst (pa_cons (pe_call WTo.G (hr.mono (by decide)) rfl WTo.m WTo.k WTo.b .nil pass0 (pa_cons (pv 0) (pa_cons pe_int (pa_cons (pv 1) pa_nil)))) (pa_cons (pe_call WTo.G (hr.mono (by decide)) rfl WTo.m WTo.k WTo.b .nil pass0 (pa_cons (pv 0) (pa_cons pe_int (pa_cons (pv 1) pa_nil)))) pa_nil))) pa_nil))) pa_nil))))))), ?_⟩
  refine ⟨(by show 0 ≤ sizeLine; decide), fun A0 h0 => ⟨(by show 0 ≤ sizeLine; decide), fun A1 h1 => ⟨(by show 2 ≤ sizeLine; decide), fun A2' h2 => ?_⟩⟩⟩
  have s1 := same_new h0 (.lst [])
  have s2 := same_new h1 (.lst [])
  have s3 := same_new h2 (.lst [V.ref A0, V.ref A1])
  have n01 : A0 ≠ A1 := ne_of_none upd_same h1
  have n02 : A0 ≠ A2' := ne_of_none (s2 _ _ upd_same) h2
  have n12 : A1 ≠ A2' := ne_of_none upd_same h2
  have f1 : H A1 = none := none_of_same s1 h1
  have f2 : H A2' = none := none_of_same (s1.trans s2) h2
  let Af : Nat → Addr := fun h => if h = 0 then A0 else A1
  have Af0 : Af 0 = A0 := rfl
  have Af1 : Af 1 = A1 := rfl
  have nAf : ∀ h, h < 2 → Af h ≠ A2' ∧ H (Af h) = none := fun h hh => by
    obtain rfl | rfl : h = 0 ∨ h = 1 := by omega
    · exact ⟨n02, h0⟩
    · exact ⟨n12, f1⟩
  have dAf : ∀ h h', h < 2 → h' < 2 → h ≠ h' → Af h ≠ Af h' := fun h h' a b c => by
    obtain rfl | rfl : h = 0 ∨ h = 1 := by omega
    · obtain rfl : h' = 1 := by omega
      exact n01
    · obtain rfl : h' = 0 := by omega
      exact Ne.symm n01
  have hAat : ∀ h, h < 2 → ([V.ref A0, V.ref A1] : List V)[h]? = some (.ref (Af h)) := fun h hh => by
    obtain rfl | rfl : h = 0 ∨ h = 1 := by omega
    · rfl
    · rfl
  refine ⟨hT, rfl, ⟨_, hH _⟩, for_tup (xs := [V.int 0, V.int 1]) (fun i σ H' => ∃ g2 g3 g4 g5 g6 cs, σ = [some (.ref p), some (.ref A2'), g2, g3, g4, g5, g6] ∧ Same H H' ∧ H' A2' = some (.lst [.ref A0, .ref A1]) ∧ (∀ h, h < 2 → H' (Af h) = some (.lst ((cs h).map V.int))) ∧
    (∀ h, h < 2 → (cs h).length = if h < i then (D.al h).length else 0) ∧ ∀ h a, h < 2 → a < (cs h).length → goodS D h a ((cs h).getD a 0)) ⟨_, _, _, _, _, fun _ => [], rfl, (s1.trans s2).trans s3, upd_same, ?_, fun h hh => rfl, fun h a _ ha => absurd ha (Nat.not_lt_zero _)⟩ (fun i σ H' _ _ => hH H') ?_ ?_⟩
  · intro h hh
    obtain rfl | rfl : h = 0 ∨ h = 1 := by omega
    · exact s3 _ _ (s2 _ _ upd_same)
    · exact s3 _ _ upd_same
  · rintro i z σ H' hz ⟨g2, g3, g4, g5, g6, cs, rfl, sH, hA2, hAf, hln, hgd⟩
    obtain ⟨hi, rfl⟩ := hand_at hz
    obtain ⟨dx, a, d, hp, hA, hB⟩ := hTk.mono sH
    have n0 := hW.n0 i hi
    refine ⟨_, rfl, p, dx, _, rfl, hp, flds_no _ _ (by decide +kernel) (by decide +kernel), _, rfl, p, i, D, rfl, hi, TaskAt.r ⟨dx, a, d, hp, hA, hB⟩, ?_⟩
    refine ⟨_, rfl, by omega, by omega, for_range (n := (D.al i).length) (fun j σ H2 => ∃ g3 g4 g5 g6 cs, σ = [some (.ref p), some (.ref A2'), some (.int (i : Int)), g3, g4, g5, g6] ∧ Same H H2 ∧ H2 A2' = some (.lst [.ref A0, .ref A1]) ∧ (∀ h, h < 2 → H2 (Af h) = some (.lst ((cs h).map V.int))) ∧
      (∀ h, h < 2 → (cs h).length = if h < i then (D.al h).length else if h = i then j else 0) ∧ ∀ h a, h < 2 → a < (cs h).length → goodS D h a ((cs h).getD a 0)) ⟨_, _, _, _, cs, rfl, sH, hA2, hAf, fun h hh => ?_, hgd⟩ ?_ ?_⟩
    · rw [hln h hh]
      by_cases c : h < i
      · rw [if_pos c, if_pos c]
      · rw [if_neg c, if_neg c]
        split <;> rfl
    · clear hln hgd hAf hA2 hA hB hp
      rintro j σ H2 hj ⟨g3, g4, g5, g6, cs, rfl, sH2, hA2, hAf, hln, hgd⟩
      have ej : (0 : Int) + (j : Int) = (j : Int) := by omega
      rw [ej]
      obtain ⟨dx2, a2, d2, hp2, hA2t, hB2⟩ := hTk.mono sH2
      obtain ⟨t3, x0, x1, e3, ht3, hrow3⟩ := hA2t.row
      obtain rfl : a2 = t3 := by injection e3
      obtain ⟨x, hx, r3, xs3, rfl, hr3, ha3⟩ := hrow3 i hi
      have ejj : (D.al i)[j]? = some (D.al i)[j] := List.getElem?_eq_getElem hj
      obtain ⟨y3, hy3, r4, rfl, hr4⟩ := ha3.at (i := j) (y := (D.al i)[j]) ejj
      have eg : (D.al i).getD j [] = (D.al i)[j] := by rw [List.getD_eq_getElem?_getD, ejj]; rfl
      have hrl : (D.al i)[j].length ≤ 60 := (hW.row i hi _ (List.mem_of_getElem? ejj)).2.1
      generalize hrw : (D.al i)[j] = row at hr4 eg hrl
      refine ⟨_, rfl, p, C, dx2, _, _, rfl, hp2, Z.cl, Z.nA, flds_alone _ _, _, rfl, a2, _, _, _, rfl, rfl, SqL.of ht3, atI_nat hx, _, rfl, r3, _, _, _, rfl, rfl, SqL.of hr3, atI_nat hy3, ?_⟩
      refine ⟨_, rfl, r4, rfl, ⟨_, SqL.of hr4⟩, fun L hL => ?_⟩
      refine list_turns (xs := row.map V.int) (fun k H3 => Same H2 H3 ∧ H3 L = some (.lst ((row.take k).map fun o => oV (oddsF D i j o)))) ⟨same_new hL _, upd_same⟩ (fun k H3 _ h => h.1.seq (SqL.of hr4)) ?_ ?_
      · rintro k z H3 hk ⟨s4, h4⟩
        obtain ⟨o, ho, rfl⟩ : ∃ o, row[k]? = some o ∧ z = .int o := by
          rw [List.getElem?_map] at hk
          obtain ⟨o, h1, h2⟩ := Option.map_eq_some_iff.mp hk
          exact ⟨o, h1, h2.symm⟩
        refine ⟨rfl, _, rfl, _, rfl, _, rfl, _, rfl, p, i, j, o, D, rfl, hi, hTk.mono (sH2.trans s4), hW, fun H4 s5 => ⟨_, s5 _ _ h4, ?_, same_upd (s4.trans s5) hL, ?_⟩⟩
        · rw [List.length_map, List.length_take]
          exact Nat.lt_of_le_of_lt (Nat.le_trans (Nat.min_le_right _ _) hrl) (by decide)
        · rw [upd_same, take_get ho, List.map_append]
          rfl
      · rintro H3 ⟨s4, h4⟩
        rw [List.length_map, List.take_length] at h4
        have hA2' := s4 _ _ hA2
        have hr4' := s4 _ _ hr4
        refine ⟨_, rfl, L, _, rfl, .inl (SqL.of h4), rfl, flat_oV, _, rfl, ?_⟩
        simp only [if_true]
        rw [inV_non]
        cases c : row.any (okS D i j) with
        | false =>
          refine iteT ⟨_, rfl, _, rfl, _, rfl, (by show 3 ≤ sizeLine; decide), fun t ht => ⟨(by show 2 ≤ sizeLine; decide), fun r hr => ?_⟩⟩
          have s5 := same_new ht (.tup [V.int (i : Int), V.int (j : Int), V.ref L])
          have s6 := same_new hr (.tup [V.str "bar", V.ref t])
          refine qB _ r t L i j (((sH2.trans s4).trans s5).trans s6) upd_same (s6 _ _ upd_same) ?_ (none_of_same sH2 hL) hi hj ?_
          · rw [eg]; exact s6 _ _ (s5 _ _ h4)
          · unfold canB
            rw [eg]; exact c
        | true =>
          obtain ⟨m, o, hm, hpo, hmin⟩ := first_any c
          have hiA := s4 _ _ (hAf i hi)
          refine iteF ⟨_, rfl, _, rfl, A2', _, _, _, rfl, rfl, SqL.of hA2', atI_nat (hAat i hi), .inl ⟨rfl, _, SqL.of hiA⟩, _, rfl, _, rfl, .inl ⟨rfl, _, SqL.of h4⟩, L, _, _, m, .non, rfl, rfl, SqL.of h4, rfl, flat_oV, ?_, rfl, ?_, r4, _, _, _, rfl, rfl, SqL.of hr4', atI_nat (by rw [List.getElem?_map, hm]; rfl), Af i, _, _, rfl, rfl, hiA, ?_, ?_⟩
          · rw [List.getElem?_map, hm]
            unfold okS at hpo
            show some (oV (oddsF D i j o)) = some V.non
            rw [Option.isNone_iff_eq_none.mp hpo]
            rfl
          · intro m' z' hm' hz'
            rw [List.getElem?_map] at hz'
            obtain ⟨o', ho', rfl⟩ := Option.map_eq_some_iff.mp hz'
            have := hmin m' o' hm' ho'
            unfold okS at this
            cases q : oddsF D i j o' with
            | none => rw [q] at this; cases this
            | some b => rfl
          · rw [List.length_map, hln i hi, if_neg (Nat.lt_irrefl _), if_pos rfl]
            exact Nat.lt_of_lt_of_le (show j < 100 by omega) (by decide)
          · refine ⟨_, _, _, _, fun h => if h = i then cs h ++ [o] else cs h, rfl, same_upd (sH2.trans s4) (nAf i hi).2, by rw [upd_ne (Ne.symm (nAf i hi).1)]; exact hA2', fun h hh => ?_, fun h hh => ?_, fun h a hh ha => ?_⟩
            · by_cases c1 : h = i
              · subst c1
                rw [upd_same]
                show _ = some (HO.lst ((if h = h then cs h ++ [o] else cs h).map V.int))
                rw [if_pos rfl, List.map_append]
                rfl
              · rw [upd_ne (dAf h i hh hi c1)]
                show _ = some (HO.lst ((if h = i then cs h ++ [o] else cs h).map V.int))
                rw [if_neg c1]
                exact s4 _ _ (hAf h hh)
            · show (if h = i then cs h ++ [o] else cs h).length = _
              by_cases c1 : h = i
              · subst c1
                rw [if_pos rfl, List.length_append, hln h hi, if_neg (Nat.lt_irrefl _), if_pos rfl, if_neg (Nat.lt_irrefl _), if_pos rfl]
                rfl
              · rw [if_neg c1, hln h hh, if_neg c1, if_neg c1]
            · show goodS D h a ((if h = i then cs h ++ [o] else cs h).getD a 0)
              have ha : a < (if h = i then cs h ++ [o] else cs h).length := ha
              by_cases c1 : h = i
              · subst c1
                rw [if_pos rfl] at ha ⊢
                have hl := hln h hi
                rw [if_neg (Nat.lt_irrefl _), if_pos rfl] at hl
                rw [List.length_append] at ha
                by_cases c2 : a < (cs h).length
                · have := hgd h a hi c2
                  rw [List.getD_eq_getElem?_getD, List.getElem?_append_left c2, ← List.getD_eq_getElem?_getD]
                  exact this
                · have : a = (cs h).length := by
                    have e : ([o] : List Int).length = 1 := rfl
                    omega
                  subst this
                  rw [List.getD_eq_getElem?_getD, List.getElem?_append_right (Nat.le_refl _), Nat.sub_self, hl]
                  exact ⟨by rw [eg]; exact List.mem_of_getElem? hm, hpo, by rw [eg]; exact find_first hm hpo hmin⟩
              · rw [if_neg c1] at ha ⊢
                exact hgd h a hh ha
    · rintro σ H2 ⟨g3, g4, g5, g6, cs, rfl, sH2, hA2, hAf, hln, hgd⟩
      refine ⟨_, _, _, _, _, cs, rfl, sH2, hA2, hAf, fun h hh => ?_, hgd⟩
      rw [hln h hh]
      by_cases c : h < i
      · rw [if_pos c, if_pos (by omega)]
      · by_cases c2 : h = i
        · rw [if_neg c, if_pos c2, if_pos (by omega), c2]
        · rw [if_neg c, if_neg c2, if_neg (by omega)]
  · rintro σ H' ⟨g2, g3, g4, g5, g6, cs, rfl, sH, hA2, hAf, hln, hgd⟩
    have hln' : ∀ h, h < 2 → (cs h).length = (D.al h).length := fun h hh => by
      rw [hln h hh, if_pos (by exact hh)]
    have hgd' : ∀ h a, h < 2 → a < (D.al h).length → goodS D h a ((cs h).getD a 0) := fun h a hh ha => hgd h a hh (by rw [hln' h hh]; exact ha)
    have rows : ∀ {H2 : Hp}, Same H' H2 → RowsAt H2 (.ref A2') [cs 0, cs 1] := fun {H2} s => ⟨A2', _, rfl, s _ _ hA2, .cons ⟨A0, rfl, s _ _ (hAf 0 (by decide))⟩ (.cons ⟨A1, rfl, s _ _ (hAf 1 (by decide))⟩ .nil)⟩
    refine ⟨_, rfl, _, rfl, _, rfl, p, 0, _, D, cs, rfl, by decide, hTk.mono sH, hW, rows (Same.refl _), hln', ansL_ne hW hln' hgd' (by decide), fun e0 H2 s5 f5 h5 => ?_⟩
    refine ⟨_, rfl, _, rfl, p, 1, _, D, cs, rfl, by decide, hTk.mono (sH.trans s5), hW, rows s5, hln', ansL_ne hW hln' hgd' (by decide), fun e1 H3 s6 f6 h6 => ?_⟩
    refine ⟨(by show 2 ≤ sizeLine; decide), fun an han => ⟨(by show 2 ≤ sizeLine; decide), fun t ht => ⟨(by show 2 ≤ sizeLine; decide), fun r hr => ?_⟩⟩⟩
    have s7 := same_new han (.lst [V.ref e0, V.ref e1])
    have s8 := same_new ht (.tup [V.ref A2', V.ref an])
    have s9 := same_new hr (.tup [V.str "boxed", V.ref t])
    have s789 := (s7.trans s8).trans s9
    have s59 := (s5.trans s6).trans s789
    exact qA _ r cs t A2' an A0 A1 e0 e1 (sH.trans s59) ⟨upd_same, s9 _ _ upd_same, s59 _ _ hA2, s59 _ _ (hAf 0 (by decide)), s59 _ _ (hAf 1 (by decide)), s9 _ _ (s8 _ _ upd_same), s789 _ _ (s6 _ _ h5), s789 _ _ h6, h0, none_of_same (sH.trans s5) f6, none_of_same sH f5, f1, n01, ne_of_none h5 f6⟩ hln' hgd'
end
end TA

set_option Elab.async false
set_option maxRecDepth 100000
set_option maxHeartbeats 4000000
namespace TA
open PySem L2 PyProof.Rows
set_option linter.unusedVariables false
theorem inB_hasK {T : TD} (W : WF T) {xy : Int × Int} (h : inB (T.al 0).length (T.al 1).length (pairD xy) = false) : hasK T.bo xy = false := by
  cases c : hasK T.bo xy with
  | false => rfl
  | true =>
    obtain ⟨e, he, h1⟩ := List.any_eq_true.mp c
    have h2 := of_decide_eq_true h1
    rw [← h2, in_yes (W.rng e he)] at h
    cases h
def spIsP (K : PySem.W.Frag) (C : Addr) : Sp := fun vs H Q _ => ∃ (p : Addr) (v : V) (T : TD), vs = [.ref p, v] ∧ TaskAt C H p T ∧ WF T ∧ ((∃ d, Dp K H v d ∧ inB (T.al 0).length (T.al 1).length d = false ∧ ∀ H', Same H H' → Q (.bl false) H') ∨ ∃ xy, TpAt H v xy ∧ ∀ H', Same H H' → Q (.bl (hasK T.bo xy)) H')
/-- a task at p whose dict is not the one at d -/
def TaskX (C : Addr) (H : Hp) (p : Addr) (T : TD) (d : Addr) : Prop := ∃ dx a d', H p = some (.ins C dx (flds a d')) ∧ AlAt H (.ref a) T.al ∧ BoAt H d' T.bo ∧ d' ≠ d
theorem TaskX.task {C : Addr} {H : Hp} {p : Addr} {T : TD} {d : Addr} (h : TaskX C H p T d) : TaskAt C H p T := by
  obtain ⟨dx, a, d', h1, h2, h3, _⟩ := h
  exact ⟨dx, a, d', h1, h2, h3⟩
theorem TaskX.mono {C : Addr} {H H' : Hp} (s : Same H H') {p : Addr} {T : TD} {d : Addr} (h : TaskX C H p T d) : TaskX C H' p T d := by
  obtain ⟨dx, a, d', h1, h2, h3, h4⟩ := h
  exact ⟨dx, a, d', s _ _ h1, h2.mono (.same s), h3.mono s, h4⟩
theorem TaskX.new {C : Addr} {H H' : Hp} (s : Same H H') {p : Addr} {T : TD} {d : Addr} (h : TaskAt C H p T) (n : H d = none) : TaskX C H' p T d := by
  obtain ⟨dx, a, d', h1, h2, h3⟩ := h
  refine ⟨dx, a, d', s _ _ h1, h2.mono (.same s), h3.mono s, fun c => ?_⟩
  subst c
  obtain ⟨kvs, h3, _⟩ := h3
  rw [h3] at n
  cases n
theorem TaskX.but {C : Addr} {H H' : Hp} {d : Addr} {k : List (List Key × V)} (e : H d = some (.dT k)) (s : But d H H') {p : Addr} {T : TD} (h : TaskX C H p T d) : TaskAt C H' p T := by
  obtain ⟨dx, a, d', h1, h2, ⟨kvs, h3, h5⟩, h4⟩ := h
  have kp := s.kp e nf_dT
  exact ⟨dx, a, d', s _ _ (ne_of h1 e (fun z => by cases z)) h1, h2.mono kp, kvs, s _ _ h4 h3, h5.imp fun _ _ r => r.mono kp⟩
/-- data that stays where lists and tuples stay -/
def DpK (K : PySem.W.Frag) (H : Hp) (v : V) (d : PyData) : Prop := ∀ G, Kp H G → Dp K G v d
theorem DpK.mono {K : PySem.W.Frag} {H H' : Hp} (s : Kp H H') {v : V} {d : PyData} (h : DpK K H v d) : DpK K H' v d := fun G g => h G (s.trans g)
theorem DpK.dp {K : PySem.W.Frag} {H : Hp} {v : V} {d : PyData} (h : DpK K H v d) : Dp K H v d := h H (Kp.refl H)
theorem dpk_non {K : PySem.W.Frag} {H : Hp} : DpK K H .non .none := fun _ _ => .non
theorem dpk_int {K : PySem.W.Frag} {H : Hp} (i : Int) : DpK K H (.int i) (.int i) := fun _ _ => .int i
theorem dpk_bl {K : PySem.W.Frag} {H : Hp} (b : Bool) : DpK K H (.bl b) (.bool b) := fun _ _ => .bl b
theorem dpk_str {K : PySem.W.Frag} {H : Hp} (x : Str) : DpK K H (.str x) (.str x) := fun _ _ => .str x
theorem dpk_row {K : PySem.W.Frag} {H : Hp} {v : V} {row : List Int} (h : RowAt H v row) : DpK K H v (rowD row) := fun G g => (h.mono g).dp
def DpKs (K : PySem.W.Frag) (H : Hp) : List V → List PyData → Prop := A2 (DpK K H)
theorem dpks {K : PySem.W.Frag} {H G : Hp} (g : Kp H G) : ∀ {xs : List V} {ds : List PyData}, DpKs K H xs ds → DpAll K G xs ds := fun h => by
  induction h with
  | nil => exact .nil
  | cons a _ ih => exact .cons (a G g) ih
theorem dpk_lst {K : PySem.W.Frag} {H : Hp} {a : Addr} {xs : List V} {ds : List PyData} (e : H a = some (.lst xs)) (h : DpKs K H xs ds) : DpK K H (.ref a) (.list ds) := fun G g => .lst (SqL.of (g.lst e)) (dpks g h)
theorem dpk_tup {K : PySem.W.Frag} {H : Hp} {a : Addr} {xs : List V} {ds : List PyData} (e : H a = some (.tup xs)) (h : DpKs K H xs ds) : DpK K H (.ref a) (.tuple ds) := fun G g => .tup (SqT.of (g.tup e)) (dpks g h)
/-- an entry of answers as the program looks at it -/
def itemB (T : TD) (k : List Key) (d : PyData) : Bool := match k with
  | [.inl x, .inl y] => hasK T.bo (x, y) && outB d
  | _ => false
def ansAll (T : TD) (kvs : List (List Key × V)) (dat : List Key × V → PyData) : Bool := decide (kvs.length = T.bo.length) && kvs.all fun kv => itemB T kv.1 (dat kv)
/-- what is_answers tells of a thing -/
inductive AnsIs (K : PySem.W.Frag) (C : Addr) (H : Hp) (p : Addr) (T : TD) : V → Bool → Prop
  | notd {v : V} {d : PyData} : Dp K H v d → AnsIs K C H p T v false
  | lst {a : Addr} {xs : List V} : H a = some (.lst xs) → AnsIs K C H p T (.ref a) false
  | dct {wd : Addr} {kvs : List (List Key × V)} {dat : List Key × V → PyData} : H wd = some (.dT kvs) → kvs.length ≤ 61 → TaskX C H p T wd → (∀ kv ∈ kvs, IntK kv.1 ∧ DpK K H kv.2 (dat kv)) → AnsIs K C H p T (.ref wd) (ansAll T kvs dat)
def spIsAnsN (K : PySem.W.Frag) (C : Addr) : Sp := fun vs H Q _ => ∃ (p : Addr) (v : V) (T : TD) (b : Bool), vs = [.ref p, v] ∧ TaskAt C H p T ∧ WF T ∧ AnsIs K C H p T v b ∧ ∀ H', Same H H' → Q (.bl b) H'
abbrev nIsAns : List Str := ["task", "thing", "pair", "output"]
theorem sc_isans : FnScope nIsAns ["task", "thing"] (defScope s_is_answers) := ⟨rfl, rfl, rfl, by decide +kernel, rfl, by decide +kernel, by decide +kernel⟩
/-- one with a key that is no tuple -/
def OddD (K : PySem.W.Frag) (H : Hp) (wd : Addr) : Prop := ∃ (kvs : List (List Key × V)) (k v : V) (dat : List Key × V → PyData), OddAt H wd kvs k v ∧ kvs.length ≤ 61 ∧ ∀ kv ∈ kvs, IntK kv.1 ∧ DpK K H kv.2 (dat kv)
def spIsAnsO (K : PySem.W.Frag) (C : Addr) : Sp := fun vs H Q _ => ∃ (p wd : Addr) (T : TD), vs = [.ref p, .ref wd] ∧ TaskAt C H p T ∧ WF T ∧ OddD K H wd ∧ ∀ H', Same H H' → Q (.bl false) H'
def spIsAns (K : PySem.W.Frag) (C : Addr) : Sp := fun vs H Q E => spIsAnsN K C vs H Q E ∨ spIsAnsO K C vs H Q E
theorem fnOr {P : Program} {w : World} {K : PySem.W.Frag} {mg : Str → Option Value} {base : Heap} {CX : CXT} {k : Nat} {f : Addr} {fd : FuncData} {ps : List Str} {sp sp' : Sp} (F : FnOk P w K mg base CX k f fd ps sp) (G : FnOk P w K mg base CX k f fd ps sp') :
    FnOk P w K mg base CX k f fd ps (fun vs H Q E => sp vs H Q E ∨ sp' vs H Q E) :=
  ⟨fun vs H Q E q => q.elim (F.len vs H Q E) (G.len vs H Q E), fun A outer s H args us vs Q E hr he hb hv hs => hs.elim (F.run A outer s H args us vs Q E hr he hb hv) (G.run A outer s H args us vs Q E hr he hb hv)⟩
def isDctD : PyData → Bool
  | .dict _ => true
  | _ => false
theorem kit_dct (d : PyData) {K : PySem.W.Frag} : PySem.W.kitOne K (.type (tyN d)) (.type "dict") = some (isDctD d) := by
  cases d with
  | none => exact (show PySem.W.kitOne K (.type "NoneType") (.type "dict") = some false from kit_ty (by decide +kernel))
  | bool b => exact (show PySem.W.kitOne K (.type "bool") (.type "dict") = some false from kit_ty (by decide +kernel))
  | int b => exact (show PySem.W.kitOne K (.type "int") (.type "dict") = some false from kit_ty (by decide +kernel))
  | str b => exact (show PySem.W.kitOne K (.type "str") (.type "dict") = some false from kit_ty (by decide +kernel))
  | list b => exact (show PySem.W.kitOne K (.type "list") (.type "dict") = some false from kit_ty (by decide +kernel))
  | tuple b => exact (show PySem.W.kitOne K (.type "tuple") (.type "dict") = some false from kit_ty (by decide +kernel))
  | dict b => exact (show PySem.W.kitOne K (.type "dict") (.type "dict") = some true from kit_ty (by decide +kernel))
theorem dp_nodict {K : PySem.W.Frag} {H : Hp} {v : V} {d : PyData} (h : Dp K H v d) : isDctD d = false := by cases h <;> rfl
theorem itemO_turns {o : Obj} {d : Addr} {kvs : List (List Key × V)} {k v : V} {H0 : Hp} {Qd : Hp → Prop} {B : (Hp → Prop) → V → Hp → Prop} (Pv : Nat → Hp → Prop) (start : Pv 0 H0) (still : ∀ i H, Pv i H → OddW o H d kvs k v)
    (turn : ∀ i k' x q T H, kvs[i]? = some (k', x) → H q = some (.tup (k'.map kV)) → H T = none → Pv i H → B (Pv (i + 1)) (.ref T) (upd H T (.tup [.ref q, x])))
    (turnO : ∀ T H, H T = none → Pv kvs.length H → B (Pv (kvs.length + 1)) (.ref T) (upd H T (.tup [k, v]))) (last : ∀ H, Pv (kvs.length + 1) H → Qd H) :
    ∃ W : Nat → Nat → Hp → Prop, (∃ m, W 0 m H0) ∧ ∀ i m H, W i m H →
      ((ItO o d kvs k v).stop i H ∧ Qd H) ∨ ((ItO o d kvs k v).go i H ∧ ∃ Nx : Hp → Prop, (∀ H', Nx H' → ∃ m', m' < m ∧ W (i + 1) m' H') ∧ ∀ x H', (ItO o d kvs k v).yld i H x H' → B Nx x H') :=
  turns (J := ItO o d kvs k v) (kvs.length + 1) Pv start (fun H h => ⟨⟨still _ _ h, Nat.le_refl _⟩, last H h⟩) fun i H hi h => ⟨⟨still _ _ h, hi⟩, fun x H' y => by
    obtain ⟨T, a, b, rfl, hT, rfl, ⟨q, k', e1, e2, rfl⟩ | ⟨rfl, rfl, rfl⟩⟩ := y
    · exact turn i k' b q T H e1 e2 hT h
    · exact turnO T H hT h⟩
theorem oddV_dp {K : PySem.W.Frag} {H : Hp} {y : V} (h : OddV y) : ∃ d, Dp K H y d ∧ ∀ n0 n1, inB n0 n1 d = false := by
  rcases h with rfl | ⟨i, rfl⟩ | ⟨x, rfl, _⟩
  · exact ⟨.none, .non, fun _ _ => rfl⟩
  · exact ⟨.int i, .int i, fun _ _ => rfl⟩
  · exact ⟨.str x, .str x, fun _ _ => rfl⟩
theorem key_is (k : List Key) : (∃ x y, k = [.inl x, .inl y]) ∨ ∀ x y, k ≠ [.inl x, .inl y] := by
  by_cases c : ∃ x y, k = [.inl x, .inl y]
  · exact .inl c
  · exact .inr fun x y e => c ⟨x, y, e⟩
theorem key_no {k : List Key} {n0 n1 : Nat} (hk : IntK k) (hno : ∀ x y, k ≠ [.inl x, .inl y]) : inB n0 n1 (keyD k) = false := inB_no fun x y e => by
  unfold keyD at e
  injection e with e
  match k, hk, hno, e with
  | [a, b], hk, hno, e =>
    obtain ⟨i, rfl⟩ := hk a List.mem_cons_self
    obtain ⟨j, rfl⟩ := hk b (List.mem_cons_of_mem _ List.mem_cons_self)
    exact hno i j rfl
section
variable {P : Program} {w : World} {K : PySem.W.Frag} {mg : Str → Option Value} {base : Heap}
abbrev nIsP : List Str := ["task", "thing"]
theorem sc_isp : FnScope nIsP nIsP (defScope s_is_pair) := ⟨rfl, rfl, rfl, by decide +kernel, rfl, by decide +kernel, by decide +kernel⟩
theorem ok_isp {f g C : Addr} {fd gd : FuncData} (F : Fun K "is_pair" "is_pair" s_is_pair f fd) (T : Txt K mg) (Z : TxtC K mg C) (W1 : Def P w K mg base "is_input_pair" ["thing", "alone"] 3 (spInp K) g gd) : FnOk P w K mg base CX0 4 f fd nIsP (spIsP K C) := by
  refine F.ok sc_isp (fun vs H Q E h => ?_) (fun cdv A outer s H vs Q E hr h => ?_)
  · obtain ⟨p, v, D, rfl, _⟩ := h
    rfl
  obtain ⟨p, v, D, rfl, hT, hW, h⟩ := h
  have hu := hu_of hr
  refine ⟨_, (pss_one (ps_ret (pe_and (pe_call W1.G (hr.mono (by decide)) rfl W1.m W1.k W1.b .nil pass0 (pa_cons (pv 1) (pa_cons (pe_fld (pv 0) rfl) pa_nil))) (pe_one (pe_cmp (pc_din hu (pv 1) (pe_fld (pv 0) rfl)) rfl))))), ?_⟩
  obtain ⟨dx, a, d, hp, hA, hB⟩ := hT
  obtain ⟨al, e, hal⟩ := hA.at2 (K := K)
  obtain rfl : a = al := by injection e
  rcases h with ⟨dd, hd, hn, q⟩ | ⟨xy, hv, q⟩
  · refine ⟨_, rfl, _, rfl, p, C, dx, _, _, rfl, hp, Z.cl, Z.nA, flds_alone _ _, v, _, a, _, _, rfl, hd, hal, fun H1 s1 => ⟨_, rfl, ?_⟩⟩
    rw [hn]
    exact iteF (q _ s1)
  refine ⟨_, rfl, _, rfl, p, C, dx, _, _, rfl, hp, Z.cl, Z.nA, flds_alone _ _, v, _, a, _, _, rfl, hv.dp, hal, fun H1 s1 => ⟨_, rfl, ?_⟩⟩
  cases c : inB (D.al 0).length (D.al 1).length (pairD xy) with
  | false =>
    rw [inB_hasK hW c] at q
    exact iteF (q _ s1)
  | true =>
    obtain ⟨kvs, hd, ha⟩ := hB.mono s1
    obtain ⟨t, rfl, ht⟩ := hv.mono (.same s1)
    refine iteT ⟨_, rfl, _, rfl, p, C, dx, _, _, rfl, s1 _ _ hp, Z.cl, Z.nB, flds_both _ _, d, _, rfl, DGet.t (k := k2 xy) hd ht, ?_⟩
    rw [some_hasK ha]
    exact q _ s1
theorem ok_isansN {f g1 g2 C : Addr} {fd d1 d2 : FuncData} (F : Fun K "is_answers" "is_answers" s_is_answers f fd) (T : Txt K mg) (T2 : Txt2 K mg) (Z : TxtC K mg C) (WP : Def P w K mg base "is_pair" nIsP 4 (spIsP K C) g1 d1)
    (WO : Def P w K mg base "is_output" ["thing"] 3 (spOut K) g2 d2) : FnOk P w K mg base CX0 5 f fd ["task", "thing"] (spIsAnsN K C) := by
  refine F.ok sc_isans (fun vs H Q E h => ?_) (fun cdv A outer s H vs Q E hr h => ?_)
  · obtain ⟨p, v, D, b, rfl, _⟩ := h
    rfl
  obtain ⟨p, v, D, b, rfl, hX0, hW, hO, q⟩ := h
  have nd := sc_isans.nd
  refine ⟨_, (pss_one (ps_ret (pe_and (pe_callB call_isi (by rfl) T.isi boot_isinstance (pa_cons (pv 1) (pa_cons (pe_bltn (v := .ty "dict") (by rfl) T2.dict boot_dict rfl) pa_nil))) (pe_and (pe_cmpR op_eq (pe_callB call_len_dT (by rfl) T.len PySem.boot_len (pa_cons (pv 1) pa_nil)) (pe_callB call_len_dT (by rfl) T.len PySem.boot_len (pa_cons (pe_fld (pv 0) rfl) pa_nil)) (nomark _)) (pe_one (pe_callB (cr_all rfl) (by rfl) T.all (by decide +kernel) (pa_cons (pe_lock (pe_lc (own := [("pair", 2), ("output", 3)]) (g := (gTup K 2 (gCons (gName 2) (gCons (gName 3) gNil)))) (tt := tYes) (te := (tAndV (tCall (spIsP K C) [] E0 (tCons (tVar 0) (tCons (tVar 2) tNil))) (tCall (spOut K) [] E0 (tCons (tVar 3) tNil)))) rfl nd (pi_itemsT (pv 1)) (blkOk_by (N := nIsAns) (sc := defScope s_is_answers) (by decide +kernel)) (fun _ _ _ _ _ => (by exact (pg_tup (by rfl) (pgs_cons (pg_name (i := 2) nd rfl (Or.inl rfl)) (pgs_cons (pg_name (i := 3) nd rfl (Or.inl rfl)) pgs_nil))))) (fun _ _ _ _ _ => pts_nil) (fun _ _ _ _ _ => (by exact (pe_and (pe_call WP.G (hr.mono (by decide)) rfl WP.m WP.k WP.b .nil pass0 (pa_cons (pv 0) (pa_cons (pv 2) pa_nil))) (pe_one (pe_call WO.G (hr.mono (by decide)) rfl WO.m WO.k WO.b .nil pass0 (pa_cons (pv 3) pa_nil)))))))) pa_nil))))))), ?_⟩
  obtain ⟨dx, a, d', hp, hA, ⟨kvs0, hd', ha⟩⟩ := id hX0
  cases hO with
  | @notd v dv hv =>
    refine ⟨_, rfl, v, .ty "dict", _, _, isDctD dv, rfl, .ty "dict", dp_ty hv, kit_dct dv, _, rfl, ?_⟩
    rw [dp_nodict hv]
    exact iteF (q _ (Same.refl H))
  | @lst l xs hl => exact ⟨_, rfl, V.ref l, .ty "dict", .type "list", .type "dict", false, rfl, .ty "dict", .base (.lst hl), kit_ty (by decide +kernel), _, rfl, iteF (q _ (Same.refl H))⟩
  | @dct d kw dat hd hkl hX hall =>
    refine ⟨_, rfl, V.ref d, .ty "dict", .type "dict", .type "dict", true, rfl, .ty "dict", .base (.dT hd), kit_ty (by decide +kernel), _, rfl, iteT ?_⟩
    refine ⟨_, rfl, d, _, rfl, hd, _, rfl, p, C, dx, _, _, rfl, hp, Z.cl, Z.nB, flds_both _ _, d', kvs0, rfl, hd', rfl, _, rfl, ?_⟩
    rw [dec_nat]
    by_cases hlen : kw.length = kvs0.length
    case neg =>
      have eb : ansAll D kw dat = false := by
        unfold ansAll
        rw [decide_eq_false (by rw [← ha.len]; exact hlen), Bool.false_and]
      rw [eb] at q
      exact iteF' (decide_eq_false hlen) (q _ (Same.refl H))
    have eb : ansAll D kw dat = (kw.map fun kv => itemB D kv.1 (dat kv)).all id := by
      unfold ansAll
      rw [decide_eq_true (by rw [← ha.len]; exact hlen), Bool.true_and, List.all_map]
      rfl
    rw [eb] at q
    refine iteT' (decide_eq_true hlen) ?_
    have hX : TaskX C H p D d := hX
    refine ⟨d, _, hd, trivial, fun od => ?_⟩
    have hd1 : (upd H d (.frz od (.dT kw))) d = some (.frz od (.dT kw)) := upd_same
    refine ⟨_, rfl, d, od, _, rfl, hd1, fun L hL => ?_⟩
    have nL : d ≠ L := ne_of_none hd1 hL
    have hLn : H L = none := none_of_but But.at (Ne.symm nL) hL
    refine itemT_turns (fun i H' => But d H H' ∧ H' d = some (.frz od (.dT kw)) ∧ H' L = some (.lst (((kw.map fun kv => itemB D kv.1 (dat kv)).take i).map V.bl))) ⟨But.at.trans (.same (same_new hL _)), by rw [upd_ne nL]; exact hd1, upd_same⟩ (fun i H' h => h.2.1) ?_ ?_
    · rintro i k x qa Tt H' hi hq hTn ⟨b1, e1, e2⟩
      have hm := List.mem_of_getElem? hi
      have hi2 : i < kw.length := (List.getElem?_eq_some_iff.mp hi).1
      obtain ⟨ik, hdx⟩ := hall _ hm
      dsimp only at ik hdx
      have s1 := same_new hTn (.tup [V.ref qa, x])
      have fin : ∀ b, b = itemB D k (dat (k, x)) → ∀ H4, Same H' H4 → ∃ zs, H4 L = some (.lst zs) ∧ zs.length < sizeLine ∧ (But d H (upd H4 L (.lst (zs ++ [V.bl b]))) ∧ (upd H4 L (.lst (zs ++ [V.bl b]))) d = some (.frz od (.dT kw)) ∧ (upd H4 L (.lst (zs ++ [V.bl b]))) L = some (.lst (((kw.map fun kv => itemB D kv.1 (dat kv)).take (i + 1)).map V.bl))) := fun b hb H4 s4 => by
        refine ⟨_, s4 _ _ e2, ?_, (b1.trans (.same s4)).new hLn, by rw [upd_ne nL]; exact s4 _ _ e1, by rw [upd_same, take_bl _ (by rw [List.getElem?_map, hi, hb]; rfl)]⟩
        rw [List.length_map]
        exact Nat.lt_of_le_of_lt (List.length_take_le _ _) (Nat.lt_of_lt_of_le (show i < 100 by omega) (by decide))
      refine ⟨Tt, _, rfl, SqT.of upd_same, rfl, _, _, rfl, _, _, rfl, rfl, rfl, _, rfl, _, rfl, ?_⟩
      rcases key_is k with ⟨a, b, ek⟩ | hno
      · refine ⟨p, _, D, rfl, hX.but hd (b1.trans (.same s1)), hW, .inr ⟨(a, b), ⟨qa, rfl, by have z := s1 _ _ hq; rw [ek] at z; exact z⟩, fun H2 s2 => ?_⟩⟩
        have s13 := s1.trans s2
        cases cb : hasK D.bo (a, b) with
        | false =>
          refine ⟨_, rfl, iteF (fin false ?_ _ s13)⟩
          rw [ek]
          show false = (hasK D.bo (a, b) && outB (dat _))
          rw [cb]
          rfl
        | true =>
          have hd2 := hdx.mono ((b1.kp hd nf_dT).trans (.same s13))
          refine ⟨_, rfl, iteT ⟨_, rfl, _, _, rfl, hd2.dp, fin _ ?_ _ s13⟩⟩
          rw [ek]
          show outB _ = (hasK D.bo (a, b) && outB (dat _))
          rw [cb]
          rfl
      · refine ⟨p, _, D, rfl, hX.but hd (b1.trans (.same s1)), hW, .inl ⟨keyD k, .tup (SqT.of (s1 _ _ hq)) (keyD1_dp k), key_no ik hno, fun H2 s2 => ?_⟩⟩
        refine ⟨_, rfl, iteF (fin false ?_ _ (s1.trans s2))⟩
        unfold itemB
        split
        · exact absurd rfl (hno _ _)
        · rfl
    · rintro H1 ⟨b1, e1, e2⟩
      have s1 : Same H (upd H1 d (.dT kw)) := b1.unlock hd
      rw [← List.length_map (fun kv => itemB D kv.1 (dat kv)), List.take_length] at e2
      refine ⟨e1, L, _, rfl, SqL.of (by rw [upd_ne (Ne.symm nL)]; exact e2), ?_⟩
      exact q _ s1
theorem ok_isansO {f g1 g2 C : Addr} {fd d1 d2 : FuncData} (F : Fun K "is_answers" "is_answers" s_is_answers f fd) (T : Txt K mg) (T2 : Txt2 K mg) (Z : TxtC K mg C) (WP : Def P w K mg base "is_pair" nIsP 4 (spIsP K C) g1 d1)
    (WO : Def P w K mg base "is_output" ["thing"] 3 (spOut K) g2 d2) : FnOk P w K mg base CX0 5 f fd ["task", "thing"] (spIsAnsO K C) := by
  refine F.ok sc_isans (fun vs H Q E h => ?_) (fun cdv A outer s H vs Q E hr h => ?_)
  · obtain ⟨p, v, D, rfl, _⟩ := h
    rfl
  obtain ⟨p, d, D, rfl, hX0, hW, ⟨kw, k, v, dat, hO, hkl, hall⟩, q⟩ := h
  have nd := sc_isans.nd
  refine ⟨_, (pss_one (ps_ret (pe_and (pe_callB call_isiO (by rfl) T.isi boot_isinstance (pa_cons (pv 1) (pa_cons (pe_bltn (v := .ty "dict") (by rfl) T2.dict boot_dict rfl) pa_nil))) (pe_and (pe_cmpR op_eq (pe_callB call_len_O (by rfl) T.len PySem.boot_len (pa_cons (pv 1) pa_nil)) (pe_callB call_len_dT (by rfl) T.len PySem.boot_len (pa_cons (pe_fld (pv 0) rfl) pa_nil)) (nomark _)) (pe_one (pe_callB (cr_all rfl) (by rfl) T.all (by decide +kernel) (pa_cons (pe_lc (own := [("pair", 2), ("output", 3)]) (g := (gTup K 2 (gCons (gName 2) (gCons (gName 3) gNil)))) (tt := tYes) (te := (tAndV (tCall (spIsP K C) [] E0 (tCons (tVar 0) (tCons (tVar 2) tNil))) (tCall (spOut K) [] E0 (tCons (tVar 3) tNil)))) rfl nd (pi_itemsO (pv 1)) (blkOk_by (N := nIsAns) (sc := defScope s_is_answers) (by decide +kernel)) (fun _ _ _ _ _ => (by exact (pg_tup (by rfl) (pgs_cons (pg_name (i := 2) nd rfl (Or.inl rfl)) (pgs_cons (pg_name (i := 3) nd rfl (Or.inl rfl)) pgs_nil))))) (fun _ _ _ _ _ => pts_nil) (fun _ _ _ _ _ => (by exact (pe_and (pe_call WP.G (hr.mono (by decide)) rfl WP.m WP.k WP.b .nil pass0 (pa_cons (pv 0) (pa_cons (pv 2) pa_nil))) (pe_one (pe_call WO.G (hr.mono (by decide)) rfl WO.m WO.k WO.b .nil pass0 (pa_cons (pv 3) pa_nil))))))) pa_nil))))))), ?_⟩
  obtain ⟨dx, a, d', hp, hA, ⟨kvs0, hd', ha⟩⟩ := id hX0
  refine ⟨_, rfl, d, kw, k, v, .ty "dict", .type "dict", true, rfl, hO, .ty "dict", kit_ty (by decide +kernel), _, rfl, iteT ?_⟩
  refine ⟨_, rfl, d, kw, k, v, rfl, hO, _, rfl, p, C, dx, _, _, rfl, hp, Z.cl, Z.nB, flds_both _ _, d', kvs0, rfl, hd', rfl, _, rfl, ?_⟩
  rw [dec_nat]
  by_cases hlen : kw.length + 1 = kvs0.length
  case neg => exact iteF' (decide_eq_false hlen) (q _ (Same.refl H))
  refine iteT' (decide_eq_true hlen) ?_
  obtain ⟨o, hw⟩ := hO
  refine ⟨_, rfl, d, o, kw, k, v, rfl, hw, fun L hL => ?_⟩
  refine itemO_turns (fun i H' => Same H H' ∧ H' L = some (.lst ((((kw.map fun kv => itemB D kv.1 (dat kv)) ++ [false]).take i).map V.bl))) ⟨same_new hL _, upd_same⟩ (fun i H' h => hw.mono h.1) ?_ ?_ ?_
  · rintro i k' x qa Tt H' hi hq hTn ⟨b1, e2⟩
    have hm := List.mem_of_getElem? hi
    have hi2 : i < kw.length := (List.getElem?_eq_some_iff.mp hi).1
    obtain ⟨ik, hdx⟩ := hall _ hm
    dsimp only at ik hdx
    have s1 := same_new hTn (.tup [V.ref qa, x])
    have fin : ∀ b, b = itemB D k' (dat (k', x)) → ∀ H4, Same H' H4 → ∃ zs, H4 L = some (.lst zs) ∧ zs.length < sizeLine ∧ (Same H (upd H4 L (.lst (zs ++ [V.bl b]))) ∧ (upd H4 L (.lst (zs ++ [V.bl b]))) L = some (.lst ((((kw.map fun kv => itemB D kv.1 (dat kv)) ++ [false]).take (i + 1)).map V.bl))) := fun b hb H4 s4 => by
      refine ⟨_, s4 _ _ e2, ?_, same_upd (b1.trans s4) hL, by rw [upd_same, take_bl _ (by rw [List.getElem?_append_left (by rw [List.length_map]; exact hi2), List.getElem?_map, hi, hb]; rfl)]⟩
      rw [List.length_map]
      exact Nat.lt_of_le_of_lt (List.length_take_le _ _) (Nat.lt_of_lt_of_le (show i < 100 by omega) (by decide))
    refine ⟨Tt, _, rfl, SqT.of upd_same, rfl, _, _, rfl, _, _, rfl, rfl, rfl, _, rfl, _, rfl, ?_⟩
    rcases key_is k' with ⟨a, b, ek⟩ | hno
    · refine ⟨p, _, D, rfl, hX0.mono (b1.trans s1), hW, .inr ⟨(a, b), ⟨qa, rfl, by have z := s1 _ _ hq; rw [ek] at z; exact z⟩, fun H2 s2 => ?_⟩⟩
      have s13 := s1.trans s2
      cases cb : hasK D.bo (a, b) with
      | false =>
        refine ⟨_, rfl, iteF (fin false ?_ _ s13)⟩
        rw [ek]
        show false = (hasK D.bo (a, b) && outB (dat _))
        rw [cb]
        rfl
      | true =>
        have hd2 := hdx.mono (.same (b1.trans s13))
        refine ⟨_, rfl, iteT ⟨_, rfl, _, _, rfl, hd2.dp, fin _ ?_ _ s13⟩⟩
        rw [ek]
        show outB _ = (hasK D.bo (a, b) && outB (dat _))
        rw [cb]
        rfl
    · refine ⟨p, _, D, rfl, hX0.mono (b1.trans s1), hW, .inl ⟨keyD k', .tup (SqT.of (s1 _ _ hq)) (keyD1_dp k'), key_no ik hno, fun H2 s2 => ?_⟩⟩
      refine ⟨_, rfl, iteF (fin false ?_ _ (s1.trans s2))⟩
      unfold itemB
      split
      · exact absurd rfl (hno _ _)
      · rfl
  · rintro Tt H' hTn ⟨b1, e2⟩
    have s1 := same_new hTn (.tup [k, v])
    obtain ⟨dk, hdk, hno⟩ := oddV_dp (K := K) (H := upd H' Tt (.tup [k, v])) hw.key
    refine ⟨Tt, _, rfl, SqT.of upd_same, rfl, _, _, rfl, _, _, rfl, rfl, rfl, _, rfl, _, rfl, ?_⟩
    refine ⟨p, _, D, rfl, hX0.mono (b1.trans s1), hW, .inl ⟨dk, hdk, hno _ _, fun H2 s2 => ⟨_, rfl, iteF ?_⟩⟩⟩
    have s12 := s1.trans s2
    refine ⟨_, s12 _ _ e2, ?_, same_upd (b1.trans s12) hL, by rw [upd_same, take_bl _ (by rw [List.getElem?_append_right (by rw [List.length_map]; exact Nat.le_refl _), List.length_map, Nat.sub_self]; rfl)]⟩
    rw [List.length_map]
    exact Nat.lt_of_le_of_lt (List.length_take_le _ _) (Nat.lt_of_lt_of_le (show kw.length < 100 by omega) (by decide))
  · rintro H1 ⟨b1, e2⟩
    have el : ((kw.map fun kv => itemB D kv.1 (dat kv)) ++ [false]).length = kw.length + 1 := by rw [List.length_append, List.length_map]; rfl
    rw [← el, List.take_length] at e2
    refine ⟨L, _, rfl, SqL.of e2, ?_⟩
    have e0 : (((kw.map fun kv => itemB D kv.1 (dat kv)) ++ [false]).all id) = false := by
      rw [List.all_append]
      exact Bool.and_false _
    rw [e0]
    exact q _ b1
theorem ok_isans {f g1 g2 C : Addr} {fd d1 d2 : FuncData} (F : Fun K "is_answers" "is_answers" s_is_answers f fd) (T : Txt K mg) (T2 : Txt2 K mg) (Z : TxtC K mg C) (WP : Def P w K mg base "is_pair" nIsP 4 (spIsP K C) g1 d1)
    (WO : Def P w K mg base "is_output" ["thing"] 3 (spOut K) g2 d2) : FnOk P w K mg base CX0 5 f fd ["task", "thing"] (spIsAns K C) := fnOr (ok_isansN F T T2 Z WP WO) (ok_isansO F T T2 Z WP WO)
end
end TA

set_option Elab.async false
set_option maxRecDepth 100000
set_option maxHeartbeats 4000000
namespace TA
open PySem L2 PyProof.Rows
set_option linter.unusedVariables false
section
variable {P : Program} {w : World} {K : PySem.W.Frag} {mg : Str → Option Value} {base : Heap}
abbrev nRow : List Str := ["thing", "many", "x"]
theorem sc_row : FnScope nRow ["thing", "many"] (defScope s_is_row) := ⟨rfl, rfl, rfl, by decide +kernel, rfl, by decide +kernel, by decide +kernel⟩
theorem ok_row {f g : Addr} {fd gd : FuncData} (F : Fun K "is_row" "is_row" s_is_row f fd) (T : Txt K mg) (WO : Def P w K mg base "is_output" ["thing"] 3 (spOut K) g gd) : FnOk P w K mg base CX0 4 f fd ["thing", "many"] (spRow K) := by
  refine F.ok sc_row (fun vs H Q E h => ?_) (fun cdv A outer s H vs Q E hr h => ?_)
  · obtain ⟨v, d, m, rfl, _⟩ := h
    rfl
  obtain ⟨v, d, m, rfl, hk, hz, q⟩ := h
  have nd := sc_row.nd
  refine ⟨_, (pss_one (ps_ret (pe_and (pe_callB call_isi (by rfl) T.isi boot_isinstance (pa_cons (pv 0) (pa_cons (pe_bltn (v := .ty "list") (by rfl) T.list boot_list rfl) pa_nil))) (pe_and (pe_cmpR op_eq (pe_callB call_len_seq (by rfl) T.len PySem.boot_len (pa_cons (pv 0) pa_nil)) (pv 1) (nomark _)) (pe_one (pe_callB (cr_all rfl) (by rfl) T.all (by decide +kernel) (pa_cons (pe_lc (own := [("x", 2)]) (g := (gName 2)) (tt := tYes) (te := (tCall (spOut K) [] E0 (tCons (tVar 2) tNil))) rfl nd (pi_list (pv 0)) (blkOk_by (N := nRow) (sc := defScope s_is_row) (by decide +kernel)) (fun _ _ _ _ _ => (by exact (pg_name (i := 2) nd rfl (Or.inl rfl)))) (fun _ _ _ _ _ => pts_nil) (fun _ _ _ _ _ => (by exact (pe_call WO.G (hr.mono (by decide)) rfl WO.m WO.k WO.b .nil pass0 (pa_cons (pv 2) pa_nil))))) pa_nil))))))), ?_⟩
  refine ⟨_, rfl, v, .ty "list", _, _, isLstD d, rfl, .ty "list", dp_ty hk, kit_lst d, _, rfl, ?_⟩
  cases cl : isLstD d with
  | false =>
    have : rowB d m = false := by cases d <;> first | rfl | cases cl
    rw [this] at q
    exact iteF (q _ (Same.refl H))
  | true =>
    obtain ⟨ds, rfl⟩ : ∃ ds, d = .list ds := by cases d <;> first | exact ⟨_, rfl⟩ | cases cl
    obtain ⟨p, vs, rfl, hS, hD⟩ : ∃ t vs, v = .ref t ∧ SqL K H t vs ∧ DpAll K H vs ds := by
      cases hk with
      | lst a b => exact ⟨_, _, rfl, a, b⟩
    have hl := dpAll_len hD
    have hds := hz ds rfl
    have eO : rowB (.list ds) m = (decide (ds.length = m) && (ds.map outB).all id) := rfl
    refine iteT ⟨_, rfl, p, _, rfl, .inl hS, _, rfl, rfl, _, rfl, ?_⟩
    rw [hl, dec_nat]
    by_cases c : ds.length = m
    case neg =>
      rw [eO, decide_eq_false c, Bool.false_and] at q
      refine iteF' (decide_eq_false c) ?_
      exact q _ (Same.refl H)
    rw [eO, decide_eq_true c, Bool.true_and] at q
    refine iteT' (decide_eq_true c) ?_
    refine ⟨_, rfl, p, rfl, ⟨_, hS⟩, fun D hD' => ?_⟩
    refine list_turns (xs := vs) (fun i H' => Same H H' ∧ H' D = some (.lst (((ds.map outB).take i).map V.bl))) ⟨same_new hD' _, upd_same⟩ (fun i H' _ h => h.1.seq hS) ?_ ?_
    · rintro i x H' hx ⟨s1, h1⟩
      obtain ⟨di, hdi, hxi⟩ := dpAll_get hD hx
      have hi : i < ds.length := (List.getElem?_eq_some_iff.mp hdi).1
      have hb : (ds.map outB)[i]? = some (outB di) := by rw [List.getElem?_map, hdi]; rfl
      refine ⟨rfl, _, rfl, x, di, rfl, dp_mono s1 _ _ hxi, _, h1, ?_, same_upd s1 hD', by rw [upd_same, take_bl _ hb]⟩
      rw [List.length_map]
      exact Nat.lt_of_le_of_lt (List.length_take_le _ _) (Nat.lt_of_lt_of_le hi (Nat.le_trans hds (by decide)))
    · rintro H1 ⟨s1, h1⟩
      rw [hl, ← List.length_map (f := outB), List.take_length] at h1
      exact ⟨D, _, rfl, SqL.of h1, q _ s1⟩
end
theorem two_cases (ds : List PyData) : (∃ x y, ds = [x, y]) ∨ ds.length ≠ 2 := by
  match ds with
  | [x, y] => exact .inl ⟨x, y, rfl⟩
  | [] | [_] | _ :: _ :: _ :: _ => exact .inr (by simp)
theorem chosen_no {ds : List PyData} {n0 n1 : Nat} (h : ds.length ≠ 2) : chosenB (.list ds) n0 n1 = false := by
  match ds, h with
  | [x, y], h => exact absurd rfl h
  | [], _ | [_], _ | _ :: _ :: _ :: _, _ => rfl
section
variable {P : Program} {w : World} {K : PySem.W.Frag} {mg : Str → Option Value} {base : Heap}
abbrev nChosen : List Str := ["task", "thing", "hand"]
theorem sc_chosen : FnScope nChosen ["task", "thing"] (defScope s_is_chosen) := ⟨rfl, rfl, rfl, by decide +kernel, rfl, by decide +kernel, by decide +kernel⟩
theorem ok_chosen {f g1 g2 C : Addr} {fd d1 d2 : FuncData} (F : Fun K "is_chosen" "is_chosen" s_is_chosen f fd) (T : Txt K mg) (U : TxtH K mg) (Z : TxtC K mg C) (WR : Def P w K mg base "is_row" ["thing", "many"] 4 (spRow K) g1 d1)
    (Inp : MDef P w K mg base C "inputs" nInputs 4 (spInputs K C) g2 d2) : FnOk P w K mg base CX0 5 f fd ["task", "thing"] (spChosen K C) := by
  refine F.ok sc_chosen (fun vs H Q E h => ?_) (fun cdv A outer s H vs Q E hr h => ?_)
  · obtain ⟨p, v, d, D, rfl, _⟩ := h
    rfl
  obtain ⟨p, v, d, D, rfl, hTk, hk, hz, q⟩ := h
  obtain ⟨hT, mH, hH⟩ := U.hands
  have nd := sc_chosen.nd
  refine ⟨_, (pss_one (ps_ret (pe_and (pe_callB call_isi (by rfl) T.isi boot_isinstance (pa_cons (pv 1) (pa_cons (pe_bltn (v := .ty "list") (by rfl) T.list boot_list rfl) pa_nil))) (pe_and (pe_cmpR op_eq (pe_callB call_len_seq (by rfl) T.len PySem.boot_len (pa_cons (pv 1) pa_nil)) pe_int (nomark _)) (pe_one (pe_callB (cr_all rfl) (by rfl) T.all (by decide +kernel) (pa_cons (pe_lc (own := [("hand", 2)]) (g := (gName 2)) (tt := tYes) (te := (tCall (spRow K) [] E0 (tCons (tOp (rIxL K) (tVar 1) (tVar 2)) (tCons (tMeth C "inputs" (spInputs K C) [] E0 (tVar 0) (tCons (tVar 2) tNil)) tNil)))) rfl nd (pi_tup (pe_glob (v := .ref hT) rfl mH rfl)) (blkOk_by (N := nChosen) (sc := defScope s_is_chosen) (by decide +kernel)) (fun _ _ _ _ _ => (by exact (pg_name (i := 2) nd rfl (Or.inl rfl)))) (fun _ _ _ _ _ => pts_nil) (fun _ _ _ _ _ => (by exact (pe_call WR.G (hr.mono (by decide)) rfl WR.m WR.k WR.b .nil pass0 (pa_cons (pe_ix ix_list (pv 1) (pv 2) (fun _ _ => rfl)) (pa_cons (pe_meth (pv 0) Z.cl Inp.M Inp.G (hr.mono (by decide)) Inp.b .nil pass0 (pa_cons (pv 2) pa_nil)) pa_nil)))))) pa_nil))))))), ?_⟩
  refine ⟨_, rfl, v, .ty "list", _, _, isLstD d, rfl, .ty "list", dp_ty hk, kit_lst d, _, rfl, ?_⟩
  cases cl : isLstD d with
  | false =>
    have : chosenB d (D.al 0).length (D.al 1).length = false := by cases d <;> first | rfl | cases cl
    rw [this] at q
    exact iteF (q _ (Same.refl H))
  | true =>
    obtain ⟨ds, rfl⟩ : ∃ ds, d = .list ds := by cases d <;> first | exact ⟨_, rfl⟩ | cases cl
    obtain ⟨t, vs, rfl, hS, hD⟩ : ∃ t vs, v = .ref t ∧ SqL K H t vs ∧ DpAll K H vs ds := by
      cases hk with
      | lst a b => exact ⟨_, _, rfl, a, b⟩
    have hl := dpAll_len hD
    refine iteT ⟨_, rfl, t, _, rfl, .inl hS, rfl, _, rfl, ?_⟩
    rcases two_cases ds with ⟨x, y, rfl⟩ | c
    case inr =>
      rw [chosen_no c] at q
      refine iteF' (decide_eq_false fun e => c (by injection e with e; omega)) ?_
      exact q _ (Same.refl H)
    refine iteT' (decide_eq_true (by rw [hl]; rfl)) ?_
    cases hD with
    | cons hx hD =>
    cases hD with
    | cons hy hD =>
    cases hD
    rename_i vx vy
    refine ⟨hT, rfl, ⟨_, hH _⟩, fun L hL => ?_⟩
    refine tup_turns (xs := [V.int 0, V.int 1]) (fun i H' => Same H H' ∧ H' L = some (.lst (([rowB x (D.al 0).length, rowB y (D.al 1).length].take i).map V.bl))) ⟨same_new hL _, upd_same⟩ (fun i H' _ _ => hH H') ?_ ?_
    · rintro i z H' hz' ⟨s3, h3⟩
      obtain ⟨hi, rfl⟩ := hand_at hz'
      obtain ⟨u, e, hu1, hu2, hu3⟩ : ∃ u e, ([vx, vy] : List V)[i]? = some u ∧ ([x, y] : List PyData)[i]? = some e ∧ Dp K H u e := by
        obtain rfl | rfl : i = 0 ∨ i = 1 := by omega
        · exact ⟨vx, x, rfl, rfl, hx⟩
        · exact ⟨vy, y, rfl, rfl, hy⟩
      obtain ⟨dx, a, d, hp, hA, hB⟩ := hTk.mono s3
      refine ⟨rfl, _, rfl, _, rfl, t, _, _, _, rfl, rfl, s3.seq hS, atI_nat hu1, ?_⟩
      refine ⟨_, rfl, p, dx, _, rfl, hp, flds_no _ _ (by decide +kernel) (by decide +kernel), _, rfl, p, i, D, rfl, hi, ⟨dx, a, d, hp, hA, hB⟩, ?_⟩
      refine ⟨u, e, (D.al i).length, rfl, dp_mono s3 _ _ hu3, hz _ rfl _ (List.mem_of_getElem? hu2), fun H4 s4 => ?_⟩
      have hb : [rowB x (D.al 0).length, rowB y (D.al 1).length][i]? = some (rowB e (D.al i).length) := by
        obtain rfl | rfl : i = 0 ∨ i = 1 := by omega
        · obtain rfl : x = e := by simpa using hu2
          rfl
        · obtain rfl : y = e := by simpa using hu2
          rfl
      refine ⟨_, s4 _ _ h3, ?_, same_upd (s3.trans s4) hL, by rw [upd_same, take_bl _ hb]⟩
      rw [List.length_map]
      exact Nat.lt_of_le_of_lt (List.length_take_le _ _) (Nat.lt_of_lt_of_le hi (by decide))
    · rintro H3 ⟨s3, h3⟩
      refine ⟨L, _, rfl, SqL.of h3, ?_⟩
      have e1 : chosenB (.list [x, y]) (D.al 0).length (D.al 1).length = (([rowB x (D.al 0).length, rowB y (D.al 1).length].take [V.int 0, V.int 1].length).all id) := by
        show (rowB x _ && rowB y _) = (rowB x _ && (rowB y _ && true))
        rw [Bool.and_true]
      rw [e1] at q
      exact q _ s3
abbrev nAF : List Str := ["task", "alone", "hand", "at"]
theorem sc_af : FnScope nAF ["task", "alone"] (defScope s_alone_fault) := ⟨rfl, rfl, rfl, by decide +kernel, rfl, by decide +kernel, by decide +kernel⟩
theorem ok_af {f g2 C : Addr} {fd d2 : FuncData} (F : Fun K "alone_fault" "alone_fault" s_alone_fault f fd) (T : Txt K mg) (U : TxtH K mg) (Z : TxtC K mg C)
    (Inp : MDef P w K mg base C "inputs" nInputs 4 (spInputs K C) g2 d2) : FnOk P w K mg base CX0 5 f fd ["task", "alone"] (spAloneF K C) := by
  refine F.ok sc_af (fun vs H Q E h => ?_) (fun cdv A outer s H vs Q E hr h => ?_)
  · obtain ⟨p, v, D, ch, rfl, _⟩ := h
    rfl
  obtain ⟨p, v, D, ch, rfl, hTk, hW, hR, hlen, q0⟩ := h
  obtain ⟨hT, mH, hH⟩ := U.hands
  have nd := sc_af.nd
  refine ⟨_, (pss_cons (ps_for PassesOwn.never (by rfl) (pi_tup (pe_glob (v := .ref hT) rfl mH rfl)) (pg_name (i := 2) nd rfl (Or.inl rfl))
      (pss_one (ps_for PassesOwn.never (by rfl) (pi_range1 (by rfl) T.range (pa_cons (pe_meth (pv 0) Z.cl Inp.M Inp.G (hr.mono (by decide)) Inp.b .nil pass0 (pa_cons (pv 2) pa_nil)) pa_nil)) (pg_name (i := 3) nd rfl (Or.inl rfl))
      (pss_one (ps_if (pt_cmpR op_notIn_seq (pe_ix ix_list (pe_ix ix_list (pv 1) (pv 2) (fun _ _ => rfl)) (pv 3) (fun _ _ => rfl)) (pe_ix ix_list (pe_ix ix_list (pe_fld (pv 0) rfl) (pv 2) (fun _ _ => rfl)) (pv 3) (fun _ _ => rfl)) (by rfl))
      (pss_one (ps_ret (pe_tup (pa_cons pe_str (pa_cons (pv 2) (pa_cons (pv 3) pa_nil))))))
      pss_nil)))))
    (pss_one (ps_ret pe_non))), ?_⟩
  refine ⟨hT, rfl, ⟨_, hH _⟩, for_tup (xs := [V.int 0, V.int 1]) (fun i σ H' => ∃ g1 g2, σ = [some (.ref p), some v, g1, g2] ∧ Same H H' ∧ ∀ h a, h < i → a < (D.al h).length → okA D ch h a) ⟨_, _, rfl, Same.refl H, fun h a hh => absurd hh (Nat.not_lt_zero _)⟩ (fun i σ H' _ _ => hH H') ?_ ?_⟩
  · rintro i z σ H' hz ⟨g1, g2, rfl, s1, ok1⟩
    obtain ⟨hi, rfl⟩ := hand_at hz
    obtain ⟨dx, a, d, hp, hA, hB⟩ := hTk.mono s1
    have n0 := hW.n0 i hi
    refine ⟨_, rfl, p, dx, _, rfl, hp, flds_no _ _ (by decide +kernel) (by decide +kernel), _, rfl, p, i, D, rfl, hi, TaskAt.r ⟨dx, a, d, hp, hA, hB⟩, ?_⟩
    refine ⟨_, rfl, by omega, by omega, for_range (n := (D.al i).length) (fun j σ H2 => ∃ g2, σ = [some (.ref p), some v, some (.int (i : Int)), g2] ∧ Same H H2 ∧ ∀ a, a < j → okA D ch i a) ⟨_, rfl, s1, fun a ha => absurd ha (Nat.not_lt_zero _)⟩ ?_ ?_⟩
    · rintro j σ H2 hj ⟨g2, rfl, s2, ok2⟩
      have ej : (0 : Int) + (j : Int) = (j : Int) := by omega
      rw [ej]
      obtain ⟨t, xs, rfl, ht, ar⟩ := hR.mono (.same s2)
      obtain ⟨y, hy, r, rfl, hr'⟩ := ar.at (i := i) (y := ch i) (by
        obtain rfl | rfl : i = 0 ∨ i = 1 := by omega
        · rfl
        · rfl)
      obtain ⟨dx2, a2, d2, hp2, hA2, hB2⟩ := hTk.mono s2
      obtain ⟨t3, x0, x1, e3, ht3, hrow3⟩ := hA2.row
      obtain rfl : a2 = t3 := by injection e3
      obtain ⟨x, hx, r3, xs3, rfl, hr3, ha3⟩ := hrow3 i hi
      obtain ⟨y3, hy3, r4, rfl, hr4⟩ := ha3.at (i := j) (y := (D.al i)[j]) (List.getElem?_eq_getElem hj)
      have hcj : j < (ch i).length := by rw [hlen i hi]; exact hj
      have gc : ((ch i).map V.int)[j]? = some (.int ((ch i).getD j 0)) := by rw [List.getElem?_map, List.getD_eq_getElem?_getD, List.getElem?_eq_getElem hcj]; rfl
      refine ⟨_, rfl, _, rfl, t, _, _, _, rfl, rfl, SqL.of ht, atI_nat hy, _, rfl, r, _, _, _, rfl, rfl, SqL.of hr', atI_nat gc, ?_⟩
      refine ⟨_, rfl, p, C, dx2, _, _, rfl, hp2, Z.cl, Z.nA, flds_alone _ _, _, rfl, a2, _, _, _, rfl, rfl, SqL.of ht3, atI_nat hx, _, rfl, r3, _, _, _, rfl, rfl, SqL.of hr3, atI_nat hy3, ?_⟩
      refine ⟨r4, _, rfl, .inl (SqL.of hr4), rfl, flat_ints _, _, rfl, ?_⟩
      have eA : inV (.int ((ch i).getD j 0)) ((D.al i)[j].map V.int) = decide (okA D ch i j) := by
        rw [inV_int]
        refine decide_eq_decide.mpr ?_
        unfold okA
        rw [List.getD_eq_getElem?_getD (l := D.al i), List.getElem?_eq_getElem hj]
        rfl
      by_cases c : okA D ch i j
      · refine iteF' (by simp only [if_true]; rw [eA, decide_eq_true c]; rfl) ?_
        refine ⟨_, rfl, s2, fun a ha => ?_⟩
        rcases Nat.lt_succ_iff_lt_or_eq.mp ha with h | rfl
        · exact ok2 a h
        · exact c
      · refine iteT' (by simp only [if_true]; rw [eA, decide_eq_false c]; rfl) ?_
        refine ⟨_, rfl, _, rfl, (by show 3 ≤ sizeLine; decide), fun u hu => ?_⟩
        refine q0 (.ref u) _ (s2.trans (same_new hu _)) (.inr ⟨u, i, j, rfl, upd_same, hi, hj, c, fun h' a' hh' ha' e => ?_⟩)
        rcases e with e | ⟨rfl, e⟩
        · exact ok1 h' a' e ha'
        · exact ok2 a' e
    · rintro σ H2 ⟨g2, rfl, s2, ok2⟩
      refine ⟨_, _, rfl, s2, fun h a hh ha => ?_⟩
      rcases Nat.lt_succ_iff_lt_or_eq.mp hh with h' | rfl
      · exact ok1 h a h' ha
      · exact ok2 a ha
  · rintro σ H' ⟨g1, g2, rfl, s1, ok1⟩
    exact q0 .non H' s1 (.inl ⟨rfl, fun h a hh ha => ok1 h a hh ha⟩)
end
def spRowN : Sp := fun vs H Q _ => ∃ (a : Addr) (k : List (List Key × V)) (m : Int), vs = [.ref a, .int m] ∧ H a = some (.dT k) ∧ Q (.bl false) H
def spRowX (K : PySem.W.Frag) : Sp := fun vs H Q E => spRow K vs H Q E ∨ spRowN vs H Q E
def spChosenN (C : Addr) : Sp := fun vs H Q _ => ∃ (p l d0 d1 : Addr) (k0 k1 : List (List Key × V)) (T : TD), vs = [.ref p, .ref l] ∧ TaskR C H p T ∧ H l = some (.lst [.ref d0, .ref d1]) ∧ H d0 = some (.dT k0) ∧ H d1 = some (.dT k1) ∧ ∀ H', Same H H' → Q (.bl false) H'
def spChosenX (K : PySem.W.Frag) (C : Addr) : Sp := fun vs H Q E => spChosen K C vs H Q E ∨ spChosenN C vs H Q E
/-- what chooses nothing -/
def OddC (K : PySem.W.Frag) (H : Hp) (T : TD) (c : V) : Prop := (∃ d, Dp K H c d ∧ (∀ ds, d = .list ds → ∀ e ∈ ds, small e) ∧ chosenB d (T.al 0).length (T.al 1).length = false) ∨
  ∃ (l d0 d1 : Addr) (k0 k1 : List (List Key × V)), c = .ref l ∧ H l = some (.lst [.ref d0, .ref d1]) ∧ H d0 = some (.dT k0) ∧ H d1 = some (.dT k1)
theorem OddC.mono {K : PySem.W.Frag} {H H' : Hp} (s : Same H H') {T : TD} {x : V} (h : OddC K H T x) : OddC K H' T x :=
  h.imp (fun ⟨d, h1, h2, h3⟩ => ⟨d, dp_mono s _ _ h1, h2, h3⟩) fun ⟨l, d0, d1, k0, k1, e, h1, h2, h3⟩ => ⟨l, d0, d1, k0, k1, e, s _ _ h1, s _ _ h2, s _ _ h3⟩
theorem AnsIs.mono {K : PySem.W.Frag} {C : Addr} {H H' : Hp} (s : Same H H') {p : Addr} {T : TD} {v : V} {b : Bool} (h : AnsIs K C H p T v b) : AnsIs K C H' p T v b := by
  cases h with
  | notd h => exact .notd (dp_mono s _ _ h)
  | lst h => exact .lst (s _ _ h)
  | dct h1 h2 h3 h4 => exact .dct (s _ _ h1) h2 (h3.mono s) fun kv hkv => ⟨(h4 kv hkv).1, (h4 kv hkv).2.mono (.same s)⟩
def AnsV (K : PySem.W.Frag) (C : Addr) (H : Hp) (p : Addr) (T : TD) (v : V) (b : Bool) : Prop := AnsIs K C H p T v b ∨ (b = false ∧ ∃ wd, v = .ref wd ∧ OddD K H wd)
theorem OddD.mono {K : PySem.W.Frag} {H H' : Hp} (s : Same H H') {wd : Addr} (h : OddD K H wd) : OddD K H' wd := by
  obtain ⟨kvs, k, v, dat, ⟨o, ho⟩, h2, h3⟩ := h
  exact ⟨kvs, k, v, dat, ⟨o, ho.mono s⟩, h2, fun kv hkv => ⟨(h3 kv hkv).1, (h3 kv hkv).2.mono (.same s)⟩⟩
theorem AnsV.mono {K : PySem.W.Frag} {C : Addr} {H H' : Hp} (s : Same H H') {p : Addr} {T : TD} {v : V} {b : Bool} (h : AnsV K C H p T v b) : AnsV K C H' p T v b := by
  rcases h with h | ⟨e, wd, ev, h⟩
  · exact .inl (h.mono s)
  · exact .inr ⟨e, wd, ev, h.mono s⟩
def smallA (d : PyData) : Prop := ∀ ds, d = .list ds → ∀ e ∈ ds, small e
/-- what is_boxed tells of a thing -/
inductive BoxIs (K : PySem.W.Frag) (C : Addr) (H : Hp) (p : Addr) (T : TD) : V → Bool → Prop
  | lst {a : Addr} {xs : List V} : H a = some (.lst xs) → BoxIs K C H p T (.ref a) false
  | non : BoxIs K C H p T .non false
  | tup {a : Addr} {xs : List V} : H a = some (.tup xs) → xs.length ≠ 2 → BoxIs K C H p T (.ref a) false
  | cho {t : Addr} {c x : V} : H t = some (.tup [c, x]) → OddC K H T c → BoxIs K C H p T (.ref t) false
  | two {t ans : Addr} {c x0 x1 : V} {d : PyData} {b0 b1 : Bool} : H t = some (.tup [c, .ref ans]) → Dp K H c d → smallA d → chosenB d (T.al 0).length (T.al 1).length = true → H ans = some (.lst [x0, x1]) → AnsV K C H p T x0 b0 → AnsV K C H p T x1 b1 → BoxIs K C H p T (.ref t) (b0 && b1)
def spIsBoxed (K : PySem.W.Frag) (C : Addr) : Sp := fun vs H Q _ => ∃ (p : Addr) (v : V) (T : TD) (b : Bool), vs = [.ref p, v] ∧ TaskAt C H p T ∧ WF T ∧ BoxIs K C H p T v b ∧ ∀ H', Same H H' → Q (.bl b) H'
section
variable {P : Program} {w : World} {K : PySem.W.Frag} {mg : Str → Option Value} {base : Heap}
theorem Def.imp {x : Str} {ps : List Str} {k : Nat} {sp sp' : Sp} {f : Addr} {fd : FuncData} (D : Def P w K mg base x ps k sp f fd) (h : ∀ vs H Q E, sp' vs H Q E → sp vs H Q E) : Def P w K mg base x ps k sp' f fd := ⟨D.G.imp h, D.b, D.k, D.m⟩
theorem ok_rowX {f g : Addr} {fd gd : FuncData} (F : Fun K "is_row" "is_row" s_is_row f fd) (T : Txt K mg) (WO : Def P w K mg base "is_output" ["thing"] 3 (spOut K) g gd) : FnOk P w K mg base CX0 4 f fd ["thing", "many"] (spRowX K) := by
  refine fnOr (ok_row F T WO) (F.ok sc_row (fun vs H Q E h => ?_) (fun cdv A outer s H vs Q E hr h => ?_))
  · obtain ⟨a, k, m, rfl, _⟩ := h
    rfl
  obtain ⟨a, k, m, rfl, ha, q⟩ := h
  have nd := sc_row.nd
  refine ⟨_, (pss_one (ps_ret (pe_and (pe_callB call_isi (by rfl) T.isi boot_isinstance (pa_cons (pv 0) (pa_cons (pe_bltn (v := .ty "list") (by rfl) T.list boot_list rfl) pa_nil))) (pe_and (pe_cmpR op_eq (pe_callB call_len_seq (by rfl) T.len PySem.boot_len (pa_cons (pv 0) pa_nil)) (pv 1) (nomark _)) (pe_one (pe_callB (cr_all rfl) (by rfl) T.all (by decide +kernel) (pa_cons (pe_lc (own := [("x", 2)]) (g := (gName 2)) (tt := tYes) (te := (tCall (spOut K) [] E0 (tCons (tVar 2) tNil))) rfl nd (pi_list (pv 0)) (blkOk_by (N := nRow) (sc := defScope s_is_row) (by decide +kernel)) (fun _ _ _ _ _ => (by exact (pg_name (i := 2) nd rfl (Or.inl rfl)))) (fun _ _ _ _ _ => pts_nil) (fun _ _ _ _ _ => (by exact (pe_call WO.G (hr.mono (by decide)) rfl WO.m WO.k WO.b .nil pass0 (pa_cons (pv 2) pa_nil))))) pa_nil))))))), ?_⟩
  refine ⟨_, rfl, V.ref a, .ty "list", .type "dict", .type "list", false, rfl, .ty "list", .base (.dT ha), kit_ty (by decide +kernel), _, rfl, iteF q⟩
theorem ok_chosenX {f g1 g2 C : Addr} {fd d1 d2 : FuncData} (F : Fun K "is_chosen" "is_chosen" s_is_chosen f fd) (T : Txt K mg) (U : TxtH K mg) (Z : TxtC K mg C) (WR : Def P w K mg base "is_row" ["thing", "many"] 4 (spRowX K) g1 d1)
    (Inp : MDef P w K mg base C "inputs" nInputs 4 (spInputs K C) g2 d2) : FnOk P w K mg base CX0 5 f fd ["task", "thing"] (spChosenX K C) := by
  refine fnOr (ok_chosen F T U Z (WR.imp fun _ _ _ _ h => .inl h) Inp) (F.ok sc_chosen (fun vs H Q E h => ?_) (fun cdv A outer s H vs Q E hr h => ?_))
  · obtain ⟨p, l, d0, d1, k0, k1, D, rfl, _⟩ := h
    rfl
  obtain ⟨p, l, d0, d1, k0, k1, D, rfl, hTk, hl, h0, h1, q⟩ := h
  obtain ⟨hT, mH, hH⟩ := U.hands
  have nd := sc_chosen.nd
  have WR : Def P w K mg base "is_row" ["thing", "many"] 4 spRowN g1 _ := WR.imp fun _ _ _ _ h => .inr h
  refine ⟨_, (pss_one (ps_ret (pe_and (pe_callB call_isi (by rfl) T.isi boot_isinstance (pa_cons (pv 1) (pa_cons (pe_bltn (v := .ty "list") (by rfl) T.list boot_list rfl) pa_nil))) (pe_and (pe_cmpR op_eq (pe_callB call_len_seq (by rfl) T.len PySem.boot_len (pa_cons (pv 1) pa_nil)) pe_int (nomark _)) (pe_one (pe_callB (cr_all rfl) (by rfl) T.all (by decide +kernel) (pa_cons (pe_lc (own := [("hand", 2)]) (g := (gName 2)) (tt := tYes) (te := (tCall spRowN [] E0 (tCons (tOp (rIxL K) (tVar 1) (tVar 2)) (tCons (tMeth C "inputs" (spInputs K C) [] E0 (tVar 0) (tCons (tVar 2) tNil)) tNil)))) rfl nd (pi_tup (pe_glob (v := .ref hT) rfl mH rfl)) (blkOk_by (N := nChosen) (sc := defScope s_is_chosen) (by decide +kernel)) (fun _ _ _ _ _ => (by exact (pg_name (i := 2) nd rfl (Or.inl rfl)))) (fun _ _ _ _ _ => pts_nil) (fun _ _ _ _ _ => (by exact (pe_call WR.G (hr.mono (by decide)) rfl WR.m WR.k WR.b .nil pass0 (pa_cons (pe_ix ix_list (pv 1) (pv 2) (fun _ _ => rfl)) (pa_cons (pe_meth (pv 0) Z.cl Inp.M Inp.G (hr.mono (by decide)) Inp.b .nil pass0 (pa_cons (pv 2) pa_nil)) pa_nil)))))) pa_nil))))))), ?_⟩
  refine ⟨_, rfl, V.ref l, .ty "list", .type "list", .type "list", true, rfl, .ty "list", .base (.lst hl), kit_ty (by decide +kernel), _, rfl, iteT ?_⟩
  refine ⟨_, rfl, l, _, rfl, .inl (SqL.of hl), rfl, _, rfl, iteT ?_⟩
  refine ⟨hT, rfl, ⟨_, hH _⟩, fun L hL => ?_⟩
  refine tup_turns (xs := [V.int 0, V.int 1]) (fun i H' => Same H H' ∧ H' L = some (.lst (([false, false].take i).map V.bl))) ⟨same_new hL _, upd_same⟩ (fun i H' _ _ => hH H') ?_ ?_
  · rintro i z H' hz' ⟨s3, h3⟩
    obtain ⟨hi, rfl⟩ := hand_at hz'
    obtain ⟨e, k, hu1, hu3⟩ : ∃ (e : Addr) (k : List (List Key × V)), ([V.ref d0, V.ref d1] : List V)[i]? = some (.ref e) ∧ H e = some (.dT k) := by
      obtain rfl | rfl : i = 0 ∨ i = 1 := by omega
      · exact ⟨d0, k0, rfl, h0⟩
      · exact ⟨d1, k1, rfl, h1⟩
    obtain ⟨dx, a, d, hp, hA, hB⟩ := hTk.mono s3
    refine ⟨rfl, _, rfl, _, rfl, l, _, _, _, rfl, rfl, s3.seq (SqL.of hl), atI_nat hu1, ?_⟩
    refine ⟨_, rfl, p, dx, _, rfl, hp, flds_no _ _ (by decide +kernel) (by decide +kernel), _, rfl, p, i, D, rfl, hi, ⟨dx, a, d, hp, hA, hB⟩, ?_⟩
    refine ⟨e, k, _, rfl, s3 _ _ hu3, ?_⟩
    refine ⟨_, h3, ?_, same_upd s3 hL, by rw [upd_same, take_bl _ (show [false, false][i]? = some false from (by
      obtain rfl | rfl : i = 0 ∨ i = 1 := by omega
      · rfl
      · rfl))]⟩
    rw [List.length_map]
    exact Nat.lt_of_le_of_lt (List.length_take_le _ _) (Nat.lt_of_lt_of_le hi (by decide))
  · rintro H3 ⟨s3, h3⟩
    refine ⟨L, _, rfl, SqL.of h3, ?_⟩
    exact q _ s3
abbrev nIsBoxed : List Str := ["task", "thing", "answers"]
theorem sc_isboxed : FnScope nIsBoxed ["task", "thing"] (defScope s_is_boxed) := ⟨rfl, rfl, rfl, by decide +kernel, rfl, by decide +kernel, by decide +kernel⟩
theorem ans_go {H : Hp} {p : Addr} {C : Addr} {T : TD} {v : V} {b : Bool} {Q : VK} {E : XK} (hT : TaskAt C H p T) (W : WF T) (h : AnsV K C H p T v b) (q : ∀ H', Same H H' → Q (.bl b) H') : spIsAns K C [.ref p, v] H Q E := by
  rcases h with h | ⟨rfl, wd, rfl, h⟩
  · exact .inl ⟨p, v, T, b, rfl, hT, W, h, q⟩
  · exact .inr ⟨p, wd, T, rfl, hT, W, h, q⟩
theorem ok_isboxed {f g1 g2 C : Addr} {fd d1 d2 : FuncData} (F : Fun K "is_boxed" "is_boxed" s_is_boxed f fd) (T : Txt K mg) (Z : TxtC K mg C) (WC : Def P w K mg base "is_chosen" ["task", "thing"] 5 (spChosenX K C) g1 d1)
    (WIA : Def P w K mg base "is_answers" ["task", "thing"] 5 (spIsAns K C) g2 d2) : FnOk P w K mg base CX0 6 f fd ["task", "thing"] (spIsBoxed K C) := by
  refine F.ok sc_isboxed (fun vs H Q E h => ?_) (fun cdv A outer s H vs Q E hr h => ?_)
  · obtain ⟨p, v, D, b, rfl, _⟩ := h
    rfl
  obtain ⟨p, v, D, b, rfl, hX, hW, hO, q⟩ := h
  have nd := sc_isboxed.nd
  refine ⟨_, (pss_one (ps_ret (pe_and (pe_callB call_isi (by rfl) T.isi boot_isinstance (pa_cons (pv 1) (pa_cons (pe_bltn (v := .ty "tuple") (by rfl) T.tuple boot_tuple rfl) pa_nil))) (pe_and (pe_cmpR op_eq (pe_callB call_len_seq (by rfl) T.len PySem.boot_len (pa_cons (pv 1) pa_nil)) pe_int (nomark _)) (pe_and (pe_call WC.G (hr.mono (by decide)) rfl WC.m WC.k WC.b .nil pass0 (pa_cons (pv 0) (pa_cons (pe_ix ix_tup (pv 1) pe_int (fun _ _ => rfl)) pa_nil))) (pe_and (pe_callB call_isi (by rfl) T.isi boot_isinstance (pa_cons (pe_ix ix_tup (pv 1) pe_int (fun _ _ => rfl)) (pa_cons (pe_bltn (v := .ty "list") (by rfl) T.list boot_list rfl) pa_nil))) (pe_and (pe_cmpR op_eq (pe_callB call_len_seq (by rfl) T.len PySem.boot_len (pa_cons (pe_ix ix_tup (pv 1) pe_int (fun _ _ => rfl)) pa_nil)) pe_int (nomark _)) (pe_one (pe_callB (cr_all rfl) (by rfl) T.all (by decide +kernel) (pa_cons (pe_lc (own := [("answers", 2)]) (g := (gName 2)) (tt := tYes) (te := (tCall (spIsAns K C) [] E0 (tCons (tVar 0) (tCons (tVar 2) tNil)))) rfl nd (pi_list (pe_ix ix_tup (pv 1) pe_int (fun _ _ => rfl))) (blkOk_by (N := nIsBoxed) (sc := defScope s_is_boxed) (by decide +kernel)) (fun _ _ _ _ _ => (by exact (pg_name (i := 2) nd rfl (Or.inl rfl)))) (fun _ _ _ _ _ => pts_nil) (fun _ _ _ _ _ => (by exact (pe_call WIA.G (hr.mono (by decide)) rfl WIA.m WIA.k WIA.b .nil pass0 (pa_cons (pv 0) (pa_cons (pv 2) pa_nil)))))) pa_nil)))))))))), ?_⟩
  cases hO with
  | @lst a xs ha => exact ⟨_, rfl, V.ref a, .ty "tuple", .type "list", .type "tuple", false, rfl, .ty "tuple", .base (.lst ha), kit_ty (by decide +kernel), _, rfl, iteF (q _ (Same.refl H))⟩
  | non => exact ⟨_, rfl, V.non, .ty "tuple", .type "NoneType", .type "tuple", false, rfl, .ty "tuple", dp_ty (d := .none) .non, kit_ty (by decide +kernel), _, rfl, iteF (q _ (Same.refl H))⟩
  | @tup t xs ht hn =>
    refine ⟨_, rfl, V.ref t, .ty "tuple", .type "tuple", .type "tuple", true, rfl, .ty "tuple", .base (.tup ht), kit_ty (by decide +kernel), _, rfl, iteT ?_⟩
    exact ⟨_, rfl, t, _, rfl, .inr (SqT.of ht), rfl, _, rfl, iteF' (decide_eq_false fun e => hn (by injection e with e; omega)) (q _ (Same.refl H))⟩
  | @cho t c x ht hc =>
    refine ⟨_, rfl, V.ref t, .ty "tuple", .type "tuple", .type "tuple", true, rfl, .ty "tuple", .base (.tup ht), kit_ty (by decide +kernel), _, rfl, iteT ?_⟩
    refine ⟨_, rfl, t, _, rfl, .inr (SqT.of ht), rfl, _, rfl, iteT ?_⟩
    rcases hc with ⟨d, hd, hs, hn⟩ | ⟨l, d0, d1, k0, k1, rfl, hl, h0, h1⟩
    · refine ⟨_, rfl, _, rfl, t, _, _, _, rfl, rfl, SqT.of ht, (by rfl), .inl ⟨p, _, d, D, rfl, hX.r, hd, hs, fun H1 s1 => ?_⟩⟩
      rw [hn]
      exact ⟨_, rfl, iteF (q _ s1)⟩
    · exact ⟨_, rfl, _, rfl, t, _, _, _, rfl, rfl, SqT.of ht, (by rfl), .inr ⟨p, l, d0, d1, k0, k1, D, rfl, hX.r, hl, h0, h1, fun H1 s1 => ⟨_, rfl, iteF (q _ s1)⟩⟩⟩
  | @two t ans c x0 x1 d b0 b1 ht hd hs hy ha A0 A1 =>
    refine ⟨_, rfl, V.ref t, .ty "tuple", .type "tuple", .type "tuple", true, rfl, .ty "tuple", .base (.tup ht), kit_ty (by decide +kernel), _, rfl, iteT ?_⟩
    refine ⟨_, rfl, t, _, rfl, .inr (SqT.of ht), rfl, _, rfl, iteT ?_⟩
    refine ⟨_, rfl, _, rfl, t, _, _, _, rfl, rfl, SqT.of ht, (by rfl), .inl ⟨p, _, d, D, rfl, hX.r, hd, hs, fun H1 s1 => ?_⟩⟩
    rw [hy]
    refine ⟨_, rfl, iteT ?_⟩
    refine ⟨_, rfl, t, _, _, _, rfl, rfl, SqT.of (s1 _ _ ht), (by rfl), V.ref ans, .ty "list", .type "list", .type "list", true, rfl, .ty "list", .base (.lst (s1 _ _ ha)), kit_ty (by decide +kernel), _, rfl, iteT ?_⟩
    refine ⟨_, rfl, t, _, _, _, rfl, rfl, SqT.of (s1 _ _ ht), (by rfl), ans, _, rfl, .inl (SqL.of (s1 _ _ ha)), rfl, _, rfl, iteT ?_⟩
    refine ⟨_, rfl, t, _, _, _, rfl, rfl, SqT.of (s1 _ _ ht), (by rfl), ans, rfl, ⟨_, SqL.of (s1 _ _ ha)⟩, fun L hL => ?_⟩
    refine list_turns (xs := [x0, x1]) (fun i H' => Same H1 H' ∧ H' L = some (.lst (([b0, b1].take i).map V.bl))) ⟨same_new hL _, upd_same⟩ (fun i H' _ h => SqL.of (h.1 _ _ (s1 _ _ ha))) ?_ ?_
    · rintro i z H' hz ⟨s3, h3⟩
      have hi : i < 2 := (List.getElem?_eq_some_iff.mp hz).1
      have s13 := s1.trans s3
      have fin : ∀ b, [b0, b1][i]? = some b → ∀ H4, Same H' H4 → ∃ zs, H4 L = some (.lst zs) ∧ zs.length < sizeLine ∧ (Same H1 (upd H4 L (.lst (zs ++ [V.bl b]))) ∧ (upd H4 L (.lst (zs ++ [V.bl b]))) L = some (.lst (([b0, b1].take (i + 1)).map V.bl))) := fun b hb H4 s4 => by
        refine ⟨_, s4 _ _ h3, ?_, same_upd (s3.trans s4) hL, by rw [upd_same, take_bl _ hb]⟩
        rw [List.length_map]
        exact Nat.lt_of_le_of_lt (List.length_take_le _ _) (Nat.lt_of_lt_of_le hi (by decide))
      obtain rfl | rfl : i = 0 ∨ i = 1 := by omega
      · obtain rfl : z = x0 := by simpa using hz.symm
        exact ⟨rfl, _, rfl, _, rfl, ans_go (hX.mono s13) hW (A0.mono s13) fun H4 s4 => fin b0 rfl H4 s4⟩
      · obtain rfl : z = x1 := by simpa using hz.symm
        exact ⟨rfl, _, rfl, _, rfl, ans_go (hX.mono s13) hW (A1.mono s13) fun H4 s4 => fin b1 rfl H4 s4⟩
    · rintro H3 ⟨s3, h3⟩
      refine ⟨L, _, rfl, SqL.of h3, ?_⟩
      have eb : (([b0, b1].take [x0, x1].length).all id) = (b0 && b1) := by
        show (b0 && (b1 && true)) = _
        rw [Bool.and_true]
      rw [eb]
      exact q _ (s1.trans s3)
end
end TA

set_option Elab.async false
set_option maxRecDepth 100000
set_option maxHeartbeats 4000000
namespace TA
open PySem L2 PyProof.Rows
set_option linter.unusedVariables false
theorem any_pair (l : List (Int × Int)) (p : Int × Int) : ((l.map pairD).any fun z => PyData.eqv z (pairD p)) = decide (p ∈ l) := by
  rw [List.any_map]
  by_cases h : p ∈ l
  · rw [decide_eq_true h, List.any_eq_true]
    exact ⟨p, h, by show PyData.eqv (pairD p) (pairD p) = true; rw [eqv_pair, decide_eq_true rfl]⟩
  · rw [decide_eq_false h, List.any_eq_false]
    intro q hq c
    have c : PyData.eqv (pairD q) (pairD p) = true := c
    rw [eqv_pair] at c
    exact h (of_decide_eq_true c ▸ hq)
def anKV (an : Nat → IP × List (Int × Int) → Int) (h : Nat) (bo : BD) : List (List Key × V) := bo.map fun e => (kI e.1, V.int (an h e))
def pairO (h : Nat) (x w : Int) : Int × Int := if h = 0 then (x, w) else (w, x)
def okAns (ch : Nat → List Int) (an : Nat → IP × List (Int × Int) → Int) (h : Nat) (e : IP × List (Int × Int)) : Prop := pairO h (an h e) (wonO ch h e.1) ∈ e.2
theorem row_yes {c : List Int} {n : Nat} (h : c.length = n) (o : ∀ x ∈ c, okOut x) : rowB (rowD c) n = true := by
  show (decide ((c.map PyData.int).length = n) && ((c.map PyData.int).map outB).all id) = true
  rw [List.length_map, decide_eq_true h, Bool.true_and, List.all_eq_true]
  intro b hb
  obtain ⟨d, hd, rfl⟩ := List.mem_map.mp hb
  obtain ⟨x, hx, rfl⟩ := List.mem_map.mp hd
  exact out_yes (o x hx)
theorem anKV_at {bo : BD} (s : (bo.map (·.1)).Pairwise (· ≠ ·)) (an : Nat → IP × List (Int × Int) → Int) (h : Nat) : ∀ e ∈ bo, valV (anKV an h bo) (kI e.1) = some (.int (an h e)) := by
  induction bo with
  | nil => intro e m; cases m
  | cons b bo ih =>
    intro e m
    rw [List.map_cons, List.pairwise_cons] at s
    show valV ((kI b.1, V.int (an h b)) :: anKV an h bo) (kI e.1) = _
    rcases List.mem_cons.mp m with rfl | m
    · exact valV_pos rfl
    · rw [valV_neg (fun c => s.1 _ (List.mem_map.mpr ⟨e, m, rfl⟩) (kI_inj c))]
      exact ih s.2 e m
theorem perm_ne {T : TD} {B : BD} (W : WF T) (h : B.Perm T.bo) : (B.map (·.1)).Pairwise (· ≠ ·) := ((h.map (·.1)).nodup_iff.mpr (show (T.bo.map (·.1)).Nodup from W.srt) : (B.map (·.1)).Nodup)
/-- a thing of the right form -/
structure GoodB (C : Addr) (H : Hp) (p t : Addr) (T : TD) (ch : Nat → List Int) (an : Nat → IP × List (Int × Int) → Int) (al ans d0 d1 : Addr) : Prop where
  ht : H t = some (.tup [.ref al, .ref ans])
  hal : RowsAt H (.ref al) [ch 0, ch 1]
  hans : H ans = some (.lst [.ref d0, .ref d1])
  h0 : ∃ B : BD, B.Perm T.bo ∧ H d0 = some (.dT (anKV an 0 B))
  h1 : ∃ B : BD, B.Perm T.bo ∧ H d1 = some (.dT (anKV an 1 B))
  x0 : TaskX C H p T d0
  x1 : TaskX C H p T d1
  len : ∀ h, h < 2 → (ch h).length = (T.al h).length
  outc : ∀ h, h < 2 → ∀ x ∈ ch h, okOut x
  outa : ∀ h, h < 2 → ∀ e ∈ T.bo, okOut (an h e)
theorem GoodB.mono {C : Addr} {H H' : Hp} (s : Same H H') {p t : Addr} {T : TD} {ch an al ans d0 d1} (b : GoodB C H p t T ch an al ans d0 d1) : GoodB C H' p t T ch an al ans d0 d1 :=
  ⟨s _ _ b.ht, b.hal.mono (.same s), s _ _ b.hans, b.h0.elim fun B h => ⟨B, h.1, s _ _ h.2⟩, b.h1.elim fun B h => ⟨B, h.1, s _ _ h.2⟩, b.x0.mono s, b.x1.mono s, b.len, b.outc, b.outa⟩
def intD (kv : List Key × V) : PyData := match kv.2 with
  | .int i => .int i
  | _ => .none
theorem ans_good {K : PySem.W.Frag} {C : Addr} {H : Hp} {p d : Addr} {T : TD} {an : Nat → IP × List (Int × Int) → Int} {h : Nat} {B : BD} (W : WF T) (x : TaskX C H p T d) (pm : B.Perm T.bo) (hd : H d = some (.dT (anKV an h B))) (o : ∀ e ∈ T.bo, okOut (an h e)) : AnsV K C H p T (.ref d) true := by
  have lB : B.length = T.bo.length := pm.length_eq
  have lk_ : (anKV an h B).length = B.length := List.length_map _
  have kv_ : ∀ kv ∈ anKV an h B, ∃ e ∈ T.bo, kv = (kI e.1, V.int (an h e)) := fun kv hkv => by
    obtain ⟨e, he, ek⟩ := List.mem_map.mp hkv
    exact ⟨e, pm.mem_iff.mp he, ek.symm⟩
  have all : ansAll T (anKV an h B) intD = true := by
    unfold ansAll
    rw [decide_eq_true (by rw [lk_, lB]), Bool.true_and, List.all_eq_true]
    intro kv hkv
    obtain ⟨e, he, rfl⟩ := kv_ kv hkv
    show (hasK T.bo (iI e.1) && outB (.int (an h e))) = true
    rw [hasK_yes he, out_yes (o e he)]
    rfl
  refine .inl ?_
  rw [← all]
  refine .dct hd (by rw [lk_, lB]; have := W.many; omega) x fun kv hkv => ?_
  obtain ⟨e, he, rfl⟩ := kv_ kv hkv
  refine ⟨fun z hz => ?_, dpk_int _⟩
  rcases List.mem_cons.mp hz with rfl | hz
  · exact ⟨_, rfl⟩
  · rw [List.mem_singleton.mp hz]
    exact ⟨_, rfl⟩
theorem GoodB.box {K : PySem.W.Frag} {C : Addr} {H : Hp} {p t : Addr} {T : TD} {ch an al ans d0 d1} (W : WF T) (b : GoodB C H p t T ch an al ans d0 d1) : BoxIs K C H p T (.ref t) true := by
  obtain ⟨B0, p0, h0⟩ := b.h0
  obtain ⟨B1, p1, h1⟩ := b.h1
  refine .two (b0 := true) (b1 := true) b.ht b.hal.dp ?_ ?_ b.hans (ans_good W b.x0 p0 h0 (b.outa 0 (by decide))) (ans_good W b.x1 p1 h1 (b.outa 1 (by decide)))
  · rintro ds e z hz
    cases e
    rcases List.mem_cons.mp hz with rfl | hz
    · intro es e
      cases e
      rw [List.length_map, b.len 0 (by decide)]
      have := W.n0 0 (by decide); omega
    · obtain rfl := List.mem_singleton.mp hz
      intro es e
      cases e
      rw [List.length_map, b.len 1 (by decide)]
      have := W.n0 1 (by decide); omega
  · show (rowB (rowD (ch 0)) _ && rowB (rowD (ch 1)) _) = true
    rw [row_yes (b.len 0 (by decide)) (b.outc 0 (by decide)), row_yes (b.len 1 (by decide)) (b.outc 1 (by decide))]
    rfl
/-- what answers_fault tells -/
def AnsRes (T : TD) (ch : Nat → List Int) (an : Nat → IP × List (Int × Int) → Int) (h : Nat) (fv : V) (H' : Hp) : Prop := (fv = .non ∧ ∀ e ∈ T.bo, okAns ch an h e) ∨
  ∃ (r q : Addr) (i : Nat) (e : IP × List (Int × Int)), fv = .ref r ∧ H' r = some (.tup [.str "answer", .int ((h : Nat) : Int), .ref q]) ∧ TpAt H' (.ref q) (iI e.1) ∧ (sb T)[i]? = some e ∧ ¬ okAns ch an h e ∧ ∀ e' ∈ (sb T).take i, okAns ch an h e'
def spAnsF (K : PySem.W.Frag) (C : Addr) : Sp := fun vs H Q _ => ∃ (p d : Addr) (h : Nat) (v : V) (T : TD) (ch : Nat → List Int) (an : Nat → IP × List (Int × Int) → Int), vs = [.ref p, .int (h : Int), v, .ref d] ∧ h < 2 ∧ TaskAt C H p T ∧ WF T ∧ RowsAt H v [ch 0, ch 1] ∧ (∀ h, h < 2 → (ch h).length = (T.al h).length) ∧ (∃ B : BD, B.Perm T.bo ∧ H d = some (.dT (anKV an h B))) ∧
  ∀ fv H', Same H H' → AnsRes T ch an h fv H' → Q fv H'
/-- what boxed_fault tells of a thing of the right form -/
def FaultIs (T : TD) (ch : Nat → List Int) (an : Nat → IP × List (Int × Int) → Int) (n : Nat) (fv : V) (H' : Hp) : Prop :=
  (fv = .non ∧ (∀ h a, h < 2 → a < (T.al h).length → okA T ch h a) ∧ ∀ h, h < n → ∀ e ∈ T.bo, okAns ch an h e) ∨
  (∃ r h a, fv = .ref r ∧ H' r = some (.tup [.str "alone", .int ((h : Nat) : Int), .int ((a : Nat) : Int)]) ∧ h < 2 ∧ a < (T.al h).length ∧ ¬ okA T ch h a ∧ ∀ h' a', h' < 2 → a' < (T.al h').length → (h' < h ∨ (h' = h ∧ a' < a)) → okA T ch h' a') ∨
  (∃ (r q : Addr) (h i : Nat) (e : IP × List (Int × Int)), fv = .ref r ∧ H' r = some (.tup [.str "answer", .int ((h : Nat) : Int), .ref q]) ∧ TpAt H' (.ref q) (iI e.1) ∧ h < n ∧ (∀ h a, h < 2 → a < (T.al h).length → okA T ch h a) ∧ (sb T)[i]? = some e ∧ ¬ okAns ch an h e ∧ (∀ h', h' < h → ∀ e ∈ T.bo, okAns ch an h' e) ∧ ∀ e' ∈ (sb T).take i, okAns ch an h e')
theorem FaultIs.mono {T : TD} {ch an} {n : Nat} {fv : V} {H H' : Hp} (s : Same H H') (h : FaultIs T ch an n fv H) : FaultIs T ch an n fv H' := by
  rcases h with h | ⟨r, h, a, e, h1, h2⟩ | ⟨r, q, h, i, e, e1, h1, h2, h3⟩
  · exact .inl h
  · exact .inr (.inl ⟨r, h, a, e, s _ _ h1, h2⟩)
  · exact .inr (.inr ⟨r, q, h, i, e, e1, s _ _ h1, h2.mono (.same s), h3⟩)
def spBoxF (K : PySem.W.Frag) (C : Addr) : Sp := fun vs H Q _ => ∃ (p : Addr) (v : V) (T : TD), vs = [.ref p, v] ∧ TaskAt C H p T ∧ WF T ∧
  ((BoxIs K C H p T v false ∧ ∀ r H', Same H H' → H' r = some (.tup [.str "form"]) → Q (.ref r) H') ∨
   ∃ (t : Addr) (ch : Nat → List Int) (an : Nat → IP × List (Int × Int) → Int) (al ans d0 d1 : Addr), v = .ref t ∧ GoodB C H p t T ch an al ans d0 d1 ∧ ∀ fv H', Same H H' → FaultIs T ch an 2 fv H' → Q fv H')
section
variable {P : Program} {w : World} {K : PySem.W.Frag} {mg : Str → Option Value} {base : Heap}
abbrev nAnsF : List Str := ["task", "hand", "alone", "answers", "pair", "told"]
theorem sc_ansf : FnScope nAnsF ["task", "hand", "alone", "answers"] (defScope s_answers_fault) := ⟨rfl, rfl, rfl, by decide +kernel, rfl, by decide +kernel, by decide +kernel⟩
theorem set_told {h : Nat} (hh : h < 2) (x w : Int) : ([V.int x, V.int x] : List V).set (1 - h) (V.int w) = [V.int (pairO h x w).1, V.int (pairO h x w).2] := by
  obtain rfl | rfl : h = 0 ∨ h = 1 := by omega
  · rfl
  · rfl
theorem ok_ansf {f g2 C : Addr} {fd d2 : FuncData} (F : Fun K "answers_fault" "answers_fault" s_answers_fault f fd) (T : Txt K mg) (Z : TxtC K mg C)
    (Prs : MDef P w K mg base C "pairs" nPairs 1 (spPairs K C) g2 d2) : FnOk P w K mg base CX0 2 f fd ["task", "hand", "alone", "answers"] (spAnsF K C) := by
  refine F.ok sc_ansf (fun vs H Q E h => ?_) (fun cdv A outer s H vs Q E hr h => ?_)
  · obtain ⟨p, d, h, v, D, ch, an, rfl, _⟩ := h
    rfl
  obtain ⟨p, d, h, v, D, ch, an, rfl, hh, hTk, hW, hR, hlen, ⟨B, pB, hd⟩, q0⟩ := h
  have nd := sc_ansf.nd
  have hu := hu_of hr
  have hu65 := hu65_of hr
  refine ⟨_, (pss_cons (ps_for PassesOwn.never (by rfl) (pi_list (pe_meth0 (pv 0) Z.cl Prs.M Prs.G (hr.mono (by decide)) Prs.b .nil pass0)) (pg_name (i := 4) nd rfl (Or.inl rfl))
      (pss_cons (ps_set (i := 5) nd rfl (Or.inl rfl) (pe_lst (pa_cons (pe_dget hu (pv 3) (pv 4) (fun _ _ => rfl)) (pa_cons (pe_dget hu (pv 3) (pv 4) (fun _ _ => rfl)) pa_nil))))
    (pss_cons (ps_asg (pe_ix ix_list (pe_ix ix_list (pv 2) (pe_op op_sub pe_int (pv 1)) (fun _ _ => rfl)) (pe_ix ix_tup (pv 4) (pe_op op_sub pe_int (pv 1)) (fun _ _ => rfl)) (fun _ _ => rfl)) (pg_sub (pv 5) (pe_op op_sub pe_int (pv 1)) set_list))
    (pss_one (ps_if (pt_cmpR (op_notInD hu65) (pe_callTy call_tuple_of (by rfl) T.tuple boot_tuple (pa_cons (pv 5) pa_nil)) (pe_dget hu (pe_fld (pv 0) rfl) (pv 4) (fun _ _ => rfl)) (by rfl))
      (pss_one (ps_ret (pe_tup (pa_cons pe_str (pa_cons (pv 1) (pa_cons (pv 4) pa_nil))))))
      pss_nil)))))
    (pss_one (ps_ret pe_non))), ?_⟩
  obtain ⟨dx, a0, db, hp, hA, hB⟩ := id hTk
  refine ⟨_, rfl, p, dx, _, rfl, hp, flds_no _ _ (by decide +kernel) (by decide +kernel), p, D, rfl, hTk, hW, fun r xs hr0 hx => ?_⟩
  have s1 := same_new hr0 (.lst xs)
  have hr1 : (upd H r (.lst xs)) r = some (.lst xs) := upd_same
  refine ⟨r, rfl, ⟨_, SqL.of hr1⟩, for_list (xs := xs) (fun i σ H' => ∃ g1 g2, σ = [some (.ref p), some (.int (h : Int)), some v, some (.ref d), g1, g2] ∧ Same (upd H r (.lst xs)) H' ∧ ∀ e ∈ (sb D).take i, okAns ch an h e) ⟨_, _, rfl, Same.refl _, fun e he => by cases he⟩ (fun i σ H' _ ⟨_, _, _, s, _⟩ => s.seq (SqL.of hr1)) ?_ ?_⟩
  · rintro i x σ H' hxi ⟨g1, g2, rfl, s2, hok⟩
    have sH := s1.trans s2
    obtain ⟨y, hy, tt, rfl, htt⟩ := (hx.imp fun _ _ r => r.mono (.same sH)).get hxi
    rw [List.getElem?_map] at hy
    obtain ⟨e, hbe, rfl⟩ := Option.map_eq_some_iff.mp hy
    have hem := sb_mem.mp (List.mem_of_getElem? hbe)
    obtain ⟨rg0, rg1⟩ := hW.rng e hem
    have hd' := sH _ _ hd
    have hv1 := anKV_at (perm_ne hW pB) an h e (pB.mem_iff.mpr hem)
    refine ⟨_, rfl, _, rfl, d, _, rfl, hv1 ▸ DGet.t (k := kI e.1) hd' htt, _, rfl, _, rfl, d, _, rfl, hv1 ▸ DGet.t (k := kI e.1) hd' htt, (by show 2 ≤ sizeLine; decide), fun L hL => ?_⟩
    have s3 := same_new hL (.lst [V.int (an h e), V.int (an h e)])
    obtain ⟨t, ys, rfl, ht, ar⟩ := hR.mono (.same (sH.trans s3))
    have h1 : 1 - h < 2 := by omega
    obtain ⟨z, hz, rr, rfl, hrow⟩ := ar.at (i := 1 - h) (y := ch (1 - h)) (by
      obtain rfl | rfl : h = 0 ∨ h = 1 := by omega
      · rfl
      · rfl)
    have hsl : sel (1 - h) e.1 < (ch (1 - h)).length := by
      rw [hlen _ h1]
      obtain rfl | rfl : h = 0 ∨ h = 1 := by omega
      · exact rg1
      · exact rg0
    have gw : ((ch (1 - h)).map V.int)[sel (1 - h) e.1]? = some (.int (wonO ch h e.1)) := by
      unfold wonO
      rw [List.getElem?_map, List.getD_eq_getElem?_getD, List.getElem?_eq_getElem hsl]
      rfl
    have e1h : (1 : Int) - (h : Int) = ((1 - h : Nat) : Int) := by omega
    refine ⟨_, rfl, _, rfl, _, _, rfl, rfl, t, _, _, _, rfl, rfl, SqL.of ht, atI_one hh hz, _, rfl, _, rfl, _, _, rfl, rfl, tt, _, _, _, rfl, rfl, SqT.of (s3 _ _ htt), atI_one hh (iI_at h1 e.1), rr, _, _, _, rfl, rfl, SqL.of hrow, atI_nat gw, ?_⟩
    refine ⟨_, rfl, _, rfl, _, _, rfl, rfl, L, _, _, 1 - h, rfl, rfl, upd_same, (by
      rw [e1h]
      obtain rfl | rfl : h = 0 ∨ h = 1 := by omega
      · rfl
      · rfl), ?_⟩
    rw [set_told hh]
    have sL : Same H' (upd (upd H' L (.lst [V.int (an h e), V.int (an h e)])) L (.lst [V.int (pairO h (an h e) (wonO ch h e.1)).1, V.int (pairO h (an h e) (wonO ch h e.1)).2])) := same_upd s3 hL
    refine ⟨_, rfl, L, _, rfl, .inl ⟨SqL.of upd_same, fun u hu' => ?_⟩⟩
    have s4 := same_new hu' (.tup [V.int (pairO h (an h e) (wonO ch h e.1)).1, V.int (pairO h (an h e) (wonO ch h e.1)).2])
    have s34 := sL.trans s4
    obtain ⟨dx2, a2, d2, hp2, hA2, kvs, hd2, ha2⟩ := hTk.mono (sH.trans s34)
    obtain ⟨lv, hlv, hlet⟩ := val_at ha2 hW.srt e hem
    refine ⟨_, rfl, p, C, dx2, _, _, rfl, hp2, Z.cl, Z.nB, flds_both _ _, _, rfl, d2, _, rfl, hlv ▸ DGet.t (k := kI e.1) hd2 (s34 _ _ htt), pairD (pairO h (an h e) (wonO ch h e.1)), e.2.map pairD, (TpAt.dp ⟨u, rfl, upd_same⟩), hlet.dp, (okD_pair _).shaped (by decide), (okD_pairs _).shaped (by decide), _, rfl, ?_⟩
    rw [any_pair]
    by_cases c : okAns ch an h e
    · rw [decide_eq_true (show pairO h (an h e) (wonO ch h e.1) ∈ e.2 from c)]
      refine iteF ⟨_, _, rfl, s2.trans s34, fun e' he' => ?_⟩
      rw [take_get hbe] at he'
      rcases List.mem_append.mp he' with h' | h'
      · exact hok e' h'
      · obtain rfl := List.mem_singleton.mp h'
        exact c
    · rw [decide_eq_false (show ¬ pairO h (an h e) (wonO ch h e.1) ∈ e.2 from c)]
      refine iteT ⟨_, rfl, _, rfl, (by show 3 ≤ sizeLine; decide), fun r2 hr2 => ?_⟩
      exact q0 _ _ ((sH.trans s34).trans (same_new hr2 _)) (.inr ⟨r2, tt, i, e, rfl, upd_same, ⟨tt, rfl, same_new hr2 _ _ _ (s34 _ _ htt)⟩, hbe, c, hok⟩)
  · rintro σ H' ⟨g1, g2, rfl, s2, hok⟩
    refine q0 _ _ (s1.trans s2) (.inl ⟨rfl, fun e he => hok e ?_⟩)
    rw [hx.len, List.length_map, List.take_length]
    exact sb_mem.mpr he
abbrev nBoxF : List Str := ["task", "thing", "alone", "answers", "fault", "hand"]
theorem sc_boxf : FnScope nBoxF ["task", "thing"] (defScope s_boxed_fault) := ⟨rfl, rfl, rfl, by decide +kernel, rfl, by decide +kernel, by decide +kernel⟩
theorem ok_boxf {f g1 g2 g3 C : Addr} {fd d1 d2 d3 : FuncData} (F : Fun K "boxed_fault" "boxed_fault" s_boxed_fault f fd) (T : Txt K mg) (U : TxtH K mg) (Z : TxtC K mg C) (WIB : Def P w K mg base "is_boxed" ["task", "thing"] 6 (spIsBoxed K C) g1 d1)
    (WA : Def P w K mg base "alone_fault" ["task", "alone"] 5 (spAloneF K C) g2 d2) (WAF : Def P w K mg base "answers_fault" ["task", "hand", "alone", "answers"] 2 (spAnsF K C) g3 d3) : FnOk P w K mg base CX0 7 f fd ["task", "thing"] (spBoxF K C) := by
  refine F.ok sc_boxf (fun vs H Q E h => ?_) (fun cdv A outer s H vs Q E hr h => ?_)
  · obtain ⟨p, v, D, rfl, _⟩ := h
    rfl
  obtain ⟨p, v, D, rfl, hTk, hW, hcase⟩ := h
  obtain ⟨hT, mH, hH⟩ := U.hands
  have nd := sc_boxf.nd
  refine ⟨_, (pss_cons (ps_if (pt_not (pt_val (pe_call WIB.G (hr.mono (by decide)) rfl WIB.m WIB.k WIB.b .nil pass0 (pa_cons (pv 0) (pa_cons (pv 1) pa_nil)))))
      (pss_one (ps_ret (pe_tup (pa_cons pe_str pa_nil))))
      pss_nil)
    (pss_cons (ps_asg (pv 1) (pg_tup (by rfl) (pgs_cons (pg_name (i := 2) nd rfl (Or.inl rfl)) (pgs_cons (pg_name (i := 3) nd rfl (Or.inl rfl)) pgs_nil))))
    (pss_cons (ps_set (i := 4) nd rfl (Or.inl rfl) (pe_call WA.G (hr.mono (by decide)) rfl WA.m WA.k WA.b .nil pass0 (pa_cons (pv 0) (pa_cons (pv 2) pa_nil))))
    (pss_cons (ps_for PassesOwn.never (by rfl) (pi_tup (pe_glob (v := .ref hT) rfl mH rfl)) (pg_name (i := 5) nd rfl (Or.inl rfl))
      (pss_one (ps_if (pt_cmpR op_isN (pv 4) pe_non (nomark _))
      (pss_one (ps_set (i := 4) nd rfl (Or.inl rfl) (pe_call WAF.G (hr.mono (by decide)) rfl WAF.m WAF.k WAF.b .nil pass0 (pa_cons (pv 0) (pa_cons (pv 5) (pa_cons (pv 2) (pa_cons (pe_ix ix_list (pv 3) (pv 5) (fun _ _ => rfl)) pa_nil)))))))
      pss_nil)))
    (pss_one (ps_ret (pv 4))))))), ?_⟩
  rcases hcase with ⟨hb, q⟩ | ⟨t, ch, an, al, ans, e0, e1, rfl, B, q0⟩
  · refine ⟨_, rfl, _, rfl, p, v, D, false, rfl, hTk, hW, hb, fun H1 s1 => ⟨false, rfl, iteT ⟨(by show 1 ≤ sizeLine; decide), fun r hr => ?_⟩⟩⟩
    exact q r _ (s1.trans (same_new hr _)) upd_same
  refine ⟨_, rfl, _, rfl, p, .ref t, D, true, rfl, hTk, hW, B.box hW, fun H1 s1 => ⟨true, rfl, iteF ?_⟩⟩
  have B1 := B.mono s1
  refine ⟨_, rfl, t, _, rfl, SqT.of B1.ht, rfl, _, _, rfl, _, _, rfl, rfl, ?_⟩
  refine ⟨_, rfl, _, rfl, p, _, D, ch, rfl, B1.x0.task, hW, B1.hal, B.len, fun fv H2 s2 hres => ?_⟩
  have B2 := B1.mono s2
  have s12 := s1.trans s2
  refine ⟨hT, rfl, ⟨_, hH _⟩, for_tup (xs := [V.int 0, V.int 1]) (fun i σ H' => ∃ fv g, σ = [some (.ref p), some (.ref t), some (.ref al), some (.ref ans), some fv, g] ∧ Same H2 H' ∧ FaultIs D ch an i fv H') ⟨fv, _, rfl, Same.refl _, ?_⟩ (fun i σ H' _ _ => hH H') ?_ ?_⟩
  · rcases hres with ⟨rfl, g⟩ | ⟨r, h, a, rfl, e, hh, ha, c, m⟩
    · exact .inl ⟨rfl, g, fun h hh => absurd hh (Nat.not_lt_zero _)⟩
    · exact .inr (.inl ⟨r, h, a, rfl, e, hh, ha, c, m⟩)
  · rintro i z σ H' hz ⟨fv, g, rfl, s3, hres⟩
    obtain ⟨hi, rfl⟩ := hand_at hz
    have B3 := B2.mono s3
    refine ⟨_, rfl, rfl, _, rfl, ?_⟩
    rcases hres with ⟨rfl, g1, g2⟩ | ⟨r, h, a, rfl, e⟩ | ⟨r, q, h, j, e, rfl, c1, c2, c3, c4⟩
    case inr.inl => exact iteF ⟨_, _, rfl, s3, .inr (.inl ⟨r, h, a, rfl, e⟩)⟩
    case inr.inr => exact iteF ⟨_, _, rfl, s3, .inr (.inr ⟨r, q, h, j, e, rfl, c1, c2, by omega, c4⟩)⟩
    refine iteT ?_
    obtain ⟨d, hd1, hd2⟩ : ∃ d, ([V.ref e0, V.ref e1] : List V)[i]? = some (.ref d) ∧ ∃ B : BD, B.Perm D.bo ∧ H' d = some (.dT (anKV an i B)) := by
      obtain rfl | rfl : i = 0 ∨ i = 1 := by omega
      · exact ⟨e0, rfl, B3.h0⟩
      · exact ⟨e1, rfl, B3.h1⟩
    refine ⟨_, rfl, _, rfl, _, rfl, _, rfl, _, rfl, ans, _, _, _, rfl, rfl, SqL.of B3.hans, atI_nat hd1, p, d, i, _, D, ch, an, rfl, hi, B3.x0.task, hW, B3.hal, B.len, hd2, fun fv H4 s4 hr4 => ?_⟩
    refine ⟨_, _, rfl, s3.trans s4, ?_⟩
    rcases hr4 with ⟨rfl, g3⟩ | ⟨r, q, j, e, rfl, c1, c2, c3, c4, c5⟩
    · refine .inl ⟨rfl, g1, fun h hh => ?_⟩
      rcases Nat.lt_succ_iff_lt_or_eq.mp hh with h' | rfl
      · exact g2 h h'
      · exact g3
    · exact .inr (.inr ⟨r, q, i, j, e, rfl, c1, c2, Nat.lt_succ_self _, g1, c3, c4, g2, c5⟩)
  · rintro σ H' ⟨fv, g, rfl, s3, hres⟩
    exact ⟨_, rfl, q0 fv H' (s12.trans s3) hres⟩
end
end TA

set_option Elab.async false
set_option maxRecDepth 100000
set_option maxHeartbeats 4000000
namespace TA
open PySem L2 PyProof.Rows
set_option linter.unusedVariables false
/-- two faults of one thing are one -/
theorem fault_one {K : PySem.W.Frag} {T : TD} {ch : Nat → List Int} {an : Nat → IP × List (Int × Int) → Int} {n : Nat} {fv fv' : V} {H : Hp} (h : FaultIs T ch an n fv H) (h' : FaultIs T ch an n fv' H) : ∃ d, Dp K H fv d ∧ Dp K H fv' d := by
  rcases h with ⟨rfl, a1, a2⟩ | ⟨r, h, a, rfl, hr, hh, ha, c, m⟩ | ⟨r, q, h, i, e, rfl, hr, hq, hn, a1, he, c, m, m2⟩
  · rcases h' with ⟨rfl, _⟩ | ⟨r', h', a', rfl, hr', hh', ha', c', m'⟩ | ⟨r', q', h', i', e', rfl, hr', hq', hn', a1', he', c', m', m2'⟩
    · exact ⟨.none, .non, .non⟩
    · exact absurd (a1 h' a' hh' ha') c'
    · exact absurd (a2 h' hn' e' (sb_mem.mp (List.mem_of_getElem? he'))) c'
  · rcases h' with ⟨rfl, b1, b2⟩ | ⟨r', h', a', rfl, hr', hh', ha', c', m'⟩ | ⟨r', q', h', i', e', rfl, hr', hq', hn', a1', he', c', m', m2'⟩
    · exact absurd (b1 h a hh ha) c
    · have eh : h = h' := by
        rcases Nat.lt_trichotomy h h' with g | g | g
        · exact absurd (m' h a hh ha (.inl g)) c
        · exact g
        · exact absurd (m h' a' hh' ha' (.inl g)) c'
      subst eh
      have ea : a = a' := by
        rcases Nat.lt_trichotomy a a' with g | g | g
        · exact absurd (m' h a hh ha (.inr ⟨rfl, g⟩)) c
        · exact g
        · exact absurd (m h a' hh' ha' (.inr ⟨rfl, g⟩)) c'
      subst ea
      exact ⟨.tuple [.str "alone", .int (h : Int), .int (a : Int)], .tup (SqT.of hr) (.cons (.str _) (.cons (.int _) (.cons (.int _) .nil))), .tup (SqT.of hr') (.cons (.str _) (.cons (.int _) (.cons (.int _) .nil)))⟩
    · exact absurd (a1' h a hh ha) c
  · rcases h' with ⟨rfl, b1, b2⟩ | ⟨r', h', a', rfl, hr', hh', ha', c', m'⟩ | ⟨r', q', h', i', e', rfl, hr', hq', hn', a1', he', c', m', m2'⟩
    · exact absurd (b2 h hn e (sb_mem.mp (List.mem_of_getElem? he))) c
    · exact absurd (a1 h' a' hh' ha') c'
    · have eh : h = h' := by
        rcases Nat.lt_trichotomy h h' with g | g | g
        · exact absurd (m' h g e (sb_mem.mp (List.mem_of_getElem? he))) c
        · exact g
        · exact absurd (m h' g e' (sb_mem.mp (List.mem_of_getElem? he'))) c'
      subst eh
      have tk : ∀ {i j : Nat} {e}, (sb T)[i]? = some e → i < j → e ∈ (sb T).take j := fun {i j e} g l => by
        refine List.mem_of_getElem? (i := i) ?_
        rw [List.getElem?_take_of_lt l]
        exact g
      have ei : i = i' := by
        rcases Nat.lt_trichotomy i i' with g | g | g
        · exact absurd (m2' e (tk he g)) c
        · exact g
        · exact absurd (m2 e' (tk he' g)) c'
      subst ei
      obtain rfl : e = e' := by
        rw [he] at he'
        injection he'
      exact ⟨.tuple [.str "answer", .int (h : Int), pairD (iI e.1)], .tup (SqT.of hr) (.cons (.str _) (.cons (.int _) (.cons hq.dp .nil))), .tup (SqT.of hr') (.cons (.str _) (.cons (.int _) (.cons hq'.dp .nil)))⟩
def pairN (h a b : Nat) : IP := if h = 0 then (a, b) else (b, a)
def rowOf (T : TD) (h a : Nat) : List Int := (T.al h).getD a []
/-- row a of hand h of what is let alone, in the heap -/
theorem TaskAt.row {C : Addr} {H : Hp} {p : Addr} {T : TD} (h : TaskAt C H p T) {k a : Nat} (hk : k < 2) (ha : a < (T.al k).length) : ∃ dx t d x0 x1 r xs r4, H p = some (.ins C dx (flds t d)) ∧ H t = some (.lst [x0, x1]) ∧ ([x0, x1] : List V)[k]? = some (.ref r) ∧ H r = some (.lst xs) ∧ xs[a]? = some (.ref r4) ∧ H r4 = some (.lst ((rowOf T k a).map V.int)) ∧ rowOf T k a ∈ T.al k := by
  obtain ⟨dx, t, d, hp, hA, _⟩ := h
  obtain ⟨t', x0, x1, e, ht, hrow⟩ := hA.row
  obtain rfl : t = t' := by injection e
  obtain ⟨x, hx, r, xs, rfl, hr, ha2⟩ := hrow k hk
  have e1 : (T.al k)[a]? = some (rowOf T k a) := by
    unfold rowOf
    rw [List.getD_eq_getElem?_getD, List.getElem?_eq_getElem ha]
    rfl
  obtain ⟨y, hy, r4, rfl, hr4⟩ := ha2.at e1
  exact ⟨dx, t, d, x0, x1, r, xs, r4, hp, ht, hx, hr, hy, hr4, List.mem_of_getElem? e1⟩
/-- a bar of the right form -/
structure BarG (T : TD) (d : PyData) (h a : Nat) (bs : List Nat) : Prop where
  e : d = .tuple [.int (h : Int), .int (a : Int), .list (bs.map fun b => PyData.int ((b : Nat) : Int))]
  hh : h < 2
  ha : a < (T.al h).length
  len : bs.length = (rowOf T h a).length
  rng : ∀ b ∈ bs, b < (T.al (1 - h)).length
def spIsBar (K : PySem.W.Frag) (C : Addr) : Sp := fun vs H Q _ => ∃ (p : Addr) (v : V) (T : TD) (d : PyData), vs = [.ref p, v] ∧ TaskAt C H p T ∧ WF T ∧ Dp K H v d ∧ ∀ (b : Bool) (H' : Hp), Same H H' → (b = true ↔ ∃ h a bs, BarG T d h a bs) → Q (.bl b) H'
def okBk (T : TD) (h a : Nat) (bs : List Nat) (k : Nat) : Prop := ∃ (b : Nat) (o : Int) (e : IP × List (Int × Int)), bs[k]? = some b ∧ (rowOf T h a)[k]? = some o ∧ e ∈ T.bo ∧ e.1 = pairN h a b ∧ ansB e.2 h o = false
def BarRes (T : TD) (h a : Nat) (bs : List Nat) (fv : V) (H' : Hp) : Prop := (fv = .non ∧ ∀ k, k < bs.length → okBk T h a bs k) ∨ ∃ (r : Addr) (k : Nat), fv = .ref r ∧ H' r = some (.tup [.str "input", .int ((k : Nat) : Int)]) ∧ k < bs.length ∧ ¬ okBk T h a bs k ∧ ∀ k', k' < k → okBk T h a bs k'
def spBarF (K : PySem.W.Frag) (C : Addr) : Sp := fun vs H Q _ => ∃ (p : Addr) (v : V) (T : TD) (d : PyData), vs = [.ref p, v] ∧ TaskAt C H p T ∧ WF T ∧ Dp K H v d ∧
  (((¬ ∃ h a bs, BarG T d h a bs) ∧ ∀ r H', Same H H' → H' r = some (.tup [.str "form"]) → Q (.ref r) H') ∨
   ∃ h a bs, BarG T d h a bs ∧ ∀ fv H', Same H H' → BarRes T h a bs fv H' → Q fv H')
theorem bar_one {K : PySem.W.Frag} {T : TD} {h a : Nat} {bs : List Nat} {fv fv' : V} {H : Hp} (h1 : BarRes T h a bs fv H) (h2 : BarRes T h a bs fv' H) : ∃ d, Dp K H fv d ∧ Dp K H fv' d := by
  rcases h1 with ⟨rfl, a1⟩ | ⟨r, k, rfl, hr, hk, c, m⟩
  · rcases h2 with ⟨rfl, _⟩ | ⟨r', k', rfl, hr', hk', c', m'⟩
    · exact ⟨.none, .non, .non⟩
    · exact absurd (a1 k' hk') c'
  · rcases h2 with ⟨rfl, b1⟩ | ⟨r', k', rfl, hr', hk', c', m'⟩
    · exact absurd (b1 k hk) c
    · have ek : k = k' := by
        rcases Nat.lt_trichotomy k k' with g | g | g
        · exact absurd (m' k g) c
        · exact g
        · exact absurd (m k' g) c'
      subst ek
      exact ⟨.tuple [.str "input", .int (k : Int)], .tup (SqT.of hr) (.cons (.str _) (.cons (.int _) .nil)), .tup (SqT.of hr') (.cons (.str _) (.cons (.int _) .nil))⟩
theorem within_int {d : PyData} {lo hi : Int} (h : within d lo hi = true) : ∃ n, d = .int n ∧ lo ≤ n ∧ n ≤ hi := by
  cases d with
  | int n =>
    have h : decide (lo ≤ n ∧ n ≤ hi) = true := h
    exact ⟨n, rfl, (of_decide_eq_true h).1, (of_decide_eq_true h).2⟩
  | _ => cases h
theorem within_nat {b n : Nat} (h : b < n) : within (.int (b : Int)) 0 ((n : Int) - 1) = true := by
  show decide ((0 : Int) ≤ (b : Int) ∧ (b : Int) ≤ (n : Int) - 1) = true
  exact decide_eq_true (by omega)
def unI : PyData → Nat
  | .int n => n.toNat
  | _ => 0
theorem ds_nat {n : Nat} : ∀ {ds : List PyData}, ((ds.map fun d => within d 0 ((n : Int) - 1)).all id) = true → ds = (ds.map unI).map (fun b => PyData.int ((b : Nat) : Int)) ∧ ∀ b ∈ ds.map unI, b < n
  | [], _ => ⟨rfl, fun b hb => by cases hb⟩
  | d :: ds, h => by
    rw [List.map_cons, List.all_cons, Bool.and_eq_true] at h
    obtain ⟨h1, h2⟩ := h
    obtain ⟨k, rfl, l1, l2⟩ := within_int h1
    obtain ⟨i1, i2⟩ := ds_nat h2
    have e : ((unI (.int k) : Nat) : Int) = k := by
      show ((k.toNat : Nat) : Int) = k
      omega
    refine ⟨?_, fun b hb => ?_⟩
    · rw [List.map_cons, List.map_cons, e, ← i1]
    · rw [List.map_cons] at hb
      rcases List.mem_cons.mp hb with rfl | hb
      · have : (unI (.int k) : Nat) < n := by
          have e2 : ((unI (.int k) : Nat) : Int) = k := e
          omega
        exact this
      · exact i2 b hb
theorem nat_ds {n : Nat} {bs : List Nat} (h : ∀ b ∈ bs, b < n) : (((bs.map fun b => PyData.int ((b : Nat) : Int)).map fun d => within d 0 ((n : Int) - 1)).all id) = true := by
  rw [List.all_eq_true]
  intro x hx
  obtain ⟨d, hd, rfl⟩ := List.mem_map.mp hx
  obtain ⟨b, hb, rfl⟩ := List.mem_map.mp hd
  exact within_nat (h b hb)
theorem dpAll_nats {K : PySem.W.Frag} {H : Hp} : ∀ {bs : List Nat} {us : List V}, DpAll K H us (bs.map fun b => PyData.int ((b : Nat) : Int)) → us = bs.map fun b => V.int ((b : Nat) : Int)
  | [], _, .nil => rfl
  | b :: bs, _, .cons a r => by
    cases a
    rw [dpAll_nats r]
    rfl
theorem bar_open {K : PySem.W.Frag} {H : Hp} {v : V} {h a : Nat} {bs : List Nat} (k : Dp K H v (.tuple [.int (h : Int), .int (a : Int), .list (bs.map fun b => PyData.int ((b : Nat) : Int))])) : ∃ t l, v = .ref t ∧ SqT K H t [.int (h : Int), .int (a : Int), .ref l] ∧ SqL K H l (bs.map fun b => V.int ((b : Nat) : Int)) := by
  cases k with
  | tup s r =>
  cases r with
  | cons r0 r =>
  cases r with
  | cons r1 r =>
  cases r with
  | cons r2 r =>
  cases r
  cases r0
  cases r1
  cases r2 with
  | lst sl rl => exact ⟨_, _, rfl, s, dpAll_nats rl ▸ sl⟩
theorem three_cases (ds : List PyData) : (∃ x y z, ds = [x, y, z]) ∨ ds.length ≠ 3 := by
  match ds with
  | [x, y, z] => exact .inl ⟨x, y, z, rfl⟩
  | [] | [_] | [_, _] | _ :: _ :: _ :: _ :: _ => exact .inr (by simp)
section
variable {P : Program} {w : World} {K : PySem.W.Frag} {mg : Str → Option Value} {base : Heap}
abbrev nIsBar : List Str := ["task", "thing", "hand", "at", "others", "other"]
theorem sc_isbar : FnScope nIsBar ["task", "thing"] (defScope s_is_boxed_bar) := ⟨rfl, rfl, rfl, by decide +kernel, rfl, by decide +kernel, by decide +kernel⟩
theorem ok_isbar {f g1 g2 g3 C : Addr} {fd d1 d2 d3 : FuncData} (F : Fun K "is_boxed_bar" "is_boxed_bar" s_is_boxed_bar f fd) (T : Txt K mg) (Z : TxtC K mg C) (WH : Def P w K mg base "is_hand" ["thing"] 3 (spHandG K) g1 d1)
    (WW : Def P w K mg base "is_whole_within" ["thing", "least", "most"] 2 (spWithinG K) g2 d2) (Inp : MDef P w K mg base C "inputs" nInputs 4 (spInputs K C) g3 d3) : FnOk P w K mg base CX0 5 f fd ["task", "thing"] (spIsBar K C) := by
  refine F.ok sc_isbar (fun vs H Q E h => ?_) (fun cdv A outer s H vs Q E hr h => ?_)
  · obtain ⟨p, v, D, d, rfl, _⟩ := h
    rfl
  obtain ⟨p, v, D, d, rfl, hT, hW, hk, q⟩ := h
  have nd := sc_isbar.nd
  refine ⟨_, (pss_cons (ps_if (PW.pt (pw_or (pt_not (pt_val (pe_callB call_isi (by rfl) T.isi boot_isinstance (pa_cons (pv 1) (pa_cons (pe_bltn (v := .ty "tuple") (by rfl) T.tuple boot_tuple rfl) pa_nil))))) (pw_or (pt_cmpR op_ne (pe_callB call_len_seq (by rfl) T.len PySem.boot_len (pa_cons (pv 1) pa_nil)) pe_int (nomark _)) (pw_or1 (pt_not (pt_val (pe_call WH.G (hr.mono (by decide)) rfl WH.m WH.k WH.b .nil pass0 (pa_cons (pe_ix ix_tup (pv 1) pe_int (fun _ _ => rfl)) pa_nil))))))))
      (pss_one (ps_ret pe_bl))
      pss_nil)
    (pss_cons (ps_asg (pv 1) (pg_tup (by rfl) (pgs_cons (pg_name (i := 2) nd rfl (Or.inr rfl)) (pgs_cons (pg_name (i := 3) nd rfl (Or.inl rfl)) (pgs_cons (pg_name (i := 4) nd rfl (Or.inl rfl)) pgs_nil)))))
    (pss_one (ps_ret (pe_and (pe_call WW.G (hr.mono (by decide)) rfl WW.m WW.k WW.b .nil pass0 (pa_cons (pv 3) (pa_cons pe_int (pa_cons (pe_op op_sub (pe_meth (pv 0) Z.cl Inp.M Inp.G (hr.mono (by decide)) Inp.b .nil pass0 (pa_cons (pv 2) pa_nil)) pe_int) pa_nil)))) (pe_and (pe_callB call_isi (by rfl) T.isi boot_isinstance (pa_cons (pv 4) (pa_cons (pe_bltn (v := .ty "list") (by rfl) T.list boot_list rfl) pa_nil))) (pe_and (pe_cmpR op_eq (pe_callB call_len_seq (by rfl) T.len PySem.boot_len (pa_cons (pv 4) pa_nil)) (pe_callB call_len_seq (by rfl) T.len PySem.boot_len (pa_cons (pe_ix ix_list (pe_ix ix_list (pe_fld (pv 0) rfl) (pv 2) (fun _ _ => rfl)) (pv 3) (fun _ _ => rfl)) pa_nil)) (nomark _)) (pe_one (pe_callB (cr_all rfl) (by rfl) T.all (by decide +kernel) (pa_cons (pe_lc (own := [("other", 5)]) (g := (gName 5)) (tt := tYes) (te := (tCall (spWithinG K) [] E0 (tCons (tVar 5) (tCons (tC (.int 0)) (tCons (tOp (rI0 fun i j => .int (i - j)) (tMeth C "inputs" (spInputs K C) [] E0 (tVar 0) (tCons (tOp (rI0 fun i j => .int (i - j)) (tC (.int 1)) (tVar 2)) tNil)) (tC (.int 1))) tNil))))) rfl nd (pi_list (pv 4)) (blkOk_by (N := nIsBar) (sc := defScope s_is_boxed_bar) (by decide +kernel)) (fun _ _ _ _ _ => (by exact (pg_name (i := 5) nd rfl (Or.inl rfl)))) (fun _ _ _ _ _ => pts_nil) (fun _ _ _ _ _ => (by exact (pe_call WW.G (hr.mono (by decide)) rfl WW.m WW.k WW.b .nil pass0 (pa_cons (pv 5) (pa_cons pe_int (pa_cons (pe_op op_sub (pe_meth (pv 0) Z.cl Inp.M Inp.G (hr.mono (by decide)) Inp.b .nil pass0 (pa_cons (pe_op op_sub pe_int (pv 2)) pa_nil)) pe_int) pa_nil))))))) pa_nil)))))))))), ?_⟩
  have no : (¬ ∃ h a bs, BarG D d h a bs) → ∀ H', Same H H' → Q (.bl false) H' := fun c H' s => q false H' s ⟨fun e => absurd e (by decide), fun e => absurd e c⟩
  refine ⟨_, rfl, v, .ty "tuple", _, _, isTupD d, rfl, .ty "tuple", dp_ty hk, kit_tup d, _, rfl, ?_⟩
  cases cl : isTupD d with
  | false =>
    refine iteT ?_
    refine no (fun ⟨h, a, bs, B⟩ => ?_) _ (Same.refl H)
    rw [B.e] at cl
    cases cl
  | true =>
  obtain ⟨ds, rfl⟩ : ∃ ds, d = .tuple ds := by cases d <;> first | exact ⟨_, rfl⟩ | cases cl
  obtain ⟨t, vs, rfl, hS, hD⟩ : ∃ t vs, v = .ref t ∧ SqT K H t vs ∧ DpAll K H vs ds := by
    cases hk with
    | tup a b => exact ⟨_, _, rfl, a, b⟩
  have hl := dpAll_len hD
  refine iteF ⟨_, rfl, t, _, rfl, .inr hS, rfl, _, rfl, ?_⟩
  rcases three_cases ds with ⟨x, y, z, rfl⟩ | c
  case inr =>
    refine iteT' (by rw [decide_eq_false (fun e => c (by injection e with e; omega))]; rfl) ?_
    refine no (fun ⟨h, a, bs, B⟩ => ?_) _ (Same.refl H)
    have e := B.e
    injection e with e
    rw [e] at c
    exact c rfl
  refine iteF' (by rw [hl]; rfl) ?_
  cases hD with
  | cons hx hD =>
  cases hD with
  | cons hy hD =>
  cases hD with
  | cons hz hD =>
  cases hD
  rename_i vx vy vz
  refine ⟨_, rfl, t, _, _, _, rfl, rfl, hS, (by rfl), vx, x, rfl, hx, ?_⟩
  cases cx : within x 0 1 with
  | false =>
    refine ⟨_, rfl, iteT ?_⟩
    refine no (fun ⟨h, a, bs, B⟩ => ?_) _ (Same.refl H)
    have e := B.e
    injection e with e
    injection e with e _
    subst e
    rw [within_hand B.hh] at cx
    cases cx
  | true =>
  refine ⟨_, rfl, iteF ?_⟩
  obtain ⟨hi, rfl, l1, l2⟩ := within_int cx
  cases hx
  obtain ⟨h, rfl⟩ : ∃ h : Nat, hi = (h : Int) := ⟨hi.toNat, by omega⟩
  have hh : h < 2 := by omega
  have uh : ∀ {h' a' bs}, BarG D (.tuple [.int (h : Int), y, z]) h' a' bs → h' = h := fun {h' a' bs} B => by
    have e := B.e
    injection e with e
    injection e with e _
    injection e with e
    omega
  refine ⟨_, rfl, t, _, rfl, hS, rfl, _, _, rfl, _, _, rfl, _, _, rfl, rfl, ?_⟩
  refine ⟨_, rfl, _, rfl, ?_⟩
  obtain ⟨dx0, a0, d0, hp0, _⟩ := id hT
  refine ⟨p, dx0, _, rfl, hp0, flds_no _ _ (by decide +kernel) (by decide +kernel), _, rfl, p, h, D, rfl, hh, hT.r, _, _, rfl, rfl, vy, y, _, _, rfl, hy, ?_⟩
  cases cy : within y 0 (((D.al h).length : Int) - 1) with
  | false =>
    refine ⟨_, rfl, iteF ?_⟩
    refine no (fun ⟨h', a', bs, B⟩ => ?_) _ (Same.refl H)
    obtain rfl := uh B
    have e := B.e
    injection e with e
    injection e with _ e
    injection e with e _
    subst e
    rw [within_nat B.ha] at cy
    cases cy
  | true =>
  obtain ⟨ai, rfl, l3, l4⟩ := within_int cy
  cases hy
  obtain ⟨a, rfl⟩ : ∃ a : Nat, ai = (a : Int) := ⟨ai.toNat, by omega⟩
  have ha : a < (D.al h).length := by omega
  have ua : ∀ {h' a' bs}, BarG D (.tuple [.int (h : Int), .int (a : Int), z]) h' a' bs → h' = h ∧ a' = a ∧ z = .list (bs.map fun b => PyData.int ((b : Nat) : Int)) := fun {h' a' bs} B => by
    have e := B.e
    injection e with e
    injection e with e0 e
    injection e with e1 e
    injection e with e2 _
    injection e0 with e0
    injection e1 with e1
    exact ⟨by omega, by omega, e2⟩
  obtain ⟨dx, t2, d, x0, x1, r, xs, r4, hp, ht2, hx, hr', hy, hr4, hmem⟩ := hT.row hh ha
  refine ⟨_, rfl, iteT ?_⟩
  refine ⟨_, rfl, vz, .ty "list", _, _, isLstD z, rfl, .ty "list", dp_ty hz, kit_lst z, _, rfl, ?_⟩
  cases cz : isLstD z with
  | false =>
    refine iteF ?_
    refine no (fun ⟨h', a', bs, B⟩ => ?_) _ (Same.refl H)
    rw [(ua B).2.2] at cz
    cases cz
  | true =>
  obtain ⟨es, rfl⟩ : ∃ es, z = .list es := by cases z <;> first | exact ⟨_, rfl⟩ | cases cz
  obtain ⟨l, us, rfl, hL, hE⟩ : ∃ l us, vz = .ref l ∧ SqL K H l us ∧ DpAll K H us es := by
    cases hz with
    | lst a b => exact ⟨_, _, rfl, a, b⟩
  have hle := dpAll_len hE
  refine iteT ⟨_, rfl, l, _, rfl, .inl hL, _, rfl, p, C, dx, _, _, rfl, hp, Z.cl, Z.nA, flds_alone _ _, _, rfl, t2, _, _, _, rfl, rfl, SqL.of ht2, atI_nat hx, _, rfl, r, _, _, _, rfl, rfl, SqL.of hr', atI_nat hy, r4, _, rfl, .inl (SqL.of hr4), rfl, _, rfl, ?_⟩
  rw [hle, List.length_map, dec_nat]
  by_cases c : es.length = (rowOf D h a).length
  case neg =>
    refine iteF' (decide_eq_false c) ?_
    refine no (fun ⟨h', a', bs, B⟩ => ?_) _ (Same.refl H)
    obtain ⟨rfl, rfl, e⟩ := ua B
    injection e with e
    rw [e, List.length_map] at c
    exact c B.len
  refine iteT' (decide_eq_true c) ?_
  refine ⟨_, rfl, l, rfl, ⟨_, hL⟩, fun L hL' => ?_⟩
  refine list_turns (xs := us) (fun i H' => Same H H' ∧ H' L = some (.lst (((es.map fun d => within d 0 (((D.al (1 - h)).length : Int) - 1)).take i).map V.bl))) ⟨same_new hL' _, upd_same⟩ (fun i H' _ h => h.1.seq hL) ?_ ?_
  · rintro i u H' hui ⟨s3, h3⟩
    obtain ⟨e, he, hu⟩ := dpAll_get hE hui
    obtain ⟨dx3, a3, d3, hp3, hA3, hB3⟩ := hT.mono s3
    have eh : (1 : Int) - (h : Int) = ((1 - h : Nat) : Int) := by omega
    refine ⟨rfl, _, rfl, _, rfl, p, dx3, _, rfl, hp3, flds_no _ _ (by decide +kernel) (by decide +kernel), _, rfl, _, _, rfl, rfl, p, 1 - h, D, (by show [V.ref p, V.int ((1 : Int) - (h : Int))] = _; rw [eh]), (by omega), (hT.mono s3).r, _, _, rfl, rfl, u, e, _, _, rfl, dp_mono s3 _ _ hu, ?_⟩
    refine ⟨_, h3, ?_, same_upd s3 hL', by rw [upd_same, take_bl _ (by rw [List.getElem?_map, he]; rfl)]⟩
    rw [List.length_map]
    have h1 := (List.getElem?_eq_some_iff.mp he).1
    have h2 := (hW.row h hh _ hmem).2.1
    exact Nat.lt_of_le_of_lt (List.length_take_le _ _) (Nat.lt_of_lt_of_le (show i < 100 by omega) (by decide))
  · rintro H3 ⟨s3, h3⟩
    refine ⟨L, _, rfl, SqL.of h3, ?_⟩
    rw [hle, ← List.length_map (as := es) (f := fun d => within d 0 (((D.al (1 - h)).length : Int) - 1)), List.take_length]
    refine q _ _ s3 ⟨fun g => ?_, fun ⟨h', a', bs, B⟩ => ?_⟩
    · obtain ⟨g1, g2⟩ := ds_nat g
      exact ⟨h, a, es.map unI, ⟨by rw [← g1], hh, ha, by rw [List.length_map]; exact c, g2⟩⟩
    · obtain ⟨rfl, rfl, e⟩ := ua B
      injection e with e
      rw [e]
      exact nat_ds B.rng
abbrev nBarF : List Str := ["task", "thing", "hand", "at", "others", "outputs", "k", "pair"]
theorem sc_barf : FnScope nBarF ["task", "thing"] (defScope s_boxed_bar_fault) := ⟨rfl, rfl, rfl, by decide +kernel, rfl, by decide +kernel, by decide +kernel⟩
theorem ok_barf {f g1 g2 C : Addr} {fd d1 d2 : FuncData} (F : Fun K "boxed_bar_fault" "boxed_bar_fault" s_boxed_bar_fault f fd) (T : Txt K mg) (Z : TxtC K mg C) (WBB : Def P w K mg base "is_boxed_bar" ["task", "thing"] 5 (spIsBar K C) g1 d1)
    (WAn : Def P w K mg base "is_answered" ["task", "pair", "hand", "output"] 1 (spAnswered K C) g2 d2) : FnOk P w K mg base CX0 6 f fd ["task", "thing"] (spBarF K C) := by
  refine F.ok sc_barf (fun vs H Q E h => ?_) (fun cdv A outer s H vs Q E hr h => ?_)
  · obtain ⟨p, v, D, d0, rfl, _⟩ := h
    rfl
  obtain ⟨p, v, D, d0, rfl, hT0, hW, hk, hcase⟩ := h
  have nd := sc_barf.nd
  have hu := hu_of hr
  refine ⟨_, (pss_cons (ps_if (pt_not (pt_val (pe_call WBB.G (hr.mono (by decide)) rfl WBB.m WBB.k WBB.b .nil pass0 (pa_cons (pv 0) (pa_cons (pv 1) pa_nil)))))
      (pss_one (ps_ret (pe_tup (pa_cons pe_str pa_nil))))
      pss_nil)
    (pss_cons (ps_asg (pv 1) (pg_tup (by rfl) (pgs_cons (pg_name (i := 2) nd rfl (Or.inl rfl)) (pgs_cons (pg_name (i := 3) nd rfl (Or.inl rfl)) (pgs_cons (pg_name (i := 4) nd rfl (Or.inl rfl)) pgs_nil)))))
    (pss_cons (ps_set (i := 5) nd rfl (Or.inl rfl) (pe_ix ix_list (pe_ix ix_list (pe_fld (pv 0) rfl) (pv 2) (fun _ _ => rfl)) (pv 3) (fun _ _ => rfl)))
    (pss_cons (ps_for PassesOwn.never (by rfl) (pi_range1 (by rfl) T.range (pa_cons (pe_callB call_len_seq (by rfl) T.len PySem.boot_len (pa_cons (pv 4) pa_nil)) pa_nil)) (pg_name (i := 6) nd rfl (Or.inl rfl))
      (pss_cons (ps_set (i := 7) nd rfl (Or.inl rfl) (pe_ifExp (pt_cmpR op_eq (pv 2) pe_int (nomark _)) (pe_tup (pa_cons (pv 3) (pa_cons (pe_ix ix_list (pv 4) (pv 6) (fun _ _ => rfl)) pa_nil))) (pe_tup (pa_cons (pe_ix ix_list (pv 4) (pv 6) (fun _ _ => rfl)) (pa_cons (pv 3) pa_nil)))))
    (pss_one (ps_if (PW.pt (pw_or (pt_cmp (pc_dnotin hu (pv 7) (pe_fld (pv 0) rfl))) (pw_or1 (pt_val (pe_call WAn.G (hr.mono (by decide)) rfl WAn.m WAn.k WAn.b .nil pass0 (pa_cons (pv 0) (pa_cons (pv 7) (pa_cons (pv 2) (pa_cons (pe_ix ix_list (pv 5) (pv 6) (fun _ _ => rfl)) pa_nil)))))))))
      (pss_one (ps_ret (pe_tup (pa_cons pe_str (pa_cons (pv 6) pa_nil)))))
      pss_nil))))
    (pss_one (ps_ret pe_non)))))), ?_⟩
  rcases hcase with ⟨hb, q⟩ | ⟨h, a, bs, B, q⟩
  · refine ⟨_, rfl, _, rfl, p, v, D, d0, rfl, hT0, hW, hk, fun b H1 s1 hb1 => ?_⟩
    obtain rfl : b = false := by
      cases b with
      | false => rfl
      | true => exact absurd (hb1.mp rfl) hb
    refine ⟨false, rfl, iteT ⟨(by show 1 ≤ sizeLine; decide), fun r hr => ?_⟩⟩
    exact q r _ (s1.trans (same_new hr _)) upd_same
  refine ⟨_, rfl, _, rfl, p, v, D, d0, rfl, hT0, hW, hk, fun b H1 s1 hb1 => ?_⟩
  obtain rfl : b = true := hb1.mpr ⟨h, a, bs, B⟩
  refine ⟨true, rfl, iteF ?_⟩
  have hh := B.hh
  have hT1 := hT0.mono s1
  have hk1 := dp_mono s1 _ _ hk
  rw [B.e] at hk1
  obtain ⟨t, l, rfl, hS, hl⟩ := bar_open hk1
  refine ⟨_, rfl, t, _, rfl, hS, rfl, _, _, rfl, _, _, rfl, _, _, rfl, rfl, ?_⟩
  obtain ⟨dx, t2, d, x0, x1, r, xs, r4, hp, ht2, hx, hr', hy, hr4, hmem⟩ := hT1.row B.hh B.ha
  refine ⟨_, rfl, p, C, dx, _, _, rfl, hp, Z.cl, Z.nA, flds_alone _ _, _, rfl, t2, _, _, _, rfl, rfl, SqL.of ht2, atI_nat hx, _, rfl, r, _, _, _, rfl, rfl, SqL.of hr', atI_nat hy, ?_⟩
  have hrl := (hW.row h hh _ hmem).2.1
  have hbl := B.len
  refine ⟨_, rfl, l, _, rfl, .inl (hl), _, rfl, by rw [List.length_map]; omega, by rw [List.length_map]; omega, ?_⟩
  rw [List.length_map]
  refine for_range (n := bs.length) (fun i σ H' => ∃ g1 g2, σ = [some (.ref p), some (.ref t), some (.int (h : Int)), some (.int (a : Int)), some (.ref l), some (.ref r4), g1, g2] ∧ Same H1 H' ∧ ∀ k, k < i → okBk D h a bs k) ⟨_, _, rfl, Same.refl _, fun k hk => absurd hk (Nat.not_lt_zero _)⟩ ?_ ?_
  · rintro i σ H' hi ⟨g1, g2, rfl, s2, hok⟩
    have ej : (0 : Int) + (i : Int) = (i : Int) := by omega
    rw [ej]
    have hl2 := s2.seq hl
    have hbi : bs[i]? = some bs[i] := List.getElem?_eq_getElem hi
    have gb : (bs.map fun b => V.int ((b : Nat) : Int))[i]? = some (.int ((bs[i] : Nat) : Int)) := by rw [List.getElem?_map, hbi]; rfl
    have hio : i < (rowOf D h a).length := by omega
    have go : ((rowOf D h a).map V.int)[i]? = some (.int (rowOf D h a)[i]) := by rw [List.getElem?_map, List.getElem?_eq_getElem hio]; rfl
    refine ⟨_, rfl, rfl, _, rfl, ?_⟩
    have split : ∀ {A1 A2 : Prop}, (h = 0 → A1) → (h = 1 → A2) → if decide (V.int (h : Int) = V.int 0) = true then A1 else A2 := fun {A1 A2} c1 c2 => by
      obtain rfl | rfl : h = 0 ∨ h = 1 := by omega
      · exact iteT' (by rfl) (c1 rfl)
      · exact iteF' (by rfl) (c2 rfl)
    refine split (fun c => ?_) (fun c => ?_)
    · refine ⟨_, rfl, _, rfl, _, rfl, l, _, _, _, rfl, rfl, hl2, atI_nat gb, (by show 2 ≤ sizeLine; decide), fun tt htt => ?_⟩
      have s3 := same_new htt (.tup [V.int (a : Int), V.int ((bs[i] : Nat) : Int)])
      have htp : TpAt (upd H' tt (.tup [V.int (a : Int), V.int ((bs[i] : Nat) : Int)])) (.ref tt) (iI (pairN h a bs[i])) := by
        subst c
        exact ⟨tt, rfl, upd_same⟩
      generalize upd H' tt (.tup [V.int (a : Int), V.int ((bs[i] : Nat) : Int)]) = H3 at s3 htp ⊢
      have hT3 := (hT1.mono s2).mono s3
      obtain ⟨dx2, a2, d2, hp2, _, kvs, hd2, ha2⟩ := id hT3
      obtain ⟨tq, e, htq⟩ := id htp
      obtain rfl : tt = tq := by injection e
      refine ⟨_, rfl, _, rfl, p, C, dx2, _, _, rfl, hp2, Z.cl, Z.nB, flds_both _ _, d2, _, rfl, DGet.t (k := k2 (iI (pairN h a bs[i]))) hd2 htq, _, rfl, ?_⟩
      rw [some_hasK ha2]
      cases ck : hasK D.bo (iI (pairN h a bs[i])) with
      | false =>
        refine iteT ⟨_, rfl, (by show 2 ≤ sizeLine; decide), fun r2 hr2 => ?_⟩
        refine q _ _ (((s1.trans s2).trans s3).trans (same_new hr2 _)) (.inr ⟨r2, i, rfl, upd_same, hi, fun g => ?_, hok⟩)
        obtain ⟨b', o', e, hb', ho', he, h1, _⟩ := g
        rw [hbi] at hb'
        cases hb'
        rw [← h1, hasK_yes he] at ck
        cases ck
      | true =>
        obtain ⟨e, he, h1⟩ := List.any_eq_true.mp ck
        have h1 : iI e.1 = iI (pairN h a bs[i]) := of_decide_eq_true h1
        rw [← h1] at htp
        have h1 := iI_inj h1
        refine iteF ⟨_, rfl, _, rfl, _, rfl, _, rfl, _, rfl, r4, _, _, _, rfl, rfl, SqL.of (s3 _ _ (s2 _ _ hr4)), atI_nat go, p, _, h, (rowOf D h a)[i], D, e, rfl, hh, hT3, hW, he, htp, fun H4 s4 => ⟨_, rfl, ?_⟩⟩
        cases ca : ansB e.2 h (rowOf D h a)[i] with
        | true =>
          refine iteT ⟨_, rfl, (by show 2 ≤ sizeLine; decide), fun r2 hr2 => ?_⟩
          refine q _ _ ((((s1.trans s2).trans s3).trans s4).trans (same_new hr2 _)) (.inr ⟨r2, i, rfl, upd_same, hi, fun g => ?_, hok⟩)
          obtain ⟨b', o', e', hb', ho', he', h1', h2'⟩ := g
          rw [hbi] at hb'
          rw [List.getElem?_eq_getElem hio] at ho'
          cases hb'
          cases ho'
          have : e' = e := uniq_key hW.srt he' he (h1'.trans h1.symm)
          subst this
          rw [h2'] at ca
          cases ca
        | false =>
          refine iteF ⟨_, _, rfl, (s2.trans s3).trans s4, fun k hk => ?_⟩
          rcases Nat.lt_succ_iff_lt_or_eq.mp hk with h' | rfl
          · exact hok k h'
          · exact ⟨_, _, e, hbi, List.getElem?_eq_getElem hio, he, h1, ca⟩
    · refine ⟨_, rfl, _, rfl, l, _, _, _, rfl, rfl, hl2, atI_nat gb, _, rfl, (by show 2 ≤ sizeLine; decide), fun tt htt => ?_⟩
      have s3 := same_new htt (.tup [V.int ((bs[i] : Nat) : Int), V.int (a : Int)])
      have htp : TpAt (upd H' tt (.tup [V.int ((bs[i] : Nat) : Int), V.int (a : Int)])) (.ref tt) (iI (pairN h a bs[i])) := by
        subst c
        exact ⟨tt, rfl, upd_same⟩
      generalize upd H' tt (.tup [V.int ((bs[i] : Nat) : Int), V.int (a : Int)]) = H3 at s3 htp ⊢
      have hT3 := (hT1.mono s2).mono s3
      obtain ⟨dx2, a2, d2, hp2, _, kvs, hd2, ha2⟩ := id hT3
      obtain ⟨tq, e, htq⟩ := id htp
      obtain rfl : tt = tq := by injection e
      refine ⟨_, rfl, _, rfl, p, C, dx2, _, _, rfl, hp2, Z.cl, Z.nB, flds_both _ _, d2, _, rfl, DGet.t (k := k2 (iI (pairN h a bs[i]))) hd2 htq, _, rfl, ?_⟩
      rw [some_hasK ha2]
      cases ck : hasK D.bo (iI (pairN h a bs[i])) with
      | false =>
        refine iteT ⟨_, rfl, (by show 2 ≤ sizeLine; decide), fun r2 hr2 => ?_⟩
        refine q _ _ (((s1.trans s2).trans s3).trans (same_new hr2 _)) (.inr ⟨r2, i, rfl, upd_same, hi, fun g => ?_, hok⟩)
        obtain ⟨b', o', e, hb', ho', he, h1, _⟩ := g
        rw [hbi] at hb'
        cases hb'
        rw [← h1, hasK_yes he] at ck
        cases ck
      | true =>
        obtain ⟨e, he, h1⟩ := List.any_eq_true.mp ck
        have h1 : iI e.1 = iI (pairN h a bs[i]) := of_decide_eq_true h1
        rw [← h1] at htp
        have h1 := iI_inj h1
        refine iteF ⟨_, rfl, _, rfl, _, rfl, _, rfl, _, rfl, r4, _, _, _, rfl, rfl, SqL.of (s3 _ _ (s2 _ _ hr4)), atI_nat go, p, _, h, (rowOf D h a)[i], D, e, rfl, hh, hT3, hW, he, htp, fun H4 s4 => ⟨_, rfl, ?_⟩⟩
        cases ca : ansB e.2 h (rowOf D h a)[i] with
        | true =>
          refine iteT ⟨_, rfl, (by show 2 ≤ sizeLine; decide), fun r2 hr2 => ?_⟩
          refine q _ _ ((((s1.trans s2).trans s3).trans s4).trans (same_new hr2 _)) (.inr ⟨r2, i, rfl, upd_same, hi, fun g => ?_, hok⟩)
          obtain ⟨b', o', e', hb', ho', he', h1', h2'⟩ := g
          rw [hbi] at hb'
          rw [List.getElem?_eq_getElem hio] at ho'
          cases hb'
          cases ho'
          have : e' = e := uniq_key hW.srt he' he (h1'.trans h1.symm)
          subst this
          rw [h2'] at ca
          cases ca
        | false =>
          refine iteF ⟨_, _, rfl, (s2.trans s3).trans s4, fun k hk => ?_⟩
          rcases Nat.lt_succ_iff_lt_or_eq.mp hk with h' | rfl
          · exact hok k h'
          · exact ⟨_, _, e, hbi, List.getElem?_eq_getElem hio, he, h1, ca⟩
  · rintro σ H' ⟨g1, g2, rfl, s2, hok⟩
    exact q _ _ (s1.trans s2) (.inl ⟨rfl, fun k hk => hok k hk⟩)
end
end TA

set_option Elab.async false
set_option maxRecDepth 100000
set_option maxHeartbeats 4000000
set_option linter.unusedVariables false
namespace TA
open PySem L2 PyProof.Rows
/-- a heap seen at some places alone -/
def vw (p : Addr → Bool) (H : Hp) : Hp := fun b => if p b = true then H b else none
theorem vw_some {p : Addr → Bool} {H : Hp} {b : Addr} {o : HO} (h : vw p H b = some o) : p b = true ∧ H b = some o := by
  unfold vw at h
  split at h
  · rename_i c; exact ⟨c, h⟩
  · cases h
theorem vw_put {p : Addr → Bool} {H : Hp} {b : Addr} {o : HO} (c : p b = true) (h : H b = some o) : vw p H b = some o := by
  unfold vw
  rw [if_pos c, h]
theorem vw_kp {p : Addr → Bool} {H : Hp} : Kp (vw p H) H := fun b o _ h => (vw_some h).2
theorem vw_mono {p q : Addr → Bool} {H H' : Hp} (s : ∀ b o, p b = true → flatO o → H b = some o → q b = true ∧ H' b = some o) : Kp (vw p H) (vw q H') := fun b o f h => by
  obtain ⟨h1, h2⟩ := vw_some h
  obtain ⟨h3, h4⟩ := s b o h1 f h2
  exact vw_put h3 h4
/-- all but a -/
def pA (a : Addr) : Addr → Bool := fun b => decide (b ≠ a)
theorem pA_ok {a b : Addr} : pA a b = true ↔ b ≠ a := decide_eq_true_iff
theorem vwA_but {a : Addr} {H H' : Hp} (s : But a H H') : Kp (vw (pA a) H) (vw (pA a) H') := vw_mono fun b o h _ e => ⟨h, s b o (pA_ok.mp h) e⟩
theorem vwA_put {a d : Addr} {H : Hp} {k : List (List Key × V)} {o : HO} (e : H d = some (.dT k)) : Kp (vw (pA a) H) (vw (pA a) (upd H d o)) := vw_mono fun b u h f g => ⟨h, Kp.put e nf_dT b u f g⟩
theorem But.free {a : Addr} {H H' : Hp} {m : Int} (b : But a H H') (w : WellAt H' a m) {q : Addr} (h : H' q = none) : H q = none := by
  have nq : q ≠ a := (w.ne h).symm
  cases e : H q with
  | none => rfl
  | some o =>
    rw [b q o nq e] at h
    cases h
theorem WellAt.lst {H : Hp} {a : Addr} {n : Int} (w : WellAt H a n) : ∃ xs, H a = some (.lst xs) := by
  obtain ⟨x, y, z, e, _⟩ := w
  exact ⟨_, e⟩
theorem hu64_of {A : Around} {k : Nat} (hr : Room k A) : A.units + 64 < cLine := by have := hr.un; omega
theorem hu2_of {A : Around} {k : Nat} (hr : Room k A) : A.units + 2 < cLine := by have := hr.un; omega
/-! few, outs, parts drawn -/
def spFew : Sp := fun vs H Q _ => ∃ (a : Addr) (n g m : Int), vs = [.ref a, .int g, .int m] ∧ Dr H a n ∧ 0 ≤ n ∧ n < 999900 ∧ 0 < g ∧ g < 64 ∧ 0 < m ∧ m ≤ 4 ∧
  ∀ (p : Addr) (ns : List Int) (H' : Hp), But a H H' → H p = none → H' p = some (.lst (ns.map V.int)) → WellAt H' a (n + 5) → 1 ≤ ns.length → ns.length ≤ 4 → ns.Pairwise (· < ·) → (∀ x ∈ ns, 0 ≤ x ∧ x < g) → Q (.ref p) H'
section
variable {P : Program} {w : World} {K : PySem.W.Frag} {mg : Str → Option Value} {base : Heap}
abbrev nFew : List Str := ["_law_state", "_law_great", "_law_most", "_law_k"]
theorem sc_few : FnScope nFew ["_law_state", "_law_great", "_law_most"] (defScope s__law_few) := ⟨rfl, rfl, rfl, by decide +kernel, rfl, by decide +kernel, by decide +kernel⟩
theorem ok_few {f g1 : Addr} {fd d1 : FuncData} (F : Fun K "_law_few" "_law_few" s__law_few f fd) (T : Txt K mg) (T2 : Txt2 K mg) (Dg : Def P w K mg base "_law_digit" ["_law_state", "_law_base"] 1 spDigit g1 d1) : FnOk P w K mg base CX0 2 f fd ["_law_state", "_law_great", "_law_most"] spFew := by
  refine F.ok sc_few (fun vs H Q E h => ?_) (fun cdv A outer s H vs Q E hr h => ?_)
  · obtain ⟨a, n, g, m, rfl, _⟩ := h
    rfl
  obtain ⟨a, n, g, m, rfl, hD, hn0, hn, hg0, hg, hm0, hm, q⟩ := h
  have nd := sc_few.nd
  refine ⟨_, (pss_one (ps_ret (pe_callB (cr_sortedSet rfl) (by rfl) T2.sorted (by decide +kernel) (pa_cons (pe_callTy (cr_setOfI rfl) (by rfl) T2.set (by decide +kernel) (pa_cons (pe_lc (own := [("_law_k", 3)]) (g := (gName 3)) (tt := tYes) (te := (tCall spDigit [] E0 (tCons (tVar 0) (tCons (tVar 1) tNil)))) rfl nd (pi_range1 (by rfl) T.range (pa_cons (pe_op op_add pe_int (pe_call Dg.G (hr.mono (by decide)) rfl Dg.m Dg.k Dg.b .nil pass0 (pa_cons (pv 0) (pa_cons (pv 2) pa_nil)))) pa_nil)) (blkOk_by (N := nFew) (sc := defScope s__law_few) (by decide +kernel)) (fun _ _ _ _ _ => (by exact (pg_name (i := 3) nd rfl (Or.inl rfl)))) (fun _ _ _ _ _ => pts_nil) (fun _ _ _ _ _ => (by exact (pe_call Dg.G (hr.mono (by decide)) rfl Dg.m Dg.k Dg.b .nil pass0 (pa_cons (pv 0) (pa_cons (pv 1) pa_nil)))))) pa_nil)) pa_nil)))), ?_⟩
  refine ⟨_, rfl, _, rfl, a, n, m, rfl, hD, hn0, by omega, hm0, by omega, fun r H1 r0 r1 b1 w1 => ?_⟩
  refine ⟨_, _, rfl, rfl, 1 + r, rfl, by omega, by omega, fun D hD1 => ?_⟩
  have haD : a ≠ D := w1.ne hD1
  have s1 := same_new hD1 (.lst [])
  refine range_turns (n := (1 + r).toNat) (fun i H' => But a H1 H' ∧ WellAt H' a (n + 1 + (i : Int)) ∧ ∃ ns : List Int, H' D = some (.lst (ns.map V.int)) ∧ ns.length = i ∧ ∀ x ∈ ns, 0 ≤ x ∧ x < g) ⟨.same s1, ?_, [], upd_same, rfl, fun x hx => by cases hx⟩ ?_ ?_
  · have := w1.same s1
    simpa using this
  · rintro i H' hi ⟨b2, w2, ns, h2, hl, hb⟩
    refine ⟨rfl, _, rfl, _, rfl, a, n + 1 + (i : Int), g, rfl, .inr w2, by omega, by omega, hg0, by omega, fun x H3 x0 x1 b3 w3 => ?_⟩
    have h3 := b3 _ _ (Ne.symm haD) h2
    refine ⟨_, h3, ?_, (b2.trans b3).new hD1, ?_, ns ++ [x], by rw [upd_same, List.map_append]; rfl, by rw [List.length_append, hl]; rfl, fun y hy => ?_⟩
    · rw [List.length_map, hl]
      exact Nat.lt_of_lt_of_le (show i < 100 by omega) (by decide)
    · have := w3.but haD But.at (H' := upd H3 D (.lst (ns.map V.int ++ [V.int x])))
      rw [show n + 1 + ((i + 1 : Nat) : Int) = n + 1 + (i : Int) + 1 by omega]
      exact this
    · rcases List.mem_append.mp hy with hy | hy
      · exact hb y hy
      · obtain rfl := List.mem_singleton.mp hy
        exact ⟨x0, x1⟩
  · rintro H2 ⟨b2, w2, ns, h2, hl, hb⟩
    refine ⟨D, ns, rfl, SqL.of h2, by omega, fun c k hc hk => ?_⟩
    have s3 := same_new hc (SetO w c (fun j => decide (j ∈ ns)) k)
    refine ⟨c, _, k, rfl, upd_same, by omega, fun ms p hs hmem hlm hp => ?_⟩
    have s4 := same_new hp (.lst (ms.map V.int))
    have bAll := ((b1.trans b2).trans (.same s3)).trans (.same s4)
    have hpn : H p = none := none_of_but ((b1.trans b2).trans (.same s3)) (Ne.symm ((w2.same s3).ne hp)) hp
    refine q p ms _ bAll hpn upd_same (((w2.same s3).same s4).up (by omega)) ?_ (by omega) hs (fun x hx => hb x (of_decide_eq_true ((hmem x).mp hx)))
    rcases ms with _ | ⟨x, ms⟩
    · have : ns ≠ [] := by
        intro e
        rw [e] at hl
        simp at hl
        omega
      obtain ⟨y, hy⟩ := List.exists_mem_of_ne_nil _ this
      have := (hmem y).mpr (decide_eq_true hy)
      cases this
    · exact Nat.succ_le_succ (Nat.zero_le _)
end

theorem TpAt.but {H H' : Hp} {d : Addr} {zs : List V} (e : H d = some (.lst zs)) (s : But d H H') {v : V} {p : Int × Int} (h : TpAt H v p) : TpAt H' v p := by
  obtain ⟨t, rfl, h⟩ := h
  exact ⟨t, rfl, s _ _ (ne_of h e (fun z => by cases z)) h⟩
theorem Dr.lst {H : Hp} {a : Addr} {n : Int} (w : Dr H a n) : ∃ zs, H a = some (.lst zs) := by
  rcases w with ⟨x, h⟩ | w
  · exact ⟨_, h⟩
  · exact w.lst
/-- pairs below g, so many at most, sorted -/
def okL (g : Int) (l : List (Int × Int)) : Prop := 1 ≤ l.length ∧ (l.length ≤ 40 ∧ (g ≤ 5 → l.length ≤ 14)) ∧ l.Pairwise ltP ∧ ∀ p ∈ l, (0 ≤ p.1 ∧ p.1 < g) ∧ (0 ≤ p.2 ∧ p.2 < g)
def spOuts2 : Sp := fun vs H Q _ => ∃ (a : Addr) (n g : Int), vs = [.ref a, .int g] ∧ Dr H a n ∧ 0 ≤ n ∧ n < 999900 ∧ 2 ≤ g ∧ g ≤ 8 ∧
  ∀ (p : Addr) (xs : List V) (l : List (Int × Int)) (H' : Hp), But a H H' → H p = none → H' p = some (.lst xs) → A2 (TpAt H') xs l → WellAt H' a (n + 15) → okL g l → Q (.ref p) H'
theorem tp_ks {H : Hp} : ∀ {xs : List V} {l : List (Int × Int)}, A2 (TpAt H) xs l → ∃ ks : List (Addr × List Int), xs = ks.map (fun p => V.ref p.1) ∧ ks.map (·.2) = l.map (fun p => [p.1, p.2]) ∧ ∀ p ∈ ks, H p.1 = some (.tup (p.2.map V.int))
  | _, _, .nil => ⟨[], rfl, rfl, fun p hp => by cases hp⟩
  | _, _, .cons (y := y) ⟨t, ex, h⟩ r => by
    obtain ⟨ks, e1, e2, e3⟩ := tp_ks r
    refine ⟨(t, [y.1, y.2]) :: ks, by rw [List.map_cons, ex, e1], by rw [List.map_cons, List.map_cons, e2], fun p hp => ?_⟩
    rcases List.mem_cons.mp hp with rfl | hp
    · exact h
    · exact e3 p hp
theorem A2.app {α β : Type} {R : α → β → Prop} : ∀ {xs xs' : List α} {ys ys' : List β}, A2 R xs ys → A2 R xs' ys' → A2 R (xs ++ xs') (ys ++ ys')
  | _, _, _, _, .nil, h => h
  | _, _, _, _, .cons a b, h => .cons a (b.app h)
theorem nodup_le {α : Type} [DecidableEq α] : ∀ {xs ys : List α}, xs.Nodup → (∀ x ∈ xs, x ∈ ys) → xs.length ≤ ys.length
  | [], _, _, _ => Nat.zero_le _
  | x :: xs, ys, h, s => by
    have hx := s x List.mem_cons_self
    obtain ⟨h1, h2⟩ := List.nodup_cons.mp h
    have r := nodup_le (xs := xs) (ys := ys.erase x) h2 fun y hy => by
      have ne : y ≠ x := fun e => h1 (e ▸ hy)
      exact (List.mem_erase_of_ne ne).mpr (s y (List.mem_cons_of_mem _ hy))
    rw [List.length_erase_of_mem hx] at r
    have : 0 < ys.length := List.length_pos_of_mem hx
    rw [List.length_cons]
    omega
def toP (q : Addr × List Int) : Int × Int := (q.2.getD 0 0, q.2.getD 1 0)
section
variable {P : Program} {w : World} {K : PySem.W.Frag} {mg : Str → Option Value} {base : Heap}
abbrev nOuts : List Str := ["_law_state", "_law_great", "_law_way", "_law_close", "_law_x", "_law_y", "_law_k"]
theorem sc_outs : FnScope nOuts ["_law_state", "_law_great"] (defScope s__law_outs) := ⟨rfl, rfl, rfl, by decide +kernel, rfl, by decide +kernel, by decide +kernel⟩
theorem ok_outs2 {f g1 : Addr} {fd d1 : FuncData} (F : Fun K "_law_outs" "_law_outs" s__law_outs f fd) (T : Txt K mg) (T2 : Txt2 K mg) (Dg : Def P w K mg base "_law_digit" ["_law_state", "_law_base"] 1 spDigit g1 d1) : FnOk P w K mg base CX0 2 f fd ["_law_state", "_law_great"] spOuts2 := by
  refine F.ok sc_outs (fun vs H Q E h => ?_) (fun cdv A outer s H vs Q E hr h => ?_)
  · obtain ⟨a, n, g, rfl, _⟩ := h
    rfl
  obtain ⟨a, n, g, rfl, hD, hn0, hn, hg0, hg, q⟩ := h
  have nd := sc_outs.nd
  have hu64 : (A.deeper (envOfC "_law_outs" (defScope s__law_outs) s.heap.objs.size f cdv)).units + 64 < cLine := by have := hr.un; omega
  refine ⟨_, (pss_cons (ps_set (i := 2) nd rfl (Or.inl rfl) (pe_call Dg.G (hr.mono (by decide)) rfl Dg.m Dg.k Dg.b .nil pass0 (pa_cons (pv 0) (pa_cons pe_int pa_nil))))
    (pss_cons (ps_if (pt_cmpR op_eq (pv 2) pe_int (nomark _))
      (pss_cons (ps_set (i := 3) nd rfl (Or.inl rfl) (pe_lst pa_nil))
    (pss_cons (ps_for PassesOwn.never (by rfl) (pi_range1 (by rfl) T.range (pa_cons (pv 1) pa_nil)) (pg_name (i := 4) nd rfl (Or.inr rfl))
      (pss_one (ps_set (i := 3) nd rfl (Or.inl rfl) (pe_op op_cat (pv 3) (pe_lc (own := [("_law_y", 5)]) (g := (gName 5)) (tt := tYes) (te := (tTup (tCons (tVar 4) (tCons (tVar 5) tNil)))) rfl nd (pi_range2 (by rfl) T.range (pa_cons (pe_callB (call_max2 rfl) (by rfl) T2.max (by decide +kernel) (pa_cons pe_int (pa_cons (pe_op op_sub (pv 4) pe_int) pa_nil))) (pa_cons (pe_callB (call_min2 rfl) (by rfl) T.min (by decide +kernel) (pa_cons (pv 1) (pa_cons (pe_op op_add (pv 4) pe_int) pa_nil))) pa_nil))) (blkOk_by (N := nOuts) (sc := defScope s__law_outs) (by decide +kernel)) (fun _ _ _ _ _ => (by exact (pg_name (i := 5) nd rfl (Or.inl rfl)))) (fun _ _ _ _ _ => pts_nil) (fun _ _ _ _ _ => (by exact (pe_tup (pa_cons (pv 4) (pa_cons (pv 5) pa_nil))))))))))
    (pss_one (ps_ret (pv 3)))))
      pss_nil)
    (pss_cons (ps_if (pt_cmpR op_eq (pv 2) pe_int (nomark _))
      (pss_one (ps_ret (pe_lc (own := [("_law_x", 4)]) (g := (gName 4)) (tt := tYes) (te := (tTup (tCons (tVar 4) (tCons (tVar 4) tNil)))) rfl nd (pi_range1 (by rfl) T.range (pa_cons (pv 1) pa_nil)) (blkOk_by (N := nOuts) (sc := defScope s__law_outs) (by decide +kernel)) (fun _ _ _ _ _ => (by exact (pg_name (i := 4) nd rfl (Or.inl rfl)))) (fun _ _ _ _ _ => pts_nil) (fun _ _ _ _ _ => (by exact (pe_tup (pa_cons (pv 4) (pa_cons (pv 4) pa_nil))))))))
      pss_nil)
    (pss_one (ps_ret (pe_callB (cr_sortedT rfl) (by rfl) T2.sorted (by decide +kernel) (pa_cons (pe_callTy (cr_setOfT rfl hu64) (by rfl) T2.set (by decide +kernel) (pa_cons (pe_lc (own := [("_law_k", 6)]) (g := (gName 6)) (tt := tYes) (te := (tTup (tCons (tCall spDigit [] E0 (tCons (tVar 0) (tCons (tVar 1) tNil))) (tCons (tCall spDigit [] E0 (tCons (tVar 0) (tCons (tVar 1) tNil))) tNil)))) rfl nd (pi_range1 (by rfl) T.range (pa_cons (pe_op op_add pe_int (pe_call Dg.G (hr.mono (by decide)) rfl Dg.m Dg.k Dg.b .nil pass0 (pa_cons (pv 0) (pa_cons pe_int pa_nil)))) pa_nil)) (blkOk_by (N := nOuts) (sc := defScope s__law_outs) (by decide +kernel)) (fun _ _ _ _ _ => (by exact (pg_name (i := 6) nd rfl (Or.inl rfl)))) (fun _ _ _ _ _ => pts_nil) (fun _ _ _ _ _ => (by exact (pe_tup (pa_cons (pe_call Dg.G (hr.mono (by decide)) rfl Dg.m Dg.k Dg.b .nil pass0 (pa_cons (pv 0) (pa_cons (pv 1) pa_nil))) (pa_cons (pe_call Dg.G (hr.mono (by decide)) rfl Dg.m Dg.k Dg.b .nil pass0 (pa_cons (pv 0) (pa_cons (pv 1) pa_nil))) pa_nil)))))) pa_nil)) pa_nil))))))), ?_⟩
  refine ⟨_, rfl, a, n, 4, rfl, hD, hn0, by omega, by decide, by decide, fun r H1 r0 r1 b1 w1 => ?_⟩
  refine ⟨_, rfl, rfl, _, rfl, ?_⟩
  refine ite2 (fun c => ?_) (fun c => ?_)
  · clear c
    refine ⟨(by show 0 ≤ sizeLine; decide), fun c0 hc0 => ?_⟩
    have s1 := same_new hc0 (.lst [])
    have hc0n : H c0 = none := none_of_but b1 (Ne.symm (w1.ne hc0)) hc0
    refine ⟨_, rfl, g, rfl, by omega, by omega, for_range (n := g.toNat) (fun i σ H' => ∃ g4 g5 g6 cl xs l, σ = [some (.ref a), some (.int g), some (.int r), some (.ref cl), g4, g5, g6] ∧ Same H1 H' ∧ H1 cl = none ∧ H' cl = some (.lst xs) ∧ A2 (TpAt H') xs l ∧ i ≤ l.length ∧ (l.length ≤ 3 * i ∧ (0 < i → l.length + 1 ≤ 3 * i) ∧ ((i : Int) = g → l.length + 2 ≤ 3 * i)) ∧ l.Pairwise ltP ∧ (∀ p ∈ l, p.1 < (i : Int)) ∧ ∀ p ∈ l, (0 ≤ p.1 ∧ p.1 < g) ∧ (0 ≤ p.2 ∧ p.2 < g)) ⟨_, _, _, c0, [], [], rfl, s1, hc0, upd_same, .nil, Nat.le_refl _, ⟨Nat.le_refl _, fun h => absurd h (by decide), fun h => by omega⟩, .nil, (fun p hp => nomatch hp), (fun p hp => nomatch hp)⟩ ?_ ?_⟩
    · rintro i σ H' hi ⟨g4, g5, g6, cl, xs, l, rfl, sH, hcn, hcl, hx, hl1, hl2, hpw, hlt, hbd⟩
      have ej : (0 : Int) + (i : Int) = (i : Int) := by omega
      rw [ej]
      refine ⟨_, rfl, _, rfl, _, _, rfl, rfl, _, _, rfl, _, rfl, _, rfl, _, _, rfl, rfl, _, _, rfl, ?_⟩
      have ehi : ∃ hi' : Int, (if (i : Int) + 2 < g then (i : Int) + 2 else g) = hi' ∧ (i : Int) < hi' ∧ hi' ≤ (i : Int) + 2 ∧ hi' ≤ g := ⟨_, rfl, by split <;> omega, by split <;> omega, by split <;> omega⟩
      have elo : ∃ lo : Int, (if (i : Int) - 1 > 0 then (i : Int) - 1 else 0) = lo ∧ 0 ≤ lo ∧ lo ≤ (i : Int) ∧ (i : Int) - 1 ≤ lo := ⟨_, rfl, by split <;> omega, by split <;> omega, by split <;> omega⟩
      obtain ⟨hi', eh, h1, h2, h3⟩ := ehi
      obtain ⟨lo, el, l1, l2, l3⟩ := elo
      refine ⟨lo, hi', by rw [eh, el], ⟨by omega, by omega, by omega, by omega⟩, fun D hD => ?_⟩
      have sD := same_new hD (.lst [])
      have hclD : cl ≠ D := ne_of_none hcl hD
      refine range_turns (lo := lo) (n := (hi' - lo).toNat) (fun k H2 => Same H' H2 ∧ ∃ ys, H2 D = some (.lst ys) ∧ A2 (TpAt H2) ys ((List.range k).map fun (j : Nat) => ((i : Int), lo + (j : Int)))) ⟨sD, [], upd_same, .nil⟩ ?_ ?_
      · rintro k H2 hk ⟨s2, ys, hy, ay⟩
        refine ⟨rfl, _, rfl, _, rfl, (by show 2 ≤ sizeLine; decide), fun t ht => ?_⟩
        have s3 := same_new ht (.tup [V.int (i : Int), V.int (lo + (k : Int))])
        have hk3 : ys.length ≤ 3 := by rw [ay.len, List.length_map, List.length_range]; omega
        refine ⟨ys, s3 _ _ hy, Nat.lt_of_le_of_lt hk3 (by decide), same_upd (s2.trans s3) hD, _, upd_same, ?_⟩
        have e : (List.range (k + 1)).map (fun j : Nat => ((i : Int), lo + (j : Int))) = (List.range k).map (fun j : Nat => ((i : Int), lo + (j : Int))) ++ [((i : Int), lo + (k : Int))] := by
          rw [List.range_succ, List.map_append]; rfl
        rw [e]
        exact A2.snoc (ay.imp fun _ _ r => (r.mono (.same s3)).but (s3 _ _ hy) But.at) (TpAt.but (s3 _ _ hy) But.at ⟨t, rfl, upd_same⟩)
      · rintro H2 ⟨s2, ys, hy, ay⟩
        have hyl : ys.length = (hi' - lo).toNat := by rw [ay.len, List.length_map, List.length_range]
        have hxl := hx.len
        have hg2 : i < 8 := by omega
        refine ⟨cl, D, _, _, rfl, rfl, s2 _ _ hcl, hy, ?_, fun p hp => ?_⟩
        · exact Nat.le_trans (show xs.length + ys.length ≤ 100 by omega) (by decide)
        have s3 := same_new hp (.lst (xs ++ ys))
        have sAll := s2.trans s3
        refine ⟨_, _, _, p, xs ++ ys, l ++ (List.range (hi' - lo).toNat).map (fun j : Nat => ((i : Int), lo + (j : Int))), rfl, sH.trans sAll, none_of_same (sH.trans s2) hp, upd_same, ?_, ?_, ?_, ?_, ?_, ?_⟩
        · have a1 := hx.imp fun _ _ r => r.mono (.same sAll)
          have a2 := ay.imp fun _ _ r => r.mono (.same s3)
          exact A2.app a1 a2
        · rw [List.length_append, List.length_map, List.length_range]; omega
        · rw [List.length_append, List.length_map, List.length_range]
          obtain ⟨z1, z2, z3⟩ := hl2
          exact ⟨by omega, fun _ => by omega, fun _ => by omega⟩
        · refine List.pairwise_append.mpr ⟨hpw, ?_, fun p hp q hq => ?_⟩
          · rw [List.pairwise_map]
            exact List.Pairwise.imp (fun {a b} (h : a < b) => .inr ⟨rfl, by show lo + (a : Int) < lo + (b : Int); omega⟩) List.pairwise_lt_range
          · obtain ⟨j, _, rfl⟩ := List.mem_map.mp hq
            exact .inl (hlt p hp)
        · intro p hp
          rcases List.mem_append.mp hp with h | h
          · have := hlt p h; omega
          · obtain ⟨j, _, rfl⟩ := List.mem_map.mp h
            show (i : Int) < ((i + 1 : Nat) : Int)
            omega
        · intro p hp
          rcases List.mem_append.mp hp with h | h
          · exact hbd p h
          · obtain ⟨j, hj, rfl⟩ := List.mem_map.mp h
            have hj := List.mem_range.mp hj
            show (0 ≤ (i : Int) ∧ (i : Int) < g) ∧ (0 ≤ lo + (j : Int) ∧ lo + (j : Int) < g)
            omega
    · rintro σ H' ⟨g4, g5, g6, cl, xs, l, rfl, sH, hcn, hcl, hx, hl1, hl2, hpw, hlt, hbd⟩
      refine ⟨_, rfl, q cl xs l H' (b1.trans (.same sH)) (none_of_but b1 (Ne.symm (w1.ne hcn)) hcn) hcl hx ((w1.same sH).up (by omega)) ⟨by omega, ⟨by omega, fun _ => by have := hl2.2.2 (by omega); omega⟩, hpw, hbd⟩⟩
  refine ⟨_, rfl, rfl, _, rfl, ?_⟩
  refine ite2 (fun c2 => ?_) (fun c2 => ?_)
  · clear c2
    refine ⟨_, rfl, g, rfl, by omega, by omega, fun D hD => ?_⟩
    have sD := same_new hD (.lst [])
    refine range_turns (n := g.toNat) (fun k H2 => Same H1 H2 ∧ ∃ ys, H2 D = some (.lst ys) ∧ A2 (TpAt H2) ys ((List.range k).map fun (j : Nat) => ((j : Int), (j : Int)))) ⟨sD, [], upd_same, .nil⟩ ?_ ?_
    · rintro k H2 hk ⟨s2, ys, hy, ay⟩
      have ej : (0 : Int) + (k : Int) = (k : Int) := by omega
      rw [ej]
      refine ⟨rfl, _, rfl, _, rfl, (by show 2 ≤ sizeLine; decide), fun t ht => ?_⟩
      have s3 := same_new ht (.tup [V.int (k : Int), V.int (k : Int)])
      have hk3 : ys.length ≤ 8 := by rw [ay.len, List.length_map, List.length_range]; omega
      refine ⟨ys, s3 _ _ hy, Nat.lt_of_le_of_lt hk3 (by decide), same_upd (s2.trans s3) hD, _, upd_same, ?_⟩
      have e : (List.range (k + 1)).map (fun j : Nat => ((j : Int), (j : Int))) = (List.range k).map (fun j : Nat => ((j : Int), (j : Int))) ++ [((k : Int), (k : Int))] := by
        rw [List.range_succ, List.map_append]; rfl
      rw [e]
      exact A2.snoc (ay.imp fun _ _ r => (r.mono (.same s3)).but (s3 _ _ hy) But.at) (TpAt.but (s3 _ _ hy) But.at ⟨t, rfl, upd_same⟩)
    · rintro H2 ⟨s2, ys, hy, ay⟩
      refine q D ys _ H2 (b1.trans (.same s2)) (none_of_but b1 (Ne.symm (w1.ne hD)) hD) hy ay ((w1.same s2).up (by omega)) ⟨?_, ?_, ?_, fun p hp => ?_⟩
      · rw [List.length_map, List.length_range]; omega
      · rw [List.length_map, List.length_range]; exact ⟨by omega, fun _ => by omega⟩
      · rw [List.pairwise_map]
        exact List.Pairwise.imp (fun {a b} (h : a < b) => .inl (by show (a : Int) < (b : Int); omega)) List.pairwise_lt_range
      · obtain ⟨j, hj, rfl⟩ := List.mem_map.mp hp
        have hj := List.mem_range.mp hj
        show (0 ≤ (j : Int) ∧ (j : Int) < g) ∧ (0 ≤ (j : Int) ∧ (j : Int) < g)
        omega
  · refine ⟨_, rfl, a, n + 1, 6, rfl, .inr w1, by omega, by omega, by decide, by decide, fun r2 H2 r20 r21 b2 w2 => ?_⟩
    refine ⟨_, _, rfl, rfl, 1 + r2, rfl, by omega, by omega, fun D hD => ?_⟩
    have haD : a ≠ D := w2.ne hD
    have s1 := same_new hD (.lst [])
    refine range_turns (n := (1 + r2).toNat) (fun i H' => But a H2 H' ∧ WellAt H' a (n + 2 + 2 * (i : Int)) ∧ ∃ xs l, H' D = some (.lst xs) ∧ A2 (TpAt H') xs l ∧ l.length = i ∧ ∀ p ∈ l, (0 ≤ p.1 ∧ p.1 < g) ∧ (0 ≤ p.2 ∧ p.2 < g)) ⟨.same s1, ?_, [], [], upd_same, .nil, rfl, fun x hx => by cases hx⟩ ?_ ?_
    · have := w2.same s1
      rw [show n + 2 + 2 * ((0 : Nat) : Int) = n + 1 + 1 by omega]
      exact this
    · rintro i H' hi ⟨b3, w3, xs, l, h2, ax, hl, hb⟩
      refine ⟨rfl, _, rfl, _, rfl, a, n + 2 + 2 * (i : Int), g, rfl, .inr w3, by omega, by omega, by omega, by omega, fun x H3 x0 x1 b4 w4 => ?_⟩
      refine ⟨_, rfl, _, rfl, a, n + 2 + 2 * (i : Int) + 1, g, rfl, .inr w4, by omega, by omega, by omega, by omega, fun y H4 y0 y1 b5 w5 => ?_⟩
      refine ⟨(by show 2 ≤ sizeLine; decide), fun t ht => ?_⟩
      have s6 := same_new ht (.tup [V.int x, V.int y])
      have h4 : H4 D = some (.lst xs) := b5 _ _ (Ne.symm haD) (b4 _ _ (Ne.symm haD) h2)
      obtain ⟨z3, e3⟩ := w3.lst
      obtain ⟨z4, e4⟩ := w4.lst
      refine ⟨xs, s6 _ _ h4, ?_, (((b3.trans b4).trans b5).trans (.same s6)).new hD, ?_, _, l ++ [(x, y)], upd_same, ?_, by rw [List.length_append, hl]; rfl, fun p hp => ?_⟩
      · rw [ax.len, hl]
        exact Nat.lt_of_lt_of_le (show i < 100 by omega) (by decide)
      · rw [show n + 2 + 2 * ((i + 1 : Nat) : Int) = n + 2 + 2 * (i : Int) + 1 + 1 by omega]
        exact (w5.same s6).but haD But.at
      · exact A2.snoc (ax.imp fun _ _ r => ((((r.but e3 b4).but e4 b5).mono (.same s6)).but (s6 _ _ h4) But.at)) (TpAt.but (s6 _ _ h4) But.at ⟨t, rfl, upd_same⟩)
      · rcases List.mem_append.mp hp with h | h
        · exact hb p h
        · obtain rfl := List.mem_singleton.mp h
          exact ⟨⟨x0, x1⟩, ⟨y0, y1⟩⟩
    · rintro H3 ⟨b3, w3, xs, l, h2, ax, hl, hb⟩
      obtain ⟨ks, rfl, ek, hk⟩ := tp_ks ax
      have hkl : ks.length = l.length := by
        have := congrArg List.length ek
        rwa [List.length_map, List.length_map] at this
      have hks : ∀ p ∈ ks, ∃ x y, p.2 = [x, y] ∧ (0 ≤ x ∧ x < g) ∧ (0 ≤ y ∧ y < g) := fun p hp => by
        have : p.2 ∈ ks.map (·.2) := List.mem_map.mpr ⟨p, hp, rfl⟩
        rw [ek] at this
        obtain ⟨z, hz, e⟩ := List.mem_map.mp this
        exact ⟨z.1, z.2, e.symm, hb z hz⟩
      refine ⟨D, ks, rfl, SqL.of h2, fun p hp => SqT.of (hk p hp), by omega, fun c L hc hL1 hL2 => ?_⟩
      have s4 := same_new hc (SetTO P w c L)
      refine ⟨c, L, 2, 64, rfl, upd_same, fun p hp => SqT.of (s4 _ _ (hk p (hL1 p hp))), by decide, fun p hp => ?_, fun L' p hperm hnd hlen hpw hp => ?_⟩
      · obtain ⟨x, y, e, h1, h2⟩ := hks p (hL1 p hp)
        rw [e]
        refine ⟨rfl, fun m hm => ?_⟩
        rcases List.mem_cons.mp hm with rfl | hm
        · omega
        · obtain rfl := List.mem_singleton.mp hm
          omega
      have s5 := same_new hp (.lst (L'.map fun q => V.ref q.1))
      have hin : ∀ z ∈ L', z ∈ ks := fun z hz => hL1 z (hperm.mem_iff.mp hz)
      have bAll : But a H2 (upd (upd H3 c (SetTO P w c L)) p (.lst (L'.map fun q => V.ref q.1))) := (b3.trans (.same s4)).trans (.same s5)
      have pn2 : H2 p = none := none_of_but (b3.trans (.same s4)) (Ne.symm ((w3.same s4).ne hp)) hp
      have pn1 : H1 p = none := none_of_but b2 (Ne.symm ((w3.same s4).ne hp)) pn2
      have a2 : A2 (TpAt (upd (upd H3 c (SetTO P w c L)) p (.lst (L'.map fun q => V.ref q.1)))) (L'.map fun q => V.ref q.1) (L'.map toP) := A2.ofMap _ _ L' fun z hz => by
        obtain ⟨x, y, e, _, _⟩ := hks z (hin z hz)
        refine ⟨z.1, rfl, ?_⟩
        have := s5 _ _ (s4 _ _ (hk z (hin z hz)))
        rw [e] at this
        unfold toP
        rw [e]
        exact this
      refine q p _ _ _ ((b1.trans b2).trans bAll) (none_of_but b1 (Ne.symm ((w3.same s4).ne hp)) pn1) upd_same a2 (((w3.same s4).same s5).up (by omega)) ⟨?_, ?_, ?_, fun z hz => ?_⟩
      · rw [List.length_map]
        have hne : ks ≠ [] := by
          intro e
          rw [e] at hkl
          simp at hkl
          omega
        obtain ⟨z, hz⟩ := List.exists_mem_of_ne_nil _ hne
        obtain ⟨y, hy, _⟩ := List.mem_map.mp (hL2 z hz)
        exact List.length_pos_of_mem (hperm.mem_iff.mpr hy)
      · rw [List.length_map]
        have e1 : L'.length ≤ ks.length := by
          have := hperm.length_eq
          have h3 : (L'.map (·.2)).length ≤ (ks.map (·.2)).length := nodup_le hnd fun x hx => by
            obtain ⟨z, hz, rfl⟩ := List.mem_map.mp hx
            exact List.mem_map.mpr ⟨z, hin z hz, rfl⟩
          rwa [List.length_map, List.length_map] at h3
        omega
      · rw [List.pairwise_map]
        have hnd' : L'.Pairwise fun q r => q.2 ≠ r.2 := List.pairwise_map.mp hnd
        refine (hpw.and hnd').imp_of_mem fun {x y} hx hy h => ?_
        obtain ⟨x1, x2, ex, bx1, bx2⟩ := hks x (hin x hx)
        obtain ⟨y1, y2, ey, by1, by2⟩ := hks y (hin y hy)
        rw [ex, ey] at h
        have := L2.pair_lt h.1 h.2 ⟨bx1.1, by omega⟩ ⟨bx2.1, by omega⟩ ⟨by1.1, by omega⟩ ⟨by2.1, by omega⟩
        unfold toP
        rw [ex, ey]
        exact this
      · obtain ⟨y, hy, rfl⟩ := List.mem_map.mp hz
        obtain ⟨x1, x2, ex, bx1, bx2⟩ := hks y (hin y hy)
        unfold toP
        rw [ex]
        exact ⟨bx1, bx2⟩
end

/-- all but a -/
theorem orB {b : Bool} {H : Hp} {B : Hp → Prop} {R : Prop} (Iv : Hp → Prop) (h0 : b = true → Iv H) (k : ∀ Hc, Iv Hc → B Hc) (r : b = false → (∀ Hc, Iv Hc → B Hc) → R) : if b = true then B H else R := by
  cases b with
  | true => exact iteT (k H (h0 rfl))
  | false => exact iteF (r rfl k)
theorem nat_mod {x n : Nat} : ((x : Int) % (n : Int)) = ((x % n : Nat) : Int) := by omega
theorem mod_dec {x n y : Nat} : decide (V.int ((x : Int) % (n : Int)) = V.int (y : Int)) = decide (x % n = y) := by rw [nat_mod, dec_nat]

/-- few pairs, of small outputs -/
def okB (l : List (Int × Int)) : Prop := l.length ≤ 14 ∧ ∀ p ∈ l, p.1 < 6 ∧ p.2 < 6
theorem okL_B {g : Int} {l : List (Int × Int)} (h : okL g l) (hg : g ≤ 5) : okB l := ⟨h.2.1.2 hg, fun p hp => by have := (h.2.2.2 p hp).1.2; have := (h.2.2.2 p hp).2.2; omega⟩
def PIn (H0 : Hp) (a Lm D1 B : Addr) (n0 n1 : Nat) (n : Int) (al : Nat → List (List Int)) (i j : Nat) (H' : Hp) : Prop := ∃ (bo : BD) (kvs : List (List Key × V)), But a H0 H' ∧ H' Lm = some (.lst [V.int (n0 : Int), V.int (n1 : Int)]) ∧ WellAt H' a (n + 60 + 70 * (i : Int) + 17 * (j : Int)) ∧
  AlAt (vw (pA a) H') (.ref D1) al ∧ H' B = some (.dT kvs) ∧ A2 (EnAt (vw (pA a) H')) kvs bo ∧ (bo.map (·.1)).Pairwise ltN ∧ (∀ e ∈ bo, (e.1.1 < i ∨ (e.1.1 = i ∧ e.1.2 < j)) ∧ e.1.1 < n0 ∧ e.1.2 < n1 ∧ okLet e.2 ∧ okB e.2) ∧ (∀ x y, (x < i ∧ y < n1) ∨ (x = i ∧ y < j) → (x % n1 = y ∨ y % n0 = x) → ∃ e ∈ bo, e.1 = (x, y)) ∧ bo.length ≤ 4 * i + j
def spParts : Sp := fun vs H Q _ => ∃ (a : Addr) (n m : Int), vs = [.ref a, .int m] ∧ Dr H a n ∧ 0 ≤ n ∧ n < 900000 ∧ 0 < m ∧ m ≤ 4 ∧
  ∀ (r al d : Addr) (T : TD) (H' : Hp), But a H H' → H r = none → H al = none → H d = none → H' r = some (.tup [.ref al, .ref d]) → AlAt (vw (pA a) H') (.ref al) T.al → (∃ kvs, H' d = some (.dT kvs) ∧ A2 (EnAt (vw (pA a) H')) kvs T.bo) → WellAt H' a (n + 500) → WF T →
    (∀ h, h < 2 → ((T.al h).length : Int) ≤ m) → (∀ h, h < 2 → ∀ r ∈ T.al h, r.length ≤ 4 ∧ ∀ x ∈ r, x < 6) → (∀ e ∈ T.bo, okB e.2) → T.bo.length ≤ 16 → (T.bo.map (·.1)).Pairwise ltN → Q (.ref r) H'
theorem okL_let {g : Int} {l : List (Int × Int)} (h : okL g l) (hg : g ≤ 8) : okLet l := ⟨h.1, by have := h.2.1.1; omega, h.2.2.1, fun p hp => by
  obtain ⟨⟨a, b⟩, c, d⟩ := h.2.2.2 p hp
  exact ⟨⟨a, by omega⟩, ⟨c, by omega⟩⟩⟩
theorem two_list {rs : List (List (List Int))} (h : rs.length = 2) : rs = [rs.getD 0 [], rs.getD 1 []] := by
  match rs, h with
  | [x, y], _ => rfl
section
variable {P : Program} {w : World} {K : PySem.W.Frag} {mg : Str → Option Value} {base : Heap}
abbrev nParts : List Str := ["_law_state", "_law_most", "_law_many", "_law_great", "_law_a", "_law_alone", "_law_both", "_law_b", "_law_hand"]
theorem sc_parts : FnScope nParts ["_law_state", "_law_most"] (defScope s__law_parts) := ⟨rfl, rfl, rfl, by decide +kernel, rfl, by decide +kernel, by decide +kernel⟩
theorem ok_parts {f g1 g2 g3 : Addr} {fd d1 d2 d3 : FuncData} (F : Fun K "_law_parts" "_law_parts" s__law_parts f fd) (T : Txt K mg) (T2 : Txt2 K mg) (Dg : Def P w K mg base "_law_digit" ["_law_state", "_law_base"] 1 spDigit g1 d1)
    (Few : Def P w K mg base "_law_few" ["_law_state", "_law_great", "_law_most"] 2 spFew g2 d2) (Outs : Def P w K mg base "_law_outs" ["_law_state", "_law_great"] 2 spOuts2 g3 d3) : FnOk P w K mg base CX0 3 f fd ["_law_state", "_law_most"] spParts := by
  refine F.ok sc_parts (fun vs H Q E h => ?_) (fun cdv A outer s H vs Q E hr h => ?_)
  · obtain ⟨a, n, m, rfl, _⟩ := h
    rfl
  obtain ⟨a, n, m, rfl, hD, hn0, hn, hm0, hm, q⟩ := h
  have nd := sc_parts.nd
  have hu := hu_of hr
  refine ⟨_, (pss_cons (ps_set (i := 2) nd rfl (Or.inr rfl) (pe_lst (pa_cons (pe_op op_add pe_int (pe_call Dg.G (hr.mono (by decide)) rfl Dg.m Dg.k Dg.b .nil pass0 (pa_cons (pv 0) (pa_cons (pv 1) pa_nil)))) (pa_cons (pe_op op_add pe_int (pe_call Dg.G (hr.mono (by decide)) rfl Dg.m Dg.k Dg.b .nil pass0 (pa_cons (pv 0) (pa_cons (pv 1) pa_nil)))) pa_nil))))
    (pss_cons (ps_set (i := 3) nd rfl (Or.inr rfl) (pe_op op_add pe_int (pe_call Dg.G (hr.mono (by decide)) rfl Dg.m Dg.k Dg.b .nil pass0 (pa_cons (pv 0) (pa_cons pe_int pa_nil)))))
    (pss_cons (ps_setLc (i := 5) (own := [("_law_hand", 8)]) (g := (gName 8)) (tt := tYes) (te := (tLc (iRng1 (tCons (tOp (rIxL K) (tVar 2) (tVar 8)) tNil)) (gName 4) tYes (tCall (spFew) [] E0 (tCons (tVar 0) (tCons (tVar 3) (tCons (tC (.int 3)) tNil)))) [4])) rfl nd rfl rfl (sw_true rfl rfl rfl (by decide +kernel)) (pi_range1 (by rfl) T.range (pa_cons pe_int pa_nil)) (blkOk_by (N := nParts) (sc := defScope s__law_parts) (by decide +kernel)) (fun _ _ _ _ _ => (by exact (pg_name (i := 8) nd rfl (Or.inl rfl)))) (fun _ _ _ _ _ => pts_nil) (fun _ _ _ _ _ => (by exact (pe_lc (own := [("_law_a", 4)]) (g := (gName 4)) (tt := tYes) (te := (tCall (spFew) [] E0 (tCons (tVar 0) (tCons (tVar 3) (tCons (tC (.int 3)) tNil))))) rfl nd (pi_range1 (by rfl) T.range (pa_cons (pe_ix ix_list (pv 2) (pv 8) (fun _ _ => rfl)) pa_nil)) (blkOk_by (N := nParts)  (by kernel_rfl)) (fun _ _ _ _ _ => (by exact (pg_name (i := 4) nd rfl (Or.inl rfl)))) (fun _ _ _ _ _ => pts_nil) (fun _ _ _ _ _ => (by exact (pe_call Few.G (hr.mono (by decide)) rfl Few.m Few.k Few.b .nil pass0 (pa_cons (pv 0) (pa_cons (pv 3) (pa_cons pe_int pa_nil))))))))))
    (pss_cons (ps_set (i := 6) nd rfl (Or.inl rfl) pe_dnewT)
    (pss_cons (ps_for PassesOwn.never (by rfl) (pi_range1 (by rfl) T.range (pa_cons (pe_ix ix_list (pv 2) pe_int (fun _ _ => rfl)) pa_nil)) (pg_name (i := 4) nd rfl (Or.inl rfl))
      (pss_one (ps_for PassesOwn.never (by rfl) (pi_range1 (by rfl) T.range (pa_cons (pe_ix ix_list (pv 2) pe_int (fun _ _ => rfl)) pa_nil)) (pg_name (i := 7) nd rfl (Or.inl rfl))
      (pss_one (ps_if (PW.pt (pw_or (pt_cmpR op_eq (pe_op op_mod (pv 4) (pe_ix ix_list (pv 2) pe_int (fun _ _ => rfl))) (pv 7) (nomark _)) (pw_or (pt_cmpR op_eq (pe_op op_mod (pv 7) (pe_ix ix_list (pv 2) pe_int (fun _ _ => rfl))) (pv 4) (nomark _)) (pw_or1 (pt_cmpR op_gt (pe_call Dg.G (hr.mono (by decide)) rfl Dg.m Dg.k Dg.b .nil pass0 (pa_cons (pv 0) (pa_cons pe_int pa_nil))) pe_int (nomark _))))))
      (pss_one (ps_dput hu (pv 6) (pe_tup (pa_cons (pv 4) (pa_cons (pv 7) pa_nil))) (pe_call Outs.G (hr.mono (by decide)) rfl Outs.m Outs.k Outs.b .nil pass0 (pa_cons (pv 0) (pa_cons (pv 3) pa_nil))) rfl))
      pss_nil)))))
    (pss_one (ps_ret (pe_tup (pa_cons (pv 5) (pa_cons (pv 6) pa_nil)))))))))), ?_⟩
  refine ⟨_, rfl, _, rfl, a, n, m, rfl, hD, hn0, by omega, hm0, by omega, fun r0 H1 r00 r01 b1 w1 => ?_⟩
  refine ⟨_, _, rfl, rfl, _, rfl, _, rfl, a, n + 1, m, rfl, .inr w1, by omega, by omega, hm0, by omega, fun r1 H2 r10 r11 b2 w2 => ?_⟩
  refine ⟨_, _, rfl, rfl, (by show 2 ≤ sizeLine; decide), fun Lm hLm => ?_⟩
  have s3 := same_new hLm (.lst [V.int (1 + r0), V.int (1 + r1)])
  obtain ⟨n0, hn0'⟩ : ∃ n0 : Nat, 1 + r0 = (n0 : Int) := ⟨(1 + r0).toNat, by omega⟩
  obtain ⟨n1, hn1'⟩ : ∃ n1 : Nat, 1 + r1 = (n1 : Int) := ⟨(1 + r1).toNat, by omega⟩
  show gName 2 (V.ref Lm) _ (upd H2 Lm (HO.lst [V.int (1 + r0), V.int (1 + r1)])) _
  rw [hn0', hn1'] at s3 ⊢
  have q0 : 1 ≤ n0 ∧ (n0 : Int) ≤ m := by omega
  have q1 : 1 ≤ n1 ∧ (n1 : Int) ≤ m := by omega
  refine ⟨_, rfl, a, n + 1 + 1, 4, rfl, .inr (w2.same s3), by omega, by omega, by decide, by decide, fun r2 H4 r20 r21 b4 w4 => ?_⟩
  have hLa : a ≠ Lm := w2.ne hLm
  have hLm4 : H4 Lm = some (.lst [V.int (n0 : Int), V.int (n1 : Int)]) := b4 _ _ (Ne.symm hLa) upd_same
  have hmN : ∀ h, h < 2 → ∃ k : Nat, ([V.int (n0 : Int), V.int (n1 : Int)] : List V)[h]? = some (.int (k : Int)) ∧ k = (if h = 0 then n0 else n1) ∧ 1 ≤ k ∧ (k : Int) ≤ m := fun h hh => by
    obtain rfl | rfl : h = 0 ∨ h = 1 := by omega
    · exact ⟨n0, rfl, rfl, q0.1, q0.2⟩
    · exact ⟨n1, rfl, rfl, q1.1, q1.2⟩
  refine ⟨_, _, rfl, rfl, ?_⟩
  obtain ⟨g, hg, hg2, hg6⟩ : ∃ g : Int, 2 + r2 = g ∧ 2 ≤ g ∧ g ≤ 5 := ⟨_, rfl, by omega, by omega⟩
  show gName 3 (V.int (2 + r2)) _ _ _
  rw [hg]
  have b04 : But a H H4 := ((b1.trans b2).trans (.same s3)).trans b4
  refine ⟨2, rfl, by decide, by decide, fun D1 hD1 => ?_⟩
  have s5 := same_new hD1 (.lst [])
  have haD1 : a ≠ D1 := w4.ne hD1
  have hLD1 : Lm ≠ D1 := ne_of_none hLm4 hD1
  let p1 : Addr → Bool := fun b => decide (b ≠ a ∧ b ≠ D1)
  have p1_ok : ∀ b, p1 b = true ↔ (b ≠ a ∧ b ≠ D1) := fun b => decide_eq_true_iff
  refine range_turns (n := 2) (fun i H' => But a H4 H' ∧ WellAt H' a (n + 3 + 21 * (i : Int)) ∧ ∃ ys rs, H' D1 = some (.lst ys) ∧ A2 (RowsAt (vw p1 H')) ys rs ∧ rs.length = i ∧ ∀ k rr, rs[k]? = some rr → rr.length = (if k = 0 then n0 else n1) ∧ ∀ r ∈ rr, (1 ≤ r.length ∧ r.length ≤ 4 ∧ r.Pairwise (· < ·) ∧ ∀ x ∈ r, 0 ≤ x ∧ x < g)) ⟨.same s5, ?_, [], [], upd_same, .nil, rfl, fun k rr e => by simp at e⟩ ?_ ?_
  · have := w4.same s5
    rw [show n + 3 + 21 * ((0 : Nat) : Int) = n + 1 + 1 + 1 by omega]
    exact this
  · rintro i H' hi ⟨b5, w5, ys, rs, hy, ay, hrl, hrr⟩
    have ej : (0 : Int) + (i : Int) = (i : Int) := by omega
    rw [ej]
    obtain ⟨k, hk1, hk2, hk3, hk4⟩ := hmN i hi
    have hLm' := b5 _ _ (Ne.symm hLa) hLm4
    refine ⟨rfl, _, rfl, _, rfl, Lm, _, _, _, rfl, rfl, SqL.of hLm', atI_nat hk1, (k : Int), rfl, by omega, by omega, fun D2 hD2 => ?_⟩
    have s6 := same_new hD2 (.lst [])
    have haD2 : a ≠ D2 := w5.ne hD2
    have hD12 : D1 ≠ D2 := ne_of_none hy hD2
    let p2 : Addr → Bool := fun b => decide (b ≠ a ∧ b ≠ D1 ∧ b ≠ D2)
    have p2_ok : ∀ b, p2 b = true ↔ (b ≠ a ∧ b ≠ D1 ∧ b ≠ D2) := fun b => decide_eq_true_iff
    refine range_turns (n := k) (fun j H6 => But a H' H6 ∧ WellAt H6 a (n + 3 + 21 * (i : Int) + 5 * (j : Int)) ∧ ∃ us rr, H6 D2 = some (.lst us) ∧ A2 (RowAt (vw p2 H6)) us rr ∧ rr.length = j ∧ ∀ r ∈ rr, (1 ≤ r.length ∧ r.length ≤ 4 ∧ r.Pairwise (· < ·) ∧ ∀ x ∈ r, 0 ≤ x ∧ x < g)) ⟨.same s6, ?_, [], [], upd_same, .nil, rfl, fun r hr => nomatch hr⟩ ?_ ?_
    · have := w5.same s6
      rw [show n + 3 + 21 * (i : Int) + 5 * ((0 : Nat) : Int) = n + 3 + 21 * (i : Int) by omega]
      exact this
    · rintro j H6 hj ⟨b6, w6, us, rr, hu6, au, hul, hub⟩
      refine ⟨rfl, _, rfl, _, rfl, a, _, g, 3, rfl, .inr w6, by omega, by omega, by omega, by omega, by decide, by decide, fun p ns H7 b7 hp7 hp7' w7 l1 l2 l3 l4 => ?_⟩
      have hD27 := b7 _ _ (Ne.symm haD2) hu6
      have np2 : p ≠ D2 := (ne_of_none hu6 hp7).symm
      have np1 : p ≠ D1 := (ne_of_none (b6 _ _ (Ne.symm haD1) hy) hp7).symm
      have npa : p ≠ a := (w6.ne hp7).symm
      refine ⟨us, hD27, ?_, (b6.trans b7).new hD2, ?_, _, rr ++ [ns], upd_same, ?_, by rw [List.length_append, hul]; rfl, fun r hr => ?_⟩
      · rw [au.len, hul]
        exact Nat.lt_of_lt_of_le (show j < 100 by omega) (by decide)
      · rw [show n + 3 + 21 * (i : Int) + 5 * ((j + 1 : Nat) : Int) = n + 3 + 21 * (i : Int) + 5 * (j : Int) + 5 by omega]
        exact w7.but haD2 But.at
      · refine A2.snoc (au.imp fun _ _ r => r.mono (vw_mono fun b o h f e => ⟨h, ?_⟩)) ⟨p, rfl, vw_put ((p2_ok p).mpr ⟨npa, np1, np2⟩) (by rw [upd_ne np2]; exact hp7')⟩
        obtain ⟨z1, z2, z3⟩ := (p2_ok b).mp h
        rw [upd_ne z3]
        exact b7 _ _ z1 e
      · rcases List.mem_append.mp hr with h | h
        · exact hub r h
        · obtain rfl := List.mem_singleton.mp h
          exact ⟨l1, l2, l3, l4⟩
    · rintro H6 ⟨b6, w6, us, rr, hu6, au, hul, hub⟩
      have hy6 := b6 _ _ (Ne.symm haD1) hy
      refine ⟨ys, hy6, ?_, (b5.trans b6).new hD1, ?_, _, rs ++ [rr], upd_same, ?_, by rw [List.length_append, hrl]; rfl, fun k' rr' e => ?_⟩
      · rw [ay.len, hrl]
        exact Nat.lt_of_lt_of_le hi (by decide)
      · refine WellAt.up (n := n + 3 + 21 * (i : Int) + 5 * (k : Int)) (w6.but haD1 But.at) ?_
        have : k ≤ 4 := by omega
        omega
      · refine A2.snoc (ay.imp fun _ _ r => r.mono (vw_mono fun b o h f e => ⟨h, ?_⟩)) ⟨D2, us, rfl, vw_put ((p1_ok D2).mpr ⟨Ne.symm haD2, Ne.symm hD12⟩) (by rw [upd_ne (Ne.symm hD12)]; exact hu6), au.imp fun _ _ r => r.mono (vw_mono fun b o h f e => ?_)⟩
        · obtain ⟨z1, z2⟩ := (p1_ok b).mp h
          rw [upd_ne z2]
          exact b6 _ _ z1 e
        · obtain ⟨z1, z2, z3⟩ := (p2_ok b).mp h
          exact ⟨(p1_ok b).mpr ⟨z1, z2⟩, by rw [upd_ne z2]; exact e⟩
      · by_cases c : k' < rs.length
        · rw [List.getElem?_append_left c] at e
          exact hrr k' rr' e
        · have c2 : k' = rs.length := by
            have := (List.getElem?_eq_some_iff.mp e).1
            rw [List.length_append] at this
            have e1 : ([rr] : List (List (List Int))).length = 1 := rfl
            omega
          subst c2
          rw [List.getElem?_append_right (Nat.le_refl _), Nat.sub_self] at e
          obtain rfl : rr = rr' := by simpa using e
          refine ⟨?_, hub⟩
          rw [hul, hk2, hrl]
  · rintro H5 ⟨b5, w5, ys, rs, hy, ay, hrl, hrr⟩
    have hLm5 := b5 _ _ (Ne.symm hLa) hLm4
    let al : Nat → List (List Int) := fun h => rs.getD h []
    have hal : A2 (RowsAt (vw p1 H5)) ys [al 0, al 1] := by
      have := two_list hrl
      rw [this] at ay
      exact ay
    have halP : ∀ h, h < 2 → (al h).length = (if h = 0 then n0 else n1) ∧ ∀ r ∈ al h, (1 ≤ r.length ∧ r.length ≤ 4 ∧ r.Pairwise (· < ·) ∧ ∀ x ∈ r, 0 ≤ x ∧ x < g) := fun h hh => by
      refine hrr h (al h) ?_
      show rs[h]? = some (rs.getD h [])
      rw [List.getD_eq_getElem?_getD, List.getElem?_eq_getElem (show h < rs.length by omega)]
      rfl
    have hAl : AlAt (vw (pA a) H5) (.ref D1) al := by
      refine al_of (vw_put (pA_ok.mpr (Ne.symm haD1)) hy) (hal.imp fun _ _ r => r.mono (vw_mono fun b o h f e => ⟨pA_ok.mpr ((p1_ok b).mp h).1, e⟩))
    intro B hB
    have s6 := same_new hB (.dT [])
    have haB : a ≠ B := w5.ne hB
    have b0B : But a H (upd H5 B (.dT [])) := (b04.trans b5).trans (.same s6)
    refine ⟨_, rfl, Lm, _, _, _, rfl, rfl, SqL.of (s6 _ _ hLm5), (by rfl), (n0 : Int), rfl, by omega, by omega, ?_⟩
    have hBn : H B = none := none_of_but (b04.trans b5) (Ne.symm haB) hB
    have hDn : H D1 = none := none_of_but b04 (Ne.symm haD1) hD1
    have hBD : B ≠ D1 := (ne_of_none hy hB).symm
    have hBL : B ≠ Lm := (ne_of_none hLm5 hB).symm
    have q04 : n0 ≤ 4 := by omega
    have q14 : n1 ≤ 4 := by omega
    refine for_range (n := n0) (fun i σ H' => ∃ g4 g7, σ = [some (.ref a), some (.int m), some (.ref Lm), some (.int g), g4, some (.ref D1), some (.ref B), g7, none] ∧ PIn H a Lm D1 B n0 n1 n al i 0 H') ⟨_, _, rfl, [], [], b0B, s6 _ _ hLm5, ?_, hAl.mono (vwA_but (.same s6)), upd_same, .nil, .nil, (fun e he => nomatch he), (fun x y hx => ?_), Nat.zero_le _⟩ ?_ ?_
    · refine WellAt.up (w5.same s6) ?_
      omega
    · rcases hx with ⟨h1, _⟩ | ⟨_, h2⟩
      · exact absurd h1 (Nat.not_lt_zero _)
      · exact absurd h2 (Nat.not_lt_zero _)
    · rintro i σ H' hi ⟨g4, g7, rfl, hP⟩
      have ej : (0 : Int) + (i : Int) = (i : Int) := by omega
      rw [ej]
      have hL' : H' Lm = some (.lst [V.int (n0 : Int), V.int (n1 : Int)]) := by
        obtain ⟨bo, kvs, _, h, _⟩ := hP
        exact h
      refine ⟨_, rfl, Lm, _, _, _, rfl, rfl, SqL.of hL', (by rfl), (n1 : Int), rfl, by omega, by omega, ?_⟩
      refine for_range (n := n1) (fun j σ H' => ∃ g7, σ = [some (.ref a), some (.int m), some (.ref Lm), some (.int g), some (.int (i : Int)), some (.ref D1), some (.ref B), g7, none] ∧ PIn H a Lm D1 B n0 n1 n al i j H') ⟨_, rfl, hP⟩ ?_ ?_
      · clear hP hL'
        rintro j σ H' hj ⟨g7, rfl, bo, kvs, bH, hL', wH, hA', hB', ha', hsr, hrg, hcv, hbl⟩
        have ej : (0 : Int) + (j : Int) = (j : Int) := by omega
        rw [ej]
        refine ⟨_, rfl, _, rfl, Lm, _, _, _, rfl, rfl, SqL.of hL', (by rfl), _, _, rfl, rfl, (by show (0 : Int) < (n1 : Int); omega), _, rfl, rfl, _, rfl, ?_⟩
        have skip : ∀ Hc, ¬ (i % n1 = j ∨ j % n0 = i) → But a H' Hc → WellAt Hc a (n + 60 + 70 * (i : Int) + 17 * (j : Int) + 1) → PIn H a Lm D1 B n0 n1 n al i (j + 1) Hc := fun Hc nc bc wc => by
          refine ⟨bo, kvs, bH.trans bc, bc _ _ (Ne.symm hLa) hL', wc.up (by omega), hA'.mono (vwA_but bc), bc _ _ (Ne.symm haB) hB', ha'.imp fun _ _ r => r.mono (vwA_but bc), hsr, fun e he => ?_, fun x y h c => ?_, by omega⟩
          · obtain ⟨h1, h2⟩ := hrg e he
            exact ⟨by omega, h2⟩
          · rcases h with h | ⟨h1, h2⟩
            · exact hcv x y (.inl h) c
            · rcases Nat.lt_succ_iff_lt_or_eq.mp h2 with h3 | h3
              · exact hcv x y (.inr ⟨h1, h3⟩) c
              · subst h1; subst h3
                exact absurd c nc
        have body : ∀ (D : Ends) (Hc : Hp), But a H' Hc → WellAt Hc a (n + 60 + 70 * (i : Int) + 17 * (j : Int) + 1) → (∀ Hn, PIn H a Lm D1 B n0 n1 n al i (j + 1) Hn → D.nx [some (.ref a), some (.int m), some (.ref Lm), some (.int g), some (.int (i : Int)), some (.ref D1), some (.ref B), some (.int (j : Int)), none] Hn) →
            sDPut (tVar 6) (tTup (tCons (tVar 4) (tCons (tVar 7) tNil))) (tCall spOuts2 [] E0 (tCons (tVar 0) (tCons (tVar 3) tNil))) D [some (.ref a), some (.int m), some (.ref Lm), some (.int g), some (.int (i : Int)), some (.ref D1), some (.ref B), some (.int (j : Int)), none] Hc := by
          intro D Hc bc wc next
          refine ⟨_, rfl, _, rfl, a, _, g, rfl, .inr wc, by omega, by omega, hg2, by omega, fun p xs l H6 b6 hp6 hp6' ax w6 okl => ?_⟩
          refine ⟨_, rfl, _, rfl, _, rfl, (by show 2 ≤ sizeLine; decide), fun t ht => ?_⟩
          have s7 := same_new ht (.tup [V.int (i : Int), V.int (j : Int)])
          have bcc := bc.trans b6
          have hB6 : H6 B = some (.dT kvs) := bcc _ _ (Ne.symm haB) hB'
          have hvn : valV kvs (kI (i, j)) = none := valV_noneP fun e he c => by
            obtain ⟨y, hy1, hy2, _⟩ := ha'.mem he
            rw [hy2] at c
            have c := kI_inj c
            have h1 := (hrg y hy1).1
            rw [c] at h1
            have h1 : i < i ∨ (i = i ∧ j < j) := h1
            omega
          have hsz : kvs.length ≤ 20 := by rw [ha'.len]; omega
          refine ⟨B, _, rfl, DPut.t (k := kI (i, j)) (s7 _ _ hB6) upd_same (Nat.lt_of_le_of_lt hsz (by decide)), ?_⟩
          rw [putK_new _ hvn]
          have hB7 := s7 _ _ hB6
          have kpA : Kp (vw (pA a) H') (vw (pA a) (upd (upd H6 t (.tup [V.int (i : Int), V.int (j : Int)])) B (.dT (kvs ++ [(kI (i, j), V.ref p)])))) := ((vwA_but (bcc.trans (.same s7)))).trans (vwA_put hB7)
          have npa : p ≠ a := (wc.ne hp6).symm
          have npB : p ≠ B := fun c => by subst c; rw [bc _ _ (Ne.symm haB) hB'] at hp6; cases hp6
          refine next _ ⟨bo ++ [((i, j), l)], _, ((bH.trans bcc).trans (.same s7)).new hBn, by rw [upd_ne (Ne.symm hBL)]; exact s7 _ _ (bcc _ _ (Ne.symm hLa) hL'), ((w6.same s7).but haB But.at).up (by omega), hA'.mono kpA, upd_same, ?_, ?_, ?_, ?_, ?_⟩
          · refine A2.snoc (ha'.imp fun _ _ r => r.mono kpA) ⟨rfl, p, xs, rfl, vw_put (pA_ok.mpr npa) (by rw [upd_ne npB]; exact s7 _ _ hp6'), ?_⟩
            obtain ⟨z6, e6⟩ := w6.lst
            refine ax.imp fun v xy r => ?_
            obtain ⟨tt, rfl, htt⟩ := r
            have nta : tt ≠ a := ne_of htt e6 (fun z => by cases z)
            have ntB : tt ≠ B := ne_of htt hB6 (fun z => by cases z)
            exact ⟨tt, rfl, vw_put (pA_ok.mpr nta) (by rw [upd_ne ntB]; exact s7 _ _ htt)⟩
          · rw [List.map_append]
            refine List.pairwise_append.mpr ⟨hsr, by simp, fun x hx y hy => ?_⟩
            obtain ⟨e, he, rfl⟩ := List.mem_map.mp hx
            obtain rfl : y = (i, j) := by simpa using hy
            exact (hrg e he).1
          · intro e he
            rcases List.mem_append.mp he with h | h
            · obtain ⟨h1, h2⟩ := hrg e h
              exact ⟨by omega, h2⟩
            · obtain rfl := List.mem_singleton.mp h
              exact ⟨.inr ⟨rfl, Nat.lt_succ_self _⟩, hi, hj, okL_let okl (by omega), okL_B okl (by omega)⟩
          · intro x y h c
            rcases h with h | ⟨h1, h2⟩
            · obtain ⟨e, he, h3⟩ := hcv x y (.inl h) c
              exact ⟨e, List.mem_append_left _ he, h3⟩
            · rcases Nat.lt_succ_iff_lt_or_eq.mp h2 with h3 | h3
              · obtain ⟨e, he, h4⟩ := hcv x y (.inr ⟨h1, h3⟩) c
                exact ⟨e, List.mem_append_left _ he, h4⟩
              · subst h1; subst h3
                exact ⟨_, List.mem_append_right _ (List.mem_singleton.mpr rfl), rfl⟩
          · rw [List.length_append]
            have e1 : ([((i, j), l)] : BD).length = 1 := rfl
            omega
        by_cases c1 : i % n1 = j
        · exact iteT' (mod_dec.trans (decide_eq_true c1)) (iteT (body _ H' (.same (Same.refl _)) (wH.up (by omega)) fun Hn h => ⟨_, rfl, h⟩))
        refine iteF' (mod_dec.trans (decide_eq_false c1)) ?_
        refine ⟨_, rfl, _, rfl, Lm, _, _, _, rfl, rfl, SqL.of hL', (by rfl), _, _, rfl, rfl, (by show (0 : Int) < (n0 : Int); omega), _, rfl, rfl, _, rfl, ?_⟩
        by_cases c2 : j % n0 = i
        · exact iteT' (mod_dec.trans (decide_eq_true c2)) (iteT (body _ H' (.same (Same.refl _)) (wH.up (by omega)) fun Hn h => ⟨_, rfl, h⟩))
        refine iteF' (mod_dec.trans (decide_eq_false c2)) ?_
        refine ⟨_, rfl, a, _, 3, rfl, .inr wH, by omega, by omega, by decide, by decide, fun r5 H6 r50 r51 b6 w6 => ?_⟩
        refine ⟨_, _, rfl, rfl, _, rfl, ?_⟩
        by_cases c3 : (0 : Int) < r5
        · exact iteT' (decide_eq_true c3) (body _ H6 b6 w6 fun Hn h => ⟨_, rfl, h⟩)
        · exact iteF' (decide_eq_false c3) ⟨_, rfl, skip H6 (fun c => c.elim c1 c2) b6 w6⟩
      · rintro σ H2 ⟨g7, rfl, bo, kvs, bH, hL', wH, hA', hB', ha', hsr, hrg, hcv, hbl⟩
        refine ⟨_, _, rfl, bo, kvs, bH, hL', wH.up (by omega), hA', hB', ha', hsr, fun e he => ?_, fun x y hx c => ?_, by omega⟩
        · obtain ⟨h1, h2⟩ := hrg e he
          exact ⟨by omega, h2⟩
        · rcases hx with ⟨h, hy⟩ | ⟨_, h⟩
          · rcases Nat.lt_succ_iff_lt_or_eq.mp h with h | h
            · exact hcv x y (.inl ⟨h, hy⟩) c
            · exact hcv x y (.inr ⟨h, hy⟩) c
          · exact absurd h (Nat.not_lt_zero _)
    · rintro σ H' ⟨g4, g7, rfl, bo, kvs, bH, hL', wH, hA', hB', ha', hsr, hrg, hcv, hbl⟩
      refine ⟨_, rfl, _, rfl, (by show 2 ≤ sizeLine; decide), fun r hr => ?_⟩
      have s8 := same_new hr (.tup [V.ref D1, V.ref B])
      have hrn : H r = none := none_of_but bH (Ne.symm (wH.ne hr)) hr
      have e0 : (al 0).length = n0 := (halP 0 (by decide)).1
      have e1 : (al 1).length = n1 := (halP 1 (by decide)).1
      refine q r D1 B ⟨al, bo⟩ _ (bH.trans (.same s8)) hrn hDn hBn upd_same (hA'.mono (vwA_but (.same s8))) ⟨kvs, s8 _ _ hB', ha'.imp fun _ _ r => r.mono (vwA_but (.same s8))⟩ ((wH.same s8).up (by omega)) ⟨fun h hh => ?_, fun h hh r hr => ?_, (hsr.imp fun h => ltN_ne h), fun e he => ?_, fun e he => (hrg e he).2.2.2.1, fun x hx => ?_, fun y hy => ?_, by show bo.length ≤ 60; omega⟩ (fun h hh => ?_) (fun h hh r hr => ⟨((halP h hh).2 r hr).2.1, fun x hx => by have := (((halP h hh).2 r hr).2.2.2 x hx).2; omega⟩) (fun e he => (hrg e he).2.2.2.2) (by show bo.length ≤ 16; omega) hsr
      · obtain rfl | rfl : h = 0 ∨ h = 1 := by omega
        · show 1 ≤ (al 0).length ∧ (al 0).length ≤ 20
          omega
        · show 1 ≤ (al 1).length ∧ (al 1).length ≤ 20
          omega
      · obtain ⟨z1, z2, z3, z4⟩ := (halP h hh).2 r hr
        exact ⟨z1, by omega, z3, fun x hx => ⟨(z4 x hx).1, by have := (z4 x hx).2; omega⟩⟩
      · show e.1.1 < (al 0).length ∧ e.1.2 < (al 1).length
        rw [e0, e1]
        exact ⟨(hrg e he).2.1, (hrg e he).2.2.1⟩
      · have hx : x < n0 := by rw [← e0]; exact hx
        obtain ⟨e, he, h⟩ := hcv x (x % n1) (.inl ⟨hx, Nat.mod_lt _ (by omega)⟩) (.inl rfl)
        exact ⟨e, he, by rw [h]⟩
      · have hy : y < n1 := by rw [← e1]; exact hy
        obtain ⟨e, he, h⟩ := hcv (y % n0) y (.inl ⟨Nat.mod_lt _ (by omega), hy⟩) (.inr rfl)
        exact ⟨e, he, by rw [h]⟩
      · obtain rfl | rfl : h = 0 ∨ h = 1 := by omega
        · show (((al 0).length : Nat) : Int) ≤ m
          omega
        · show (((al 1).length : Nat) : Int) ≤ m
          omega
end
end TA

set_option Elab.async false
set_option maxRecDepth 100000
set_option maxHeartbeats 4000000
namespace TA
open PySem L2 PyProof.Rows
set_option linter.unusedVariables false
theorem eqv_nil (ds : List PyData) : PyData.eqv (.list ds) (.list []) = ds.isEmpty := by
  cases ds with
  | nil => rfl
  | cons _ _ => rfl
theorem okD_nil : Ok 2 (.list []) := ok_list fun d hd => by cases hd
theorem dpAll_app {K : PySem.W.Frag} {H : Hp} : ∀ {us : List V} {es : List PyData} {vs : List V} {ds : List PyData}, DpAll K H us es → DpAll K H vs ds → DpAll K H (us ++ vs) (es ++ ds)
  | _, _, _, _, .nil, k => k
  | _, _, _, _, .cons a r, k => .cons a (dpAll_app r k)
def badL (f : PyData → Bool) (es : List PyData) : List PyData := es.filter fun e => !f e
theorem badL_empty (f : PyData → Bool) : ∀ es : List PyData, (badL f es).isEmpty = (es.map f).all id
  | [] => rfl
  | e :: es => by
    have ih := badL_empty f es
    unfold badL at ih ⊢
    cases c : f e with
    | true =>
      rw [List.filter_cons_of_neg (by rw [c]; decide), ih, List.map_cons, List.all_cons, c]
      rfl
    | false =>
      rw [List.filter_cons_of_pos (by rw [c]; rfl), List.map_cons, List.all_cons, c]
      rfl
theorem badL_mem {f : PyData → Bool} {es : List PyData} {e : PyData} (h : e ∈ badL f es) : e ∈ es := (List.mem_filter.mp h).1
/-- the bad ones found up to j, in the list at L -/
def BadAt (K : PySem.W.Frag) (H : Hp) (L : Addr) (f : PyData → Bool) (es : List PyData) (j : Nat) (H' : Hp) : Prop := ∃ ys, H' L = some (.lst ys) ∧ ys.length ≤ j ∧ DpAll K H ys (badL f (es.take j))
theorem BadAt.skip {K : PySem.W.Frag} {H : Hp} {L : Addr} {f : PyData → Bool} {es : List PyData} {j : Nat} {H' : Hp} {e : PyData} (b : BadAt K H L f es j H') (h : es[j]? = some e) (c : f e = true) : BadAt K H L f es (j + 1) H' := by
  obtain ⟨ys, h1, h2, h3⟩ := b
  refine ⟨ys, h1, by omega, ?_⟩
  unfold badL at h3 ⊢
  rw [take_get h, filt_snoc, c]
  exact h3
theorem BadAt.put {K : PySem.W.Frag} {H : Hp} {L : Addr} {f : PyData → Bool} {es : List PyData} {j : Nat} {H' : Hp} {e : PyData} {u : V} (b : BadAt K H L f es j H') (h : es[j]? = some e) (c : f e = false) (hu : Dp K H u e) : ∃ ys, H' L = some (.lst ys) ∧ ys.length ≤ j ∧ BadAt K H L f es (j + 1) (upd H' L (.lst (ys ++ [u]))) := by
  obtain ⟨ys, h1, h2, h3⟩ := b
  refine ⟨ys, h1, h2, ys ++ [u], upd_same, by rw [List.length_append]; exact Nat.succ_le_succ h2, ?_⟩
  unfold badL at h3 ⊢
  rw [take_get h, filt_snoc, c]
  exact dpAll_app h3 (.cons hu .nil)
theorem BadAt.same {K : PySem.W.Frag} {H : Hp} {L : Addr} {f : PyData → Bool} {es : List PyData} {j : Nat} {H' H2 : Hp} (b : BadAt K H L f es j H') (s : Same H' H2) : BadAt K H L f es j H2 := by
  obtain ⟨ys, h1, h2, h3⟩ := b
  exact ⟨ys, s _ _ h1, h2, h3⟩
def spLWh (K : PySem.W.Frag) : Sp := fun vs H Q _ => ∃ (v : V) (d : PyData) (lo hi : Int), vs = [v, .int lo, .int hi] ∧ Dp K H v d ∧ Q (.bl (within d lo hi)) H
section
variable {P : Program} {w : World} {K : PySem.W.Frag} {mg : Str → Option Value} {base : Heap}
abbrev nLWh : List Str := ["_law_thing", "_law_low", "_law_high"]
theorem sc_lwh : FnScope nLWh nLWh (defScope s__law_whole) := ⟨rfl, rfl, rfl, by decide +kernel, rfl, by decide +kernel, by decide +kernel⟩
theorem ok_lwh {f : Addr} {fd : FuncData} (F : Fun K "_law_whole" "_law_whole" s__law_whole f fd) (T : Txt K mg) : FnOk P w K mg base CX0 1 f fd nLWh (spLWh K) := by
  refine F.ok sc_lwh (fun vs H Q E h => ?_) (fun cdv A outer s H vs Q E hr h => ?_)
  · obtain ⟨v, d, lo, hi, rfl, _⟩ := h
    rfl
  obtain ⟨v, d, lo, hi, rfl, hk, q⟩ := h
  refine ⟨_, (pss_one (ps_ret (pe_and (pe_callB call_isi (by rfl) T.isi boot_isinstance (pa_cons (pv 0) (pa_cons (pe_bltn (v := .ty "int") (by rfl) T.int boot_int rfl) pa_nil))) (pe_and (pe_not (pe_callB call_isi (by rfl) T.isi boot_isinstance (pa_cons (pv 0) (pa_cons (pe_bltn (v := .ty "bool") (by rfl) T.bool boot_bool rfl) pa_nil)))) (pe_one (pe_chain op_le op_le (pv 1) (pv 0) (pv 2))))))), ?_⟩
  obtain ⟨b1, b2, e1, e2, e3⟩ := kit_int d (K := K)
  refine ⟨_, rfl, v, V.ty "int", _, _, b1, rfl, .ty "int", (dp_ty hk), e1, b1, rfl, ?_⟩
  by_cases hw : ∃ n, d = .int n
  · obtain ⟨n, rfl⟩ := hw
    have ev : v = .int n := by
      cases hk; rfl
    subst ev
    have e3 : true = (b1 && !b2) := e3
    cases b1 with
    | false => cases e3
    | true =>
    cases b2 with
    | true => cases e3
    | false =>
    refine iteT ⟨_, rfl, V.int n, V.ty "bool", _, _, false, rfl, .ty "bool", (dp_ty hk), e2, false, rfl, true, rfl, ?_⟩
    refine iteT ⟨_, rfl, _, rfl, _, _, rfl, rfl, _, rfl, ?_⟩
    by_cases h1 : lo ≤ n
    · rw [decide_eq_true h1]
      refine iteT ⟨_, rfl, _, _, rfl, rfl, ?_⟩
      have e : within (.int n) lo hi = decide (n ≤ hi) := by unfold within; simp [h1]
      rw [e] at q
      exact q
    · rw [decide_eq_false h1]
      refine iteF ?_
      have e : within (.int n) lo hi = false := by unfold within; simp [h1]
      rw [e] at q
      exact q
  · have e1 : isWholeD d = false := by
      cases d with
      | int n => exact absurd ⟨n, rfl⟩ hw
      | _ => rfl
    have e2' : within d lo hi = false := by
      cases d with
      | int n => exact absurd ⟨n, rfl⟩ hw
      | _ => rfl
    rw [e2'] at q
    rw [e1] at e3
    cases b1 with
    | false => exact iteF q
    | true =>
    cases b2 with
    | false => cases e3
    | true =>
    refine iteT ⟨_, rfl, v, V.ty "bool", _, _, true, rfl, .ty "bool", (dp_ty hk), e2, true, rfl, false, rfl, iteF q⟩
def okRowD (d : PyData) : Prop := ∀ es, d = .list es → es.length ≤ 100 ∧ ∀ e ∈ es, Ok 5 e
def spLOu (K : PySem.W.Frag) : Sp := fun vs H Q _ => (∃ (v : V) (d : PyData) (m : Nat), vs = [v, .int (m : Int)] ∧ Dp K H v d ∧ okRowD d ∧ ∀ H', Same H H' → Q (.bl (rowB d m)) H') ∨
  ∃ (a : Addr) (kvs : List (List Key × V)) (m : Nat), vs = [.ref a, .int (m : Int)] ∧ H a = some (.dT kvs) ∧ Q (.bl false) H
abbrev nLOu : List Str := ["_law_thing", "_law_many", "_law_one"]
theorem sc_lou : FnScope nLOu ["_law_thing", "_law_many"] (defScope s__law_outputs) := ⟨rfl, rfl, rfl, by decide +kernel, rfl, by decide +kernel, by decide +kernel⟩
theorem dp_list {K : PySem.W.Frag} {H : Hp} {v : V} {es : List PyData} (h : Dp K H v (.list es)) : ∃ l us, v = .ref l ∧ SqL K H l us ∧ DpAll K H us es := by
  cases h with
  | lst a b => exact ⟨_, _, rfl, a, b⟩
theorem ok_lou {f g1 : Addr} {fd d1 : FuncData} (F : Fun K "_law_outputs" "_law_outputs" s__law_outputs f fd) (T : Txt K mg) (Wh : Def P w K mg base "_law_whole" nLWh 1 (spLWh K) g1 d1) : FnOk P w K mg base CX0 2 f fd ["_law_thing", "_law_many"] (spLOu K) := by
  refine F.ok sc_lou (fun vs H Q E h => ?_) (fun cdv A outer s H vs Q E hr h => ?_)
  · rcases h with ⟨v, d, m, rfl, _⟩ | ⟨a, k, m, rfl, _⟩
    · rfl
    · rfl
  have nd := sc_lou.nd
  refine ⟨_, (pss_one (ps_ret (pe_and (pe_callB call_isi (by rfl) T.isi boot_isinstance (pa_cons (pv 0) (pa_cons (pe_bltn (v := .ty "list") (by rfl) T.list boot_list rfl) pa_nil))) (pe_and (pe_cmpR op_eq (pe_callB call_len_seq (by rfl) T.len PySem.boot_len (pa_cons (pv 0) pa_nil)) (pv 1) (nomark _)) (pe_one (pe_cmpR (op_eqD hr.units) (pe_lc (own := [("_law_one", 2)]) (g := (gName 2)) (tt := (tNot (tTest (tCall (spLWh K) [] E0 (tCons (tVar 2) (tCons (tC (.int 0)) (tCons (tC (.int 63)) tNil))))))) (te := (tVar 2)) rfl nd (pi_list (pv 0)) (blkOk_by (N := nLOu) (sc := defScope s__law_outputs) (by decide +kernel)) (fun _ _ _ _ _ => (by exact (pg_name (i := 2) nd rfl (Or.inl rfl)))) (fun _ _ _ _ _ => pts_one (by exact (pt_not (pt_val (pe_call Wh.G (hr.mono (by decide)) rfl Wh.m Wh.k Wh.b .nil pass0 (pa_cons (pv 2) (pa_cons pe_int (pa_cons pe_int pa_nil)))))))) (fun _ _ _ _ _ => (by exact (pv 2)))) (pe_lst pa_nil) (nomark _))))))), ?_⟩
  rcases h with ⟨v, d, m, rfl, hk, hz, q⟩ | ⟨a, k, m, rfl, ha, q⟩
  case inr => exact ⟨_, rfl, V.ref a, .ty "list", .type "dict", .type "list", false, rfl, .ty "list", .base (.dT ha), kit_ty (by decide +kernel), _, rfl, iteF q⟩
  refine ⟨_, rfl, v, .ty "list", _, _, isLstD d, rfl, .ty "list", dp_ty hk, kit_lst d, _, rfl, ?_⟩
  cases cl : isLstD d with
  | false =>
    have : rowB d m = false := by cases d <;> first | rfl | cases cl
    rw [this] at q
    exact iteF (q _ (Same.refl H))
  | true =>
    obtain ⟨ds, rfl⟩ : ∃ ds, d = .list ds := by cases d <;> first | exact ⟨_, rfl⟩ | cases cl
    obtain ⟨p, vs, rfl, hS, hD⟩ := dp_list hk
    have hl := dpAll_len hD
    obtain ⟨hds, hok⟩ := hz ds rfl
    have eO : rowB (.list ds) m = (decide (ds.length = m) && (ds.map outB).all id) := rfl
    refine iteT ⟨_, rfl, p, _, rfl, .inl hS, _, rfl, rfl, _, rfl, ?_⟩
    rw [hl, dec_nat]
    by_cases c : ds.length = m
    case neg =>
      rw [eO, decide_eq_false c, Bool.false_and] at q
      refine iteF' (decide_eq_false c) ?_
      exact q _ (Same.refl H)
    rw [eO, decide_eq_true c, Bool.true_and] at q
    refine iteT' (decide_eq_true c) ?_
    refine ⟨_, rfl, p, rfl, ⟨_, hS⟩, fun L hL => ?_⟩
    refine list_turns (xs := vs) (fun i H' => Same H H' ∧ BadAt K H L outB ds i H') ⟨same_new hL _, [], upd_same, Nat.le_refl _, .nil⟩ (fun i H' _ h => h.1.seq hS) ?_ ?_
    · rintro i x H' hx ⟨s1, b1⟩
      obtain ⟨di, hdi, hxi⟩ := dpAll_get hD hx
      have hi : i < ds.length := (List.getElem?_eq_some_iff.mp hdi).1
      refine ⟨rfl, _, rfl, x, di, _, _, rfl, dp_mono s1 _ _ hxi, _, rfl, ?_⟩
      have eo : within di 0 63 = outB di := rfl
      rw [eo]
      cases co : outB di with
      | true => exact iteF ⟨s1, b1.skip hdi co⟩
      | false =>
        obtain ⟨ys, h1, h2, h3⟩ := b1.put hdi co hxi
        refine iteT ⟨_, rfl, ys, h1, Nat.lt_of_le_of_lt h2 (Nat.lt_of_lt_of_le hi (Nat.le_trans hds (by decide))), same_upd s1 hL, h3⟩
    · rintro H1 ⟨s1, ys, h1, h2, h3⟩
      refine ⟨(by show 0 ≤ sizeLine; decide), fun l hl' => ?_⟩
      have s7 := same_new hl' (.lst [])
      rw [hl, List.take_length] at h3
      refine ⟨_, _, Dp.lst (SqL.of (s7 _ _ h1)) (dpAll_mono (s1.trans s7) _ _ h3), Dp.lst (SqL.of upd_same) .nil, (ok_list (n := 5) fun e he => hok e (badL_mem he)).shaped (by decide), okD_nil.shaped (by decide), ?_⟩
      rw [eqv_nil, badL_empty]
      exact q _ (s1.trans s7)
end
end TA


set_option Elab.async false
set_option maxRecDepth 100000
set_option maxHeartbeats 4000000
namespace TA
open PySem L2 PyProof.Rows
set_option linter.unusedVariables false
theorem AlAt.rowAt {H : Hp} {v : V} {al : Nat → List (List Int)} (hA : AlAt H v al) {h a : Nat} (hh : h < 2) (ha : a < (al h).length) : ∃ t x0 x1 r xs r4, v = .ref t ∧ H t = some (.lst [x0, x1]) ∧ ([x0, x1] : List V)[h]? = some (.ref r) ∧ H r = some (.lst xs) ∧ xs[a]? = some (.ref r4) ∧ H r4 = some (.lst (((al h).getD a []).map V.int)) ∧ (al h).getD a [] ∈ al h ∧ xs.length = (al h).length := by
  obtain ⟨t, x0, x1, rfl, ht, hrow⟩ := hA.row
  obtain ⟨x, hx, r, xs, rfl, hr, ha2⟩ := hrow h hh
  have e1 : (al h)[a]? = some ((al h).getD a []) := by
    rw [List.getD_eq_getElem?_getD, List.getElem?_eq_getElem ha]
    rfl
  obtain ⟨y, hy, r4, rfl, hr4⟩ := ha2.at e1
  exact ⟨t, x0, x1, r, xs, r4, rfl, ht, hx, hr, hy, hr4, List.mem_of_getElem? e1, ha2.len⟩
theorem for_enum {K : PySem.W.Frag} {a : Addr} {xs : List V} {g : TG} {tb : TS} {D : Ends} {σ : L2.St} {H : Hp} (Pv : Nat → L2.St → Hp → Prop) (h0 : Pv 0 σ H) (hq : ∀ i σ H, Pv i σ H → SqL K H a xs)
    (hs : ∀ (i : Nat) (x : V) (T : Addr) (σ : L2.St) (H : Hp), xs[i]? = some x → Pv i σ H → H T = none → g (.ref T) σ (upd H T (.tup [.int (i : Nat), x])) fun σ2 H2 => tb { D with nx := Pv (i + 1), ct := Pv (i + 1), bk := D.nx } σ2 H2) (hd : ∀ σ H, Pv xs.length σ H → D.nx σ H) :
    ∃ W : Nat → Nat → L2.St → Hp → Prop, (∃ m, W 0 m σ H) ∧ ∀ i m σ H, W i m σ H →
      ((Ite K a).stop i H ∧ D.nx σ H) ∨ ((Ite K a).go i H ∧ ∃ N : L2.St → Hp → Prop, (∀ σ' H', N σ' H' → ∃ m', m' < m ∧ W (i + 1) m' σ' H') ∧ ∀ v H', (Ite K a).yld i H v H' → g v σ H' fun σ2 H2 => tb { D with nx := N, ct := N, bk := D.nx } σ2 H2) := by
  refine ⟨fun i m σ H => m = xs.length - i ∧ i ≤ xs.length ∧ Pv i σ H, ⟨xs.length, rfl, Nat.zero_le _, h0⟩, ?_⟩
  rintro i m σ H ⟨rfl, hi, p⟩
  have qx := hq i σ H p
  by_cases hlt : i < xs.length
  · have hx : xs[i]? = some xs[i] := List.getElem?_eq_getElem hlt
    refine .inr ⟨⟨xs, _, qx, hx⟩, Pv (i + 1), fun σ' H' p' => ⟨xs.length - (i + 1), by omega, rfl, hlt, p'⟩, fun v H' y => ?_⟩
    obtain ⟨T, x', rfl, hT, rfl, f1⟩ := y
    exact hs i x' T σ H (f1 xs qx) p hT
  · have e : i = xs.length := by omega
    subst e
    exact .inl ⟨⟨xs, qx, Nat.le_refl _⟩, hd σ H p⟩
def okBarD (d : PyData) : Prop := ∀ x y es, d = .tuple [x, y, .list es] → ∀ e ∈ es, Ok 5 e
def spLBar (K : PySem.W.Frag) : Sp := fun vs H Q _ => ∃ (al B : Addr) (v : V) (T : TD) (d : PyData), vs = [.ref al, .ref B, v] ∧ AlAt H (.ref al) T.al ∧ BoAt H B T.bo ∧ WF T ∧ Dp K H v d ∧ okBarD d ∧
  (((¬ ∃ h a bs, BarG T d h a bs) ∧ ∀ r H', Same H H' → H' r = some (.tup [.str "form"]) → Q (.ref r) H') ∨
   ∃ h a bs, BarG T d h a bs ∧ ∀ fv H', Same H H' → BarRes T h a bs fv H' → Q fv H')
section
variable {P : Program} {w : World} {K : PySem.W.Frag} {mg : Str → Option Value} {base : Heap}
abbrev nLB : List Str := ["_law_alone", "_law_both", "_law_thing", "_law_hand", "_law_a", "_law_others", "_law_k", "_law_b", "_law_pair", "_law_told", "_law_outs_here"]
theorem sc_lb : FnScope nLB ["_law_alone", "_law_both", "_law_thing"] (defScope s__law_bar_due) := ⟨rfl, rfl, rfl, by decide +kernel, rfl, by decide +kernel, by decide +kernel⟩
theorem ok_lb {f g1 : Addr} {fd d1 : FuncData} (F : Fun K "_law_bar_due" "_law_bar_due" s__law_bar_due f fd) (T : Txt K mg) (T2 : Txt2 K mg) (En : mg "enumerate" = none) (Wh : Def P w K mg base "_law_whole" nLWh 1 (spLWh K) g1 d1) : FnOk P w K mg base CX0 2 f fd ["_law_alone", "_law_both", "_law_thing"] (spLBar K) := by
  refine F.ok sc_lb (fun vs H Q E h => ?_) (fun cdv A outer s H vs Q E hr h => ?_)
  · obtain ⟨al, B, v, D, d, rfl, _⟩ := h
    rfl
  obtain ⟨al, B, v, D, d, rfl, hA, hB, hW, hk, hz, hcase⟩ := h
  have nd := sc_lb.nd
  have hu := hu_of hr
  refine ⟨_, (pss_cons (ps_if (PW.pt (pw_or (pt_not (pt_val (pe_callB call_isi (by rfl) T.isi boot_isinstance (pa_cons (pv 2) (pa_cons (pe_bltn (v := .ty "tuple") (by rfl) T.tuple boot_tuple rfl) pa_nil))))) (pw_or (pt_cmpR op_ne (pe_callB call_len_seq (by rfl) T.len PySem.boot_len (pa_cons (pv 2) pa_nil)) pe_int (nomark _)) (pw_or1 (pt_not (pt_val (pe_call Wh.G (hr.mono (by decide)) rfl Wh.m Wh.k Wh.b .nil pass0 (pa_cons (pe_ix ix_tup (pv 2) pe_int (fun _ _ => rfl)) (pa_cons pe_int (pa_cons pe_int pa_nil))))))))))
      (pss_one (ps_ret (pe_tup (pa_cons pe_str pa_nil))))
      pss_nil)
    (pss_cons (ps_asg (pv 2) (pg_tup (by rfl) (pgs_cons (pg_name (i := 3) nd rfl (Or.inr rfl)) (pgs_cons (pg_name (i := 4) nd rfl (Or.inl rfl)) (pgs_cons (pg_name (i := 5) nd rfl (Or.inl rfl)) pgs_nil)))))
    (pss_cons (ps_if (PW.pt (pw_or (pt_not (pt_val (pe_call Wh.G (hr.mono (by decide)) rfl Wh.m Wh.k Wh.b .nil pass0 (pa_cons (pv 4) (pa_cons pe_int (pa_cons (pe_op op_sub (pe_callB call_len_seq (by rfl) T.len PySem.boot_len (pa_cons (pe_ix ix_list (pv 0) (pv 3) (fun _ _ => rfl)) pa_nil)) pe_int) pa_nil)))))) (pw_or1 (pt_not (pt_val (pe_callB call_isi (by rfl) T.isi boot_isinstance (pa_cons (pv 5) (pa_cons (pe_bltn (v := .ty "list") (by rfl) T.list boot_list rfl) pa_nil))))))))
      (pss_one (ps_ret (pe_tup (pa_cons pe_str pa_nil))))
      pss_nil)
    (pss_cons (ps_if (pt_cmpR op_ne (pe_callB call_len_seq (by rfl) T.len PySem.boot_len (pa_cons (pv 5) pa_nil)) (pe_callB call_len_seq (by rfl) T.len PySem.boot_len (pa_cons (pe_ix ix_list (pe_ix ix_list (pv 0) (pv 3) (fun _ _ => rfl)) (pv 4) (fun _ _ => rfl)) pa_nil)) (nomark _))
      (pss_one (ps_ret (pe_tup (pa_cons pe_str pa_nil))))
      pss_nil)
    (pss_cons (ps_if (pt_cmpR (op_neD hr.units) (pe_lc (own := [("_law_b", 7)]) (g := (gName 7)) (tt := (tNot (tTest (tCall (spLWh K) [] E0 (tCons (tVar 7) (tCons (tC (.int 0)) (tCons (tOp (rI0 fun i j => .int (i - j)) (tCB (fun xs H Q => ∃ p ys, xs = [.ref p] ∧ (SqL K H p ys ∨ SqT K H p ys) ∧ Q (.int ys.length) H) (tCons (tOp (rIxL K) (tVar 0) (tOp (rI0 fun i j => .int (i - j)) (tC (.int 1)) (tVar 3))) tNil)) (tC (.int 1))) tNil))))))) (te := (tVar 7)) rfl nd (pi_list (pv 5)) (blkOk_by (N := nLB) (sc := defScope s__law_bar_due) (by decide +kernel)) (fun _ _ _ _ _ => (by exact (pg_name (i := 7) nd rfl (Or.inl rfl)))) (fun _ _ _ _ _ => pts_one (by exact (pt_not (pt_val (pe_call Wh.G (hr.mono (by decide)) rfl Wh.m Wh.k Wh.b .nil pass0 (pa_cons (pv 7) (pa_cons pe_int (pa_cons (pe_op op_sub (pe_callB call_len_seq (by rfl) T.len PySem.boot_len (pa_cons (pe_ix ix_list (pv 0) (pe_op op_sub pe_int (pv 3)) (fun _ _ => rfl)) pa_nil)) pe_int) pa_nil)))))))) (fun _ _ _ _ _ => (by exact (pv 7)))) (pe_lst pa_nil) (nomark _))
      (pss_one (ps_ret (pe_tup (pa_cons pe_str pa_nil))))
      pss_nil)
    (pss_cons (ps_for PassesOwn.never (by rfl) (pi_enum (by rfl) En (pa_cons (pv 5) pa_nil)) (pg_tup (by rfl) (pgs_cons (pg_name (i := 6) nd rfl (Or.inl rfl)) (pgs_cons (pg_name (i := 7) nd rfl (Or.inl rfl)) pgs_nil)))
      (pss_cons (ps_set (i := 8) nd rfl (Or.inl rfl) (pe_ix ix_list (pe_lst (pa_cons (pe_tup (pa_cons (pv 4) (pa_cons (pv 7) pa_nil))) (pa_cons (pe_tup (pa_cons (pv 7) (pa_cons (pv 4) pa_nil))) pa_nil))) (pv 3) (fun _ _ => rfl)))
    (pss_cons (ps_if (pt_cmp (pc_dnotin hu (pv 8) (pv 1)))
      (pss_one (ps_ret (pe_tup (pa_cons pe_str (pa_cons (pv 6) pa_nil)))))
      pss_nil)
    (pss_cons (ps_setLc (i := 9) (own := [("_law_outs_here", 10)]) (g := (gName 10)) (tt := tYes) (te := (tOp (rIxT K) (tVar 10) (tVar 3))) rfl nd rfl rfl (sw_true rfl rfl rfl (by decide +kernel)) (pi_list (pe_dget hu (pv 1) (pv 8) (fun _ _ => rfl))) (blkOk_by (N := nLB) (sc := defScope s__law_bar_due) (by decide +kernel)) (fun _ _ _ _ _ => (by exact (pg_name (i := 10) nd rfl (Or.inl rfl)))) (fun _ _ _ _ _ => pts_nil) (fun _ _ _ _ _ => (by exact (pe_ix ix_tup (pv 10) (pv 3) (fun _ _ => rfl)))))
    (pss_one (ps_if (pt_cmpR op_in_seq (pe_ix ix_list (pe_ix ix_list (pe_ix ix_list (pv 0) (pv 3) (fun _ _ => rfl)) (pv 4) (fun _ _ => rfl)) (pv 6) (fun _ _ => rfl)) (pv 9) (by rfl))
      (pss_one (ps_ret (pe_tup (pa_cons pe_str (pa_cons (pv 6) pa_nil)))))
      pss_nil))))))
    (pss_one (ps_ret pe_non)))))))), ?_⟩
  have no : (¬ ∃ h a bs, BarG D d h a bs) → ∀ r H', Same H H' → H' r = some (.tup [.str "form"]) → Q (.ref r) H' := fun c r H' s e => by
    rcases hcase with ⟨_, q⟩ | ⟨h, a, bs, B, _⟩
    · exact q r H' s e
    · exact absurd ⟨h, a, bs, B⟩ c
  have fm : ∀ {H1 : Hp}, (¬ ∃ h a bs, BarG D d h a bs) → Same H H1 → 1 ≤ sizeLine ∧ ∀ r, H1 r = none → Q (.ref r) (upd H1 r (.tup [.str "form"])) := fun {H1} c s1 => ⟨(by show 1 ≤ sizeLine; decide), fun r hr => no c r _ (s1.trans (same_new hr _)) upd_same⟩
  refine ⟨_, rfl, v, .ty "tuple", _, _, isTupD d, rfl, .ty "tuple", dp_ty hk, kit_tup d, _, rfl, ?_⟩
  cases cl : isTupD d with
  | false =>
    refine iteT ?_
    refine fm (fun ⟨h, a, bs, B⟩ => ?_) (Same.refl H)
    rw [B.e] at cl
    cases cl
  | true =>
  obtain ⟨ds, rfl⟩ : ∃ ds, d = .tuple ds := by cases d <;> first | exact ⟨_, rfl⟩ | cases cl
  obtain ⟨t, vs, rfl, hS, hD⟩ : ∃ t vs, v = .ref t ∧ SqT K H t vs ∧ DpAll K H vs ds := by
    cases hk with
    | tup a b => exact ⟨_, _, rfl, a, b⟩
  have hl := dpAll_len hD
  refine iteF ⟨_, rfl, t, _, rfl, .inr hS, rfl, _, rfl, ?_⟩
  rcases three_cases ds with ⟨x, y, z, rfl⟩ | c
  case inr =>
    refine iteT' (by rw [decide_eq_false (fun e => c (by injection e with e; omega))]; rfl) ?_
    refine fm (fun ⟨h, a, bs, B⟩ => ?_) (Same.refl H)
    have e := B.e
    injection e with e
    rw [e] at c
    exact c rfl
  refine iteF' (by rw [hl]; rfl) ?_
  cases hD with
  | cons hx hD =>
  cases hD with
  | cons hy hD =>
  cases hD with
  | cons hz' hD =>
  cases hD
  rename_i vx vy vz
  refine ⟨_, rfl, t, _, _, _, rfl, rfl, hS, (by rfl), vx, x, _, _, rfl, hx, ?_⟩
  cases cx : within x 0 1 with
  | false =>
    refine ⟨_, rfl, iteT ?_⟩
    refine fm (fun ⟨h, a, bs, B⟩ => ?_) (Same.refl H)
    have e := B.e
    injection e with e
    injection e with e _
    subst e
    rw [within_hand B.hh] at cx
    cases cx
  | true =>
  refine ⟨_, rfl, iteF ?_⟩
  obtain ⟨hi, rfl, l1, l2⟩ := within_int cx
  cases hx
  obtain ⟨h, rfl⟩ : ∃ h : Nat, hi = (h : Int) := ⟨hi.toNat, by omega⟩
  have hh : h < 2 := by omega
  have uh : ∀ {h' a' bs}, BarG D (.tuple [.int (h : Int), y, z]) h' a' bs → h' = h := fun {h' a' bs} B => by
    have e := B.e
    injection e with e
    injection e with e _
    injection e with e
    omega
  refine ⟨_, rfl, t, _, rfl, hS, rfl, _, _, rfl, _, _, rfl, _, _, rfl, rfl, ?_⟩
  obtain ⟨ta, ax0, ax1, ea, hta, arow⟩ := id hA.row
  obtain rfl : al = ta := by injection ea
  obtain ⟨ax, hax, ar, axs, rfl, har, aa⟩ := arow h hh
  refine ⟨_, rfl, _, rfl, _, rfl, al, _, _, _, rfl, rfl, SqL.of hta, atI_nat hax, ar, _, rfl, .inl (SqL.of har), _, _, rfl, rfl, vy, y, _, _, rfl, hy, ?_⟩
  rw [aa.len]
  cases cy : within y 0 (((D.al h).length : Int) - 1) with
  | false =>
    refine ⟨_, rfl, iteT ?_⟩
    refine fm (fun ⟨h', a', bs, B⟩ => ?_) (Same.refl H)
    obtain rfl := uh B
    have e := B.e
    injection e with e
    injection e with _ e
    injection e with e _
    subst e
    rw [within_nat B.ha] at cy
    cases cy
  | true =>
  obtain ⟨ai, rfl, l3, l4⟩ := within_int cy
  cases hy
  obtain ⟨a, rfl⟩ : ∃ a : Nat, ai = (a : Int) := ⟨ai.toNat, by omega⟩
  have ha : a < (D.al h).length := by omega
  have ua : ∀ {h' a' bs}, BarG D (.tuple [.int (h : Int), .int (a : Int), z]) h' a' bs → h' = h ∧ a' = a ∧ z = .list (bs.map fun b => PyData.int ((b : Nat) : Int)) := fun {h' a' bs} B => by
    have e := B.e
    injection e with e
    injection e with e0 e
    injection e with e1 e
    injection e with e2 _
    injection e0 with e0
    injection e1 with e1
    exact ⟨by omega, by omega, e2⟩
  obtain ⟨t2, x0, x1, r, xs, r4, e2, ht2, hx, hr', hy, hr4, hmem, hxl⟩ := hA.rowAt hh ha
  obtain rfl : al = t2 := by injection e2
  refine ⟨_, rfl, iteF ?_⟩
  refine ⟨_, rfl, vz, .ty "list", _, _, isLstD z, rfl, .ty "list", dp_ty hz', kit_lst z, _, rfl, ?_⟩
  cases cz : isLstD z with
  | false =>
    refine iteT ?_
    refine fm (fun ⟨h', a', bs, B⟩ => ?_) (Same.refl H)
    rw [(ua B).2.2] at cz
    cases cz
  | true =>
  obtain ⟨es, rfl⟩ : ∃ es, z = .list es := by cases z <;> first | exact ⟨_, rfl⟩ | cases cz
  obtain ⟨l, us, rfl, hL, hE⟩ := dp_list hz'
  have hle := dpAll_len hE
  have hok := hz _ _ _ rfl
  refine iteF ⟨_, rfl, l, _, rfl, .inl hL, _, rfl, _, rfl, al, _, _, _, rfl, rfl, SqL.of ht2, atI_nat hx, _, rfl, r, _, _, _, rfl, rfl, SqL.of hr', atI_nat hy, r4, _, rfl, .inl (SqL.of hr4), rfl, _, rfl, ?_⟩
  rw [hle, List.length_map, dec_nat]
  by_cases c : es.length = (rowOf D h a).length
  case neg =>
    refine iteT' (show (!decide (es.length = (rowOf D h a).length)) = true by rw [decide_eq_false c]; rfl) ?_
    refine fm (fun ⟨h', a', bs, B⟩ => ?_) (Same.refl H)
    obtain ⟨rfl, rfl, e⟩ := ua B
    injection e with e
    rw [e, List.length_map] at c
    exact c B.len
  refine iteF' (show (!decide (es.length = (rowOf D h a).length)) = false by rw [decide_eq_true c]; rfl) ?_
  have hml := (hW.row h hh _ hmem).2.1
  have hel : es.length ≤ 100 := by
    have e : (rowOf D h a).length = ((D.al h).getD a []).length := rfl
    omega
  refine ⟨_, rfl, l, rfl, ⟨_, hL⟩, fun L hL' => ?_⟩
  have gh : (1 : Int) - (h : Int) = ((1 - h : Nat) : Int) := by omega
  obtain ⟨bx, hbx, br, bxs, rfl, hbr, ba⟩ := arow (1 - h) (by omega)
  refine list_turns (xs := us) (fun i H' => Same H H' ∧ BadAt K H L (fun d => within d 0 (((D.al (1 - h)).length : Int) - 1)) es i H') ⟨same_new hL' _, [], upd_same, Nat.le_refl _, .nil⟩ (fun i H' _ h => h.1.seq hL) ?_ ?_
  · rintro i u H' hui ⟨s1, b1⟩
    obtain ⟨e, he, hu'⟩ := dpAll_get hE hui
    have hi : i < es.length := (List.getElem?_eq_some_iff.mp he).1
    refine ⟨rfl, _, rfl, _, rfl, _, rfl, _, _, rfl, rfl, al, _, _, _, rfl, rfl, SqL.of (s1 _ _ hta), atI_one hh hbx, br, _, rfl, .inl (SqL.of (s1 _ _ hbr)), _, _, rfl, rfl, u, e, _, _, rfl, dp_mono s1 _ _ hu', _, rfl, ?_⟩
    rw [ba.len]
    cases co : within e 0 (((D.al (1 - h)).length : Int) - 1) with
    | true => exact iteF ⟨s1, b1.skip he co⟩
    | false =>
      obtain ⟨ys, h1, h2, h3⟩ := b1.put he co hu'
      refine iteT ⟨_, rfl, ys, h1, Nat.lt_of_le_of_lt h2 (Nat.lt_of_lt_of_le hi (Nat.le_trans hel (by decide))), same_upd s1 hL', h3⟩
  rintro H1 ⟨s1, ys, hy1, _, hy3⟩
  rw [hle, List.take_length] at hy3
  refine ⟨(by show 0 ≤ sizeLine; decide), fun l2 hl2 => ?_⟩
  have s7 := same_new hl2 (.lst [])
  refine ⟨_, _, Dp.lst (SqL.of (s7 _ _ hy1)) (dpAll_mono (s1.trans s7) _ _ hy3), Dp.lst (SqL.of upd_same) .nil, (ok_list (n := 5) fun e he => hok e (badL_mem he)).shaped (by decide), okD_nil.shaped (by decide), _, rfl, ?_⟩
  rw [eqv_nil, badL_empty]
  have s17 := s1.trans s7
  generalize upd H1 l2 (.lst []) = H2 at s17 ⊢
  cases ca : ((es.map fun d => within d 0 (((D.al (1 - h)).length : Int) - 1)).all id) with
  | false =>
    refine iteT ?_
    refine fm (fun ⟨h', a', bs, B⟩ => ?_) s17
    obtain ⟨rfl, rfl, e⟩ := ua B
    injection e with e
    rw [e, nat_ds B.rng] at ca
    cases ca
  | true =>
  refine iteF ?_
  obtain ⟨g1, g2⟩ := ds_nat ca
  have BG : BarG D (.tuple [.int (h : Int), .int (a : Int), .list es]) h a (es.map unI) := ⟨by rw [← g1], hh, ha, by rw [List.length_map]; exact c, g2⟩
  have q : ∀ fv H', Same H H' → BarRes D h a (es.map unI) fv H' → Q fv H' := by
    rcases hcase with ⟨nb, _⟩ | ⟨h', a', bs', B', q⟩
    · exact absurd ⟨h, a, _, BG⟩ nb
    · obtain ⟨rfl, rfl, e⟩ := ua B'
      injection e with e
      have : es.map unI = bs' := by
        rw [e, List.map_map]
        conv => rhs; rw [← List.map_id bs']
        exact List.map_congr_left fun b _ => (by show ((b : Int)).toNat = b; omega)
      rw [this]
      exact q
  have hus : us = (es.map unI).map fun b => V.int ((b : Nat) : Int) := by
    have hE' := hE
    rw [g1] at hE'
    exact dpAll_nats hE'
  generalize es.map unI = bs at BG q hus
  subst hus
  refine ⟨_, rfl, l, _, rfl, s17.seq hL, ?_⟩
  refine for_enum (xs := bs.map fun b => V.int ((b : Nat) : Int)) (fun i σ H' => ∃ v6 v7 v8 v9, σ = [some (.ref al), some (.ref B), some (.ref t), some (.int (h : Int)), some (.int (a : Int)), some (.ref l), v6, v7, v8, v9, none] ∧ Same H H' ∧ ∀ k, k < i → okBk D h a bs k) ⟨_, _, _, _, rfl, s17, fun k hk => absurd hk (Nat.not_lt_zero _)⟩ (fun i σ H' ⟨_, _, _, _, _, s2, _⟩ => s2.seq hL) ?_ ?_
  · rintro i x Te σ H3 hxx ⟨v6, v7, v8, v9, rfl, s2, hprev⟩ hTe
    rw [List.getElem?_map] at hxx
    obtain ⟨b, hb, rfl⟩ := Option.map_eq_some_iff.mp hxx
    have hi : i < bs.length := (List.getElem?_eq_some_iff.mp hb).1
    have s3 := s2.trans (same_new hTe (.tup [V.int (i : Nat), V.int ((b : Nat) : Int)]))
    refine ⟨Te, _, rfl, SqT.of upd_same, rfl, _, _, rfl, _, _, rfl, rfl, ?_⟩
    generalize upd H3 Te (.tup [V.int (i : Nat), V.int ((b : Nat) : Int)]) = H4 at s3 ⊢
    refine ⟨_, rfl, _, rfl, (by show 2 ≤ sizeLine; decide), fun t1 ht1 => ⟨_, rfl, _, rfl, (by show 2 ≤ sizeLine; decide), fun t2 ht2' => ⟨(by show 2 ≤ sizeLine; decide), fun L2 hL2 => ?_⟩⟩⟩
    have sa := same_new ht1 (.tup [V.int (a : Int), V.int ((b : Nat) : Int)])
    have ea : (upd H4 t1 (.tup [V.int (a : Int), V.int ((b : Nat) : Int)])) t1 = some (.tup [V.int (a : Int), V.int ((b : Nat) : Int)]) := upd_same
    generalize upd H4 t1 (.tup [V.int (a : Int), V.int ((b : Nat) : Int)]) = H5 at sa ea ht2' hL2 ⊢
    have sb := same_new ht2' (.tup [V.int ((b : Nat) : Int), V.int (a : Int)])
    have eb : (upd H5 t2 (.tup [V.int ((b : Nat) : Int), V.int (a : Int)])) t2 = some (.tup [V.int ((b : Nat) : Int), V.int (a : Int)]) := upd_same
    generalize upd H5 t2 (.tup [V.int ((b : Nat) : Int), V.int (a : Int)]) = H6 at sb eb hL2 ⊢
    have sc := same_new hL2 (.lst [V.ref t1, V.ref t2])
    have s6 := ((s3.trans sa).trans sb).trans sc
    obtain ⟨tp, hgt, htp⟩ : ∃ tp, ([V.ref t1, V.ref t2] : List V)[h]? = some (.ref tp) ∧ TpAt (upd H6 L2 (.lst [V.ref t1, V.ref t2])) (.ref tp) (iI (pairN h a b)) := by
      obtain rfl | rfl : h = 0 ∨ h = 1 := by omega
      · exact ⟨t1, rfl, t1, rfl, sc _ _ (sb _ _ ea)⟩
      · exact ⟨t2, rfl, t2, rfl, sc _ _ eb⟩
    refine ⟨_, rfl, L2, _, _, _, rfl, rfl, SqL.of upd_same, atI_nat hgt, ?_⟩
    generalize upd H6 L2 (.lst [V.ref t1, V.ref t2]) = H7 at s6 htp ⊢
    obtain ⟨tq, e, htq⟩ := id htp
    obtain rfl : tp = tq := by injection e
    obtain ⟨kvs, hd2, ha2⟩ := id (hB.mono s6)
    have hbl := BG.len
    have hio : i < (rowOf D h a).length := by omega
    have bad : ∀ {H8 : Hp}, Same H H8 → ¬ okBk D h a bs i → 2 ≤ sizeLine ∧ ∀ r2, H8 r2 = none → Q (.ref r2) (upd H8 r2 (.tup [.str "input", .int ((i : Nat) : Int)])) := fun {H8} s8 nk => ⟨(by show 2 ≤ sizeLine; decide), fun r2 hr2 => q _ _ (s8.trans (same_new hr2 _)) (.inr ⟨r2, i, rfl, upd_same, hi, nk, hprev⟩)⟩
    refine ⟨_, rfl, _, rfl, B, _, rfl, DGet.t (k := k2 (iI (pairN h a b))) hd2 htq, _, rfl, ?_⟩
    rw [some_hasK ha2]
    cases ck : hasK D.bo (iI (pairN h a b)) with
    | false =>
      refine iteT ⟨_, rfl, bad s6 fun ⟨b', o', e, hb', ho', he, h1, _⟩ => ?_⟩
      rw [hb] at hb'
      cases hb'
      rw [← h1, hasK_yes he] at ck
      cases ck
    | true =>
    obtain ⟨e, he, h1⟩ := List.any_eq_true.mp ck
    have h1 : iI e.1 = iI (pairN h a b) := of_decide_eq_true h1
    rw [← h1] at htq
    have h1 := iI_inj h1
    obtain ⟨lv, hlv, l4, xs4, rfl, hl4, hx4⟩ := val_at ha2 hW.srt e he
    refine iteF ⟨_, rfl, _, rfl, B, _, rfl, hlv ▸ DGet.t (k := kI e.1) hd2 htq, l4, rfl, ⟨_, SqL.of hl4⟩, fun L5 hL5 => ?_⟩
    refine list_turns (xs := xs4) (fun j H' => Same H7 H' ∧ H' L5 = some (.lst (((e.2.take j).map (selO h)).map V.int))) ⟨same_new hL5 _, upd_same⟩ (fun j H' _ h => h.1.seq (SqL.of hl4)) ?_ ?_
    · rintro j x H' hxj ⟨s8, h8⟩
      obtain ⟨oo, ho, tt, rfl, htt⟩ := hx4.get hxj
      refine ⟨rfl, _, rfl, _, rfl, tt, _, _, _, rfl, rfl, SqT.of (s8 _ _ htt), atI_nat (selO_at hh oo), _, h8, ?_, same_upd s8 hL5, ?_⟩
      · rw [List.length_map, List.length_map, List.length_take]
        have := (hW.lets e he).2.1
        exact Nat.lt_of_le_of_lt (Nat.le_trans (Nat.min_le_right _ _) this) (by decide)
      · rw [upd_same, take_get ho, List.map_append, List.map_append]
        rfl
    · rintro H8 ⟨s8, h8⟩
      rw [hx4.len, List.take_length] at h8
      have s68 := s6.trans s8
      have go : ((rowOf D h a).map V.int)[i]? = some (.int (rowOf D h a)[i]) := by rw [List.getElem?_map, List.getElem?_eq_getElem hio]; rfl
      refine ⟨_, rfl, _, rfl, al, _, _, _, rfl, rfl, SqL.of (s68 _ _ ht2), atI_nat hx, _, rfl, r, _, _, _, rfl, rfl, SqL.of (s68 _ _ hr'), atI_nat hy, _, rfl, r4, _, _, _, rfl, rfl, SqL.of (s68 _ _ hr4), atI_nat go, _, rfl, L5, _, rfl, .inl (SqL.of h8), rfl, flat_ints _, _, rfl, ?_⟩
      rw [inV_int]
      have cav : decide ((rowOf D h a)[i] ∈ e.2.map (selO h)) = ansB e.2 h (rowOf D h a)[i] := rfl
      rw [cav]
      cases ca2 : ansB e.2 h (rowOf D h a)[i] with
      | true =>
        refine iteT ⟨_, rfl, bad s68 fun ⟨b', o', e', hb', ho', he', h1', h2'⟩ => ?_⟩
        rw [hb] at hb'
        rw [List.getElem?_eq_getElem hio] at ho'
        cases hb'
        cases ho'
        have : e' = e := uniq_key hW.srt he' he (h1'.trans h1.symm)
        subst this
        rw [h2'] at ca2
        cases ca2
      | false =>
        refine iteF ⟨_, _, _, _, rfl, s68, fun k hk => ?_⟩
        rcases Nat.lt_succ_iff_lt_or_eq.mp hk with h' | rfl
        · exact hprev k h'
        · exact ⟨_, _, e, hb, List.getElem?_eq_getElem hio, he, h1, ca2⟩
  · rintro σ H3 ⟨v6, v7, v8, v9, rfl, s2, hprev⟩
    rw [List.length_map] at hprev
    exact q _ _ s2 (.inl ⟨rfl, hprev⟩)
end
end TA

set_option Elab.async false
set_option maxRecDepth 100000
set_option maxHeartbeats 4000000
namespace TA
open PySem L2 PyProof.Rows
set_option linter.unusedVariables false
theorem callR_or {X : Cx} {f : Value} {r r' : List V → Hp → VK → Prop} (h : CallR X f r) (h' : CallR X f r') : CallR X f (fun xs H Q => r xs H Q ∨ r' xs H Q) := fun pins s σ H xs us Q I v q => q.elim (h pins s σ H xs us Q I v) (h' pins s σ H xs us Q I v)
/-- answers, as the law looks at them -/
inductive AnsF (K : PySem.W.Frag) (C : Addr) (H : Hp) (p : Addr) (T : TD) : V → Bool → Prop
  | notd {v : V} {d : PyData} : Dp K H v d → AnsF K C H p T v false
  | odd {wd : Addr} {kvs : List (List Key × V)} {k v : V} {dat : List Key × V → PyData} : OddAt H wd kvs k v → kvs.length ≤ 61 → (∀ kv ∈ kvs, IntK kv.1 ∧ DpK K H kv.2 (dat kv)) → kvs.length = T.bo.length → AnsF K C H p T (.ref wd) false
  | len {wd : Addr} {kvs : List (List Key × V)} {dat : List Key × V → PyData} : H wd = some (.dT kvs) → kvs.length ≤ 61 → TaskX C H p T wd → (∀ kv ∈ kvs, IntK kv.1 ∧ DpK K H kv.2 (dat kv)) → kvs.length ≠ T.bo.length → AnsF K C H p T (.ref wd) false
  | dct {wd : Addr} {B : BD} {vals : IP × List (Int × Int) → V} {dat : IP × List (Int × Int) → PyData} : B.Perm T.bo → H wd = some (.dT (B.map fun e => (kI e.1, vals e))) → TaskX C H p T wd → (∀ e ∈ B, DpK K H (vals e) (dat e)) → AnsF K C H p T (.ref wd) (T.bo.all fun e => outB (dat e))
theorem AnsF.mono {K : PySem.W.Frag} {C : Addr} {H H' : Hp} (s : Same H H') {p : Addr} {T : TD} {v : V} {b : Bool} (h : AnsF K C H p T v b) : AnsF K C H' p T v b := by
  cases h with
  | notd h => exact .notd (dp_mono s _ _ h)
  | odd h1 h2 h3 h4 =>
    obtain ⟨o, h1⟩ := h1
    exact .odd ⟨o, h1.mono s⟩ h2 (fun kv hkv => ⟨(h3 kv hkv).1, (h3 kv hkv).2.mono (.same s)⟩) h4
  | len h1 h2 h3 h4 h5 => exact .len (s _ _ h1) h2 (h3.mono s) (fun kv hkv => ⟨(h4 kv hkv).1, (h4 kv hkv).2.mono (.same s)⟩) h5
  | dct h1 h2 h3 h4 => exact .dct h1 (s _ _ h2) (h3.mono s) fun e he => (h4 e he).mono (.same s)
def RowF (K : PySem.W.Frag) (H : Hp) (n : Nat) (x : V) (r : Bool) : Prop := (∃ d, Dp K H x d ∧ okRowD d ∧ r = rowB d n) ∨ ∃ (a : Addr) (k : List (List Key × V)), x = .ref a ∧ H a = some (.dT k) ∧ r = false
theorem RowF.mono {K : PySem.W.Frag} {H H' : Hp} (s : Same H H') {n : Nat} {x : V} {r : Bool} (h : RowF K H n x r) : RowF K H' n x r :=
  h.imp (fun ⟨d, h1, h2⟩ => ⟨d, dp_mono s _ _ h1, h2⟩) fun ⟨a, k, e, h, f⟩ => ⟨a, k, e, s _ _ h, f⟩
def Rows2 (K : PySem.W.Frag) (H : Hp) (T : TD) (x0 x1 : V) (r0 r1 : Bool) : Prop := (∃ d0 d1, Dp K H x0 d0 ∧ Dp K H x1 d1 ∧ okRowD d0 ∧ okRowD d1 ∧ r0 = rowB d0 (T.al 0).length ∧ r1 = rowB d1 (T.al 1).length) ∨
  ∃ (a0 a1 : Addr) (k0 k1 : List (List Key × V)), x0 = .ref a0 ∧ x1 = .ref a1 ∧ H a0 = some (.dT k0) ∧ H a1 = some (.dT k1) ∧ r0 = false ∧ r1 = false
theorem Rows2.f {K : PySem.W.Frag} {H : Hp} {T : TD} {x0 x1 : V} {r0 r1 : Bool} (h : Rows2 K H T x0 x1 r0 r1) : RowF K H (T.al 0).length x0 r0 ∧ RowF K H (T.al 1).length x1 r1 := by
  rcases h with ⟨d0, d1, h0, h1, o0, o1, e0, e1⟩ | ⟨a0, a1, k0, k1, e0, e1, h0, h1, f0, f1⟩
  · exact ⟨.inl ⟨d0, h0, o0, e0⟩, .inl ⟨d1, h1, o1, e1⟩⟩
  · exact ⟨.inr ⟨a0, k0, e0, h0, f0⟩, .inr ⟨a1, k1, e1, h1, f1⟩⟩
/-- a thing, as the law looks at it -/
inductive FormX (K : PySem.W.Frag) (C : Addr) (H : Hp) (p : Addr) (T : TD) : V → Bool → Prop
  | lst {a : Addr} {xs : List V} : H a = some (.lst xs) → FormX K C H p T (.ref a) false
  | non : FormX K C H p T .non false
  | tup {a : Addr} {xs : List V} : H a = some (.tup xs) → xs.length ≠ 2 → FormX K C H p T (.ref a) false
  | two {t c ans : Addr} {x0 x1 y0 y1 : V} {r0 r1 b0 b1 : Bool} : H t = some (.tup [.ref c, .ref ans]) → H c = some (.lst [x0, x1]) → H ans = some (.lst [y0, y1]) → Rows2 K H T x0 x1 r0 r1 → AnsF K C H p T y0 b0 → AnsF K C H p T y1 b1 → FormX K C H p T (.ref t) ((r0 && r1) && (b0 && b1))
theorem find_key {B : BD} (s : (B.map (·.1)).Pairwise (· ≠ ·)) : ∀ e ∈ B, B.find? (fun f => decide (kI f.1 = kI e.1)) = some e := by
  induction B with
  | nil => intro e m; cases m
  | cons b B ih =>
    intro e m
    rw [List.map_cons, List.pairwise_cons] at s
    rcases List.mem_cons.mp m with rfl | m
    · rw [List.find?_cons_of_pos (by exact decide_eq_true rfl)]
    · rw [List.find?_cons_of_neg (by
        intro c
        exact s.1 _ (List.mem_map.mpr ⟨e, m, rfl⟩) (kI_inj (of_decide_eq_true c)))]
      exact ih s.2 e m
theorem AnsF.ansV {K : PySem.W.Frag} {C : Addr} {H : Hp} {p : Addr} {T : TD} (W : WF T) {v : V} {b : Bool} (h : AnsF K C H p T v b) : AnsV K C H p T v b := by
  cases h with
  | notd h => exact .inl (.notd h)
  | odd h1 h2 h3 h4 => exact .inr ⟨rfl, _, rfl, _, _, _, _, h1, h2, h3⟩
  | @len wd kvs dat h1 h2 h3 h4 h5 =>
    refine .inl ?_
    have e : ansAll T kvs dat = false := by
      unfold ansAll
      rw [decide_eq_false h5]
      rfl
    rw [← e]
    exact .dct h1 h2 h3 h4
  | @dct wd B vals dat h1 h2 h3 h4 =>
    have sB := perm_ne W h1
    have eB := h1.length_eq
    have dk : ∀ e ∈ B, ((B.find? (fun f => decide (kI f.1 = kI e.1))).map dat).getD .none = dat e := fun e he => by
      rw [find_key sB e he]
      rfl
    have e : ansAll T (B.map fun e => (kI e.1, vals e)) (fun kv => ((B.find? (fun f => decide (kI f.1 = kv.1))).map dat).getD .none) = T.bo.all fun e => outB (dat e) := by
      unfold ansAll
      rw [List.length_map, decide_eq_true eB, Bool.true_and]
      apply Bool.eq_iff_iff.mpr
      rw [List.all_eq_true, List.all_eq_true]
      constructor
      · intro g e he
        have heB := h1.mem_iff.mpr he
        have g := g _ (List.mem_map.mpr ⟨e, heB, rfl⟩)
        have g : (hasK T.bo (iI e.1) && outB (((B.find? (fun f => decide (kI f.1 = kI e.1))).map dat).getD .none)) = true := g
        rw [dk e heB, Bool.and_eq_true] at g
        exact g.2
      · intro g kv hkv
        obtain ⟨e, he, rfl⟩ := List.mem_map.mp hkv
        show (hasK T.bo (iI e.1) && outB (((B.find? (fun f => decide (kI f.1 = kI e.1))).map dat).getD .none)) = true
        rw [dk e he, hasK_yes (h1.mem_iff.mp he), g e (h1.mem_iff.mp he)]
        rfl
    rw [← e]
    refine .inl (.dct h2 (by rw [List.length_map]; have := W.many; omega) h3 fun kv hkv => ?_)
    obtain ⟨e, he, rfl⟩ := List.mem_map.mp hkv
    refine ⟨fun z hz => ?_, ?_⟩
    · rcases List.mem_cons.mp hz with rfl | hz
      · exact ⟨_, rfl⟩
      · rw [List.mem_singleton.mp hz]
        exact ⟨_, rfl⟩
    · show DpK K H (vals e) (((B.find? (fun f => decide (kI f.1 = kI e.1))).map dat).getD .none)
      rw [dk e he]
      exact h4 e he
theorem okRowD.small {d : PyData} (h : okRowD d) : small d := fun ds e => by
  have := (h ds e).1
  omega
theorem FormX.box {K : PySem.W.Frag} {C : Addr} {H : Hp} {p : Addr} {T : TD} (W : WF T) {v : V} {b : Bool} (h : FormX K C H p T v b) : BoxIs K C H p T v b := by
  cases h with
  | lst h => exact .lst h
  | non => exact .non
  | tup h n => exact .tup h n
  | @two t c ans x0 x1 y0 y1 r0 r1 b0 b1 ht hc ha hR h0 h1 =>
    rcases hR with ⟨d0, d1, g0, g1, o0, o1, e0, e1⟩ | ⟨a0, a1, k0, k1, rfl, rfl, g0, g1, rfl, rfl⟩
    · have hd : Dp K H (.ref c) (.list [d0, d1]) := .lst (SqL.of hc) (.cons g0 (.cons g1 .nil))
      have sm : smallA (.list [d0, d1]) := fun ds e z hz => by
        cases e
        rcases List.mem_cons.mp hz with rfl | hz
        · exact o0.small
        · rw [List.mem_singleton.mp hz]
          exact o1.small
      have ec : chosenB (.list [d0, d1]) (T.al 0).length (T.al 1).length = (r0 && r1) := by
        rw [e0, e1]
        rfl
      cases cr : (r0 && r1) with
      | true =>
        rw [cr] at ec
        rw [Bool.true_and]
        exact .two ht hd sm ec ha (h0.ansV W) (h1.ansV W)
      | false =>
        rw [cr] at ec
        rw [Bool.false_and]
        exact .cho ht (.inl ⟨_, hd, sm, ec⟩)
    · exact .cho ht (.inr ⟨c, a0, a1, k0, k1, rfl, hc, g0, g1⟩)
end TA

set_option Elab.async false
set_option maxRecDepth 100000
set_option maxHeartbeats 4000000
namespace TA
open PySem L2 PyProof.Rows
set_option linter.unusedVariables false
/-- the pairs found bad up to i, while the dict is walked -/
def KeyInv (H0 : Hp) (B L : Addr) (u : HO) (f : IP × List (Int × Int) → Bool) (bo : BD) (i : Nat) (H' : Hp) : Prop := ∃ ys, But B H0 H' ∧ H' B = some u ∧ H' L = some (.lst ys) ∧ A2 (TpAt H') ys (((bo.take i).filter fun e => !f e).map fun e => iI e.1)
theorem KeyInv.skip {H0 : Hp} {B L : Addr} {u : HO} {f : IP × List (Int × Int) → Bool} {bo : BD} {i : Nat} {H' : Hp} {e : IP × List (Int × Int)} (h : KeyInv H0 B L u f bo i H') (he : bo[i]? = some e) (c : f e = true) : KeyInv H0 B L u f bo (i + 1) H' := by
  obtain ⟨ys, h1, h2, h3, h4⟩ := h
  refine ⟨ys, h1, h2, h3, ?_⟩
  rw [take_get he, filt_snoc, c]
  exact h4
theorem TpAt.put {H : Hp} {L : Addr} {ys zs : List V} (hL : H L = some (.lst ys)) {v : V} {p : Int × Int} (h : TpAt H v p) : TpAt (upd H L (.lst zs)) v p := by
  obtain ⟨t, rfl, h⟩ := h
  have n : t ≠ L := fun e => by
    subst e
    rw [h] at hL
    cases hL
  exact ⟨t, rfl, by rw [upd_ne n]; exact h⟩
theorem TpAt.updD {H : Hp} {L : Addr} {od : Obj} {u o : HO} (hL : H L = some (.frz od u)) {v : V} {p : Int × Int} (h : TpAt H v p) : TpAt (upd H L o) v p := by
  obtain ⟨t, rfl, h⟩ := h
  have n : t ≠ L := fun e => by
    subst e
    rw [h] at hL
    cases hL
  exact ⟨t, rfl, by rw [upd_ne n]; exact h⟩
theorem KeyInv.put {H0 : Hp} {B L : Addr} {od : Obj} {u : HO} {f : IP × List (Int × Int) → Bool} {bo : BD} {i : Nat} {H' : Hp} {e : IP × List (Int × Int)} {q : Addr} (hL0 : H0 L = none) (nL : B ≠ L) (h : KeyInv H0 B L (.frz od u) f bo i H') (he : bo[i]? = some e) (c : f e = false) (hq : TpAt H' (.ref q) (iI e.1)) (lb : bo.length ≤ 60) :
    ∃ ys, H' L = some (.lst ys) ∧ ys.length < sizeLine ∧ KeyInv H0 B L (.frz od u) f bo (i + 1) (upd H' L (.lst (ys ++ [.ref q]))) := by
  obtain ⟨ys, h1, h2, h3, h4⟩ := h
  refine ⟨ys, h3, ?_, ys ++ [.ref q], h1.new hL0, by rw [upd_ne nL]; exact h2, upd_same, ?_⟩
  · rw [h4.len, List.length_map]
    refine Nat.lt_of_le_of_lt (List.length_filter_le _ _) (Nat.lt_of_le_of_lt (m := 60) ?_ (by decide))
    rw [List.length_take]
    omega
  · rw [take_get he, filt_snoc, c]
    show A2 _ _ (((bo.take i).filter (fun e => !f e) ++ [e]).map fun e => iI e.1)
    rw [List.map_append]
    exact A2.app (h4.imp fun _ _ r => r.put h3) (.cons (hq.put h3) .nil)
theorem badB_empty (f : IP × List (Int × Int) → Bool) : ∀ bo : BD, (bo.filter fun e => !f e).isEmpty = bo.all f
  | [] => rfl
  | e :: bo => by
    have ih := badB_empty f bo
    cases c : f e with
    | true =>
      rw [List.filter_cons_of_neg (by rw [c]; decide), ih, List.all_cons, c]
      rfl
    | false =>
      rw [List.filter_cons_of_pos (by rw [c]; rfl), List.all_cons, c]
      rfl
theorem valV_map {B : BD} (s : (B.map (·.1)).Pairwise (· ≠ ·)) (vals : IP × List (Int × Int) → V) : ∀ e ∈ B, valV (B.map fun e => (kI e.1, vals e)) (kI e.1) = some (vals e) := by
  induction B with
  | nil => intro e m; cases m
  | cons b bo ih =>
    intro e m
    rw [List.map_cons, List.pairwise_cons] at s
    show valV ((kI b.1, vals b) :: bo.map fun e => (kI e.1, vals e)) (kI e.1) = _
    rcases List.mem_cons.mp m with rfl | m
    · exact valV_pos rfl
    · rw [valV_neg (fun c => s.1 _ (List.mem_map.mpr ⟨e, m, rfl⟩) (kI_inj c))]
      exact ih s.2 e m
def spLForm (K : PySem.W.Frag) (C : Addr) : Sp := fun vs H Q _ => ∃ (al B p : Addr) (v : V) (T : TD) (b : Bool), vs = [.ref al, .ref B, v] ∧ AlAt H (.ref al) T.al ∧ BoAt H B T.bo ∧ WF T ∧ FormX K C H p T v b ∧
  (∀ t c ans y0 y1, v = .ref t → H t = some (.tup [c, .ref ans]) → H ans = some (.lst [y0, y1]) → y0 ≠ .ref B ∧ y1 ≠ .ref B) ∧ ∀ H', Same H H' → Q (.bl b) H'
section
variable {P : Program} {w : World} {K : PySem.W.Frag} {mg : Str → Option Value} {base : Heap}
abbrev nLF : List Str := ["_law_alone", "_law_both", "_law_thing", "_law_told", "_law_answers", "_law_hand", "_law_pair"]
theorem sc_lf : FnScope nLF ["_law_alone", "_law_both", "_law_thing"] (defScope s__law_form) := ⟨rfl, rfl, rfl, by decide +kernel, rfl, by decide +kernel, by decide +kernel⟩
theorem ok_lf {f g1 g2 C : Addr} {fd d1 d2 : FuncData} (F : Fun K "_law_form" "_law_form" s__law_form f fd) (T : Txt K mg) (T2 : Txt2 K mg) (Wh : Def P w K mg base "_law_whole" nLWh 1 (spLWh K) g1 d1) (Ou : Def P w K mg base "_law_outputs" ["_law_thing", "_law_many"] 2 (spLOu K) g2 d2) :
    FnOk P w K mg base CX0 3 f fd ["_law_alone", "_law_both", "_law_thing"] (spLForm K C) := by
  refine F.ok sc_lf (fun vs H Q E h => ?_) (fun cdv A outer s H vs Q E hr h => ?_)
  · obtain ⟨al, B, p, v, D, b, rfl, _⟩ := h
    rfl
  obtain ⟨al, B, p, v, D, b, rfl, hA, hB, hW, hX, nB, q⟩ := h
  have nd := sc_lf.nd
  have hu := hu_of hr
  refine ⟨_, (pss_cons (ps_if (PW.pt (pw_or (pt_not (pt_val (pe_callB call_isi (by rfl) T.isi boot_isinstance (pa_cons (pv 2) (pa_cons (pe_bltn (v := .ty "tuple") (by rfl) T.tuple boot_tuple rfl) pa_nil))))) (pw_or1 (pt_cmpR op_ne (pe_callB call_len_seq (by rfl) T.len PySem.boot_len (pa_cons (pv 2) pa_nil)) pe_int (nomark _)))))
      (pss_one (ps_ret pe_bl))
      pss_nil)
    (pss_cons (ps_asg (pv 2) (pg_tup (by rfl) (pgs_cons (pg_name (i := 3) nd rfl (Or.inl rfl)) (pgs_cons (pg_name (i := 4) nd rfl (Or.inr rfl)) pgs_nil))))
    (pss_cons (ps_if (PW.pt (pw_or (pt_not (pt_val (pe_callB call_isi (by rfl) T.isi boot_isinstance (pa_cons (pv 3) (pa_cons (pe_bltn (v := .ty "list") (by rfl) T.list boot_list rfl) pa_nil))))) (pw_or (pt_cmpR op_ne (pe_callB call_len_seq (by rfl) T.len PySem.boot_len (pa_cons (pv 3) pa_nil)) pe_int (nomark _)) (pw_or (pt_not (pt_val (pe_callB call_isi (by rfl) T.isi boot_isinstance (pa_cons (pv 4) (pa_cons (pe_bltn (v := .ty "list") (by rfl) T.list boot_list rfl) pa_nil))))) (pw_or1 (pt_cmpR op_ne (pe_callB call_len_seq (by rfl) T.len PySem.boot_len (pa_cons (pv 4) pa_nil)) pe_int (nomark _)))))))
      (pss_one (ps_ret pe_bl))
      pss_nil)
    (pss_cons (ps_for PassesOwn.never (by rfl) (pi_range1 (by rfl) T.range (pa_cons pe_int pa_nil)) (pg_name (i := 5) nd rfl (Or.inr rfl))
      (pss_cons (ps_if (PW.pt (pw_or (pt_not (pt_val (pe_call Ou.G (hr.mono (by decide)) rfl Ou.m Ou.k Ou.b .nil pass0 (pa_cons (pe_ix ix_list (pv 3) (pv 5) (fun _ _ => rfl)) (pa_cons (pe_callB call_len_seq (by rfl) T.len PySem.boot_len (pa_cons (pe_ix ix_list (pv 0) (pv 5) (fun _ _ => rfl)) pa_nil)) pa_nil))))) (pw_or1 (pt_not (pt_val (pe_callB (callR_or call_isi call_isiO) (by rfl) T.isi boot_isinstance (pa_cons (pe_ix ix_list (pv 4) (pv 5) (fun _ _ => rfl)) (pa_cons (pe_bltn (v := .ty "dict") (by rfl) T2.dict boot_dict rfl) pa_nil))))))))
      (pss_one (ps_ret pe_bl))
      pss_nil)
    (pss_cons (ps_if (PW.pt (pw_or (pt_cmpR op_ne (pe_callB (callR_or call_len_dT call_len_O) (by rfl) T.len PySem.boot_len (pa_cons (pe_ix ix_list (pv 4) (pv 5) (fun _ _ => rfl)) pa_nil)) (pe_callB call_len_dT (by rfl) T.len PySem.boot_len (pa_cons (pv 1) pa_nil)) (nomark _)) (pw_or1 (pt_cmpR (op_neD hr.units) (pe_lock (pe_lc (own := [("_law_pair", 6)]) (g := (gName 6)) (tt := (tTest (tDNotIn (tVar 6) (tOp (rIxL K) (tVar 4) (tVar 5))))) (te := (tVar 6)) rfl nd (pi_keys (pv 1)) (blkOk_by (N := nLF) (sc := defScope s__law_form) (by decide +kernel)) (fun _ _ _ _ _ => (by exact (pg_name (i := 6) nd rfl (Or.inl rfl)))) (fun _ _ _ _ _ => pts_one (by exact (pt_cmp (pc_dnotin hu (pv 6) (pe_ix ix_list (pv 4) (pv 5) (fun _ _ => rfl)))))) (fun _ _ _ _ _ => (by exact (pv 6))))) (pe_lst pa_nil) (nomark _)))))
      (pss_one (ps_ret pe_bl))
      pss_nil)
    (pss_one (ps_if (pt_cmpR (op_neD hr.units) (pe_lock (pe_lc (own := [("_law_pair", 6)]) (g := (gName 6)) (tt := (tNot (tTest (tCall (spLWh K) [] E0 (tCons (tDGet (tOp (rIxL K) (tVar 4) (tVar 5)) (tVar 6)) (tCons (tC (.int 0)) (tCons (tC (.int 63)) tNil))))))) (te := (tVar 6)) rfl nd (pi_keys (pv 1)) (blkOk_by (N := nLF) (sc := defScope s__law_form) (by decide +kernel)) (fun _ _ _ _ _ => (by exact (pg_name (i := 6) nd rfl (Or.inl rfl)))) (fun _ _ _ _ _ => pts_one (by exact (pt_not (pt_val (pe_call Wh.G (hr.mono (by decide)) rfl Wh.m Wh.k Wh.b .nil pass0 (pa_cons (pe_dget hu (pe_ix ix_list (pv 4) (pv 5) (fun _ _ => rfl)) (pv 6) (fun _ _ => rfl)) (pa_cons pe_int (pa_cons pe_int pa_nil)))))))) (fun _ _ _ _ _ => (by exact (pv 6))))) (pe_lst pa_nil) (nomark _))
      (pss_one (ps_ret pe_bl))
      pss_nil)))))
    (pss_one (ps_ret pe_bl)))))), ?_⟩
  cases hX with
  | @lst a xs ha => exact ⟨_, rfl, V.ref a, .ty "tuple", .type "list", .type "tuple", false, rfl, .ty "tuple", .base (.lst ha), kit_ty (by decide +kernel), _, rfl, iteT (q _ (Same.refl H))⟩
  | non => exact ⟨_, rfl, V.non, .ty "tuple", .type "NoneType", .type "tuple", false, rfl, .ty "tuple", dp_ty (d := .none) .non, kit_ty (by decide +kernel), _, rfl, iteT (q _ (Same.refl H))⟩
  | @tup t xs ht hn =>
    refine ⟨_, rfl, V.ref t, .ty "tuple", .type "tuple", .type "tuple", true, rfl, .ty "tuple", .base (.tup ht), kit_ty (by decide +kernel), _, rfl, iteF ?_⟩
    exact ⟨_, rfl, t, _, rfl, .inr (SqT.of ht), rfl, _, rfl, iteT' (by rw [decide_eq_false fun e => hn (by injection e with e; omega)]; rfl) (q _ (Same.refl H))⟩
  | @two t c ans x0 x1 y0 y1 r0 r1 b0 b1 ht hc ha hR A0 A1 =>
    refine ⟨_, rfl, V.ref t, .ty "tuple", .type "tuple", .type "tuple", true, rfl, .ty "tuple", .base (.tup ht), kit_ty (by decide +kernel), _, rfl, iteF ?_⟩
    refine ⟨_, rfl, t, _, rfl, .inr (SqT.of ht), rfl, _, rfl, iteF ?_⟩
    refine ⟨_, rfl, t, _, rfl, SqT.of ht, rfl, _, _, rfl, _, _, rfl, rfl, ?_⟩
    refine ⟨_, rfl, V.ref c, .ty "list", .type "list", .type "list", true, rfl, .ty "list", .base (.lst hc), kit_ty (by decide +kernel), _, rfl, iteF ?_⟩
    refine ⟨_, rfl, c, _, rfl, .inl (SqL.of hc), rfl, _, rfl, iteF ?_⟩
    refine ⟨_, rfl, V.ref ans, .ty "list", .type "list", .type "list", true, rfl, .ty "list", .base (.lst ha), kit_ty (by decide +kernel), _, rfl, iteF ?_⟩
    refine ⟨_, rfl, ans, _, rfl, .inl (SqL.of ha), rfl, _, rfl, iteF ?_⟩
    obtain ⟨n0, n1⟩ := nB t _ ans y0 y1 rfl ht ha
    obtain ⟨R0, R1⟩ := hR.f
    obtain ⟨ta, ax0, ax1, ea, hta, arow⟩ := id hA.row
    obtain rfl : al = ta := by injection ea
    refine ⟨2, rfl, by omega, by omega, ?_⟩
    refine for_range (n := 2) (fun i σ H' => ∃ g1 , σ = [some (.ref al), some (.ref B), some (.ref t), some (.ref c), some (.ref ans), g1, none] ∧ Same H H' ∧ (0 < i → (r0 && b0) = true) ∧ (1 < i → (r1 && b1) = true)) ⟨_, rfl, Same.refl _, fun c => absurd c (Nat.lt_irrefl _), fun c => absurd c (by omega)⟩ ?_ ?_
    · rintro i σ H' hi ⟨g1, rfl, s1, i0, i1⟩
      have ej : (0 : Int) + (i : Int) = (i : Int) := by omega
      rw [ej]
      obtain ⟨x, y, r, a, hx, hy, hRx, hAy, nBy, fr, fa, nx⟩ : ∃ x y r a, ([x0, x1] : List V)[i]? = some x ∧ ([y0, y1] : List V)[i]? = some y ∧ RowF K H (D.al i).length x r ∧ AnsF K C H p D y a ∧ y ≠ .ref B ∧ (r = false → ((r0 && r1) && (b0 && b1)) = false) ∧ (a = false → ((r0 && r1) && (b0 && b1)) = false) ∧ (r = true → a = true → (0 < i + 1 → (r0 && b0) = true) ∧ (1 < i + 1 → (r1 && b1) = true)) := by
        obtain rfl | rfl : i = 0 ∨ i = 1 := by omega
        · exact ⟨x0, y0, r0, b0, rfl, rfl, R0, A0, n0, fun e => by rw [e]; rfl, fun e => by rw [e]; cases r0 <;> cases r1 <;> rfl, fun e f => ⟨fun _ => by rw [e, f]; rfl, fun c => absurd c (by omega)⟩⟩
        · exact ⟨x1, y1, r1, b1, rfl, rfl, R1, A1, n1, fun e => by rw [e]; cases r0 <;> rfl, fun e => by rw [e]; cases r0 <;> cases r1 <;> cases b0 <;> rfl, fun e f => ⟨fun _ => i0 (by omega), fun _ => by rw [e, f]; rfl⟩⟩
      have no : ∀ (z : Bool), z = false → ((r0 && r1) && (b0 && b1)) = z → ∀ H2, Same H H2 → Q (.bl false) H2 := fun z hz e H2 s2 => by
        rw [hz] at e
        rw [e] at q
        exact q H2 s2
      obtain ⟨ax, hax, ar, axs, rfl, har, aa⟩ := arow i hi
      have callq : ∀ (k : Bool → Hp → Prop), (∀ H2, Same H' H2 → k r H2) → spLOu K [x, .int (axs.length : Int)] H' (fun v H2 => ∃ z, v = .bl z ∧ k z H2) E := fun k hk => by
        rw [aa.len]
        rcases hRx.mono s1 with ⟨d, h1, h2, h3⟩ | ⟨a', k', rfl, h1, h2⟩
        · exact .inl ⟨x, d, _, rfl, h1, h2, fun H2 s2 => ⟨_, rfl, h3 ▸ hk H2 s2⟩⟩
        · exact .inr ⟨a', k', _, rfl, h1, _, rfl, h2 ▸ hk H' (Same.refl _)⟩
      refine ⟨_, rfl, _, rfl, c, _, _, _, rfl, rfl, SqL.of (s1 _ _ hc), atI_nat hx, _, rfl, _, rfl, al, _, _, _, rfl, rfl, SqL.of (s1 _ _ hta), atI_nat hax, ar, _, rfl, .inl (SqL.of (s1 _ _ har)), ?_⟩
      refine callq _ fun H2 s2 => ?_
      have s12 := s1.trans s2
      cases r with
      | false => exact iteT (no _ (fr rfl) rfl _ s12)
      | true =>
      refine iteF ?_
      refine ⟨_, rfl, _, rfl, ans, _, _, _, rfl, rfl, SqL.of (s12 _ _ ha), atI_nat hy, ?_⟩
      have hA2 := hAy.mono s12
      obtain ⟨kvb, hB2, hb2⟩ := hB.mono s12
      have lb : kvb.length = D.bo.length := hb2.len
      cases hA2 with
      | @notd v dv hv =>
        refine .inl ⟨y, .ty "dict", _, _, isDctD dv, rfl, .ty "dict", dp_ty hv, kit_dct dv, _, rfl, ?_⟩
        rw [dp_nodict hv]
        exact iteT (no _ (fa rfl) rfl _ s12)
      | @odd wd kw k v dat hO hkl hall hlen =>
        refine .inr ⟨wd, kw, k, v, .ty "dict", .type "dict", true, rfl, hO, .ty "dict", kit_ty (by decide +kernel), _, rfl, iteF ?_⟩
        refine ⟨_, rfl, _, rfl, ans, _, _, _, rfl, rfl, SqL.of (s12 _ _ ha), atI_nat hy, .inr ⟨wd, kw, k, v, rfl, hO, _, rfl, B, kvb, rfl, hB2, rfl, _, rfl, ?_⟩⟩
        rw [dec_nat, decide_eq_false (by omega)]
        exact iteT (no _ (fa rfl) rfl _ s12)
      | @len wd kw dat hd hkl hX hall hlen =>
        refine .inl ⟨V.ref wd, .ty "dict", .type "dict", .type "dict", true, rfl, .ty "dict", .base (.dT hd), kit_ty (by decide +kernel), _, rfl, iteF ?_⟩
        refine ⟨_, rfl, _, rfl, ans, _, _, _, rfl, rfl, SqL.of (s12 _ _ ha), atI_nat hy, .inl ⟨wd, kw, rfl, hd, _, rfl, B, kvb, rfl, hB2, rfl, _, rfl, ?_⟩⟩
        rw [dec_nat, decide_eq_false (by omega)]
        exact iteT (no _ (fa rfl) rfl _ s12)
      | @dct wd BB vals dat hp hd hX hall =>
        have nWB : wd ≠ B := fun e => nBy (by rw [e])
        have sB := perm_ne hW hp
        refine .inl ⟨V.ref wd, .ty "dict", .type "dict", .type "dict", true, rfl, .ty "dict", .base (.dT hd), kit_ty (by decide +kernel), _, rfl, iteF ?_⟩
        refine ⟨_, rfl, _, rfl, ans, _, _, _, rfl, rfl, SqL.of (s12 _ _ ha), atI_nat hy, .inl ⟨wd, _, rfl, hd, _, rfl, B, kvb, rfl, hB2, rfl, _, rfl, ?_⟩⟩
        rw [dec_nat, List.length_map, decide_eq_true (by rw [lb, hp.length_eq])]
        refine iteF ?_
        have ben : (B : Addr) ≠ ans := fun e => by
          have := s12 _ _ ha
          rw [← e, hB2] at this
          cases this
        have l60 : D.bo.length ≤ 60 := hW.many
        have kat : ∀ {i : Nat} {k : List Key} {v : V}, kvb[i]? = some (k, v) → ∃ e, D.bo[i]? = some e ∧ k = kI e.1 := fun {i k v} hi => by
          obtain ⟨e, he, ek, _⟩ := hb2.get hi
          exact ⟨e, he, ek⟩
        refine ⟨B, _, hB2, trivial, fun od => ?_⟩
        have hd1 : (upd H2 B (.frz od (.dT kvb))) B = some (.frz od (.dT kvb)) := upd_same
        refine ⟨_, rfl, B, od, rfl, .inr ⟨kvb, hd1, fun L hL => ?_⟩⟩
        have nL : B ≠ L := ne_of_none hd1 hL
        have hL0 : H2 L = none := by
          rw [upd_ne (Ne.symm nL)] at hL
          exact hL
        refine keyT_turns (fun i H' => KeyInv H2 B L (.frz od (.dT kvb)) (fun _ => true) D.bo i H') ⟨[], But.at.trans (.same (same_new hL _)), by rw [upd_ne nL]; exact hd1, upd_same, .nil⟩ (fun i H' ⟨_, _, h, _⟩ => h) ?_ ?_
        · rintro j k v' qa H4 hj hq iv
          obtain ⟨e, he, rfl⟩ := kat hj
          obtain ⟨ys, b1, e1, e2, e3⟩ := id iv
          refine ⟨rfl, _, rfl, _, rfl, _, rfl, ans, _, _, _, rfl, rfl, SqL.of (b1 _ _ (Ne.symm ben) (s12 _ _ ha)), atI_nat hy, wd, _, rfl, DGet.t (k := kI e.1) (b1 _ _ nWB hd) hq, _, rfl, ?_⟩
          rw [valV_map sB vals e (hp.mem_iff.mpr (List.mem_of_getElem? he))]
          exact iteF (iv.skip he rfl)
        rintro H4 ⟨ys, b1, e1, e2, e3⟩
        refine ⟨e1, ?_⟩
        have s4 : Same H2 (upd H4 B (.dT kvb)) := b1.unlock hB2
        have e2' : (upd H4 B (.dT kvb)) L = some (.lst ys) := by rw [upd_ne (Ne.symm nL)]; exact e2
        have e3' := e3.imp fun _ _ r => TpAt.updD (o := .dT kvb) e1 r
        generalize upd H4 B (.dT kvb) = H5 at s4 e2' e3' ⊢
        refine ⟨(by show 0 ≤ sizeLine; decide), fun l2 hl2 => ?_⟩
        have s7 := same_new hl2 (.lst [])
        refine ⟨_, _, Dp.lst (SqL.of (s7 _ _ e2')) (A2.dp pairD (fun _ _ r => (r.mono (.same s7)).dp) e3'), Dp.lst (SqL.of upd_same) .nil, (okD_pairs _).shaped (by decide), okD_nil.shaped (by decide), _, rfl, ?_⟩
        rw [eqv_nil]
        have em : ∀ (f : IP × List (Int × Int) → Bool), ((((D.bo.take kvb.length).filter fun e => !f e).map fun e => iI e.1).map pairD).isEmpty = D.bo.all f := fun f => by
          rw [lb, List.take_length, ← badB_empty]
          cases D.bo.filter (fun e => !f e) <;> rfl
        rw [em]
        have sa := s12.trans (s4.trans s7)
        have hd7 := (s4.trans s7) _ _ hd
        have hB7 := (s4.trans s7) _ _ hB2
        have hall7 : ∀ e ∈ BB, Dp K (upd H5 l2 (.lst [])) (vals e) (dat e) := fun e he => (hall e he (upd H5 l2 (.lst [])) (.same (s4.trans s7)))
        have hallk : ∀ e ∈ BB, DpK K (upd H5 l2 (.lst [])) (vals e) (dat e) := fun e he => (hall e he |>.mono (.same (s4.trans s7)))
        generalize upd H5 l2 (.lst []) = H8 at sa hd7 hB7 hall7 hallk ⊢
        refine iteF' (by rw [show (D.bo.all fun _ => true) = true from List.all_eq_true.mpr fun _ _ => rfl]; rfl) ?_
        refine ⟨B, _, hB7, trivial, fun od => ?_⟩
        have hd1 : (upd H8 B (.frz od (.dT kvb))) B = some (.frz od (.dT kvb)) := upd_same
        refine ⟨_, rfl, B, od, rfl, .inr ⟨kvb, hd1, fun L hL => ?_⟩⟩
        have nL : B ≠ L := ne_of_none hd1 hL
        have hL0 : H8 L = none := by
          rw [upd_ne (Ne.symm nL)] at hL
          exact hL
        refine keyT_turns (fun i H' => KeyInv H8 B L (.frz od (.dT kvb)) (fun e => outB (dat e)) D.bo i H') ⟨[], But.at.trans (.same (same_new hL _)), by rw [upd_ne nL]; exact hd1, upd_same, .nil⟩ (fun i H' ⟨_, _, h, _⟩ => h) ?_ ?_
        · rintro j k v' qa H4 hj hq iv
          obtain ⟨e, he, rfl⟩ := kat hj
          have heB := hp.mem_iff.mpr (List.mem_of_getElem? he)
          obtain ⟨ys, b1, e1, e2, e3⟩ := id iv
          refine ⟨rfl, _, rfl, _, rfl, ans, _, _, _, rfl, rfl, SqL.of (b1 _ _ (Ne.symm ben) (sa _ _ ha)), atI_nat hy, _, rfl, wd, _, rfl, valV_map sB vals e heB ▸ DGet.t (k := kI e.1) (b1 _ _ nWB hd7) hq, vals e, dat e, _, _, rfl, ?_, _, rfl, ?_⟩
          · exact hallk e heB H4 fun b o hf hb => b1 b o (fun e => by
              subst e
              rw [hB7] at hb
              cases hb
              rcases hf with ⟨_, h⟩ | ⟨_, h⟩ <;> cases h) hb
          have eo : within (dat e) 0 63 = outB (dat e) := rfl
          rw [eo]
          cases co : outB (dat e) with
          | true => exact iteF (iv.skip he co)
          | false =>
            obtain ⟨ys, h1, h2, h3⟩ := iv.put hL0 nL he co ⟨qa, rfl, hq⟩ l60
            exact iteT ⟨_, rfl, ys, h1, h2, h3⟩
        rintro H4 ⟨ys, b1, e1, e2, e3⟩
        refine ⟨e1, ?_⟩
        have s4 : Same H8 (upd H4 B (.dT kvb)) := b1.unlock hB7
        have e2' : (upd H4 B (.dT kvb)) L = some (.lst ys) := by rw [upd_ne (Ne.symm nL)]; exact e2
        have e3' := e3.imp fun _ _ r => TpAt.updD (o := .dT kvb) e1 r
        generalize upd H4 B (.dT kvb) = H5 at s4 e2' e3' ⊢
        refine ⟨(by show 0 ≤ sizeLine; decide), fun l2 hl2 => ?_⟩
        have s7 := same_new hl2 (.lst [])
        refine ⟨_, _, Dp.lst (SqL.of (s7 _ _ e2')) (A2.dp pairD (fun _ _ r => (r.mono (.same s7)).dp) e3'), Dp.lst (SqL.of upd_same) .nil, (okD_pairs _).shaped (by decide), okD_nil.shaped (by decide), _, rfl, ?_⟩
        rw [eqv_nil, em]
        have sz := sa.trans (s4.trans s7)
        cases ca : (D.bo.all fun e => outB (dat e)) with
        | false => exact iteT (no _ (fa ca) rfl _ sz)
        | true =>
          obtain ⟨j0, j1⟩ := nx rfl ca
          exact iteF ⟨_, rfl, sz, j0, j1⟩
    · rintro σ H' ⟨g1, rfl, s1, i0, i1⟩
      have e : ((r0 && r1) && (b0 && b1)) = true := by
        have a := i0 (by omega)
        have b := i1 (by omega)
        revert a b
        cases r0 <;> cases r1 <;> cases b0 <;> cases b1 <;> decide
      rw [e] at q
      exact q _ s1
end
end TA

set_option Elab.async false
set_option maxRecDepth 100000
set_option maxHeartbeats 4000000
namespace TA
open PySem L2 PyProof.Rows
set_option linter.unusedVariables false
theorem okRowD_row {row : List Int} (h : row.length ≤ 100) : okRowD (rowD row) := fun es e => by
  cases e
  refine ⟨by rw [List.length_map]; exact h, fun d hd => ?_⟩
  obtain ⟨i, _, rfl⟩ := List.mem_map.mp hd
  exact ok_int i
theorem rows2_at {K : PySem.W.Frag} {H : Hp} {T : TD} {c : Addr} {ch : Nat → List Int} {r0 r1 : List Int} (h : RowsAt H (.ref c) [r0, r1]) (l0 : r0.length ≤ 100) (l1 : r1.length ≤ 100) : ∃ x0 x1, H c = some (.lst [x0, x1]) ∧ Rows2 K H T x0 x1 (rowB (rowD r0) (T.al 0).length) (rowB (rowD r1) (T.al 1).length) := by
  obtain ⟨t, xs, e, ht, a⟩ := h
  obtain rfl : c = t := by injection e
  cases a with
  | cons z0 a =>
  cases a with
  | cons z1 a =>
  cases a
  exact ⟨_, _, ht, .inl ⟨rowD r0, rowD r1, z0.dp, z1.dp, okRowD_row l0, okRowD_row l1, rfl, rfl⟩⟩
theorem anF_at {K : PySem.W.Frag} {C : Addr} {H : Hp} {p d : Addr} {T : TD} {an : Nat → IP × List (Int × Int) → Int} {h : Nat} {B : BD} (x : TaskX C H p T d) (pm : B.Perm T.bo) (hd : H d = some (.dT (anKV an h B))) : AnsF K C H p T (.ref d) (T.bo.all fun e => outB (.int (an h e))) :=
  .dct (vals := fun e => .int (an h e)) (dat := fun e => .int (an h e)) pm hd x fun e he => dpk_int _
theorem GoodB.form {K : PySem.W.Frag} {C : Addr} {H : Hp} {p t : Addr} {T : TD} {ch an al ans d0 d1} (W : WF T) (b : GoodB C H p t T ch an al ans d0 d1) : FormX K C H p T (.ref t) true := by
  obtain ⟨B0, p0, h0⟩ := b.h0
  obtain ⟨B1, p1, h1⟩ := b.h1
  have n0 := W.n0 0 (by decide)
  have n1 := W.n0 1 (by decide)
  have l0 := b.len 0 (by decide)
  have l1 := b.len 1 (by decide)
  obtain ⟨x0, x1, hc, hR⟩ := rows2_at (K := K) (T := T) (ch := ch) b.hal (by omega) (by omega)
  have F := FormX.two b.ht hc b.hans hR (anF_at b.x0 p0 h0) (anF_at b.x1 p1 h1)
  have e0 : (T.bo.all fun e => outB (.int (an 0 e))) = true := List.all_eq_true.mpr fun e he => out_yes (b.outa 0 (by decide) e he)
  have e1 : (T.bo.all fun e => outB (.int (an 1 e))) = true := List.all_eq_true.mpr fun e he => out_yes (b.outa 1 (by decide) e he)
  rw [row_yes l0 (b.outc 0 (by decide)), row_yes l1 (b.outc 1 (by decide)), e0, e1] at F
  exact F
theorem spPairs_at {H' : Hp} {L : List (Addr × List Int)} {bo : BD} (e : L.map (·.2) = bo.map fun e => [((e.1.1 : Nat) : Int), ((e.1.2 : Nat) : Int)]) (h : ∀ x ∈ L, H' x.1 = some (.tup (x.2.map V.int))) : A2 (TpAt H') (L.map fun x => V.ref x.1) (bo.map fun e => iI e.1) := by
  induction L generalizing bo with
  | nil =>
    cases bo with
    | nil => exact .nil
    | cons _ _ => cases e
  | cons x L ih =>
    cases bo with
    | nil => cases e
    | cons b bo =>
      rw [List.map_cons, List.map_cons] at e
      injection e with e1 e2
      refine .cons ⟨x.1, rfl, ?_⟩ (ih e2 fun y hy => h y (List.mem_cons_of_mem _ hy))
      rw [h x List.mem_cons_self, e1]
      rfl
def spLDue (K : PySem.W.Frag) (C : Addr) : Sp := fun vs H Q _ => ∃ (al B p : Addr) (v : V) (T : TD), vs = [.ref al, .ref B, v] ∧ AlAt H (.ref al) T.al ∧ BoAt H B T.bo ∧ WF T ∧
  (∀ t c ans y0 y1, v = .ref t → H t = some (.tup [c, .ref ans]) → H ans = some (.lst [y0, y1]) → y0 ≠ .ref B ∧ y1 ≠ .ref B) ∧
  ((FormX K C H p T v false ∧ ∀ r H', Same H H' → H' r = some (.tup [.str "form"]) → Q (.ref r) H') ∨
   ∃ (t : Addr) (ch : Nat → List Int) (an : Nat → IP × List (Int × Int) → Int) (al' ans d0 d1 : Addr), v = .ref t ∧ GoodB C H p t T ch an al' ans d0 d1 ∧ ∀ fv H', Same H H' → FaultIs T ch an 2 fv H' → Q fv H')
section
variable {P : Program} {w : World} {K : PySem.W.Frag} {mg : Str → Option Value} {base : Heap}
abbrev nLD : List Str := ["_law_alone", "_law_both", "_law_thing", "_law_told", "_law_answers", "_law_hand", "_law_a", "_law_pair", "_law_outs_here"]
theorem sc_ld : FnScope nLD ["_law_alone", "_law_both", "_law_thing"] (defScope s__law_due) := ⟨rfl, rfl, rfl, by decide +kernel, rfl, by decide +kernel, by decide +kernel⟩
theorem ok_ld {f g1 C : Addr} {fd d1 : FuncData} (F : Fun K "_law_due" "_law_due" s__law_due f fd) (T : Txt K mg) (T2 : Txt2 K mg) (Fo : Def P w K mg base "_law_form" ["_law_alone", "_law_both", "_law_thing"] 3 (spLForm K C) g1 d1) :
    FnOk P w K mg base CX0 4 f fd ["_law_alone", "_law_both", "_law_thing"] (spLDue K C) := by
  refine F.ok sc_ld (fun vs H Q E h => ?_) (fun cdv A outer s H vs Q E hr h => ?_)
  · obtain ⟨al, B, p, v, D, rfl, _⟩ := h
    rfl
  obtain ⟨al, Bd, p, v, D, rfl, hA, hB, hW, nB, hcase⟩ := h
  have nd := sc_ld.nd
  have hu := hu_of hr
  have hu65 := hu65_of hr
  refine ⟨_, (pss_cons (ps_if (pt_not (pt_val (pe_call Fo.G (hr.mono (by decide)) rfl Fo.m Fo.k Fo.b .nil pass0 (pa_cons (pv 0) (pa_cons (pv 1) (pa_cons (pv 2) pa_nil))))))
      (pss_one (ps_ret (pe_tup (pa_cons pe_str pa_nil))))
      pss_nil)
    (pss_cons (ps_asg (pv 2) (pg_tup (by rfl) (pgs_cons (pg_name (i := 3) nd rfl (Or.inl rfl)) (pgs_cons (pg_name (i := 4) nd rfl (Or.inl rfl)) pgs_nil))))
    (pss_cons (ps_for PassesOwn.never (by rfl) (pi_range1 (by rfl) T.range (pa_cons pe_int pa_nil)) (pg_name (i := 5) nd rfl (Or.inl rfl))
      (pss_one (ps_for PassesOwn.never (by rfl) (pi_range1 (by rfl) T.range (pa_cons (pe_callB call_len_seq (by rfl) T.len PySem.boot_len (pa_cons (pe_ix ix_list (pv 0) (pv 5) (fun _ _ => rfl)) pa_nil)) pa_nil)) (pg_name (i := 6) nd rfl (Or.inl rfl))
      (pss_one (ps_if (pt_cmpR op_notIn_seq (pe_ix ix_list (pe_ix ix_list (pv 3) (pv 5) (fun _ _ => rfl)) (pv 6) (fun _ _ => rfl)) (pe_ix ix_list (pe_ix ix_list (pv 0) (pv 5) (fun _ _ => rfl)) (pv 6) (fun _ _ => rfl)) (by rfl))
      (pss_one (ps_ret (pe_tup (pa_cons pe_str (pa_cons (pv 5) (pa_cons (pv 6) pa_nil))))))
      pss_nil)))))
    (pss_cons (ps_for PassesOwn.never (by rfl) (pi_range1 (by rfl) T.range (pa_cons pe_int pa_nil)) (pg_name (i := 5) nd rfl (Or.inl rfl))
      (pss_one (ps_for PassesOwn.never (by rfl) (pi_list (pe_callB (cr_sortedDT (d := 2) (B := 64) (by decide) rfl) (by rfl) T2.sorted (by decide +kernel) (pa_cons (pv 1) pa_nil))) (pg_name (i := 7) nd rfl (Or.inl rfl))
      (pss_cons (ps_set (i := 8) nd rfl (Or.inl rfl) (pe_lst (pa_cons (pe_dget hu (pe_ix ix_list (pv 4) (pv 5) (fun _ _ => rfl)) (pv 7) (fun _ _ => rfl)) (pa_cons (pe_ix ix_list (pe_ix ix_list (pv 3) (pe_op op_sub pe_int (pv 5)) (fun _ _ => rfl)) (pe_ix ix_tup (pv 7) (pe_op op_sub pe_int (pv 5)) (fun _ _ => rfl)) (fun _ _ => rfl)) pa_nil))))
    (pss_one (ps_if (pt_cmpR (op_notInD hu65) (pe_callTy call_tuple_of (by rfl) T.tuple boot_tuple (pa_cons (pe_ix ix_list (pe_lst (pa_cons (pv 8) (pa_cons (pe_revL (pv 8)) pa_nil))) (pv 5) (fun _ _ => rfl)) pa_nil)) (pe_dget hu (pv 1) (pv 7) (fun _ _ => rfl)) (by rfl))
      (pss_one (ps_ret (pe_tup (pa_cons pe_str (pa_cons (pv 5) (pa_cons (pv 7) pa_nil))))))
      pss_nil))))))
    (pss_one (ps_ret pe_non)))))), ?_⟩
  rcases hcase with ⟨hX, q⟩ | ⟨t, ch, an, cal, ans, d0, d1, rfl, G, q⟩
  · refine ⟨_, rfl, _, rfl, _, rfl, al, Bd, p, v, D, false, rfl, hA, hB, hW, hX, nB, fun H1 s1 => ⟨false, rfl, iteT ⟨(by show 1 ≤ sizeLine; decide), fun r hr => ?_⟩⟩⟩
    exact q r _ (s1.trans (same_new hr _)) upd_same
  refine ⟨_, rfl, _, rfl, _, rfl, al, Bd, p, .ref t, D, true, rfl, hA, hB, hW, G.form hW, nB, fun H0 s0 => ⟨true, rfl, iteF ?_⟩⟩
  have G0 := G.mono s0
  refine ⟨_, rfl, t, _, rfl, SqT.of G0.ht, rfl, _, _, rfl, _, _, rfl, rfl, ?_⟩
  refine ⟨2, rfl, by omega, by omega, ?_⟩
  refine for_range (n := 2) (fun i σ H' => ∃ g6 g7, σ = [some (.ref al), some (.ref Bd), some (.ref t), some (.ref cal), some (.ref ans), g6, g7, none, none] ∧ Same H0 H' ∧ ∀ h a, h < i → a < (D.al h).length → okA D ch h a) ⟨_, _, rfl, Same.refl _, fun h a hh => absurd hh (Nat.not_lt_zero _)⟩ ?_ ?_
  · rintro i σ H' hi ⟨g1, g2, rfl, s1, ok1⟩
    have eji : (0 : Int) + (i : Int) = (i : Int) := by omega
    rw [eji]
    have n0 := hW.n0 i hi
    obtain ⟨t3, x0, x1, e3, ht3, hrow3⟩ := (hA.mono (.same (s0.trans s1))).row
    obtain rfl : al = t3 := by injection e3
    obtain ⟨x, hx, r3, xs3, rfl, hr3, ha3⟩ := hrow3 i hi
    have hl3 := ha3.len
    refine ⟨_, rfl, _, rfl, al, _, _, _, rfl, rfl, SqL.of ht3, atI_nat hx, r3, _, rfl, .inl (SqL.of hr3), (((D.al i).length : Nat) : Int), congrArg (fun z => [V.int z]) (by rw [hl3]), by omega, by omega, for_range (n := (D.al i).length) (fun j σ H2 => ∃ g2, σ = [some (.ref al), some (.ref Bd), some (.ref t), some (.ref cal), some (.ref ans), some (.int (i : Int)), g2, none, none] ∧ Same H' H2 ∧ ∀ a, a < j → okA D ch i a) ⟨_, rfl, Same.refl _, fun a ha => absurd ha (Nat.not_lt_zero _)⟩ ?_ ?_⟩
    · rintro j σ H2 hj ⟨g2, rfl, s2, ok2⟩
      have ej : (0 : Int) + (j : Int) = (j : Int) := by omega
      rw [ej]
      have st := (s0.trans s1).trans s2
      obtain ⟨tc, xs, ec, ht, ar⟩ := G.hal.mono (.same st)
      obtain rfl : cal = tc := by injection ec
      obtain ⟨y, hy, rr, rfl, hr'⟩ := ar.at (i := i) (y := ch i) (by
        obtain rfl | rfl : i = 0 ∨ i = 1 := by omega
        · rfl
        · rfl)
      obtain ⟨y3, hy3, r4, rfl, hr4⟩ := ha3.at (i := j) (y := (D.al i)[j]) (List.getElem?_eq_getElem hj)
      have hcj : j < (ch i).length := by rw [G.len i hi]; exact hj
      have gc : ((ch i).map V.int)[j]? = some (.int ((ch i).getD j 0)) := by rw [List.getElem?_map, List.getD_eq_getElem?_getD, List.getElem?_eq_getElem hcj]; rfl
      refine ⟨_, rfl, _, rfl, cal, _, _, _, rfl, rfl, SqL.of ht, atI_nat hy, _, rfl, rr, _, _, _, rfl, rfl, SqL.of hr', atI_nat gc, ?_⟩
      refine ⟨_, rfl, _, rfl, al, _, _, _, rfl, rfl, SqL.of (s2 _ _ ht3), atI_nat hx, _, rfl, r3, _, _, _, rfl, rfl, SqL.of (s2 _ _ hr3), atI_nat hy3, ?_⟩
      refine ⟨r4, _, rfl, .inl (SqL.of (s2 _ _ hr4)), rfl, flat_ints _, _, rfl, ?_⟩
      have eA : inV (.int ((ch i).getD j 0)) ((D.al i)[j].map V.int) = decide (okA D ch i j) := by
        rw [inV_int]
        refine decide_eq_decide.mpr ?_
        unfold okA
        rw [List.getD_eq_getElem?_getD (l := D.al i), List.getElem?_eq_getElem hj]
        rfl
      by_cases c : okA D ch i j
      · refine iteF' (by simp only [if_true]; rw [eA, decide_eq_true c]; rfl) ?_
        refine ⟨_, rfl, s2, fun a ha => ?_⟩
        rcases Nat.lt_succ_iff_lt_or_eq.mp ha with h | rfl
        · exact ok2 a h
        · exact c
      · refine iteT' (by simp only [if_true]; rw [eA, decide_eq_false c]; rfl) ?_
        refine ⟨_, rfl, _, rfl, (by show 3 ≤ sizeLine; decide), fun u hu => ?_⟩
        refine q (.ref u) _ (st.trans (same_new hu _)) (.inr (.inl ⟨u, i, j, rfl, upd_same, hi, hj, c, fun h' a' hh' ha' e => ?_⟩))
        rcases e with e | ⟨rfl, e⟩
        · exact ok1 h' a' e ha'
        · exact ok2 a' e
    · rintro σ H2 ⟨g2, rfl, s2, ok2⟩
      refine ⟨_, _, rfl, s1.trans s2, fun h a hh ha => ?_⟩
      rcases Nat.lt_succ_iff_lt_or_eq.mp hh with h' | rfl
      · exact ok1 h a h' ha
      · exact ok2 a ha
  rintro σ H1 ⟨g6, g7, rfl, s1, okA'⟩
  have hAll : ∀ h a, h < 2 → a < (D.al h).length → okA D ch h a := fun h a hh ha => okA' h a hh ha
  have s01 := s0.trans s1
  refine ⟨2, rfl, by omega, by omega, ?_⟩
  refine for_range (n := 2) (fun i σ H' => ∃ g5 g6 g7 g8, σ = [some (.ref al), some (.ref Bd), some (.ref t), some (.ref cal), some (.ref ans), g5, g6, g7, g8] ∧ Same H1 H' ∧ ∀ h, h < i → ∀ e ∈ D.bo, okAns ch an h e) ⟨_, _, _, _, rfl, Same.refl _, fun h hh => absurd hh (Nat.not_lt_zero _)⟩ ?_ ?_
  · rintro i σ H2 hi ⟨g5, g6, g7, g8, rfl, s2, okH⟩
    have eji : (0 : Int) + (i : Int) = (i : Int) := by omega
    rw [eji]
    have s02 := s01.trans s2
    obtain ⟨kvb, hd, ha⟩ := hB.mono s02
    refine ⟨_, rfl, Bd, kvb, D.bo.map (fun e => [((e.1.1 : Nat) : Int), ((e.1.2 : Nat) : Int)]), rfl, .inl hd, ?_, ?_, ?_, fun L po h1 h2 h3 hpo => ?_⟩
    · rw [keys_of ha, List.map_map, List.map_map]
      rfl
    · rw [List.length_map]
      have := hW.many
      omega
    · intro ns hns
      obtain ⟨e, he, rfl⟩ := List.mem_map.mp hns
      have := hW.rng e he
      have := (hW.n0 0 (by decide)).2
      have := (hW.n0 1 (by decide)).2
      refine ⟨rfl, fun m hm => ?_⟩
      rcases List.mem_cons.mp hm with rfl | hm
      · omega
      · obtain rfl := List.mem_singleton.mp hm
        omega
    have aS := spPairs_at (keys_sorted hW h1 h2) h3
    generalize L.map (fun x => V.ref x.1) = ys at aS ⊢
    have s3 := same_new hpo (.lst ys)
    have epo : (upd H2 po (.lst ys)) po = some (.lst ys) := upd_same
    have aS2 := aS.imp fun _ _ r => TpAt.mono (.same s3) r
    generalize upd H2 po (.lst ys) = H3 at s3 epo aS2 ⊢
    have s03 := s02.trans s3
    refine ⟨po, rfl, ⟨_, SqL.of epo⟩, for_list (xs := ys) (fun j σ H' => ∃ g6 g7 g8, σ = [some (.ref al), some (.ref Bd), some (.ref t), some (.ref cal), some (.ref ans), some (.int (i : Int)), g6, g7, g8] ∧ Same H3 H' ∧ ∀ e ∈ (sb D).take j, okAns ch an i e) ⟨_, _, _, rfl, Same.refl _, fun e he => by cases he⟩ (fun j σ H' _ ⟨_, _, _, _, s, _⟩ => SqL.of (s _ _ epo)) ?_ ?_⟩
    · rintro j x σ H' hxi ⟨g6, g7, g8, rfl, s4, hok⟩
      have st := s03.trans s4
      have G4 := G.mono st
      obtain ⟨y, hy, tt, rfl, htt⟩ := (aS2.imp fun _ _ r => TpAt.mono (.same s4) r).get hxi
      rw [List.getElem?_map] at hy
      obtain ⟨e, hbe, rfl⟩ := Option.map_eq_some_iff.mp hy
      have hem := sb_mem.mp (List.mem_of_getElem? hbe)
      obtain ⟨rg0, rg1⟩ := hW.rng e hem
      obtain ⟨d, hd1, BB, pB, hdd⟩ : ∃ d, ([V.ref d0, V.ref d1] : List V)[i]? = some (.ref d) ∧ ∃ BB : BD, BB.Perm D.bo ∧ H' d = some (.dT (anKV an i BB)) := by
        obtain rfl | rfl : i = 0 ∨ i = 1 := by omega
        · exact ⟨d0, rfl, G4.h0⟩
        · exact ⟨d1, rfl, G4.h1⟩
      have hv1 := anKV_at (perm_ne hW pB) an i e (pB.mem_iff.mpr hem)
      obtain ⟨tc, xs, ec, ht, ar⟩ := id G4.hal
      obtain rfl : cal = tc := by injection ec
      have h1i : 1 - i < 2 := by omega
      obtain ⟨z, hz, rr, rfl, hrow⟩ := ar.at (i := 1 - i) (y := ch (1 - i)) (by
        obtain rfl | rfl : i = 0 ∨ i = 1 := by omega
        · rfl
        · rfl)
      have hsl : sel (1 - i) e.1 < (ch (1 - i)).length := by
        rw [G.len _ h1i]
        obtain rfl | rfl : i = 0 ∨ i = 1 := by omega
        · exact rg1
        · exact rg0
      have gw : ((ch (1 - i)).map V.int)[sel (1 - i) e.1]? = some (.int (wonO ch i e.1)) := by
        unfold wonO
        rw [List.getElem?_map, List.getD_eq_getElem?_getD, List.getElem?_eq_getElem hsl]
        rfl
      refine ⟨_, rfl, _, rfl, ans, _, _, _, rfl, rfl, SqL.of G4.hans, atI_nat hd1, _, rfl, d, _, rfl, hv1 ▸ DGet.t (k := kI e.1) hdd htt, ?_⟩
      refine ⟨_, rfl, _, rfl, _, _, rfl, rfl, cal, _, _, _, rfl, rfl, SqL.of ht, atI_one hi hz, _, rfl, _, rfl, _, _, rfl, rfl, tt, _, _, _, rfl, rfl, SqT.of htt, atI_one hi (iI_at h1i e.1), rr, _, _, _, rfl, rfl, SqL.of hrow, atI_nat gw, (by show 2 ≤ sizeLine; decide), fun l1 hl1 => ?_⟩
      have sa := same_new hl1 (.lst [V.int (an i e), V.int (wonO ch i e.1)])
      have ea : (upd H' l1 (.lst [V.int (an i e), V.int (wonO ch i e.1)])) l1 = some (.lst [V.int (an i e), V.int (wonO ch i e.1)]) := upd_same
      generalize upd H' l1 (.lst [V.int (an i e), V.int (wonO ch i e.1)]) = H5 at sa ea ⊢
      refine ⟨_, rfl, _, rfl, l1, _, rfl, SqL.of ea, fun l2 hl2 => ?_⟩
      have sb' := same_new hl2 (.lst ([V.int (an i e), V.int (wonO ch i e.1)].reverse))
      have eb : (upd H5 l2 (.lst ([V.int (an i e), V.int (wonO ch i e.1)].reverse))) l2 = some (.lst [V.int (wonO ch i e.1), V.int (an i e)]) := upd_same
      generalize upd H5 l2 (.lst ([V.int (an i e), V.int (wonO ch i e.1)].reverse)) = H6 at sb' eb ⊢
      refine ⟨(by show 2 ≤ sizeLine; decide), fun l3 hl3 => ?_⟩
      have sc := same_new hl3 (.lst [V.ref l1, V.ref l2])
      obtain ⟨lp, hgt, hlp⟩ : ∃ lp, ([V.ref l1, V.ref l2] : List V)[i]? = some (.ref lp) ∧ (upd H6 l3 (.lst [V.ref l1, V.ref l2])) lp = some (.lst [V.int (pairO i (an i e) (wonO ch i e.1)).1, V.int (pairO i (an i e) (wonO ch i e.1)).2]) := by
        obtain rfl | rfl : i = 0 ∨ i = 1 := by omega
        · exact ⟨l1, rfl, sc _ _ (sb' _ _ ea)⟩
        · exact ⟨l2, rfl, sc _ _ eb⟩
      refine ⟨_, rfl, l3, _, _, _, rfl, rfl, SqL.of upd_same, atI_nat hgt, ?_⟩
      have s6 := (st.trans sa).trans (sb'.trans sc)
      have s46 := (s4.trans sa).trans (sb'.trans sc)
      have htt6 := (sa.trans (sb'.trans sc)) _ _ htt
      generalize upd H6 l3 (.lst [V.ref l1, V.ref l2]) = H7 at s6 s46 htt6 hlp ⊢
      refine ⟨lp, _, rfl, .inl ⟨SqL.of hlp, fun u hu' => ?_⟩⟩
      have s8 := same_new hu' (.tup [V.int (pairO i (an i e) (wonO ch i e.1)).1, V.int (pairO i (an i e) (wonO ch i e.1)).2])
      obtain ⟨kvb2, hd2, ha2⟩ := hB.mono (s6.trans s8)
      obtain ⟨lv, hlv, hlet⟩ := val_at ha2 hW.srt e hem
      refine ⟨_, rfl, _, rfl, Bd, _, rfl, hlv ▸ DGet.t (k := kI e.1) hd2 (s8 _ _ htt6), pairD (pairO i (an i e) (wonO ch i e.1)), e.2.map pairD, (TpAt.dp ⟨u, rfl, upd_same⟩), hlet.dp, (okD_pair _).shaped (by decide), (okD_pairs _).shaped (by decide), _, rfl, ?_⟩
      rw [any_pair]
      by_cases c : okAns ch an i e
      · rw [decide_eq_true (show pairO i (an i e) (wonO ch i e.1) ∈ e.2 from c)]
        refine iteF ⟨_, _, _, rfl, s46.trans s8, fun e' he' => ?_⟩
        rw [take_get hbe] at he'
        rcases List.mem_append.mp he' with h' | h'
        · exact hok e' h'
        · obtain rfl := List.mem_singleton.mp h'
          exact c
      · rw [decide_eq_false (show ¬ pairO i (an i e) (wonO ch i e.1) ∈ e.2 from c)]
        refine iteT ⟨_, rfl, _, rfl, (by show 3 ≤ sizeLine; decide), fun r2 hr2 => ?_⟩
        exact q _ _ ((s6.trans s8).trans (same_new hr2 _)) (.inr (.inr ⟨r2, tt, i, j, e, rfl, upd_same, ⟨tt, rfl, same_new hr2 _ _ _ (s8 _ _ htt6)⟩, hi, hAll, hbe, c, okH, hok⟩))
    · rintro σ H' ⟨g6, g7, g8, rfl, s4, hok⟩
      refine ⟨_, _, _, _, rfl, s2.trans (s3.trans s4), fun h hh e he => ?_⟩
      rcases Nat.lt_succ_iff_lt_or_eq.mp hh with h' | rfl
      · exact okH h h' e he
      · refine hok e ?_
        rw [aS2.len, List.length_map, List.take_length]
        exact sb_mem.mpr he
  · rintro σ H2 ⟨g5, g6, g7, g8, rfl, s2, okH⟩
    exact q _ _ (s01.trans s2) (.inl ⟨rfl, hAll, okH⟩)
end
end TA

set_option Elab.async false
set_option maxRecDepth 100000
set_option maxHeartbeats 4000000
namespace TA
open PySem L2 PyProof.Rows
set_option linter.unusedVariables false
theorem zlt4 : (0 : Int) < 4 := by decide
theorem forT_turns {d : Addr} {o : Obj} {kvs : List (List Key × V)} {g : TG} {tb : TS} {D : Ends} {σ0 : L2.St} {H0 : Hp} (Pv : Nat → L2.St → Hp → Prop) (start : Pv 0 σ0 H0) (still : ∀ i σ H, Pv i σ H → H d = some (.frz o (.dT kvs)))
    (turn : ∀ i k v q σ H, kvs[i]? = some (k, v) → H q = some (.tup (k.map kV)) → Pv i σ H → g (.ref q) σ H fun σ2 H2 => tb { D with nx := Pv (i + 1), ct := Pv (i + 1), bk := D.nx } σ2 H2) (last : ∀ σ H, Pv kvs.length σ H → D.nx σ H) :
    ∃ W : Nat → Nat → L2.St → Hp → Prop, (∃ m, W 0 m σ0 H0) ∧ ∀ i m σ H, W i m σ H →
      ((Itkt d o kvs).stop i H ∧ D.nx σ H) ∨ ((Itkt d o kvs).go i H ∧ ∃ N : L2.St → Hp → Prop, (∀ σ' H', N σ' H' → ∃ m', m' < m ∧ W (i + 1) m' σ' H') ∧ ∀ x H', (Itkt d o kvs).yld i H x H' → g x σ H' fun σ2 H2 => tb { D with nx := N, ct := N, bk := D.nx } σ2 H2) := by
  refine ⟨fun i m σ H => i + m = kvs.length ∧ Pv i σ H, ⟨kvs.length, by omega, start⟩, fun i m σ H h => ?_⟩
  obtain ⟨hm, word⟩ := h
  cases m with
  | zero =>
    have hin : i = kvs.length := by omega
    rw [hin] at word ⊢
    exact Or.inl ⟨⟨still _ _ _ word, Nat.le_refl _⟩, last σ H word⟩
  | succ m =>
    refine Or.inr ⟨⟨still _ _ _ word, by omega⟩, Pv (i + 1), fun σ' H' w' => ⟨m, by omega, by omega, w'⟩, fun x H' y => ?_⟩
    obtain ⟨e, k, v, q, e1, e2, e3⟩ := y
    rw [e, e2]
    exact turn i k v q σ H e1 e3 word
theorem some_up {a q L : Addr} {H H' : Hp} {o : HO} (b : But a H H') (n : q ≠ a) (h : H q ≠ none) : upd H' L o q ≠ none := fun c => by
  by_cases e : q = L
  · rw [e, upd_same] at c
    cases c
  · rw [upd_ne e] at c
    cases k : H q with
    | none => exact h k
    | some u =>
      rw [b _ _ n k] at c
      cases c
def gKV (g : IP × List (Int × Int) → Int) (bo : BD) : List (List Key × V) := bo.map fun e => (kI e.1, V.int (g e))
/-- what the law draws: a thing of the right form, of small numbers -/
structure Drawn (H' : Hp) (T : TD) (t cal ans d0 d1 : Addr) (ch : Nat → List Int) (an : Nat → IP × List (Int × Int) → Int) : Prop where
  ht : H' t = some (.tup [.ref cal, .ref ans])
  hal : RowsAt H' (.ref cal) [ch 0, ch 1]
  hans : H' ans = some (.lst [.ref d0, .ref d1])
  h0 : H' d0 = some (.dT (anKV an 0 T.bo))
  h1 : H' d1 = some (.dT (anKV an 1 T.bo))
  len : ∀ h, h < 2 → (ch h).length = (T.al h).length
  outc : ∀ h, h < 2 → ∀ x ∈ ch h, 0 ≤ x ∧ x < 4
  outa : ∀ h e, 0 ≤ an h e ∧ an h e < 4
def spDrawn : Sp := fun vs H Q _ => ∃ (a al B : Addr) (n : Int) (T : TD), vs = [.ref a, .ref al, .ref B] ∧ WellAt H a n ∧ 0 ≤ n ∧ n < 900000 ∧ WF T ∧ (∀ h, h < 2 → (T.al h).length ≤ 4) ∧ T.bo.length ≤ 16 ∧ AlAt (vw (pA a) H) (.ref al) T.al ∧ (∃ kvb, H B = some (.dT kvb) ∧ A2 (EnAt (vw (pA a) H)) kvb T.bo) ∧
  ∀ (t cal ans d0 d1 : Addr) (ch : Nat → List Int) (an : Nat → IP × List (Int × Int) → Int) (H' : Hp), But a H H' → WellAt H' a (n + 50) → H t = none → H cal = none → H ans = none → H d0 = none → H d1 = none → Drawn (vw (pA a) H') T t cal ans d0 d1 ch an → (∃ r0 r1, vw (pA a) H' cal = some (.lst [.ref r0, .ref r1]) ∧ r0 ≠ r1 ∧ H r0 = none) → d0 ≠ d1 → Q (.ref t) H'
theorem RowAt.putL {a L : Addr} {H2 : Hp} {o : HO} {v : V} {row : List Int} (h : RowAt (vw (pA a) H2) v row) (n : v ≠ .ref L) : RowAt (vw (pA a) (upd H2 L o)) v row := by
  obtain ⟨t, rfl, h⟩ := h
  obtain ⟨c, h⟩ := vw_some h
  exact ⟨t, rfl, vw_put c (by rw [upd_ne (fun e => n (by rw [e]))]; exact h)⟩
theorem gKV_take {bo : BD} (s : (bo.map (·.1)).Pairwise (· ≠ ·)) {j : Nat} {e : IP × List (Int × Int)} (he : bo[j]? = some e) (g : IP × List (Int × Int) → Int) (x : Int) : putK (gKV g (bo.take j)) (kI e.1) (.int x) = gKV (fun f => if f.1 = e.1 then x else g f) (bo.take (j + 1)) := by
  have hjb := (List.getElem?_eq_some_iff.mp he).1
  have nk : ∀ f ∈ bo.take j, f.1 ≠ e.1 := fun f hf c => by
    obtain ⟨i, hi⟩ := List.getElem?_of_mem hf
    have hil : i < j := by
      have := (List.getElem?_eq_some_iff.mp hi).1
      rw [List.length_take] at this
      omega
    rw [List.getElem?_take_of_lt hil] at hi
    have sr := List.pairwise_iff_getElem.mp s i j (by rw [List.length_map]; omega) (by rw [List.length_map]; exact hjb) hil
    rw [List.getElem_map, List.getElem_map, (List.getElem?_eq_some_iff.mp hi).2, (List.getElem?_eq_some_iff.mp he).2] at sr
    exact sr c
  rw [putK_new _ (valV_noneP fun kv hkv c => by
    obtain ⟨f, hf, rfl⟩ := List.mem_map.mp hkv
    exact nk f hf (kI_inj c)), take_get he]
  unfold gKV
  rw [List.map_append]
  have e1 : (bo.take j).map (fun f => (kI f.1, V.int (g f))) = (bo.take j).map (fun f => (kI f.1, V.int (if f.1 = e.1 then x else g f))) := List.map_congr_left fun f hf => by rw [if_neg (nk f hf)]
  rw [e1]
  show _ = _ ++ [(kI e.1, V.int (if e.1 = e.1 then x else g e))]
  rw [if_pos rfl]
section
variable {P : Program} {w : World} {K : PySem.W.Frag} {mg : Str → Option Value} {base : Heap}
abbrev nDn : List Str := ["_law_state", "_law_alone", "_law_both", "_law_told", "_law_answers", "_law_hand", "_law_pair", "_law_rows", "_law_row"]
theorem sc_dn : FnScope nDn ["_law_state", "_law_alone", "_law_both"] (defScope s__law_drawn) := ⟨rfl, rfl, rfl, by decide +kernel, rfl, by decide +kernel, by decide +kernel⟩
theorem ok_dn {f g1 : Addr} {fd d1 : FuncData} (F : Fun K "_law_drawn" "_law_drawn" s__law_drawn f fd) (T : Txt K mg) (Dg : Def P w K mg base "_law_digit" ["_law_state", "_law_base"] 1 spDigit g1 d1) :
    FnOk P w K mg base CX0 2 f fd ["_law_state", "_law_alone", "_law_both"] spDrawn := by
  refine F.ok sc_dn (fun vs H Q E h => ?_) (fun cdv A outer s H vs Q E hr h => ?_)
  · obtain ⟨a, al, B, n, D, rfl, _⟩ := h
    rfl
  obtain ⟨a, al, B, n, D, rfl, wl, hn0, hn, hW, h4, h16, hA, ⟨kvb, hB, hb⟩, q⟩ := h
  have nd := sc_dn.nd
  have hu := hu_of hr
  refine ⟨_, (pss_cons (ps_setLc (i := 3) (own := [("_law_rows", 7)]) (g := (gName 7)) (tt := tYes) (te := (tLc (iList K (tVar 7)) (gName 8) tYes (tCall spDigit [] E0 (tCons (tVar 0) (tCons (tC (.int 4)) tNil))) [8])) rfl nd rfl rfl (sw_true rfl rfl rfl (by decide +kernel)) (pi_list (pv 1)) (blkOk_by (N := nDn) (sc := defScope s__law_drawn) (by decide +kernel)) (fun _ _ _ _ _ => (by exact (pg_name (i := 7) nd rfl (Or.inl rfl)))) (fun _ _ _ _ _ => pts_nil) (fun _ _ _ _ _ => (by exact (pe_lc (own := [("_law_row", 8)]) (g := (gName 8)) (tt := tYes) (te := (tCall spDigit [] E0 (tCons (tVar 0) (tCons (tC (.int 4)) tNil)))) rfl nd (pi_list (pv 7)) (blkOk_by (N := nDn)  (by kernel_rfl)) (fun _ _ _ _ _ => (by exact (pg_name (i := 8) nd rfl (Or.inl rfl)))) (fun _ _ _ _ _ => pts_nil) (fun _ _ _ _ _ => (by exact (pe_call Dg.G (hr.mono (by decide)) rfl Dg.m Dg.k Dg.b .nil pass0 (pa_cons (pv 0) (pa_cons pe_int pa_nil)))))))))
    (pss_cons (ps_set (i := 4) nd rfl (Or.inl rfl) (pe_lst (pa_cons pe_dnewT (pa_cons pe_dnewT pa_nil))))
    (pss_cons (ps_for PassesOwn.never (by rfl) (pi_range1 (by rfl) T.range (pa_cons pe_int pa_nil)) (pg_name (i := 5) nd rfl (Or.inl rfl))
      (pss_one (ps_lock (ps_for PassesOwn.never (by rfl) (pi_keys (pv 2)) (pg_name (i := 6) nd rfl (Or.inl rfl))
      (pss_one (ps_dput hu (pe_ix ix_list (pv 4) (pv 5) (fun _ _ => rfl)) (pv 6) (pe_call Dg.G (hr.mono (by decide)) rfl Dg.m Dg.k Dg.b .nil pass0 (pa_cons (pv 0) (pa_cons pe_int pa_nil))) rfl))))))
    (pss_one (ps_ret (pe_tup (pa_cons (pv 3) (pa_cons (pv 4) pa_nil)))))))), ?_⟩
  obtain ⟨ta, ax0, ax1, ea, hta, arow⟩ := id hA.row
  obtain rfl : al = ta := by injection ea
  obtain ⟨cal_, htaH⟩ := vw_some hta
  have nal := pA_ok.mp cal_
  refine ⟨_, rfl, al, rfl, ⟨_, SqL.of htaH⟩, fun L hL => ?_⟩
  have naL : a ≠ L := wl.ne hL
  have nHa : H a ≠ none := by
    obtain ⟨xs, h⟩ := wl.lst
    rw [h]
    exact fun z => by cases z
  have s0 := same_new hL (.lst [])
  refine list_turns (xs := [ax0, ax1]) (fun i H' => ∃ (us : List V) (cs : List (List Int)), But a H H' ∧ WellAt H' a (n + 4 * (i : Int)) ∧ H' L = some (.lst us) ∧ cs.length = i ∧ A2 (fun v row => RowAt (vw (pA a) H') v row ∧ v ≠ .ref L ∧ ∃ q, v = .ref q ∧ H q = none ∧ H' q ≠ none) us cs ∧ us.Nodup ∧ (∀ k, k < i → (cs.getD k []).length = (D.al k).length) ∧ ∀ c ∈ cs, ∀ x ∈ c, 0 ≤ x ∧ x < 4) ⟨[], [], .same s0, by simpa using wl.same s0, upd_same, rfl, .nil, .nil, fun k hk => absurd hk (Nat.not_lt_zero _), fun c hc => by cases hc⟩ (fun i H' _ ⟨_, _, b1, _⟩ => SqL.of (b1 _ _ nal htaH)) ?_ ?_
  · rintro i x H' hx ⟨us, cs, b1, w1, hL1, lc, ac, nu, len, rng⟩
    have hi : i < 2 := (List.getElem?_eq_some_iff.mp hx).1
    obtain ⟨y, hy, r, xs, rfl, hr3, ha3⟩ := arow i hi
    obtain rfl : x = .ref r := by
      rw [hx] at hy
      injection hy
    obtain ⟨cr, hrH⟩ := vw_some hr3
    have nr := pA_ok.mp cr
    have hll := ha3.len
    have hl4 := h4 i hi
    refine ⟨rfl, _, rfl, r, rfl, ⟨_, SqL.of (b1 _ _ nr hrH)⟩, fun M hM => ?_⟩
    have naM : a ≠ M := w1.ne hM
    have nLM : L ≠ M := ne_of_none hL1 hM
    have sM := same_new hM (.lst [])
    refine list_turns (xs := xs) (fun j H2 => ∃ ns : List Int, But a H' H2 ∧ WellAt H2 a (n + 4 * (i : Int) + (j : Int)) ∧ H2 M = some (.lst (ns.map V.int)) ∧ ns.length = j ∧ ∀ x ∈ ns, 0 ≤ x ∧ x < 4) ⟨[], .same sM, by simpa using w1.same sM, upd_same, rfl, fun x hx => by cases hx⟩ (fun j H2 _ ⟨_, b2, _⟩ => SqL.of (b2 _ _ nr (b1 _ _ nr hrH))) ?_ ?_
    · rintro j z H2 hz ⟨ns, b2, w2, hM2, ln, rn⟩
      have hj : j < xs.length := (List.getElem?_eq_some_iff.mp hz).1
      refine ⟨rfl, _, rfl, a, n + 4 * (i : Int) + (j : Int), 4, rfl, .inr w2, by omega, by omega, by omega, by omega, fun v H3 v0 v1 b3 w3 => ?_⟩
      have hM3 := b3 _ _ (Ne.symm naM) hM2
      refine ⟨_, hM3, ?_, ns ++ [v], (b2.trans b3).new hM, ?_, by rw [upd_same, List.map_append]; rfl, by rw [List.length_append, ln]; rfl, fun y hy => ?_⟩
      · rw [List.length_map, ln]
        exact Nat.lt_of_lt_of_le (show j < 100 by omega) (by decide)
      · have := w3.but naM But.at (H' := upd H3 M (.lst (ns.map V.int ++ [V.int v])))
        rw [show n + 4 * (i : Int) + ((j + 1 : Nat) : Int) = n + 4 * (i : Int) + (j : Int) + 1 by omega]
        exact this
      · rcases List.mem_append.mp hy with hy | hy
        · exact rn y hy
        · obtain rfl := List.mem_singleton.mp hy
          exact ⟨v0, v1⟩
    · rintro H2 ⟨ns, b2, w2, hM2, ln, rn⟩
      have hL2 := b2 _ _ (Ne.symm naL) hL1
      have nML : M ≠ L := Ne.symm nLM
      refine ⟨_, hL2, ?_, us ++ [.ref M], cs ++ [ns], (b1.trans b2).new hL, ?_, upd_same, by rw [List.length_append, lc]; rfl, ?_, ?_, ?_, ?_⟩
      · rw [ac.len, lc]
        exact Nat.lt_of_lt_of_le (show i < 100 by omega) (by decide)
      · have := w2.but naL But.at (H' := upd H2 L (.lst (us ++ [V.ref M])))
        exact this.up (by omega)
      · refine A2.app (ac.imp fun v row r => ⟨RowAt.putL (r.1.mono (vwA_but b2)) r.2.1, r.2.1, let ⟨q, e, h1, h2⟩ := r.2.2; ⟨q, e, h1, some_up b2 (fun z => nHa (by rw [← z]; exact h1)) h2⟩⟩) (.cons ⟨⟨M, rfl, vw_put (pA_ok.mpr (Ne.symm naM)) (by rw [upd_ne nML]; exact hM2)⟩, (fun e => nML (by injection e)), M, rfl, none_of_but b1 (Ne.symm naM) hM, by rw [upd_ne nML, hM2]; exact fun z => by cases z⟩ .nil)
      · rw [List.nodup_append]
        refine ⟨nu, by simp, fun x hx y hy e => ?_⟩
        obtain rfl := List.mem_singleton.mp hy
        subst e
        obtain ⟨row, _, r⟩ := ac.mem hx
        obtain ⟨q, e, _, h2⟩ := r.2.2
        injection e with e
        rw [← e] at h2
        exact h2 hM
      · intro k hk
        rcases Nat.lt_succ_iff_lt_or_eq.mp hk with h' | rfl
        · rw [List.getD_eq_getElem?_getD, List.getElem?_append_left (by omega), ← List.getD_eq_getElem?_getD]
          exact len k h'
        · rw [List.getD_eq_getElem?_getD, List.getElem?_append_right (by omega), lc, Nat.sub_self]
          show ns.length = _
          rw [ln, hll]
      · intro c hc
        rcases List.mem_append.mp hc with hc | hc
        · exact rng c hc
        · obtain rfl := List.mem_singleton.mp hc
          exact rn
  rintro H1 ⟨us, cs, b1, w1, hL1, lc, ac, nu, len, rng⟩
  have lc : cs.length = 2 := lc
  have w1 : WellAt H1 a (n + 8) := w1
  have ecs : cs = [cs.getD 0 [], cs.getD 1 []] := by
    match cs, lc with
    | [x, y], _ => rfl
  have hRows : RowsAt (vw (pA a) H1) (.ref L) [cs.getD 0 [], cs.getD 1 []] := by
    rw [← ecs]
    exact ⟨L, us, rfl, vw_put (pA_ok.mpr (Ne.symm naL)) hL1, ac.imp fun _ _ r => r.1⟩
  have hLus := vw_put (pA_ok.mpr (Ne.symm naL)) hL1
  refine fun d0 hd0 d1 hd1 => ⟨(by show 2 ≤ sizeLine; decide), fun ans hans => ?_⟩
  have na0 : a ≠ d0 := w1.ne hd0
  have sd0 := same_new hd0 (.dT [])
  have na1 : a ≠ d1 := (w1.same sd0).ne hd1
  have n01 : d0 ≠ d1 := ne_of_none upd_same hd1
  have sd1 := same_new hd1 (.dT [])
  have nA : a ≠ ans := ((w1.same sd0).same sd1).ne hans
  have sda := same_new hans (.lst [V.ref d0, V.ref d1])
  have e0 := sda _ _ (sd1 _ _ (upd_same : (upd H1 d0 (.dT [])) d0 = some (.dT [])))
  have e1 := sda _ _ (upd_same : (upd (upd H1 d0 (.dT [])) d1 (.dT [])) d1 = some (.dT []))
  have ea2 : (upd (upd (upd H1 d0 (.dT [])) d1 (.dT [])) ans (.lst [V.ref d0, V.ref d1])) ans = some (.lst [V.ref d0, V.ref d1]) := upd_same
  have b01 : But a H (upd (upd (upd H1 d0 (.dT [])) d1 (.dT [])) ans (.lst [V.ref d0, V.ref d1])) := b1.trans (.same ((sd0.trans sd1).trans sda))
  have w2 := ((w1.same sd0).same sd1).same sda
  have hRows2 := And.intro (hRows.mono (vwA_but (.same ((sd0.trans sd1).trans sda)))) ((vwA_but (.same ((sd0.trans sd1).trans sda))).lst hLus)
  have f1 : H d1 = none := by
    refine none_of_but b1 (Ne.symm na1) ?_
    rw [upd_ne (Ne.symm n01)] at hd1
    exact hd1
  have f0 : H d0 = none := none_of_but b1 (Ne.symm na0) hd0
  have fA : H ans = none := none_of_but (b1.trans (.same (sd0.trans sd1))) (Ne.symm nA) hans
  generalize upd (upd (upd H1 d0 (.dT [])) d1 (.dT [])) ans (.lst [V.ref d0, V.ref d1]) = H2 at e0 e1 ea2 b01 w2 hRows2 ⊢
  have nB0 : B ≠ d0 := fun e => by rw [e, f0] at hB; cases hB
  have nB1 : B ≠ d1 := fun e => by rw [e, f1] at hB; cases hB
  have nBa : B ≠ a := fun e => by
    obtain ⟨xs, h⟩ := wl.lst
    rw [← e, hB] at h
    cases h
  refine ⟨2, rfl, by omega, by omega, ?_⟩
  refine for_range (n := 2) (fun i σ H' => ∃ g5 g6 g7 g8, ∃ f0 f1 : IP × List (Int × Int) → Int, σ = [some (.ref a), some (.ref al), some (.ref B), some (.ref L), some (.ref ans), g5, g6, g7, g8] ∧ But a H H' ∧ WellAt H' a (n + 8 + 16 * (i : Int)) ∧ (RowsAt (vw (pA a) H') (.ref L) [cs.getD 0 [], cs.getD 1 []] ∧ vw (pA a) H' L = some (.lst us)) ∧ H' ans = some (.lst [V.ref d0, V.ref d1]) ∧ H' d0 = some (.dT (if 0 < i then gKV f0 D.bo else [])) ∧ H' d1 = some (.dT (if 1 < i then gKV f1 D.bo else [])) ∧ (∀ e, 0 ≤ f0 e ∧ f0 e < 4) ∧ ∀ e, 0 ≤ f1 e ∧ f1 e < 4) ⟨_, _, _, _, fun _ => 0, fun _ => 0, rfl, b01, by simpa using w2, hRows2, ea2, e0, e1, fun _ => ⟨Int.le_refl 0, zlt4⟩, fun _ => ⟨Int.le_refl 0, zlt4⟩⟩ ?_ ?_
  · rintro i σ H' hi ⟨g5, g6, g7, g8, z0, z1, rfl, b3, w3, hR3, ha3, h03, h13, r0, r1⟩
    have ej : (0 : Int) + (i : Int) = (i : Int) := by omega
    rw [ej]
    have hB3 := b3 _ _ nBa hB
    obtain ⟨d, hd, hdd, nda, ndB, hdn⟩ : ∃ d, ([V.ref d0, V.ref d1] : List V)[i]? = some (.ref d) ∧ H' d = some (.dT []) ∧ d ≠ a ∧ d ≠ B ∧ H d = none := by
      obtain rfl | rfl : i = 0 ∨ i = 1 := by omega
      · exact ⟨d0, rfl, h03, Ne.symm na0, Ne.symm nB0, f0⟩
      · exact ⟨d1, rfl, h13, Ne.symm na1, Ne.symm nB1, f1⟩
    have aB : ans ≠ B := fun e => by rw [e, hB3] at ha3; cases ha3
    have ad : ans ≠ d := fun e => by rw [e, hdd] at ha3; cases ha3
    refine ⟨B, _, hB3, trivial, fun od => ?_⟩
    have hl : (upd H' B (.frz od (.dT kvb))) B = some (.frz od (.dT kvb)) := upd_same
    have ed : (upd H' B (.frz od (.dT kvb))) d = some (.dT []) := by rw [upd_ne ndB]; exact hdd
    have c0 : ∀ b o, b ≠ a → b ≠ d → b ≠ B → H' b = some o → (upd H' B (.frz od (.dT kvb))) b = some o := fun b o _ _ n h => by rw [upd_ne n]; exact h
    have wB : WellAt (upd H' B (.frz od (.dT kvb))) a (n + 8 + 16 * (i : Int)) := w3.but (Ne.symm nBa) But.at
    generalize upd H' B (.frz od (.dT kvb)) = H4 at hl ed c0 wB ⊢
    refine ⟨_, rfl, B, od, rfl, .inr ⟨kvb, hl, ?_⟩⟩
    refine forT_turns (kvs := kvb) (fun j σ H5 => ∃ g6, ∃ f : IP × List (Int × Int) → Int, σ = [some (.ref a), some (.ref al), some (.ref B), some (.ref L), some (.ref ans), some (.int (i : Int)), g6, g7, g8] ∧ (∀ b o, b ≠ a → b ≠ d → b ≠ B → H' b = some o → H5 b = some o) ∧ H5 B = some (.frz od (.dT kvb)) ∧ WellAt H5 a (n + 8 + 16 * (i : Int) + (j : Int)) ∧ H5 d = some (.dT (gKV f (D.bo.take j))) ∧ ∀ e, 0 ≤ f e ∧ f e < 4) ⟨_, fun _ => 0, rfl, c0, hl, by simpa using wB, ed, fun _ => ⟨Int.le_refl 0, zlt4⟩⟩ (fun j σ H5 ⟨_, _, _, _, e, _⟩ => e) ?_ ?_
    · rintro j k v qa σ H5 hj hq ⟨g6, f, rfl, c5, e5, w5, d5, rf⟩
      obtain ⟨eb, hbj, ek, _⟩ := hb.get hj
      have ek : k = kI eb.1 := ek
      subst ek
      have hjb : j < D.bo.length := (List.getElem?_eq_some_iff.mp hbj).1
      refine ⟨_, rfl, a, n + 8 + 16 * (i : Int) + (j : Int), 4, rfl, .inr w5, by omega, by omega, by omega, by omega, fun x H6 x0 x1 b6 w6 => ?_⟩
      have nqa : qa ≠ a := fun e => by
        obtain ⟨xs, h⟩ := w5.lst
        rw [← e, hq] at h
        cases h
      have d6 := b6 _ _ nda d5
      have ansa : ans ≠ a := Ne.symm nA
      refine ⟨_, rfl, _, rfl, ans, _, _, _, rfl, rfl, SqL.of (b6 _ _ ansa (c5 _ _ ansa ad aB ha3)), atI_nat hd, _, rfl, d, _, rfl, DPut.t (k := kI eb.1) d6 (b6 _ _ nqa hq) ?_, ?_⟩
      · unfold gKV
        rw [List.length_map, List.length_take]
        exact Nat.lt_of_lt_of_le (show min j D.bo.length < 100 by omega) (by decide)
      rw [gKV_take hW.srt hbj f x]
      refine ⟨_, fun f' => if f'.1 = eb.1 then x else f f', rfl, fun b o n1 n2 n3 h => ?_, ?_, ?_, upd_same, fun e => ?_⟩
      · rw [upd_ne n2]
        exact b6 _ _ n1 (c5 b o n1 n2 n3 h)
      · rw [upd_ne (Ne.symm ndB)]
        exact b6 _ _ nBa e5
      · have := w6.but (Ne.symm nda) But.at (H' := upd H6 d (.dT (gKV (fun f' => if f'.1 = eb.1 then x else f f') (D.bo.take (j + 1)))))
        rw [show n + 8 + 16 * (i : Int) + ((j + 1 : Nat) : Int) = n + 8 + 16 * (i : Int) + (j : Int) + 1 by omega]
        exact this
      · show 0 ≤ (if e.1 = eb.1 then x else f e) ∧ (if e.1 = eb.1 then x else f e) < 4
        by_cases c : e.1 = eb.1
        · rw [if_pos c]; exact ⟨x0, x1⟩
        · rw [if_neg c]; exact rf e
    · rintro σ H5 ⟨g6, f, rfl, c5, e5, w5, d5, rf⟩
      rw [hb.len, List.take_length] at d5
      refine ⟨e5, ?_⟩
      have u : ∀ b o, b ≠ a → b ≠ d → H' b = some o → (upd H5 B (.dT kvb)) b = some o := fun b o n1 n2 h => by
        by_cases c : b = B
        · subst c
          rw [hB3] at h
          rw [upd_same]
          exact h
        · rw [upd_ne c]
          exact c5 b o n1 n2 c h
      have w7 : WellAt (upd H5 B (.dT kvb)) a (n + 8 + 16 * (i : Int) + (kvb.length : Int)) := w5.but (Ne.symm nBa) But.at
      have d7 : (upd H5 B (.dT kvb)) d = some (.dT (gKV f D.bo)) := by rw [upd_ne ndB]; exact d5
      generalize upd H5 B (.dT kvb) = H7 at u w7 d7 ⊢
      have bH : But a H H7 := fun b o nb h => u b o nb (fun e => by rw [e, hdn] at h; cases h) (b3 b o nb h)
      have kp : Kp (vw (pA a) H') (vw (pA a) H7) := vw_mono fun b o hp hf h => ⟨hp, u b o (pA_ok.mp hp) (fun e => by
        rw [e, hdd] at h
        cases h
        rcases hf with ⟨_, h⟩ | ⟨_, h⟩ <;> cases h) h⟩
      have hkl : (kvb.length : Int) ≤ 16 := by
        have := hb.len
        omega
      have w8 : WellAt H7 a (n + 8 + 16 * ((i + 1 : Nat) : Int)) := w7.up (by omega)
      obtain rfl | rfl : i = 0 ∨ i = 1 := by omega
      · obtain rfl : d0 = d := by simpa using hd
        exact ⟨_, _, _, _, f, z1, rfl, bH, w8, ⟨hR3.1.mono kp, kp.lst hR3.2⟩, u _ _ (Ne.symm nA) ad ha3, d7, u _ _ (Ne.symm na1) (Ne.symm n01) h13, rf, r1⟩
      · obtain rfl : d1 = d := by simpa using hd
        exact ⟨_, _, _, _, z0, f, rfl, bH, w8, ⟨hR3.1.mono kp, kp.lst hR3.2⟩, u _ _ (Ne.symm nA) ad ha3, u _ _ (Ne.symm na0) n01 h03, d7, r0, rf⟩
  rintro σ H' ⟨g5, g6, g7, g8, z0, z1, rfl, b3, w3, hR3, ha3, h03, h13, r0, r1⟩
  refine ⟨_, rfl, _, rfl, (by show 2 ≤ sizeLine; decide), fun t ht => ?_⟩
  have s4 := same_new ht (.tup [V.ref L, V.ref ans])
  have nat' : a ≠ t := w3.ne ht
  have hLH : H L = none := hL
  have g : ∀ b o, b ≠ a → H' b = some o → vw (pA a) (upd H' t (.tup [V.ref L, V.ref ans])) b = some o := fun b o nb h => vw_put (pA_ok.mpr nb) (s4 _ _ h)
  refine q t L ans d0 d1 (fun h => cs.getD h []) (fun h => if h = 0 then z0 else z1) _ (b3.trans (.same s4)) ((w3.same s4).up (by omega)) (none_of_but b3 (Ne.symm nat') ht) hLH fA f0 f1 ⟨vw_put (pA_ok.mpr (Ne.symm nat')) upd_same, hR3.1.mono (vwA_but (.same s4)), g _ _ (Ne.symm nA) ha3, g _ _ (Ne.symm na0) h03, g _ _ (Ne.symm na1) h13, len, fun h hh x hx => rng (cs.getD h []) ?_ x hx, fun h e => ?_⟩ ?_ n01
  · rw [ecs]
    obtain rfl | rfl : h = 0 ∨ h = 1 := by omega
    · exact List.mem_cons_self
    · exact List.mem_cons_of_mem _ List.mem_cons_self
  · by_cases c : h = 0
    · subst c; exact r0 e
    · show 0 ≤ (if h = 0 then z0 else z1) e ∧ (if h = 0 then z0 else z1) e < 4
      rw [if_neg c]; exact r1 e
  · have lu : us.length = 2 := by rw [ac.len, lc]
    obtain ⟨u0, u1, rfl⟩ : ∃ u0 u1, us = [u0, u1] := by
      match us, lu with
      | [x, y], _ => exact ⟨x, y, rfl⟩
    obtain ⟨_, _, r0⟩ := ac.mem (List.mem_cons_self)
    obtain ⟨_, _, r1⟩ := ac.mem (List.mem_cons_of_mem _ List.mem_cons_self)
    obtain ⟨q0, rfl, h0, _⟩ := r0.2.2
    obtain ⟨q1, rfl, h1, _⟩ := r1.2.2
    refine ⟨q0, q1, (vwA_but (.same s4)).lst hR3.2, fun z => ?_, h0⟩
    subst z
    simp at nu
end
end TA

set_option Elab.async false
set_option maxRecDepth 100000
set_option maxHeartbeats 4000000
namespace TA
open PySem L2 PyProof.Rows
set_option linter.unusedVariables false
structure Tiny (d : PyData) (w n : Nat) : Prop where
  s : d.showable = true
  l : d.leavesShort 8 = true
  w : d.weight ≤ w
  d : d.depth ≤ n
theorem Tiny.up {d : PyData} {w w' n n' : Nat} (t : Tiny d w n) (h : w ≤ w') (h2 : n ≤ n') : Tiny d w' n' := ⟨t.s, t.l, Nat.le_trans t.w h, Nat.le_trans t.d h2⟩
theorem tiny_all {w n : Nat} : ∀ {ds : List PyData}, (∀ d ∈ ds, Tiny d w n) → PyData.showableAll ds = true ∧ PyData.leavesShortAll 8 ds = true ∧ PyData.weightAll ds ≤ (w + 1) * ds.length ∧ PyData.depthAll ds ≤ n
  | [], _ => ⟨by rw [PyData.showableAll], by rw [PyData.leavesShortAll], by rw [PyData.weightAll]; exact Nat.zero_le _, by rw [PyData.depthAll]; exact Nat.zero_le _⟩
  | d :: ds, q => by
    obtain ⟨a, b, c, e⟩ := tiny_all (ds := ds) fun x hx => q x (List.mem_cons_of_mem _ hx)
    have t := q d List.mem_cons_self
    refine ⟨by rw [PyData.showableAll, t.s, a]; rfl, by rw [PyData.leavesShortAll, t.l, b]; rfl, ?_, ?_⟩
    · rw [PyData.weightAll, List.length_cons, Nat.mul_succ]
      have := t.w
      omega
    · rw [PyData.depthAll]
      exact Nat.max_le.mpr ⟨t.d, e⟩
theorem tiny_list {w n m : Nat} {ds : List PyData} (q : ∀ d ∈ ds, Tiny d w n) (hm : ds.length ≤ m) : Tiny (.list ds) ((w + 1) * m) (n + 1) := by
  obtain ⟨a, b, c, e⟩ := tiny_all q
  refine ⟨by rw [PyData.showable]; exact a, by rw [PyData.leavesShort]; exact b, ?_, by rw [PyData.depth]; omega⟩
  rw [PyData.weight]
  exact Nat.le_trans c (Nat.mul_le_mul_left _ hm)
theorem tiny_tuple {w n m : Nat} {ds : List PyData} (q : ∀ d ∈ ds, Tiny d w n) (hm : ds.length ≤ m) : Tiny (.tuple ds) ((w + 1) * m) (n + 1) := by
  obtain ⟨a, b, c, e⟩ := tiny_all q
  refine ⟨by rw [PyData.showable]; exact a, by rw [PyData.leavesShort]; exact b, ?_, by rw [PyData.depth]; omega⟩
  rw [PyData.weight]
  exact Nat.le_trans c (Nat.mul_le_mul_left _ hm)
theorem tiny_dict {a b n m : Nat} {kvs : List (PyData × PyData)} (q : ∀ e ∈ kvs, Tiny e.1 a n ∧ Tiny e.2 b n) (hm : kvs.length ≤ m) : Tiny (.dict kvs) ((a + b + 2) * m) (n + 1) := by
  have all : ∀ kvs : List (PyData × PyData), (∀ e ∈ kvs, Tiny e.1 a n ∧ Tiny e.2 b n) → PyData.showableKv kvs = true ∧ PyData.leavesShortKv 8 kvs = true ∧ PyData.weightKv kvs ≤ (a + b + 2) * kvs.length ∧ PyData.depthKv kvs ≤ n := fun kvs q => by
    induction kvs with
    | nil => exact ⟨by rw [PyData.showableKv], by rw [PyData.leavesShortKv], by rw [PyData.weightKv]; exact Nat.zero_le _, by rw [PyData.depthKv]; exact Nat.zero_le _⟩
    | cons e r ih =>
      obtain ⟨x, y⟩ := e
      obtain ⟨h1, h2, h3, h4⟩ := ih fun z hz => q z (List.mem_cons_of_mem _ hz)
      obtain ⟨t1, t2⟩ := q (x, y) List.mem_cons_self
      refine ⟨by rw [PyData.showableKv, t1.s, t2.s, h1]; rfl, by rw [PyData.leavesShortKv, t1.l, t2.l, h2]; rfl, ?_, ?_⟩
      · rw [PyData.weightKv, List.length_cons, Nat.mul_succ]
        have h5 : x.weight ≤ a := t1.w
        have h6 : y.weight ≤ b := t2.w
        omega
      · rw [PyData.depthKv]
        exact Nat.max_le.mpr ⟨Nat.max_le.mpr ⟨t1.d, t2.d⟩, h4⟩
  obtain ⟨h1, h2, h3, h4⟩ := all kvs q
  refine ⟨by rw [PyData.showable]; exact h1, by rw [PyData.leavesShort]; exact h2, ?_, by rw [PyData.depth]; omega⟩
  rw [PyData.weight]
  exact Nat.le_trans h3 (Nat.mul_le_mul_left _ hm)
theorem tiny_int {i : Int} (h : okOut i) : Tiny (.int i) 6 1 := by
  obtain ⟨a, b⟩ := h
  obtain ⟨k, rfl⟩ : ∃ k : Nat, i = (k : Int) := ⟨i.toNat, by omega⟩
  have hk : k < 64 := by omega
  have all : ∀ k : Nat, k < 64 → (PyData.int (k : Int)).showable = true ∧ (PyData.int (k : Int)).leavesShort 8 = true ∧ (PyData.int (k : Int)).weight ≤ 6 := by decide +kernel
  obtain ⟨h1, h2, h3⟩ := all k hk
  exact ⟨h1, h2, h3, by rw [PyData.depth]; exact Nat.zero_le _⟩
theorem tiny_none : Tiny .none 6 1 := ⟨by rw [PyData.showable], by rw [PyData.leavesShort], by rw [PyData.weight]; decide, by rw [PyData.depth]; decide⟩
theorem tiny_shown {d : PyData} {w n : Nat} (t : Tiny d w n) (h : w ≤ 1500000) : d.shown.length ≤ sizeLine := by
  have := PyData.shown_le 8 (by decide) d t.l
  have := t.w
  rw [sizeLine_eq]
  omega
theorem tiny_row {row : List Int} {m : Nat} (h : ∀ x ∈ row, okOut x) (hm : row.length ≤ m) : Tiny (rowD row) (7 * m) 2 := tiny_list (fun d hd => by
  obtain ⟨x, hx, rfl⟩ := List.mem_map.mp hd
  exact tiny_int (h x hx)) (by rw [List.length_map]; exact hm)
theorem tiny_pair {p : Int × Int} (h1 : okOut p.1) (h2 : okOut p.2) : Tiny (pairD p) 14 2 := tiny_tuple (w := 6) (n := 1) (m := 2) (fun d hd => by
  rcases List.mem_cons.mp hd with rfl | hd
  · exact tiny_int h1
  · obtain rfl := List.mem_singleton.mp hd
    exact tiny_int h2) (Nat.le_refl _)
theorem nd_int (i : Int) : (PyData.int i).hasDict = false := by rw [PyData.hasDict]
/-! what may be shown of a value -/
def ShX (K : PySem.W.Frag) (H : Hp) (w n : Nat) (v : V) : Prop := ∃ d, DX K H v d ∧ Tiny d w n
theorem ShX.up {K : PySem.W.Frag} {H : Hp} {w w' n n' : Nat} {v : V} (h : ShX K H w n v) (h1 : w ≤ w') (h2 : n ≤ n') : ShX K H w' n' v := let ⟨d, a, t⟩ := h; ⟨d, a, t.up h1 h2⟩
theorem shx_int {K : PySem.W.Frag} {H : Hp} {i : Int} (h : okOut i) : ShX K H 6 1 (.int i) := ⟨.int i, .flat (.int i) (nd_int i), tiny_int h⟩
theorem tiny_m1 : Tiny (.int (-1)) 6 1 := ⟨by decide +kernel, by decide +kernel, by decide +kernel, by rw [PyData.depth]; exact Nat.zero_le _⟩
theorem tiny_bool (b : Bool) : Tiny (.bool b) 8 1 := by
  have h : (PyData.bool b).showable = true ∧ (PyData.bool b).leavesShort 8 = true ∧ (PyData.bool b).weight ≤ 8 := by
    cases b
    · decide +kernel
    · decide +kernel
  exact ⟨h.1, h.2.1, h.2.2, by rw [PyData.depth]; exact Nat.zero_le _⟩
theorem shx_non {K : PySem.W.Frag} {H : Hp} : ShX K H 6 1 .non := ⟨.none, .flat .non (by rw [PyData.hasDict]), tiny_none⟩
theorem shx_bl {K : PySem.W.Frag} {H : Hp} (b : Bool) : ShX K H 8 1 (.bl b) := ⟨.bool b, .flat (.bl b) (by rw [PyData.hasDict]), tiny_bool b⟩
theorem tiny_01 : Tiny (.str "01") 60 1 := ⟨by decide +kernel, by decide +kernel, by decide +kernel, by rw [PyData.depth]; exact Nat.zero_le _⟩
theorem shx_all {K : PySem.W.Frag} {H : Hp} {w n : Nat} : ∀ {xs : List V}, (∀ x ∈ xs, ShX K H w n x) → ∃ ds, DXs K H xs ds ∧ ds.length = xs.length ∧ ∀ d ∈ ds, Tiny d w n
  | [], _ => ⟨[], .nil, rfl, fun d h => nomatch h⟩
  | x :: xs, h => by
    obtain ⟨ds, a, b, c⟩ := shx_all (xs := xs) fun y hy => h y (List.mem_cons_of_mem _ hy)
    obtain ⟨d, e, t⟩ := h x List.mem_cons_self
    refine ⟨d :: ds, .cons e a, by rw [List.length_cons, List.length_cons, b], fun z hz => ?_⟩
    rcases List.mem_cons.mp hz with rfl | hz
    · exact t
    · exact c z hz
theorem shx_lst {K : PySem.W.Frag} {H : Hp} {w n m : Nat} {a : Addr} {xs : List V} (e : H a = some (.lst xs)) (h : ∀ x ∈ xs, ShX K H w n x) (hm : xs.length ≤ m) : ShX K H ((w + 1) * m) (n + 1) (.ref a) := by
  obtain ⟨ds, a, b, c⟩ := shx_all h
  exact ⟨.list ds, .lst (SqL.of e) a, tiny_list c (by rw [b]; exact hm)⟩
theorem shx_tup {K : PySem.W.Frag} {H : Hp} {w n m : Nat} {a : Addr} {xs : List V} (e : H a = some (.tup xs)) (h : ∀ x ∈ xs, ShX K H w n x) (hm : xs.length ≤ m) : ShX K H ((w + 1) * m) (n + 1) (.ref a) := by
  obtain ⟨ds, a, b, c⟩ := shx_all h
  exact ⟨.tuple ds, .tup (SqT.of e) a, tiny_tuple c (by rw [b]; exact hm)⟩
theorem shx_row {K : PySem.W.Frag} {H : Hp} {m : Nat} {a : Addr} {row : List Int} (e : H a = some (.lst (row.map V.int))) (h : ∀ x ∈ row, okOut x) (hm : row.length ≤ m) : ShX K H (7 * m) 2 (.ref a) :=
  shx_lst e (fun x hx => by
    obtain ⟨y, hy, rfl⟩ := List.mem_map.mp hx
    exact shx_int (h y hy)) (by rw [List.length_map]; exact hm)
/-- a dict of answers -/
theorem cut_tail (row : List Int) (h : 1 ≤ row.length) : cutV (row.map V.int) (some 1) none = row.tail.map V.int := by
  match row, h with
  | x :: r, _ =>
    unfold cutV
    have e0 : HT.sIx ((x :: r).map V.int).length 0 (some 1) = 1 := by
      rw [show (1 : Int) = ((1 : Nat) : Int) from rfl, HT.sIx_nat, List.length_map, List.length_cons]
      omega
    rw [e0, HT.sIx_none, List.length_map, List.length_cons]
    show (r.map V.int).take (r.length + 1 - 1) = r.map V.int
    rw [Nat.add_sub_cancel]
    exact List.take_of_length_le (by rw [List.length_map]; exact Nat.le_refl _)

/-- a small part of what the law draws -/
def Leaf (K : PySem.W.Frag) (H : Hp) (v : V) : Prop := (∃ d, Dp K H v d ∧ Ok 5 d) ∧ ShX K H 20 2 v
def spAnyBar (K : PySem.W.Frag) : Sp := fun vs H Q _ => ∃ (a al : Addr) (n : Int) (T : TD), vs = [.ref a, .ref al] ∧ WellAt H a n ∧ 0 ≤ n ∧ n < 900000 ∧ WF T ∧ (∀ h, h < 2 → (T.al h).length ≤ 4) ∧ (∀ h, h < 2 → ∀ r ∈ T.al h, r.length ≤ 4) ∧ AlAt (vw (pA a) H) (.ref al) T.al ∧
  ∀ (v : V) (H' : Hp), But a H H' → WellAt H' a (n + 20) → (∃ d, Dp K (vw (pA a) H') v d ∧ okBarD d) → ShX K (vw (pA a) H') 3000 8 v → Q v H'
theorem leaf_dp {K : PySem.W.Frag} {H : Hp} : ∀ {xs : List V}, (∀ x ∈ xs, Leaf K H x) → ∃ ds, DpAll K H xs ds ∧ ∀ d ∈ ds, Ok 5 d
  | [], _ => ⟨[], .nil, fun d hd => by cases hd⟩
  | x :: xs, h => by
    obtain ⟨⟨d, h1, h2⟩, _⟩ := h x List.mem_cons_self
    obtain ⟨ds, h3, h4⟩ := leaf_dp fun y hy => h y (List.mem_cons_of_mem _ hy)
    refine ⟨d :: ds, .cons h1 h3, fun e he => ?_⟩
    rcases List.mem_cons.mp he with rfl | he
    · exact h2
    · exact h4 e he
theorem leaf_int {K : PySem.W.Frag} {H : Hp} {i : Int} (h : okOut i) : Leaf K H (.int i) := ⟨⟨.int i, .int i, ok_int i⟩, (shx_int h).up (by decide) (by decide)⟩
section
variable {P : Program} {w : World} {K : PySem.W.Frag} {mg : Str → Option Value} {base : Heap}
abbrev nAb : List Str := ["_law_state", "_law_alone", "_law_hand", "_law_a", "_law_top", "_law_others", "_law_odd", "_law_some", "_law_output"]
theorem sc_ab : FnScope nAb ["_law_state", "_law_alone"] (defScope s__law_any_bar) := ⟨rfl, rfl, rfl, by decide +kernel, rfl, by decide +kernel, by decide +kernel⟩
theorem ok_ab {f g1 : Addr} {fd d1 : FuncData} (F : Fun K "_law_any_bar" "_law_any_bar" s__law_any_bar f fd) (T : Txt K mg) (Dg : Def P w K mg base "_law_digit" ["_law_state", "_law_base"] 1 spDigit g1 d1) :
    FnOk P w K mg base CX0 2 f fd ["_law_state", "_law_alone"] (spAnyBar K) := by
  refine F.ok sc_ab (fun vs H Q E h => ?_) (fun cdv A outer s H vs Q E hr h => ?_)
  · obtain ⟨a, al, n, D, rfl, _⟩ := h
    rfl
  obtain ⟨a, al, n, D, rfl, wl, hn0, hn, hW, h4, hr4, hA, q⟩ := h
  have nd := sc_ab.nd
  refine ⟨_, (pss_cons (ps_set (i := 2) nd rfl (Or.inl rfl) (pe_call Dg.G (hr.mono (by decide)) rfl Dg.m Dg.k Dg.b .nil pass0 (pa_cons (pv 0) (pa_cons pe_int pa_nil))))
    (pss_cons (ps_set (i := 3) nd rfl (Or.inl rfl) (pe_call Dg.G (hr.mono (by decide)) rfl Dg.m Dg.k Dg.b .nil pass0 (pa_cons (pv 0) (pa_cons (pe_callB call_len_seq (by rfl) T.len PySem.boot_len (pa_cons (pe_ix ix_list (pv 1) (pv 2) (fun _ _ => rfl)) pa_nil)) pa_nil))))
    (pss_cons (ps_set (i := 4) nd rfl (Or.inr rfl) (pe_op op_add (pe_callB call_len_seq (by rfl) T.len PySem.boot_len (pa_cons (pe_ix ix_list (pv 1) (pe_op op_sub pe_int (pv 2)) (fun _ _ => rfl)) pa_nil)) (pe_callTy call_int1 (by rfl) T.int boot_int (pa_cons (pe_cmpR op_eq (pe_call Dg.G (hr.mono (by decide)) rfl Dg.m Dg.k Dg.b .nil pass0 (pa_cons (pv 0) (pa_cons pe_int pa_nil))) pe_int (nomark _)) pa_nil))))
    (pss_cons (ps_setLc (i := 5) (own := [("_law_output", 8)]) (g := (gName 8)) (tt := tYes) (te := (tCall spDigit [] E0 (tCons (tVar 0) (tCons (tVar 4) tNil)))) rfl nd rfl rfl (sw_true rfl rfl rfl (by decide +kernel)) (pi_list (pe_ix ix_list (pe_ix ix_list (pv 1) (pv 2) (fun _ _ => rfl)) (pv 3) (fun _ _ => rfl))) (blkOk_by (N := nAb) (sc := defScope s__law_any_bar) (by decide +kernel)) (fun _ _ _ _ _ => (by exact (pg_name (i := 8) nd rfl (Or.inl rfl)))) (fun _ _ _ _ _ => pts_nil) (fun _ _ _ _ _ => (by exact (pe_call Dg.G (hr.mono (by decide)) rfl Dg.m Dg.k Dg.b .nil pass0 (pa_cons (pv 0) (pa_cons (pv 4) pa_nil))))))
    (pss_cons (ps_set (i := 6) nd rfl (Or.inl rfl) (pe_ix ix_list (pe_lst (pa_cons pe_bl (pa_cons pe_non (pa_cons (pe_un un_neg pe_int) (pa_cons pe_int (pa_cons (pe_tup (pa_cons pe_int pa_nil)) (pa_cons pe_int (pa_cons pe_int pa_nil)))))))) (pe_call Dg.G (hr.mono (by decide)) rfl Dg.m Dg.k Dg.b .nil pass0 (pa_cons (pv 0) (pa_cons pe_int pa_nil))) (fun _ _ => rfl)))
    (pss_cons (ps_set (i := 7) nd rfl (Or.inl rfl) (pe_op op_cat (pe_op op_rep (pe_lst (pa_cons (pe_tup (pa_cons (pv 2) (pa_cons (pv 3) (pa_cons (pv 5) pa_nil)))) pa_nil)) pe_int) (pe_lst (pa_cons (pe_tup (pa_cons (pv 6) (pa_cons (pv 3) (pa_cons (pv 5) pa_nil)))) (pa_cons (pe_tup (pa_cons (pv 2) (pa_cons (pv 6) (pa_cons (pv 5) pa_nil)))) pa_nil)))))
    (pss_cons (ps_set (i := 7) nd rfl (Or.inl rfl) (pe_op op_cat (pv 7) (pe_lst (pa_cons (pe_tup (pa_cons (pv 2) (pa_cons (pv 3) (pa_cons (pe_op op_cat (pv 5) (pe_lst (pa_cons (pv 6) pa_nil))) pa_nil)))) (pa_cons (pe_tup (pa_cons (pv 2) (pa_cons (pv 3) (pa_cons (pe_op op_cat (pe_lst (pa_cons (pv 6) pa_nil)) (pe_slice sl_list (pv 5) (po_some pe_int) po_none)) pa_nil)))) pa_nil)))))
    (pss_cons (ps_set (i := 7) nd rfl (Or.inl rfl) (pe_op op_cat (pv 7) (pe_lst (pa_cons (pe_tup (pa_cons (pv 2) (pa_cons (pv 3) (pa_cons (pe_callTy call_tuple_of (by rfl) T.tuple boot_tuple (pa_cons (pv 5) pa_nil)) pa_nil)))) (pa_cons (pe_lst (pa_cons (pv 2) (pa_cons (pv 3) (pa_cons (pv 5) pa_nil)))) (pa_cons (pe_tup (pa_cons (pv 2) (pa_cons (pv 3) pa_nil))) (pa_cons pe_non pa_nil)))))))
    (pss_one (ps_ret (pe_ix ix_list (pv 7) (pe_call Dg.G (hr.mono (by decide)) rfl Dg.m Dg.k Dg.b .nil pass0 (pa_cons (pv 0) (pa_cons pe_int pa_nil))) (fun _ _ => rfl)))))))))))), ?_⟩
  obtain ⟨ta, ax0, ax1, ea, hta, arow⟩ := id hA.row
  obtain rfl : al = ta := by injection ea
  obtain ⟨cal_, htaH⟩ := vw_some hta
  have nal := pA_ok.mp cal_
  have szl : ∀ m : Nat, m ≤ 100 → m ≤ sizeLine := fun m h => Nat.le_trans h (by decide)
  refine ⟨_, rfl, a, n, 2, rfl, .inr wl, hn0, by omega, by omega, by omega, fun hI H1 p0 p1 b1 w1 => ?_⟩
  obtain ⟨h, rfl⟩ : ∃ k : Nat, hI = (k : Int) := ⟨hI.toNat, by omega⟩
  have hh : h < 2 := by omega
  obtain ⟨xa, hxa, ra, xsa, rfl, hra, aa⟩ := arow h hh
  obtain ⟨cra, hraH⟩ := vw_some hra
  have nra := pA_ok.mp cra
  obtain ⟨xb, hxb, rb, xsb, rfl, hrb, ab⟩ := arow (1 - h) (by omega)
  obtain ⟨crb, hrbH⟩ := vw_some hrb
  have nrb := pA_ok.mp crb
  have la := aa.len
  have lb := ab.len
  have l4a := h4 h hh
  have l4b := h4 (1 - h) (by omega)
  have n1a := (hW.n0 h hh).1
  refine ⟨_, rfl, _, rfl, _, rfl, al, _, _, _, rfl, rfl, SqL.of (b1 _ _ nal htaH), atI_nat hxa, ra, _, rfl, .inl (SqL.of (b1 _ _ nra hraH)), a, n + 1, (xsa.length : Int), rfl, .inr w1, by omega, by omega, by omega, by omega, fun aI H2 p2 p3 b2 w2 => ?_⟩
  obtain ⟨k, rfl⟩ : ∃ k : Nat, aI = (k : Int) := ⟨aI.toNat, by omega⟩
  have hk : k < xsa.length := by omega
  have b02 := b1.trans b2
  refine ⟨_, rfl, _, rfl, _, _, rfl, rfl, al, _, _, _, rfl, rfl, SqL.of (b02 _ _ nal htaH), atI_one hh hxb, rb, _, rfl, .inl (SqL.of (b02 _ _ nrb hrbH)), _, rfl, a, n + 1 + 1, 5, rfl, .inr w2, by omega, by omega, by omega, by omega, fun z H3 p4 p5 b3 w3 => ?_⟩
  refine ⟨rfl, .inr ⟨_, rfl, _, _, rfl, rfl, ?_⟩⟩
  have b03 := b02.trans b3
  obtain ⟨row, hrow, r4, er4, hr4v⟩ := aa.get (List.getElem?_eq_getElem hk)
  have n1b := (hW.n0 (1 - h) (by omega)).1
  have hmr : row ∈ D.al h := List.mem_of_getElem? hrow
  have lr4 : row.length ≤ 4 := hr4 h hh row hmr
  have lr1 := (hW.row h hh row hmr).1
  obtain ⟨cr4, hr4H⟩ := vw_some hr4v
  have nr4 := pA_ok.mp cr4
  refine ⟨_, rfl, _, rfl, al, _, _, _, rfl, rfl, SqL.of (b03 _ _ nal htaH), atI_nat hxa, _, rfl, ra, _, _, _, rfl, rfl, SqL.of (b03 _ _ nra hraH), atI_nat (show xsa[k]? = some (.ref r4) from by rw [List.getElem?_eq_getElem hk, er4]), r4, rfl, ⟨_, SqL.of (b03 _ _ nr4 hr4H)⟩, fun Lo hLo => ?_⟩
  have sL := same_new hLo (.lst [])
  have naL : a ≠ Lo := w3.ne hLo
  refine list_turns (xs := row.map V.int) (fun i H' => ∃ ns : List Int, But a H3 H' ∧ WellAt H' a (n + 3 + (i : Int)) ∧ H' Lo = some (.lst (ns.map V.int)) ∧ ns.length = i ∧ ∀ x ∈ ns, okOut x) ⟨[], .same sL, by simpa using (w3.same sL).up (by omega), upd_same, rfl, fun x hx => by cases hx⟩ (fun i H' _ ⟨_, b, _⟩ => SqL.of (b _ _ nr4 (b03 _ _ nr4 hr4H))) ?_ ?_
  · rintro i x H' hx ⟨ns, b4, w4, hL4, ln, rn⟩
    have hi : i < row.length := by
      have := (List.getElem?_eq_some_iff.mp hx).1
      rwa [List.length_map] at this
    refine ⟨rfl, _, rfl, _, rfl, a, n + 3 + (i : Int), _, rfl, .inr w4, by omega, by omega, ?_, ?_, fun v H5 v0 v1 b5 w5 => ?_⟩
    · split <;> omega
    · split <;> omega
    have hL5 := b5 _ _ (Ne.symm naL) hL4
    refine ⟨_, hL5, ?_, ns ++ [v], (b4.trans b5).new hLo, ?_, by rw [upd_same, List.map_append]; rfl, by rw [List.length_append, ln]; rfl, fun y hy => ?_⟩
    · rw [List.length_map, ln]
      exact Nat.lt_of_lt_of_le (show i < 100 by omega) (by decide)
    · have := w5.but naL But.at (H' := upd H5 Lo (.lst (ns.map V.int ++ [V.int v])))
      rw [show n + 3 + ((i + 1 : Nat) : Int) = n + 3 + (i : Int) + 1 by omega]
      exact this
    · rcases List.mem_append.mp hy with hy | hy
      · exact rn y hy
      · obtain rfl := List.mem_singleton.mp hy
        refine ⟨v0, ?_⟩
        have : y < 64 := by
          revert v1
          split <;> intro v1 <;> omega
        omega
  rintro H4 ⟨ns, b4, w4, hL4, ln, rn⟩
  rw [List.length_map] at ln w4
  have w := w4
  have s : Same H4 H4 := Same.refl H4
  refine ⟨_, rfl, szl _ (by show 1 ≤ 100; decide), fun z0 hz0 => ?_⟩
  have t1 := same_new hz0 (.tup [V.int 0])
  have nz0 : z0 ≠ a := Ne.symm (w.ne hz0)
  have ez0 : (upd H4 z0 (.tup [V.int 0])) z0 = some (.tup [V.int 0]) := upd_same
  have hL4 := t1 _ _ hL4
  have s := s.trans t1
  have w := w.same t1
  generalize upd H4 z0 (.tup [V.int 0]) = G1 at t1 ez0 hL4 s w ⊢
  clear t1
  refine ⟨szl _ (by show 7 ≤ 100; decide), fun O hO => ?_⟩
  have t2 := same_new hO (.lst [V.bl true, V.non, V.int (-1), V.int 2, V.ref z0, V.int 0, V.int 1])
  have nO : O ≠ a := Ne.symm (w.ne hO)
  have eO : (upd G1 O (.lst [V.bl true, V.non, V.int (-1), V.int 2, V.ref z0, V.int 0, V.int 1])) O = some (.lst [V.bl true, V.non, V.int (-1), V.int 2, V.ref z0, V.int 0, V.int 1]) := upd_same
  have hL4 := t2 _ _ hL4
  have ez0 := t2 _ _ ez0
  have s := s.trans t2
  have w := w.same t2
  generalize upd G1 O (.lst [V.bl true, V.non, V.int (-1), V.int 2, V.ref z0, V.int 0, V.int 1]) = G2 at t2 eO hL4 ez0 s w ⊢
  clear t2
  have hl1 : 1 ≤ ns.length := by omega
  refine ⟨_, rfl, a, _, 7, rfl, .inr w, by omega, by omega, by decide, by decide, fun r3 J r30 r31 b9 w9 => ?_⟩
  obtain ⟨j, rfl⟩ : ∃ j : Nat, r3 = (j : Int) := ⟨r3.toNat, by omega⟩
  have hj : j < 7 := by omega
  have b8 : But a H J := ((b03.trans b4).trans (.same s)).trans b9
  have hLJ := b9 _ _ (Ne.symm naL) hL4
  have ez0 := b9 _ _ nz0 ez0
  obtain ⟨od, hod, cls⟩ : ∃ od, ([V.bl true, V.non, V.int (-1), V.int 2, V.ref z0, V.int 0, V.int 1])[j]? = some od ∧ (od = .bl true ∨ od = .non ∨ od = .int (-1) ∨ od = .int 2 ∨ od = .ref z0 ∨ od = .int 0 ∨ od = .int 1) := by
    obtain rfl | rfl | rfl | rfl | rfl | rfl | rfl : j = 0 ∨ j = 1 ∨ j = 2 ∨ j = 3 ∨ j = 4 ∨ j = 5 ∨ j = 6 := by omega
    · exact ⟨_, rfl, .inl rfl⟩
    · exact ⟨_, rfl, .inr (.inl rfl)⟩
    · exact ⟨_, rfl, .inr (.inr (.inl rfl))⟩
    · exact ⟨_, rfl, .inr (.inr (.inr (.inl rfl)))⟩
    · exact ⟨_, rfl, .inr (.inr (.inr (.inr (.inl rfl))))⟩
    · exact ⟨_, rfl, .inr (.inr (.inr (.inr (.inr (.inl rfl)))))⟩
    · exact ⟨_, rfl, .inr (.inr (.inr (.inr (.inr (.inr rfl)))))⟩
  refine ⟨O, _, _, _, rfl, rfl, SqL.of (b9 _ _ nO eO), atI_nat hod, ?_⟩
  have leafO : ∀ {H9 : Hp}, H9 z0 = some (.tup [V.int 0]) → Leaf K H9 od := fun {H9} e => by
    have okO : ∀ i : Int, 0 ≤ i → i ≤ 63 → okOut i := fun i h1 h2 => ⟨h1, h2⟩
    rcases cls with rfl | rfl | rfl | rfl | rfl | rfl | rfl
    · exact ⟨⟨.bool true, .bl true, ⟨by simp [PyData.canLay0], by simp [PyData.depth]⟩⟩, (shx_bl true).up (by decide) (by decide)⟩
    · exact ⟨⟨.none, .non, ok_non⟩, shx_non.up (by decide) (by decide)⟩
    · exact ⟨⟨.int (-1), .int _, ok_int _⟩, ⟨.int (-1), .flat (.int _) (nd_int _), tiny_m1.up (by decide) (by decide)⟩⟩
    · exact leaf_int (okO 2 (by decide) (by decide))
    · refine ⟨⟨.tuple [.int 0], .tup (SqT.of e) (.cons (.int 0) .nil), ok_tuple (n := 4) fun d hd => ?_⟩, (shx_tup (w := 6) (n := 1) (m := 1) e (fun x hx => ?_) (Nat.le_refl 1)).up (by decide) (by decide)⟩
      · obtain rfl := List.mem_singleton.mp hd
        exact ok_int _
      · obtain rfl := List.mem_singleton.mp hx
        exact shx_int (okO 0 (by decide) (by decide))
    · exact leaf_int (okO 0 (by decide) (by decide))
    · exact leaf_int (okO 1 (by decide) (by decide))
  have w := w9
  have s : Same J J := Same.refl J
  refine ⟨_, rfl, _, rfl, _, rfl, szl _ (by show 3 ≤ 100; decide), fun f0 hf0 => ?_⟩
  have t3 := same_new hf0 (.tup [V.int (h : Int), V.int (k : Int), V.ref Lo])
  have nf0 : f0 ≠ a := Ne.symm (w.ne hf0)
  have ef0 : (upd J f0 (.tup [V.int (h : Int), V.int (k : Int), V.ref Lo])) f0 = some (.tup [V.int (h : Int), V.int (k : Int), V.ref Lo]) := upd_same
  have hLJ := t3 _ _ hLJ
  have ez0 := t3 _ _ ez0
  have s := s.trans t3
  have w := w.same t3
  generalize upd J f0 (.tup [V.int (h : Int), V.int (k : Int), V.ref Lo]) = G3 at t3 ef0 hLJ ez0 s w ⊢
  clear t3
  refine ⟨szl _ (by show 1 ≤ 100; decide), fun A1 hA1 => ?_⟩
  have t4 := same_new hA1 (.lst [V.ref f0])
  have nA1 : A1 ≠ a := Ne.symm (w.ne hA1)
  have eA1 : (upd G3 A1 (.lst [V.ref f0])) A1 = some (.lst [V.ref f0]) := upd_same
  have hLJ := t4 _ _ hLJ
  have ez0 := t4 _ _ ez0
  have ef0 := t4 _ _ ef0
  have s := s.trans t4
  have w := w.same t4
  generalize upd G3 A1 (.lst [V.ref f0]) = G4 at t4 eA1 hLJ ez0 ef0 s w ⊢
  clear t4
  refine ⟨A1, 4, _, rfl, rfl, eA1, by decide, by decide, szl _ (by show 1 * 4 ≤ 100; decide), fun A2 hA2 => ?_⟩
  rw [show (List.replicate (Int.toNat 4) [V.ref f0]).flatten = [V.ref f0, V.ref f0, V.ref f0, V.ref f0] from rfl]
  have t5 := same_new hA2 (.lst [V.ref f0, V.ref f0, V.ref f0, V.ref f0])
  have nA2 : A2 ≠ a := Ne.symm (w.ne hA2)
  have eA2 : (upd G4 A2 (.lst [V.ref f0, V.ref f0, V.ref f0, V.ref f0])) A2 = some (.lst [V.ref f0, V.ref f0, V.ref f0, V.ref f0]) := upd_same
  have hLJ := t5 _ _ hLJ
  have ez0 := t5 _ _ ez0
  have ef0 := t5 _ _ ef0
  have eA1 := t5 _ _ eA1
  have s := s.trans t5
  have w := w.same t5
  generalize upd G4 A2 (.lst [V.ref f0, V.ref f0, V.ref f0, V.ref f0]) = G5 at t5 eA2 hLJ ez0 ef0 eA1 s w ⊢
  clear t5
  refine ⟨_, rfl, _, rfl, _, rfl, szl _ (by show 3 ≤ 100; decide), fun f1 hf1 => ?_⟩
  have t6 := same_new hf1 (.tup [od, V.int (k : Int), V.ref Lo])
  have nf1 : f1 ≠ a := Ne.symm (w.ne hf1)
  have ef1 : (upd G5 f1 (.tup [od, V.int (k : Int), V.ref Lo])) f1 = some (.tup [od, V.int (k : Int), V.ref Lo]) := upd_same
  have hLJ := t6 _ _ hLJ
  have ez0 := t6 _ _ ez0
  have ef0 := t6 _ _ ef0
  have eA1 := t6 _ _ eA1
  have eA2 := t6 _ _ eA2
  have s := s.trans t6
  have w := w.same t6
  generalize upd G5 f1 (.tup [od, V.int (k : Int), V.ref Lo]) = G6 at t6 ef1 hLJ ez0 ef0 eA1 eA2 s w ⊢
  clear t6
  refine ⟨_, rfl, _, rfl, _, rfl, szl _ (by show 3 ≤ 100; decide), fun f2 hf2 => ?_⟩
  have t7 := same_new hf2 (.tup [V.int (h : Int), od, V.ref Lo])
  have nf2 : f2 ≠ a := Ne.symm (w.ne hf2)
  have ef2 : (upd G6 f2 (.tup [V.int (h : Int), od, V.ref Lo])) f2 = some (.tup [V.int (h : Int), od, V.ref Lo]) := upd_same
  have hLJ := t7 _ _ hLJ
  have ez0 := t7 _ _ ez0
  have ef0 := t7 _ _ ef0
  have eA1 := t7 _ _ eA1
  have eA2 := t7 _ _ eA2
  have ef1 := t7 _ _ ef1
  have s := s.trans t7
  have w := w.same t7
  generalize upd G6 f2 (.tup [V.int (h : Int), od, V.ref Lo]) = G7 at t7 ef2 hLJ ez0 ef0 eA1 eA2 ef1 s w ⊢
  clear t7
  refine ⟨szl _ (by show 2 ≤ 100; decide), fun A3 hA3 => ?_⟩
  have t8 := same_new hA3 (.lst [V.ref f1, V.ref f2])
  have nA3 : A3 ≠ a := Ne.symm (w.ne hA3)
  have eA3 : (upd G7 A3 (.lst [V.ref f1, V.ref f2])) A3 = some (.lst [V.ref f1, V.ref f2]) := upd_same
  have hLJ := t8 _ _ hLJ
  have ez0 := t8 _ _ ez0
  have ef0 := t8 _ _ ef0
  have eA1 := t8 _ _ eA1
  have eA2 := t8 _ _ eA2
  have ef1 := t8 _ _ ef1
  have ef2 := t8 _ _ ef2
  have s := s.trans t8
  have w := w.same t8
  generalize upd G7 A3 (.lst [V.ref f1, V.ref f2]) = G8 at t8 eA3 hLJ ez0 ef0 eA1 eA2 ef1 ef2 s w ⊢
  clear t8
  refine ⟨A2, A3, _, _, rfl, rfl, eA2, eA3, szl _ (by show 4 + 2 ≤ 100; decide), fun A4 hA4 => ?_⟩
  have t9 := same_new hA4 (.lst ([V.ref f0, V.ref f0, V.ref f0, V.ref f0] ++ [V.ref f1, V.ref f2]))
  have nA4 : A4 ≠ a := Ne.symm (w.ne hA4)
  have eA4 : (upd G8 A4 (.lst ([V.ref f0, V.ref f0, V.ref f0, V.ref f0] ++ [V.ref f1, V.ref f2]))) A4 = some (.lst ([V.ref f0, V.ref f0, V.ref f0, V.ref f0] ++ [V.ref f1, V.ref f2])) := upd_same
  have hLJ := t9 _ _ hLJ
  have ez0 := t9 _ _ ez0
  have ef0 := t9 _ _ ef0
  have eA1 := t9 _ _ eA1
  have eA2 := t9 _ _ eA2
  have ef1 := t9 _ _ ef1
  have ef2 := t9 _ _ ef2
  have eA3 := t9 _ _ eA3
  have s := s.trans t9
  have w := w.same t9
  generalize upd G8 A4 (.lst ([V.ref f0, V.ref f0, V.ref f0, V.ref f0] ++ [V.ref f1, V.ref f2])) = G9 at t9 eA4 hLJ ez0 ef0 eA1 eA2 ef1 ef2 eA3 s w ⊢
  clear t9
  refine ⟨_, rfl, _, rfl, _, rfl, _, rfl, _, rfl, szl _ (by show 1 ≤ 100; decide), fun u1 hu1 => ?_⟩
  have t10 := same_new hu1 (.lst [od])
  have nu1 : u1 ≠ a := Ne.symm (w.ne hu1)
  have eu1 : (upd G9 u1 (.lst [od])) u1 = some (.lst [od]) := upd_same
  have hLJ := t10 _ _ hLJ
  have ez0 := t10 _ _ ez0
  have ef0 := t10 _ _ ef0
  have eA1 := t10 _ _ eA1
  have eA2 := t10 _ _ eA2
  have ef1 := t10 _ _ ef1
  have ef2 := t10 _ _ ef2
  have eA3 := t10 _ _ eA3
  have eA4 := t10 _ _ eA4
  have s := s.trans t10
  have w := w.same t10
  generalize upd G9 u1 (.lst [od]) = G10 at t10 eu1 hLJ ez0 ef0 eA1 eA2 ef1 ef2 eA3 eA4 s w ⊢
  clear t10
  refine ⟨Lo, u1, _, _, rfl, rfl, hLJ, eu1, szl _ (by rw [List.length_map]; show _ + 1 ≤ 100; omega), fun y1 hy1 => ?_⟩
  have t11 := same_new hy1 (.lst (ns.map V.int ++ [od]))
  have ny1 : y1 ≠ a := Ne.symm (w.ne hy1)
  have ey1 : (upd G10 y1 (.lst (ns.map V.int ++ [od]))) y1 = some (.lst (ns.map V.int ++ [od])) := upd_same
  have hLJ := t11 _ _ hLJ
  have ez0 := t11 _ _ ez0
  have ef0 := t11 _ _ ef0
  have eA1 := t11 _ _ eA1
  have eA2 := t11 _ _ eA2
  have ef1 := t11 _ _ ef1
  have ef2 := t11 _ _ ef2
  have eA3 := t11 _ _ eA3
  have eA4 := t11 _ _ eA4
  have eu1 := t11 _ _ eu1
  have s := s.trans t11
  have w := w.same t11
  generalize upd G10 y1 (.lst (ns.map V.int ++ [od])) = G11 at t11 ey1 hLJ ez0 ef0 eA1 eA2 ef1 ef2 eA3 eA4 eu1 s w ⊢
  clear t11
  refine ⟨szl _ (by show 3 ≤ 100; decide), fun f3 hf3 => ?_⟩
  have t12 := same_new hf3 (.tup [V.int (h : Int), V.int (k : Int), V.ref y1])
  have nf3 : f3 ≠ a := Ne.symm (w.ne hf3)
  have ef3 : (upd G11 f3 (.tup [V.int (h : Int), V.int (k : Int), V.ref y1])) f3 = some (.tup [V.int (h : Int), V.int (k : Int), V.ref y1]) := upd_same
  have hLJ := t12 _ _ hLJ
  have ez0 := t12 _ _ ez0
  have ef0 := t12 _ _ ef0
  have eA1 := t12 _ _ eA1
  have eA2 := t12 _ _ eA2
  have ef1 := t12 _ _ ef1
  have ef2 := t12 _ _ ef2
  have eA3 := t12 _ _ eA3
  have eA4 := t12 _ _ eA4
  have eu1 := t12 _ _ eu1
  have ey1 := t12 _ _ ey1
  have s := s.trans t12
  have w := w.same t12
  generalize upd G11 f3 (.tup [V.int (h : Int), V.int (k : Int), V.ref y1]) = G12 at t12 ef3 hLJ ez0 ef0 eA1 eA2 ef1 ef2 eA3 eA4 eu1 ey1 s w ⊢
  clear t12
  refine ⟨_, rfl, _, rfl, _, rfl, szl _ (by show 1 ≤ 100; decide), fun u2 hu2 => ?_⟩
  have t13 := same_new hu2 (.lst [od])
  have nu2 : u2 ≠ a := Ne.symm (w.ne hu2)
  have eu2 : (upd G12 u2 (.lst [od])) u2 = some (.lst [od]) := upd_same
  have hLJ := t13 _ _ hLJ
  have ez0 := t13 _ _ ez0
  have ef0 := t13 _ _ ef0
  have eA1 := t13 _ _ eA1
  have eA2 := t13 _ _ eA2
  have ef1 := t13 _ _ ef1
  have ef2 := t13 _ _ ef2
  have eA3 := t13 _ _ eA3
  have eA4 := t13 _ _ eA4
  have eu1 := t13 _ _ eu1
  have ey1 := t13 _ _ ey1
  have ef3 := t13 _ _ ef3
  have s := s.trans t13
  have w := w.same t13
  generalize upd G12 u2 (.lst [od]) = G13 at t13 eu2 hLJ ez0 ef0 eA1 eA2 ef1 ef2 eA3 eA4 eu1 ey1 ef3 s w ⊢
  clear t13
  refine ⟨_, rfl, _, rfl, Lo, _, rfl, SqL.of hLJ, fun c1 hc1 => ?_⟩
  rw [cut_tail ns hl1]
  have t14 := same_new hc1 (.lst (ns.tail.map V.int))
  have nc1 : c1 ≠ a := Ne.symm (w.ne hc1)
  have ec1 : (upd G13 c1 (.lst (ns.tail.map V.int))) c1 = some (.lst (ns.tail.map V.int)) := upd_same
  have hLJ := t14 _ _ hLJ
  have ez0 := t14 _ _ ez0
  have ef0 := t14 _ _ ef0
  have eA1 := t14 _ _ eA1
  have eA2 := t14 _ _ eA2
  have ef1 := t14 _ _ ef1
  have ef2 := t14 _ _ ef2
  have eA3 := t14 _ _ eA3
  have eA4 := t14 _ _ eA4
  have eu1 := t14 _ _ eu1
  have ey1 := t14 _ _ ey1
  have ef3 := t14 _ _ ef3
  have eu2 := t14 _ _ eu2
  have s := s.trans t14
  have w := w.same t14
  generalize upd G13 c1 (.lst (ns.tail.map V.int)) = G14 at t14 ec1 hLJ ez0 ef0 eA1 eA2 ef1 ef2 eA3 eA4 eu1 ey1 ef3 eu2 s w ⊢
  clear t14
  refine ⟨u2, c1, _, _, rfl, rfl, eu2, ec1, szl _ (by rw [List.length_map, List.length_tail]; show 1 + _ ≤ 100; omega), fun y2 hy2 => ?_⟩
  have t15 := same_new hy2 (.lst ([od] ++ ns.tail.map V.int))
  have ny2 : y2 ≠ a := Ne.symm (w.ne hy2)
  have ey2 : (upd G14 y2 (.lst ([od] ++ ns.tail.map V.int))) y2 = some (.lst ([od] ++ ns.tail.map V.int)) := upd_same
  have hLJ := t15 _ _ hLJ
  have ez0 := t15 _ _ ez0
  have ef0 := t15 _ _ ef0
  have eA1 := t15 _ _ eA1
  have eA2 := t15 _ _ eA2
  have ef1 := t15 _ _ ef1
  have ef2 := t15 _ _ ef2
  have eA3 := t15 _ _ eA3
  have eA4 := t15 _ _ eA4
  have eu1 := t15 _ _ eu1
  have ey1 := t15 _ _ ey1
  have ef3 := t15 _ _ ef3
  have eu2 := t15 _ _ eu2
  have ec1 := t15 _ _ ec1
  have s := s.trans t15
  have w := w.same t15
  generalize upd G14 y2 (.lst ([od] ++ ns.tail.map V.int)) = G15 at t15 ey2 hLJ ez0 ef0 eA1 eA2 ef1 ef2 eA3 eA4 eu1 ey1 ef3 eu2 ec1 s w ⊢
  clear t15
  refine ⟨szl _ (by show 3 ≤ 100; decide), fun f4 hf4 => ?_⟩
  have t16 := same_new hf4 (.tup [V.int (h : Int), V.int (k : Int), V.ref y2])
  have nf4 : f4 ≠ a := Ne.symm (w.ne hf4)
  have ef4 : (upd G15 f4 (.tup [V.int (h : Int), V.int (k : Int), V.ref y2])) f4 = some (.tup [V.int (h : Int), V.int (k : Int), V.ref y2]) := upd_same
  have hLJ := t16 _ _ hLJ
  have ez0 := t16 _ _ ez0
  have ef0 := t16 _ _ ef0
  have eA1 := t16 _ _ eA1
  have eA2 := t16 _ _ eA2
  have ef1 := t16 _ _ ef1
  have ef2 := t16 _ _ ef2
  have eA3 := t16 _ _ eA3
  have eA4 := t16 _ _ eA4
  have eu1 := t16 _ _ eu1
  have ey1 := t16 _ _ ey1
  have ef3 := t16 _ _ ef3
  have eu2 := t16 _ _ eu2
  have ec1 := t16 _ _ ec1
  have ey2 := t16 _ _ ey2
  have s := s.trans t16
  have w := w.same t16
  generalize upd G15 f4 (.tup [V.int (h : Int), V.int (k : Int), V.ref y2]) = G16 at t16 ef4 hLJ ez0 ef0 eA1 eA2 ef1 ef2 eA3 eA4 eu1 ey1 ef3 eu2 ec1 ey2 s w ⊢
  clear t16
  refine ⟨szl _ (by show 2 ≤ 100; decide), fun A5 hA5 => ?_⟩
  have t17 := same_new hA5 (.lst [V.ref f3, V.ref f4])
  have nA5 : A5 ≠ a := Ne.symm (w.ne hA5)
  have eA5 : (upd G16 A5 (.lst [V.ref f3, V.ref f4])) A5 = some (.lst [V.ref f3, V.ref f4]) := upd_same
  have hLJ := t17 _ _ hLJ
  have ez0 := t17 _ _ ez0
  have ef0 := t17 _ _ ef0
  have eA1 := t17 _ _ eA1
  have eA2 := t17 _ _ eA2
  have ef1 := t17 _ _ ef1
  have ef2 := t17 _ _ ef2
  have eA3 := t17 _ _ eA3
  have eA4 := t17 _ _ eA4
  have eu1 := t17 _ _ eu1
  have ey1 := t17 _ _ ey1
  have ef3 := t17 _ _ ef3
  have eu2 := t17 _ _ eu2
  have ec1 := t17 _ _ ec1
  have ey2 := t17 _ _ ey2
  have ef4 := t17 _ _ ef4
  have s := s.trans t17
  have w := w.same t17
  generalize upd G16 A5 (.lst [V.ref f3, V.ref f4]) = G17 at t17 eA5 hLJ ez0 ef0 eA1 eA2 ef1 ef2 eA3 eA4 eu1 ey1 ef3 eu2 ec1 ey2 ef4 s w ⊢
  clear t17
  refine ⟨A4, A5, _, _, rfl, rfl, eA4, eA5, szl _ (by show 6 + 2 ≤ 100; decide), fun A6 hA6 => ?_⟩
  have t18 := same_new hA6 (.lst ([V.ref f0, V.ref f0, V.ref f0, V.ref f0] ++ [V.ref f1, V.ref f2] ++ [V.ref f3, V.ref f4]))
  have nA6 : A6 ≠ a := Ne.symm (w.ne hA6)
  have eA6 : (upd G17 A6 (.lst ([V.ref f0, V.ref f0, V.ref f0, V.ref f0] ++ [V.ref f1, V.ref f2] ++ [V.ref f3, V.ref f4]))) A6 = some (.lst ([V.ref f0, V.ref f0, V.ref f0, V.ref f0] ++ [V.ref f1, V.ref f2] ++ [V.ref f3, V.ref f4])) := upd_same
  have hLJ := t18 _ _ hLJ
  have ez0 := t18 _ _ ez0
  have ef0 := t18 _ _ ef0
  have eA1 := t18 _ _ eA1
  have eA2 := t18 _ _ eA2
  have ef1 := t18 _ _ ef1
  have ef2 := t18 _ _ ef2
  have eA3 := t18 _ _ eA3
  have eA4 := t18 _ _ eA4
  have eu1 := t18 _ _ eu1
  have ey1 := t18 _ _ ey1
  have ef3 := t18 _ _ ef3
  have eu2 := t18 _ _ eu2
  have ec1 := t18 _ _ ec1
  have ey2 := t18 _ _ ey2
  have ef4 := t18 _ _ ef4
  have eA5 := t18 _ _ eA5
  have s := s.trans t18
  have w := w.same t18
  generalize upd G17 A6 (.lst ([V.ref f0, V.ref f0, V.ref f0, V.ref f0] ++ [V.ref f1, V.ref f2] ++ [V.ref f3, V.ref f4])) = G18 at t18 eA6 hLJ ez0 ef0 eA1 eA2 ef1 ef2 eA3 eA4 eu1 ey1 ef3 eu2 ec1 ey2 ef4 eA5 s w ⊢
  clear t18
  refine ⟨_, rfl, _, rfl, _, rfl, _, rfl, Lo, _, rfl, .inl ⟨SqL.of hLJ, fun y3 hy3 => ?_⟩⟩
  have t19 := same_new hy3 (.tup (ns.map V.int))
  have ny3 : y3 ≠ a := Ne.symm (w.ne hy3)
  have ey3 : (upd G18 y3 (.tup (ns.map V.int))) y3 = some (.tup (ns.map V.int)) := upd_same
  have hLJ := t19 _ _ hLJ
  have ez0 := t19 _ _ ez0
  have ef0 := t19 _ _ ef0
  have eA1 := t19 _ _ eA1
  have eA2 := t19 _ _ eA2
  have ef1 := t19 _ _ ef1
  have ef2 := t19 _ _ ef2
  have eA3 := t19 _ _ eA3
  have eA4 := t19 _ _ eA4
  have eu1 := t19 _ _ eu1
  have ey1 := t19 _ _ ey1
  have ef3 := t19 _ _ ef3
  have eu2 := t19 _ _ eu2
  have ec1 := t19 _ _ ec1
  have ey2 := t19 _ _ ey2
  have ef4 := t19 _ _ ef4
  have eA5 := t19 _ _ eA5
  have eA6 := t19 _ _ eA6
  have s := s.trans t19
  have w := w.same t19
  generalize upd G18 y3 (.tup (ns.map V.int)) = G19 at t19 ey3 hLJ ez0 ef0 eA1 eA2 ef1 ef2 eA3 eA4 eu1 ey1 ef3 eu2 ec1 ey2 ef4 eA5 eA6 s w ⊢
  clear t19
  refine ⟨szl _ (by show 3 ≤ 100; decide), fun f5 hf5 => ?_⟩
  have t20 := same_new hf5 (.tup [V.int (h : Int), V.int (k : Int), V.ref y3])
  have nf5 : f5 ≠ a := Ne.symm (w.ne hf5)
  have ef5 : (upd G19 f5 (.tup [V.int (h : Int), V.int (k : Int), V.ref y3])) f5 = some (.tup [V.int (h : Int), V.int (k : Int), V.ref y3]) := upd_same
  have hLJ := t20 _ _ hLJ
  have ez0 := t20 _ _ ez0
  have ef0 := t20 _ _ ef0
  have eA1 := t20 _ _ eA1
  have eA2 := t20 _ _ eA2
  have ef1 := t20 _ _ ef1
  have ef2 := t20 _ _ ef2
  have eA3 := t20 _ _ eA3
  have eA4 := t20 _ _ eA4
  have eu1 := t20 _ _ eu1
  have ey1 := t20 _ _ ey1
  have ef3 := t20 _ _ ef3
  have eu2 := t20 _ _ eu2
  have ec1 := t20 _ _ ec1
  have ey2 := t20 _ _ ey2
  have ef4 := t20 _ _ ef4
  have eA5 := t20 _ _ eA5
  have eA6 := t20 _ _ eA6
  have ey3 := t20 _ _ ey3
  have s := s.trans t20
  have w := w.same t20
  generalize upd G19 f5 (.tup [V.int (h : Int), V.int (k : Int), V.ref y3]) = G20 at t20 ef5 hLJ ez0 ef0 eA1 eA2 ef1 ef2 eA3 eA4 eu1 ey1 ef3 eu2 ec1 ey2 ef4 eA5 eA6 ey3 s w ⊢
  clear t20
  refine ⟨_, rfl, _, rfl, _, rfl, szl _ (by show 3 ≤ 100; decide), fun f6 hf6 => ?_⟩
  have t21 := same_new hf6 (.lst [V.int (h : Int), V.int (k : Int), V.ref Lo])
  have nf6 : f6 ≠ a := Ne.symm (w.ne hf6)
  have ef6 : (upd G20 f6 (.lst [V.int (h : Int), V.int (k : Int), V.ref Lo])) f6 = some (.lst [V.int (h : Int), V.int (k : Int), V.ref Lo]) := upd_same
  have hLJ := t21 _ _ hLJ
  have ez0 := t21 _ _ ez0
  have ef0 := t21 _ _ ef0
  have eA1 := t21 _ _ eA1
  have eA2 := t21 _ _ eA2
  have ef1 := t21 _ _ ef1
  have ef2 := t21 _ _ ef2
  have eA3 := t21 _ _ eA3
  have eA4 := t21 _ _ eA4
  have eu1 := t21 _ _ eu1
  have ey1 := t21 _ _ ey1
  have ef3 := t21 _ _ ef3
  have eu2 := t21 _ _ eu2
  have ec1 := t21 _ _ ec1
  have ey2 := t21 _ _ ey2
  have ef4 := t21 _ _ ef4
  have eA5 := t21 _ _ eA5
  have eA6 := t21 _ _ eA6
  have ey3 := t21 _ _ ey3
  have ef5 := t21 _ _ ef5
  have s := s.trans t21
  have w := w.same t21
  generalize upd G20 f6 (.lst [V.int (h : Int), V.int (k : Int), V.ref Lo]) = G21 at t21 ef6 hLJ ez0 ef0 eA1 eA2 ef1 ef2 eA3 eA4 eu1 ey1 ef3 eu2 ec1 ey2 ef4 eA5 eA6 ey3 ef5 s w ⊢
  clear t21
  refine ⟨_, rfl, _, rfl, szl _ (by show 2 ≤ 100; decide), fun f7 hf7 => ?_⟩
  have t22 := same_new hf7 (.tup [V.int (h : Int), V.int (k : Int)])
  have nf7 : f7 ≠ a := Ne.symm (w.ne hf7)
  have ef7 : (upd G21 f7 (.tup [V.int (h : Int), V.int (k : Int)])) f7 = some (.tup [V.int (h : Int), V.int (k : Int)]) := upd_same
  have hLJ := t22 _ _ hLJ
  have ez0 := t22 _ _ ez0
  have ef0 := t22 _ _ ef0
  have eA1 := t22 _ _ eA1
  have eA2 := t22 _ _ eA2
  have ef1 := t22 _ _ ef1
  have ef2 := t22 _ _ ef2
  have eA3 := t22 _ _ eA3
  have eA4 := t22 _ _ eA4
  have eu1 := t22 _ _ eu1
  have ey1 := t22 _ _ ey1
  have ef3 := t22 _ _ ef3
  have eu2 := t22 _ _ eu2
  have ec1 := t22 _ _ ec1
  have ey2 := t22 _ _ ey2
  have ef4 := t22 _ _ ef4
  have eA5 := t22 _ _ eA5
  have eA6 := t22 _ _ eA6
  have ey3 := t22 _ _ ey3
  have ef5 := t22 _ _ ef5
  have ef6 := t22 _ _ ef6
  have s := s.trans t22
  have w := w.same t22
  generalize upd G21 f7 (.tup [V.int (h : Int), V.int (k : Int)]) = G22 at t22 ef7 hLJ ez0 ef0 eA1 eA2 ef1 ef2 eA3 eA4 eu1 ey1 ef3 eu2 ec1 ey2 ef4 eA5 eA6 ey3 ef5 ef6 s w ⊢
  clear t22
  refine ⟨szl _ (by show 4 ≤ 100; decide), fun A7 hA7 => ?_⟩
  have t23 := same_new hA7 (.lst [V.ref f5, V.ref f6, V.ref f7, V.non])
  have nA7 : A7 ≠ a := Ne.symm (w.ne hA7)
  have eA7 : (upd G22 A7 (.lst [V.ref f5, V.ref f6, V.ref f7, V.non])) A7 = some (.lst [V.ref f5, V.ref f6, V.ref f7, V.non]) := upd_same
  have hLJ := t23 _ _ hLJ
  have ez0 := t23 _ _ ez0
  have ef0 := t23 _ _ ef0
  have eA1 := t23 _ _ eA1
  have eA2 := t23 _ _ eA2
  have ef1 := t23 _ _ ef1
  have ef2 := t23 _ _ ef2
  have eA3 := t23 _ _ eA3
  have eA4 := t23 _ _ eA4
  have eu1 := t23 _ _ eu1
  have ey1 := t23 _ _ ey1
  have ef3 := t23 _ _ ef3
  have eu2 := t23 _ _ eu2
  have ec1 := t23 _ _ ec1
  have ey2 := t23 _ _ ey2
  have ef4 := t23 _ _ ef4
  have eA5 := t23 _ _ eA5
  have eA6 := t23 _ _ eA6
  have ey3 := t23 _ _ ey3
  have ef5 := t23 _ _ ef5
  have ef6 := t23 _ _ ef6
  have ef7 := t23 _ _ ef7
  have s := s.trans t23
  have w := w.same t23
  generalize upd G22 A7 (.lst [V.ref f5, V.ref f6, V.ref f7, V.non]) = G23 at t23 eA7 hLJ ez0 ef0 eA1 eA2 ef1 ef2 eA3 eA4 eu1 ey1 ef3 eu2 ec1 ey2 ef4 eA5 eA6 ey3 ef5 ef6 ef7 s w ⊢
  clear t23
  refine ⟨A6, A7, _, _, rfl, rfl, eA6, eA7, szl _ (by show 8 + 4 ≤ 100; decide), fun A8 hA8 => ?_⟩
  have t24 := same_new hA8 (.lst ([V.ref f0, V.ref f0, V.ref f0, V.ref f0] ++ [V.ref f1, V.ref f2] ++ [V.ref f3, V.ref f4] ++ [V.ref f5, V.ref f6, V.ref f7, V.non]))
  have nA8 : A8 ≠ a := Ne.symm (w.ne hA8)
  have eA8 : (upd G23 A8 (.lst ([V.ref f0, V.ref f0, V.ref f0, V.ref f0] ++ [V.ref f1, V.ref f2] ++ [V.ref f3, V.ref f4] ++ [V.ref f5, V.ref f6, V.ref f7, V.non]))) A8 = some (.lst ([V.ref f0, V.ref f0, V.ref f0, V.ref f0] ++ [V.ref f1, V.ref f2] ++ [V.ref f3, V.ref f4] ++ [V.ref f5, V.ref f6, V.ref f7, V.non])) := upd_same
  have hLJ := t24 _ _ hLJ
  have ez0 := t24 _ _ ez0
  have ef0 := t24 _ _ ef0
  have eA1 := t24 _ _ eA1
  have eA2 := t24 _ _ eA2
  have ef1 := t24 _ _ ef1
  have ef2 := t24 _ _ ef2
  have eA3 := t24 _ _ eA3
  have eA4 := t24 _ _ eA4
  have eu1 := t24 _ _ eu1
  have ey1 := t24 _ _ ey1
  have ef3 := t24 _ _ ef3
  have eu2 := t24 _ _ eu2
  have ec1 := t24 _ _ ec1
  have ey2 := t24 _ _ ey2
  have ef4 := t24 _ _ ef4
  have eA5 := t24 _ _ eA5
  have eA6 := t24 _ _ eA6
  have ey3 := t24 _ _ ey3
  have ef5 := t24 _ _ ef5
  have ef6 := t24 _ _ ef6
  have ef7 := t24 _ _ ef7
  have eA7 := t24 _ _ eA7
  have s := s.trans t24
  have w := w.same t24
  generalize upd G23 A8 (.lst ([V.ref f0, V.ref f0, V.ref f0, V.ref f0] ++ [V.ref f1, V.ref f2] ++ [V.ref f3, V.ref f4] ++ [V.ref f5, V.ref f6, V.ref f7, V.non])) = G24 at t24 eA8 hLJ ez0 ef0 eA1 eA2 ef1 ef2 eA3 eA4 eu1 ey1 ef3 eu2 ec1 ey2 ef4 eA5 eA6 ey3 ef5 ef6 ef7 eA7 s w ⊢
  clear t24
  refine ⟨_, rfl, _, rfl, a, _, 12, rfl, .inr w, by omega, by omega, by decide, by decide, fun r5 HF r50 r51 bf wf => ?_⟩
  obtain ⟨m, rfl⟩ : ∃ m : Nat, r5 = (m : Int) := ⟨r5.toNat, by omega⟩
  have hm : m < 12 := by omega
  have at9 : ∀ {b : Addr} {o : HO}, b ≠ a → G24 b = some o → vw (pA a) HF b = some o := fun n e => vw_put (pA_ok.mpr n) (bf _ _ n e)
  have bF : But a H HF := (b8.trans (.same s)).trans bf
  have nLo : Lo ≠ a := Ne.symm naL
  have lod : Leaf K (vw (pA a) HF) od := leafO (at9 nz0 ez0)
  have lh : Leaf K (vw (pA a) HF) (.int (h : Int)) := leaf_int ⟨by omega, by omega⟩
  have lk : Leaf K (vw (pA a) HF) (.int (k : Int)) := leaf_int ⟨by omega, by omega⟩
  have lns : ∀ x ∈ ns.map V.int, Leaf K (vw (pA a) HF) x := fun x hx => by
    obtain ⟨i, hi, rfl⟩ := List.mem_map.mp hx
    exact leaf_int (rn i hi)
  have two : ∀ {P : V → Prop} {x y : V}, P x → P y → ∀ z ∈ [x, y], P z := fun h g z hz => by
    rcases List.mem_cons.mp hz with rfl | hz
    · exact h
    · obtain rfl := List.mem_singleton.mp hz
      exact g
  have three : ∀ {P : V → Prop} {x y u : V}, P x → P y → P u → ∀ z ∈ [x, y, u], P z := fun h g i z hz => by
    rcases List.mem_cons.mp hz with rfl | hz
    · exact h
    · exact two g i z hz
  have rowL : ∀ {l : Addr} {xs : List V}, (vw (pA a) HF) l = some (.lst xs) → (∀ x ∈ xs, Leaf K (vw (pA a) HF) x) → xs.length ≤ 6 → (∃ ds, Dp K (vw (pA a) HF) (.ref l) (.list ds) ∧ ∀ d ∈ ds, Ok 5 d) ∧ ShX K (vw (pA a) HF) 126 3 (.ref l) := fun {l xs} e h hl => by
    obtain ⟨ds, h1, h2⟩ := leaf_dp h
    exact ⟨⟨ds, .lst (SqL.of e) h1, h2⟩, shx_lst e (fun x hx => (h x hx).2) hl⟩
  have bar : ∀ {f l : Addr} {x y : V} {xs : List V}, f ≠ a → l ≠ a → G24 f = some (.tup [x, y, .ref l]) → G24 l = some (.lst xs) → Leaf K (vw (pA a) HF) x → Leaf K (vw (pA a) HF) y → (∀ x ∈ xs, Leaf K (vw (pA a) HF) x) → xs.length ≤ 6 → (∃ d, Dp K (vw (pA a) HF) (.ref f) d ∧ okBarD d) ∧ ShX K (vw (pA a) HF) 3000 8 (.ref f) := fun {f l x y xs} nf nl ef el lx ly lxs hl => by
    obtain ⟨⟨ds, h1, h2⟩, h3⟩ := rowL (at9 nl el) lxs hl
    obtain ⟨⟨dx, x1, x2⟩, x3⟩ := lx
    obtain ⟨⟨dy, y1, y2⟩, y3⟩ := ly
    refine ⟨⟨.tuple [dx, dy, .list ds], .tup (SqT.of (at9 nf ef)) (.cons x1 (.cons y1 (.cons h1 .nil))), fun u v es e => ?_⟩, (shx_tup (at9 nf ef) (three (x3.up (show 20 ≤ 126 by decide) (show 2 ≤ 3 by decide)) (y3.up (by decide) (by decide)) h3) (Nat.le_refl 3)).up (by decide) (by decide)⟩
    injection e with e
    injection e with _ e
    injection e with _ e
    injection e with e _
    injection e with e
    rw [← e]
    exact h2
  have lap : ∀ {xs : List V}, (∀ x ∈ xs, Leaf K (vw (pA a) HF) x) → ∀ x ∈ xs ++ [od], Leaf K (vw (pA a) HF) x := fun h x hx => by
    rcases List.mem_append.mp hx with hx | hx
    · exact h x hx
    · obtain rfl := List.mem_singleton.mp hx
      exact lod
  have ltl : ∀ x ∈ [od] ++ ns.tail.map V.int, Leaf K (vw (pA a) HF) x := fun x hx => by
    rcases List.mem_append.mp hx with hx | hx
    · obtain rfl := List.mem_singleton.mp hx
      exact lod
    · obtain ⟨i, hi, rfl⟩ := List.mem_map.mp hx
      exact leaf_int (rn i (List.mem_of_mem_tail hi))
  have n6 : (ns.map V.int).length ≤ 6 := by rw [List.length_map]; omega
  obtain ⟨v, hv, hO, hS⟩ : ∃ v, ([V.ref f0, V.ref f0, V.ref f0, V.ref f0] ++ [V.ref f1, V.ref f2] ++ [V.ref f3, V.ref f4] ++ [V.ref f5, V.ref f6, V.ref f7, V.non])[m]? = some v ∧ (∃ d, Dp K (vw (pA a) HF) v d ∧ okBarD d) ∧ ShX K (vw (pA a) HF) 3000 8 v := by
    obtain rfl | rfl | rfl | rfl | rfl | rfl | rfl | rfl | rfl | rfl | rfl | rfl : m = 0 ∨ m = 1 ∨ m = 2 ∨ m = 3 ∨ m = 4 ∨ m = 5 ∨ m = 6 ∨ m = 7 ∨ m = 8 ∨ m = 9 ∨ m = 10 ∨ m = 11 := by omega
    · exact ⟨_, rfl, bar nf0 nLo ef0 hLJ lh lk lns n6⟩
    · exact ⟨_, rfl, bar nf0 nLo ef0 hLJ lh lk lns n6⟩
    · exact ⟨_, rfl, bar nf0 nLo ef0 hLJ lh lk lns n6⟩
    · exact ⟨_, rfl, bar nf0 nLo ef0 hLJ lh lk lns n6⟩
    · exact ⟨_, rfl, bar nf1 nLo ef1 hLJ lod lk lns n6⟩
    · exact ⟨_, rfl, bar nf2 nLo ef2 hLJ lh lod lns n6⟩
    · exact ⟨_, rfl, bar nf3 ny1 ef3 ey1 lh lk (lap lns) (by rw [List.length_append, List.length_map]; show _ + 1 ≤ 6; omega)⟩
    · exact ⟨_, rfl, bar nf4 ny2 ef4 ey2 lh lk ltl (by rw [List.length_append, List.length_map, List.length_tail]; show 1 + _ ≤ 6; omega)⟩
    · obtain ⟨ds, h1, h2⟩ := leaf_dp lns
      obtain ⟨⟨dx, x1, x2⟩, x3⟩ := id lh
      obtain ⟨⟨dy, y1, y2⟩, y3⟩ := id lk
      have sh3 := shx_tup (at9 ny3 ey3) (fun x hx => (lns x hx).2) n6
      refine ⟨_, rfl, ⟨.tuple [dx, dy, .tuple ds], .tup (SqT.of (at9 nf5 ef5)) (.cons x1 (.cons y1 (.cons (.tup (SqT.of (at9 ny3 ey3)) h1) .nil))), fun u v es e => ?_⟩, (shx_tup (at9 nf5 ef5) (three (x3.up (show 20 ≤ 126 by decide) (show 2 ≤ 3 by decide)) (y3.up (by decide) (by decide)) sh3) (Nat.le_refl 3)).up (by decide) (by decide)⟩
      injection e with e
      injection e with _ e
      injection e with _ e
      injection e with e _
      cases e
    · obtain ⟨⟨ds, h1, h2⟩, h3⟩ := rowL (at9 nLo hLJ) lns n6
      obtain ⟨⟨dx, x1, x2⟩, x3⟩ := id lh
      obtain ⟨⟨dy, y1, y2⟩, y3⟩ := id lk
      refine ⟨_, rfl, ⟨.list [dx, dy, .list ds], .lst (SqL.of (at9 nf6 ef6)) (.cons x1 (.cons y1 (.cons h1 .nil))), fun u v es e => by cases e⟩, (shx_lst (at9 nf6 ef6) (three (x3.up (show 20 ≤ 126 by decide) (show 2 ≤ 3 by decide)) (y3.up (by decide) (by decide)) h3) (Nat.le_refl 3)).up (by decide) (by decide)⟩
    · obtain ⟨⟨dx, x1, x2⟩, x3⟩ := id lh
      obtain ⟨⟨dy, y1, y2⟩, y3⟩ := id lk
      exact ⟨_, rfl, ⟨.tuple [dx, dy], .tup (SqT.of (at9 nf7 ef7)) (.cons x1 (.cons y1 .nil)), fun u v es e => by cases e⟩, (shx_tup (at9 nf7 ef7) (two x3 y3) (Nat.le_refl 2)).up (by decide) (by decide)⟩
    · exact ⟨_, rfl, ⟨.none, .non, fun u v es e => by cases e⟩, shx_non.up (by decide) (by decide)⟩
  refine ⟨A8, _, _, _, rfl, rfl, SqL.of (bf _ _ nA8 eA8), atI_nat hv, q _ _ bF (wf.up (by omega)) hO hS⟩
end
end TA

set_option Elab.async false
set_option maxRecDepth 100000
set_option maxHeartbeats 4000000
namespace TA
open PySem L2 PyProof.Rows
set_option linter.unusedVariables false
theorem ok_up {n m : Nat} {d : PyData} (h : Ok n d) (e : n ≤ m) : Ok m d := ⟨h.1, Nat.le_trans h.2 e⟩
theorem ok_str {n : Nat} (x : Str) (hx : PyData.strOk x = true) : Ok (n + 1) (.str x) := ⟨by simp [PyData.canLay0, hx], by simp [PyData.depth]⟩
theorem ok2 (x : Str) (hx : PyData.strOk x = true) (i : Int) : Ok 5 (.tuple [.str x, .int i]) := ok_tuple (n := 4) fun d hd => by
  rcases List.mem_cons.mp hd with rfl | hd
  · exact ok_str x hx
  · obtain rfl := List.mem_singleton.mp hd
    exact ok_int _
theorem ok3 (x : Str) (hx : PyData.strOk x = true) (i : Int) {e : PyData} (he : Ok 4 e) : Ok 5 (.tuple [.str x, .int i, e]) := ok_tuple (n := 4) fun d hd => by
  rcases List.mem_cons.mp hd with rfl | hd
  · exact ok_str x hx
  · rcases List.mem_cons.mp hd with rfl | hd
    · exact ok_int _
    · obtain rfl := List.mem_singleton.mp hd
      exact he
/-- two faults of one thing are one -/
theorem fault_one5 {K : PySem.W.Frag} {T : TD} {ch : Nat → List Int} {an : Nat → IP × List (Int × Int) → Int} {n : Nat} {fv fv' : V} {H : Hp} (h : FaultIs T ch an n fv H) (h' : FaultIs T ch an n fv' H) : ∃ d, Dp K H fv d ∧ Dp K H fv' d ∧ Ok 5 d := by
  rcases h with ⟨rfl, a1, a2⟩ | ⟨r, h, a, rfl, hr, hh, ha, c, m⟩ | ⟨r, q, h, i, e, rfl, hr, hq, hn, a1, he, c, m, m2⟩
  · rcases h' with ⟨rfl, _⟩ | ⟨r', h', a', rfl, hr', hh', ha', c', m'⟩ | ⟨r', q', h', i', e', rfl, hr', hq', hn', a1', he', c', m', m2'⟩
    · exact ⟨.none, .non, .non, ok_non⟩
    · exact absurd (a1 h' a' hh' ha') c'
    · exact absurd (a2 h' hn' e' (sb_mem.mp (List.mem_of_getElem? he'))) c'
  · rcases h' with ⟨rfl, b1, b2⟩ | ⟨r', h', a', rfl, hr', hh', ha', c', m'⟩ | ⟨r', q', h', i', e', rfl, hr', hq', hn', a1', he', c', m', m2'⟩
    · exact absurd (b1 h a hh ha) c
    · have eh : h = h' := by
        rcases Nat.lt_trichotomy h h' with g | g | g
        · exact absurd (m' h a hh ha (.inl g)) c
        · exact g
        · exact absurd (m h' a' hh' ha' (.inl g)) c'
      subst eh
      have ea : a = a' := by
        rcases Nat.lt_trichotomy a a' with g | g | g
        · exact absurd (m' h a hh ha (.inr ⟨rfl, g⟩)) c
        · exact g
        · exact absurd (m h a' hh' ha' (.inr ⟨rfl, g⟩)) c'
      subst ea
      exact ⟨.tuple [.str "alone", .int (h : Int), .int (a : Int)], .tup (SqT.of hr) (.cons (.str _) (.cons (.int _) (.cons (.int _) .nil))), .tup (SqT.of hr') (.cons (.str _) (.cons (.int _) (.cons (.int _) .nil))), ok3 _ (by decide +kernel) _ (ok_int _)⟩
    · exact absurd (a1' h a hh ha) c
  · rcases h' with ⟨rfl, b1, b2⟩ | ⟨r', h', a', rfl, hr', hh', ha', c', m'⟩ | ⟨r', q', h', i', e', rfl, hr', hq', hn', a1', he', c', m', m2'⟩
    · exact absurd (b2 h hn e (sb_mem.mp (List.mem_of_getElem? he))) c
    · exact absurd (a1 h' a' hh' ha') c'
    · have eh : h = h' := by
        rcases Nat.lt_trichotomy h h' with g | g | g
        · exact absurd (m' h g e (sb_mem.mp (List.mem_of_getElem? he))) c
        · exact g
        · exact absurd (m h' g e' (sb_mem.mp (List.mem_of_getElem? he'))) c'
      subst eh
      have tk : ∀ {i j : Nat} {e}, (sb T)[i]? = some e → i < j → e ∈ (sb T).take j := fun {i j e} g l => by
        refine List.mem_of_getElem? (i := i) ?_
        rw [List.getElem?_take_of_lt l]
        exact g
      have ei : i = i' := by
        rcases Nat.lt_trichotomy i i' with g | g | g
        · exact absurd (m2' e (tk he g)) c
        · exact g
        · exact absurd (m2 e' (tk he' g)) c'
      subst ei
      obtain rfl : e = e' := by
        rw [he] at he'
        injection he'
      exact ⟨.tuple [.str "answer", .int (h : Int), pairD (iI e.1)], .tup (SqT.of hr) (.cons (.str _) (.cons (.int _) (.cons hq.dp .nil))), .tup (SqT.of hr') (.cons (.str _) (.cons (.int _) (.cons hq'.dp .nil))), ok3 _ (by decide +kernel) _ (ok_up (okD_pair _) (by decide))⟩
theorem bar_one5 {K : PySem.W.Frag} {T : TD} {h a : Nat} {bs : List Nat} {fv fv' : V} {H : Hp} (h1 : BarRes T h a bs fv H) (h2 : BarRes T h a bs fv' H) : ∃ d, Dp K H fv d ∧ Dp K H fv' d ∧ Ok 5 d := by
  rcases h1 with ⟨rfl, a1⟩ | ⟨r, k, rfl, hr, hk, c, m⟩
  · rcases h2 with ⟨rfl, _⟩ | ⟨r', k', rfl, hr', hk', c', m'⟩
    · exact ⟨.none, .non, .non, ok_non⟩
    · exact absurd (a1 k' hk') c'
  · rcases h2 with ⟨rfl, b1⟩ | ⟨r', k', rfl, hr', hk', c', m'⟩
    · exact absurd (b1 k hk) c
    · have ek : k = k' := by
        rcases Nat.lt_trichotomy k k' with g | g | g
        · exact absurd (m' k g) c
        · exact g
        · exact absurd (m k' g) c'
      subst ek
      exact ⟨.tuple [.str "input", .int (k : Int)], .tup (SqT.of hr) (.cons (.str _) (.cons (.int _) .nil)), .tup (SqT.of hr') (.cons (.str _) (.cons (.int _) .nil)), ok2 _ (by decide +kernel) _⟩
/-- what one fault is, told twice: not != -/
theorem ok_same {d : PyData} (h : Ok 5 d) : SeqAt.shaped d = true ∧ PyData.eqv d d = true := ⟨h.shaped (by decide), SeqAt.eqv_refl _ (SeqAt.canLay_of_shaped (h.shaped (by decide)))⟩
theorem form_same {K : PySem.W.Frag} {H : Hp} {r r' : Addr} (h : H r = some (.tup [.str "form"])) (h' : H r' = some (.tup [.str "form"])) : ∃ d, Dp K H (.ref r) d ∧ Dp K H (.ref r') d ∧ Ok 5 d := ⟨.tuple [.str "form"], .tup (SqT.of h) (.cons (.str _) .nil), .tup (SqT.of h') (.cons (.str _) .nil), ok_tuple (n := 4) fun d hd => by
  obtain rfl := List.mem_singleton.mp hd
  exact ok_str _ (by decide +kernel)⟩
theorem Drawn.good {C : Addr} {H' : Hp} {T : TD} {p t cal ans d0 d1 : Addr} {ch an} (b : Drawn H' T t cal ans d0 d1 ch an) (x0 : TaskX C H' p T d0) (x1 : TaskX C H' p T d1) : GoodB C H' p t T ch an cal ans d0 d1 :=
  ⟨b.ht, b.hal, b.hans, ⟨T.bo, .refl _, b.h0⟩, ⟨T.bo, .refl _, b.h1⟩, x0, x1, b.len, fun h hh x hx => ⟨(b.outc h hh x hx).1, by have := (b.outc h hh x hx).2; omega⟩, fun h _ e _ => ⟨(b.outa h e).1, by have := (b.outa h e).2; omega⟩⟩
end TA

set_option Elab.async false
set_option maxRecDepth 100000
set_option maxHeartbeats 4000000
namespace TA
open PySem L2 PyProof.Rows
set_option linter.unusedVariables false
/-- what boxed tells is of the right form -/
theorem BxAt.good {C : Addr} {H H' : Hp} {r : Addr} {T : TD} {ch : Nat → List Int} {p t al an r0 r1 d0 d1 : Addr} (W : WF T) (b : BxAt H H' r T ch t al an r0 r1 d0 d1) (s : Same H H') (hT : TaskAt C H p T) (hl : ∀ h, h < 2 → (ch h).length = (T.al h).length) (hg : ∀ h a, h < 2 → a < (T.al h).length → goodS T h a ((ch h).getD a 0)) :
    GoodB C H' p t T ch (fun h e => ansO ch h e) al an d0 d1 := by
  refine ⟨b.h_t, ⟨al, _, rfl, b.h_al, .cons ⟨r0, rfl, b.h_r0⟩ (.cons ⟨r1, rfl, b.h_r1⟩ .nil)⟩, b.h_an, ⟨sb T, sb_perm T, b.h_d0⟩, ⟨sb T, sb_perm T, b.h_d1⟩, .new s hT b.f2, .new s hT b.f1, hl, fun h hh x hx => ?_, fun h hh e he => ?_⟩
  · obtain ⟨a, ha⟩ := List.getElem?_of_mem hx
    have hac := (List.getElem?_eq_some_iff.mp ha).1
    have haT : a < (T.al h).length := by rw [← hl h hh]; exact hac
    have g := (hg h a hh haT).1
    rw [List.getD_eq_getElem?_getD (l := ch h), ha] at g
    have g : x ∈ (T.al h).getD a [] := g
    have hm : (T.al h).getD a [] ∈ T.al h := by
      rw [List.getD_eq_getElem?_getD, List.getElem?_eq_getElem haT]
      exact List.getElem_mem haT
    exact (W.row h hh _ hm).2.2.2 x g
  · have hne := ansL_ne W hl hg hh e he
    have hm : ansO ch h e ∈ ansL ch h e := by
      unfold ansO
      cases c : ansL ch h e with
      | nil => exact absurd c hne
      | cons x r => exact List.mem_cons_self
    unfold ansL at hm
    obtain ⟨o, ho, eo⟩ := List.mem_map.mp hm
    have ho2 := (W.lets e he).2.2.2 o (List.mem_filter.mp ho).1
    rw [← eo]
    unfold selO
    split
    · exact ho2.1
    · exact ho2.2
/-- the good thing, one answer changed -/
def setAn (an : Nat → IP × List (Int × Int) → Int) (h : Nat) (q : IP) (x : Int) : Nat → IP × List (Int × Int) → Int := fun h' e => if h' = h ∧ e.1 = q then x else an h' e
theorem putK_map {B : BD} (an : Nat → IP × List (Int × Int) → Int) (h : Nat) (x : Int) (e : IP × List (Int × Int)) (m : e ∈ B) : putK (anKV an h B) (kI e.1) (.int x) = anKV (setAn an h e.1 x) h B := by
  have h1 : ((anKV an h B).any fun kv => decide (kv.1 = kI e.1)) = true := List.any_eq_true.mpr ⟨_, List.mem_map.mpr ⟨e, m, rfl⟩, decide_eq_true rfl⟩
  unfold putK
  rw [if_pos h1]
  unfold anKV
  rw [List.map_map]
  refine List.map_congr_left fun b hb => ?_
  show (if kI b.1 = kI e.1 then (kI b.1, V.int x) else (kI b.1, V.int (an h b))) = (kI b.1, V.int (if h = h ∧ b.1 = e.1 then x else an h b))
  by_cases c : b.1 = e.1
  · rw [if_pos (by rw [c]), if_pos ⟨rfl, c⟩]
  · rw [if_neg (fun z => c (kI_inj z)), if_neg (fun z => c z.2)]
end TA

set_option Elab.async false
set_option maxRecDepth 100000
set_option maxHeartbeats 4000000
namespace L2
open PySem PySem.Spec PyProof.Rows L2.DX
set_option linter.unusedVariables false
/-- sorted(d.items()) by keys of two ints; the values of any kind -/
def rSortIW : List V → Hp → VK → Prop := fun vs H Q => ∃ (p a : Addr) (ks : List (DT.P2 × V)), vs = [.ref p] ∧ H p = some (itemsO p a) ∧ H a = some (.dT (ks.map fun e => entI (e.1, e.2))) ∧ ks.length < 64 ∧
  (ks.map (·.1)).Nodup ∧ (∀ e ∈ ks, TS.Bd 64 (DT.nsP e.1)) ∧
  ∀ (H' : Hp) (l : Addr) (ps : List (Addr × DT.P2 × V)), (∀ b o, H b = some o → H' b = some o) → H l = none → (ps.map (·.2)).Perm ks → (ps.map (·.2)).Pairwise (fun e f => TS.code 64 (DT.nsP e.1) ≤ TS.code 64 (DT.nsP f.1)) → H' l = some (.lst (ps.map fun z => V.ref z.1)) →
    (∀ z ∈ ps, ∃ q, H' z.1 = some (.tup [.ref q, z.2.2]) ∧ H' q = some (.tup [.int z.2.1.1, .int z.2.1.2])) → Q (.ref l) H'
def lookW (ks : List (DT.P2 × Value)) (y : DT.P2) : Value := (ks.lookup y).getD .none
theorem lookW_at : ∀ {ks : List (DT.P2 × Value)}, (ks.map (·.1)).Nodup → ∀ e ∈ ks, lookW ks e.1 = e.2
  | [], _, _, h => nomatch h
  | x :: ks, hn, e, h => by
    rw [List.map_cons, List.nodup_cons] at hn
    unfold lookW
    rcases List.mem_cons.mp h with rfl | h
    · simp [List.lookup]
    · have ne : (e.1 == x.1) = false := beq_eq_false_iff_ne.mpr fun z => hn.1 (by rw [← z]; exact List.mem_map.mpr ⟨e, h, rfl⟩)
      rw [List.lookup_cons, ne]
      exact lookW_at hn.2 e h
theorem cr_sortedIW {X : Cx} (hc : X.calm = true) (hu : X.A.units + 64 < cLine) : CallR X (.builtin "sorted") rSortIW := by
  intro pins s σ H xs us Q I r h
  obtain ⟨p, a, ks, rfl, hp, ha, h64, hnd, hbd, q⟩ := h
  obtain rfl := Vals.ref1 r
  have view : s.heap.IsItemsView p a := (show ObjOk X.prog X.w H s.heap p (itemsO p a) from I.hok p _ hp).1
  obtain ⟨z, hd, xs', rel, o, es, ep, ho, hx, hdat, hes, his, hn⟩ := dt_of I.hok ha
  have l1 : (ks.map fun e => entI (e.1, e.2)).length = xs'.length := Paired.length rel
  rw [List.length_map] at l1
  have l2 : es.size = xs'.length := size_of_entries hes
  have hh : X.A.handled = none := I.ok.hd hc
  refine DT.sortedI (es := es) (ep := ep) hh view ⟨o, ho, hx, hdat⟩ (by rw [sizeLine_eq]; omega) fun h' tk as hk hlt hl hG => ?_
  have lak : as.length = ks.length := by omega
  have uf : ((ks.zip xs').map fun p => (p.1.1, p.2.2.2)).map (·.1) = ks.map (·.1) := by
    rw [List.map_map]
    have m2 : (ks.zip xs').map (·.1) = ks := List.map_fst_zip (by omega)
    conv => rhs; rw [← m2]
    rw [List.map_map]
    rfl
  have hndU : (((ks.zip xs').map fun p => (p.1.1, p.2.2.2)).map (·.1)).Nodup := by rw [uf]; exact hnd
  have nd : as.Nodup := List.Pairwise.imp (fun h => Nat.ne_of_lt h) hG.rise
  have pr : ∀ (j : Nat) (b : Addr), as[j]? = some b → ∃ (e : DT.P2 × V) (kq : Addr) (u : Value), ks[j]? = some e ∧ H kq = some (.tup [.int e.1.1, .int e.1.2]) ∧ h'.get? b = some { cls := .type "tuple", data := .seq #[Value.ref kq, u] } ∧ RelV e.2 u ∧ (e.1, u) ∈ (ks.zip xs').map fun p => (p.1.1, p.2.2.2) := by
    intro j b hj
    obtain ⟨en, he, hg⟩ := hG.pairs j b hj
    rw [entry_at hes j] at he
    cases hxj : xs'[j]? with
    | none =>
      rw [hxj] at he
      exact nomatch (show (none : Option DictEntry) = some en from he)
    | some x =>
      rw [hxj] at he
      have een : entryOfKey (tupleKind (mixKind X.prog X.w)) x = en := Option.some.inj he
      obtain ⟨e0, he0, r1, r2, r3⟩ := pget rel hxj
      rw [List.getElem?_map] at he0
      cases hkj : ks[j]? with
      | none =>
        rw [hkj] at he0
        exact nomatch (show (none : Option (List L2.Key × V)) = some e0 from he0)
      | some e =>
        rw [hkj] at he0
        have ee : entI (e.1, e.2) = e0 := Option.some.inj he0
        rw [← ee] at r2 r3
        refine ⟨e, x.2.1, x.2.2, rfl, r2, ?_, r3, List.mem_map.mpr ⟨(e, x), List.mem_of_getElem? (i := j) (List.getElem?_zip_eq_some.mpr ⟨hkj, hxj⟩), rfl⟩⟩
        rw [hg, ← een]
        all_goals rfl
  have hob : (h'.push { cls := .type "list", data := .seq (as.map Value.ref).toArray }).get? h'.objs.size = some (seqObj "list" (as.map Value.ref).toArray 0) := Heap.get?_push_size _ rfl
  have kb : ∀ b o, s.heap.get? b = some o → (h'.push { cls := .type "list", data := .seq (as.map Value.ref).toArray }).get? b = some o := fun b o e => Heap.get?_push_of_some _ (hk b o e)
  have ne0 : ∀ b o, h'.get? b = some o → b ≠ h'.objs.size := fun b o e => Nat.ne_of_lt (Heap.lt_size e)
  generalize hh2 : h'.push { cls := .type "list", data := .seq (as.map Value.ref).toArray } = h2 at hob kb ⊢
  have ka : ∀ b o, h'.get? b = some o → h2.get? b = some o := fun b o e => by rw [← hh2]; exact Heap.get?_push_of_some _ e
  have pin : ∀ (j : Nat) (b : Addr), as[j]? = some b → ∃ e : DT.P2 × V, ks[j]? = some e ∧ DT.PairV (TS.midHeap h2 h'.objs.size (as.map Value.ref)) (.ref b) e.1 (lookW ((ks.zip xs').map fun p => (p.1.1, p.2.2.2)) e.1) := by
    intro j b hj
    obtain ⟨e, kq, u0, he, hkq, hg, hru, hmu⟩ := pr j b hj
    obtain ⟨_, its, rv, ot, hot, hct, nt, hdt⟩ := (show ObjOk X.prog X.w H s.heap kq (.tup [.int e.1.1, .int e.1.2]) from I.hok kq _ hkq)
    obtain ⟨t, t', rfl⟩ : ∃ t t', its = [Value.int e.1.1 t, Value.int e.1.2 t'] := by
      cases rv with
      | cons r1 r2 =>
        cases r2 with
        | cons r2 r3 =>
          cases r3
          obtain ⟨t, rfl⟩ := r1
          obtain ⟨t', rfl⟩ := r2
          exact ⟨t, t', rfl⟩
    refine ⟨e, he, ?_⟩
    rw [lookW_at hndU (e.1, u0) hmu]
    exact ⟨b, kq, t, t', rfl, ⟨_, TS.midHeap_old (ne0 _ _ hg) (ka _ _ hg), rfl, 0, rfl⟩, ⟨ot, TS.midHeap_old (ne0 _ _ (hk _ _ hot)) (kb _ _ hot), hct, nt, hdt⟩⟩
  have tx : ∀ (j : Nat) (b : Addr) (e : DT.P2 × V), as[j]? = some b → ks[j]? = some e → DT.keyNs (TS.midHeap h2 h'.objs.size (as.map Value.ref)) (.ref b) = DT.nsP e.1 := by
    intro j b e hj he
    obtain ⟨e', he', hp'⟩ := pin j b hj
    have ee : e' = e := Option.some.inj (he'.symm.trans he)
    rw [← ee]
    exact hp'.ns
  have at_ : ∀ v ∈ as.map Value.ref, ∃ (j : Nat) (b : Addr) (e : DT.P2 × V), v = .ref b ∧ as[j]? = some b ∧ ks[j]? = some e := by
    intro v hv'
    obtain ⟨b, hb, rfl⟩ := List.mem_map.mp hv'
    obtain ⟨j, hj⟩ := List.mem_iff_getElem?.mp hb
    obtain ⟨e, _, _, he, _⟩ := pr j b hj
    exact ⟨j, b, e, rfl, hj, he⟩
  refine wpAny_call_entry PyProof.Rows.slot_list_sort ⟨_, hob, rfl⟩ PyProof.Rows.entry_list_sort
    (SK.plain_sort (s := { s with heap := h2, toks := tk }) (r := fun v => TS.code 64 (DT.keyNs (TS.midHeap h2 h'.objs.size (as.map Value.ref)) v)) hob (by rw [List.length_map]; omega) (fun h2' Qk hQk => ?_) fun ps out o1 o2 o3 => ⟨.none, rfl, ?_⟩) (PyProof.Rows.args_list_sort _)
  · refine DT.kind_tv (s := { s with heap := TS.midHeap h2 h'.objs.size (as.map Value.ref), toks := tk }) (M := fun y => lookW ((ks.zip xs').map fun p => (p.1.1, p.2.2.2)) y) h2' (by show X.A.units + 1 + 1 < cLine; omega) (fun v hv' => ?_) Qk hQk
    obtain ⟨j, b, e, rfl, hj, he⟩ := at_ v hv'
    obtain ⟨e', he', hp'⟩ := pin j b hj
    exact ⟨e'.1, hp', hbd e' (List.mem_of_getElem? he')⟩
  · show EP X pins σ Q (.ref h'.objs.size) { s with heap := sortedHeap h2 h'.objs.size (as.map Value.ref) out, toks := tk }
    obtain ⟨zs, pz, ez⟩ := perm_lift (fun z : Addr × DT.P2 × V => (Value.ref z.1, Value.ref z.1)) o2 (as.zip ks) (zip_self Value.ref as ks lak)
    have idx : ∀ z ∈ zs, ∃ j : Nat, as[j]? = some z.1 ∧ ks[j]? = some z.2 := by
      intro z' hz'
      obtain ⟨j, hj⟩ := List.mem_iff_getElem?.mp (pz.mem_iff.mp hz')
      exact ⟨j, List.getElem?_zip_eq_some.mp hj⟩
    have hout : out.toList = zs.map fun z => Value.ref z.1 := by
      rw [o1, ← ez, List.map_map]
      all_goals rfl
    have hperm : (zs.map (·.2)).Perm ks := by
      have e := pz.map (·.2)
      have m2 : (as.zip ks).map (·.2) = ks := List.map_snd_zip (by rw [lak]; exact Nat.le_refl _)
      rw [m2] at e
      exact e
    have hsort : (zs.map (·.2)).Pairwise (fun e f => TS.code 64 (DT.nsP e.1) ≤ TS.code 64 (DT.nsP f.1)) := by
      rw [← ez, List.pairwise_map] at o3
      rw [List.pairwise_map]
      refine List.Pairwise.imp_of_mem (fun {x y} hx hy h => ?_) o3
      obtain ⟨j, j1, j2⟩ := idx x hx
      obtain ⟨i, i1, i2⟩ := idx y hy
      have h' : TS.code 64 (DT.keyNs (TS.midHeap h2 h'.objs.size (as.map Value.ref)) (.ref x.1)) ≤ TS.code 64 (DT.keyNs (TS.midHeap h2 h'.objs.size (as.map Value.ref)) (.ref y.1)) := h
      rw [tx j _ _ j1 j2, tx i _ _ i1 i2] at h'
      exact h'
    have kF : ∀ b o, b ≠ h'.objs.size → h2.get? b = some o → (sortedHeap h2 h'.objs.size (as.map Value.ref) out).get? b = some o := fun b o hb e => (PyProof.Rows.sortedHeap_old hb (Heap.lt_size e)).trans e
    have kS : ∀ b o, s.heap.get? b = some o → (sortedHeap h2 h'.objs.size (as.map Value.ref) out).get? b = some o := fun b o e => kF b o (ne0 _ _ (hk b o e)) (kb b o e)
    obtain ⟨eF, heF⟩ := PyProof.Rows.sortedHeap_at (vs := as.map Value.ref) (out := out) hob
    have I1 : Inv X pins σ H { s with heap := sortedHeap h2 h'.objs.size (as.map Value.ref) out, toks := tk } := I.kept (t' := tk) kS
    have hn0 : H h'.objs.size = none := I.hok.fresh (Nat.le_of_lt hlt)
    have hlen : (zs.map fun z => V.ref z.1).length ≤ sizeLine := by
      have e := hperm.length_eq
      rw [List.length_map] at e
      rw [List.length_map, sizeLine_eq]
      omega
    have rv : Vals (zs.map fun z => V.ref z.1) out.toList := by
      rw [hout]
      exact vals_maps (fun z : Addr × DT.P2 × V => V.ref z.1) (fun z => Value.ref z.1) zs fun _ _ => rfl
    have I2 : Inv X pins σ (upd H h'.objs.size (.lst (zs.map fun z => V.ref z.1))) { s with heap := sortedHeap h2 h'.objs.size (as.map Value.ref) out, toks := tk } :=
      I1.take (h' := sortedHeap h2 h'.objs.size (as.map Value.ref) out) (t' := tk) (fun b ob _ e => e) (I.fpOk (Nat.le_of_lt hlt) hn0) ⟨hlen, out.toList, eF, rv, heF⟩
    obtain ⟨H2, I3, g, qt⟩ := takeT (P := fun b vs => ∃ (j : Nat) (e : DT.P2 × V) (kq : Addr), as[j]? = some b ∧ ks[j]? = some e ∧ vs = [.ref kq, e.2] ∧ H kq = some (.tup [.int e.1.1, .int e.1.2])) I as _ I2 nd fun b hb => by
      obtain ⟨j, hj⟩ := List.mem_iff_getElem?.mp hb
      obtain ⟨e, kq, u0, he, hkq, hg, hru, hmu⟩ := pr j b hj
      have hbl : s.heap.objs.size ≤ b := Nat.le_of_lt (hG.above b hb)
      refine ⟨hbl, ?_, [.ref kq, e.2], ⟨j, e, kq, hj, he, rfl, hkq⟩, fun H3 => ⟨(by rw [sizeLine_eq]; show 2 ≤ 16777216; omega), [Value.ref kq, u0], .cons rfl (.cons hru .nil), ⟨_, kF _ _ (ne0 _ _ hg) (ka _ _ hg), rfl, 0, rfl⟩⟩⟩
      rw [upd_ne (ne0 _ _ hg)]
      exact I.hok.fresh hbl
    have gr : ∀ b o, H b = some o → H2 b = some o := fun b o e => g b o (by rw [upd_ne (ne_of_none e hn0)]; exact e)
    refine ⟨.ref h'.objs.size, H2, I3, rfl, q H2 h'.objs.size zs gr hn0 hperm hsort (g _ _ upd_same) fun z' hz' => ?_⟩
    obtain ⟨i, i1, i2⟩ := idx z' hz'
    obtain ⟨vs, ⟨j, e, kq, j1, j2, ev, hkq⟩, hH⟩ := qt z'.1 (List.mem_of_getElem? i1)
    have eij : i = j := (List.getElem?_inj (List.getElem?_eq_some_iff.mp i1).1 nd).mp (i1.trans j1.symm)
    subst eij
    have ee : e = z'.2 := Option.some.inj (j2.symm.trans i2)
    rw [ev, ee] at hH
    rw [ee] at hkq
    exact ⟨kq, hH, gr _ _ hkq⟩
end L2

set_option Elab.async false
set_option maxRecDepth 100000
set_option maxHeartbeats 4000000
namespace TA
open PySem L2 PyProof.Rows
set_option linter.unusedVariables false
theorem WF.shuffle {T : TD} (W : WF T) {bo : BD} (p : bo.Perm T.bo) : WF ⟨T.al, bo⟩ where
  n0 := W.n0
  row := W.row
  srt := ((p.map (·.1)).nodup_iff.mpr (show (T.bo.map (·.1)).Nodup from W.srt) : (bo.map (·.1)).Nodup)
  rng := fun e he => W.rng e (p.mem_iff.mp he)
  lets := fun e he => W.lets e (p.mem_iff.mp he)
  com0 := fun a ha => let ⟨e, he, h⟩ := W.com0 a ha; ⟨e, p.mem_iff.mpr he, h⟩
  com1 := fun a ha => let ⟨e, he, h⟩ := W.com1 a ha; ⟨e, p.mem_iff.mpr he, h⟩
  many := by rw [p.length_eq]; exact W.many
/-- a row with one odd part is no row -/
theorem rowB_odd {row : List Int} {k m : Nat} {de : PyData} (hk : k < row.length) (ho : outB de = false) : rowB (.list ((row.take k).map .int ++ [de] ++ (row.drop (k + 1)).map .int)) m = false := by
  unfold rowB
  refine Bool.and_eq_false_iff.mpr (.inr ?_)
  rw [List.all_eq_false]
  refine ⟨false, List.mem_map.mpr ⟨de, List.mem_append.mpr (.inl (List.mem_append.mpr (.inr List.mem_cons_self))), ho⟩, by decide⟩
theorem rowB_len {row : List Int} {m : Nat} (h : row.length ≠ m) : rowB (rowD row) m = false := by
  show (decide ((row.map PyData.int).length = m) && _) = false
  rw [List.length_map, decide_eq_false h]
  rfl
end TA

set_option Elab.async false
set_option maxRecDepth 100000
set_option maxHeartbeats 4000000
namespace TA
open PySem L2 PyProof.Rows
set_option linter.unusedVariables false
theorem vw_same {a : Addr} {H H' : Hp} (s : But a H H') : Same (vw (pA a) H) (vw (pA a) H') := fun b o h => by
  obtain ⟨h1, h2⟩ := vw_some h
  exact vw_put h1 (s b o (pA_ok.mp h1) h2)
theorem vw_none {a b : Addr} {H : Hp} (h : H b = none) : vw (pA a) H b = none := by
  unfold vw
  rw [h]
  split <;> rfl
theorem asg_go {i : Nat} {v : V} {σ : L2.St} {H : Hp} {Q : L2.St → Hp → Prop} (h : Q (σ.set i (some v)) H) : gName i v σ H Q := h
theorem seq_go {t u : TS} {D : Ends} {σ : L2.St} {H : Hp} (h : t { D with nx := u D } σ H) : tSeq t u D σ H := h
theorem if_join {c : TT} {A : TS} {D : Ends} {σ : L2.St} {H : Hp} (Iv : Hp → Prop) (k : ∀ H', Iv H' → D.nx σ H') (h : (∀ H', Iv H' → D.nx σ H') → c σ H fun b H1 => if b = true then A D σ H1 else tNext D σ H1) : tIfS c A tNext D σ H := h k
/-! what is shown -/
def ShY (K : PySem.W.Frag) (H : Hp) (w n : Nat) (v : V) : Prop := ∃ d, DY K H v d ∧ Tiny d w n
theorem ShX.y {K : PySem.W.Frag} {H : Hp} {w n : Nat} {v : V} (h : ShX K H w n v) : ShY K H w n v := let ⟨d, a, t⟩ := h; ⟨d, .even a, t⟩
theorem ShY.up {K : PySem.W.Frag} {H : Hp} {w w' n n' : Nat} {v : V} (h : ShY K H w n v) (h1 : w ≤ w') (h2 : n ≤ n') : ShY K H w' n' v := let ⟨d, a, t⟩ := h; ⟨d, a, t.up h1 h2⟩
theorem shy_all {K : PySem.W.Frag} {H : Hp} {w n : Nat} : ∀ {xs : List V}, (∀ x ∈ xs, ShY K H w n x) → ∃ ds : List PyData, xs.length = ds.length ∧ (∀ (i : Nat) (x : V) (d : PyData), xs[i]? = some x → ds[i]? = some d → DY K H x d) ∧ ∀ d ∈ ds, Tiny d w n
  | [], _ => ⟨[], rfl, fun i x d h => by simp at h, fun d h => nomatch h⟩
  | x :: xs, h => by
    obtain ⟨ds, a, b, c⟩ := shy_all (xs := xs) fun y hy => h y (List.mem_cons_of_mem _ hy)
    obtain ⟨d, e, t⟩ := h x List.mem_cons_self
    refine ⟨d :: ds, by rw [List.length_cons, List.length_cons, a], fun i y z hy hz => ?_, fun z hz => ?_⟩
    · cases i with
      | zero =>
        obtain rfl : x = y := Option.some.inj hy
        obtain rfl : d = z := Option.some.inj hz
        exact e
      | succ i => exact b i y z hy hz
    · rcases List.mem_cons.mp hz with rfl | hz
      · exact t
      · exact c z hz
theorem shy_lst {K : PySem.W.Frag} {H : Hp} {w n m : Nat} {a : Addr} {xs : List V} (e : H a = some (.lst xs)) (h : ∀ x ∈ xs, ShY K H w n x) (hm : xs.length ≤ m) : ShY K H ((w + 1) * m) (n + 1) (.ref a) := by
  obtain ⟨ds, a, b, c⟩ := shy_all h
  exact ⟨.list ds, .lst (SqL.of e) a b, tiny_list c (by rw [← a]; exact hm)⟩
theorem shy_tup {K : PySem.W.Frag} {H : Hp} {w n m : Nat} {a : Addr} {xs : List V} (e : H a = some (.tup xs)) (h : ∀ x ∈ xs, ShY K H w n x) (hm : xs.length ≤ m) : ShY K H ((w + 1) * m) (n + 1) (.ref a) := by
  obtain ⟨ds, a, b, c⟩ := shy_all h
  exact ⟨.tuple ds, .tup (SqT.of e) a b, tiny_tuple c (by rw [← a]; exact hm)⟩
theorem dic_shows {K : PySem.W.Frag} {H : Hp} : ∀ {kvs : List (List Key × V)}, (∀ kv ∈ kvs, smallK kv.1 ∧ ShX K H 20 2 kv.2) → ∃ es : List (PyData × PyData), DXs K H (kvs.map (·.2)) (es.map (·.2)) ∧ es.map (·.1) = kvs.map (fun kv => keyD kv.1) ∧ es.length = kvs.length ∧ ∀ x ∈ es, Tiny x.1 14 2 ∧ Tiny x.2 20 2
  | [], _ => ⟨[], .nil, rfl, rfl, fun x hx => nomatch hx⟩
  | kv :: kvs, h => by
    obtain ⟨es, a, b, c, t⟩ := dic_shows (kvs := kvs) fun y hy => h y (List.mem_cons_of_mem _ hy)
    obtain ⟨⟨x, y, hx, hy, ek⟩, d, hd, td⟩ := h kv List.mem_cons_self
    refine ⟨(keyD kv.1, d) :: es, ?_, by rw [List.map_cons, List.map_cons, b], by rw [List.length_cons, List.length_cons, c], fun z hz => ?_⟩
    · rw [List.map_cons, List.map_cons]
      exact .cons hd a
    · rcases List.mem_cons.mp hz with rfl | hz
      · refine ⟨?_, td⟩
        rw [ek]
        exact tiny_pair (p := ((x : Int), (y : Int))) ⟨by omega, by show (x : Int) ≤ 63; omega⟩ ⟨by omega, by show (y : Int) ≤ 63; omega⟩
      · exact t z hz
theorem shx_dicG {K : PySem.W.Frag} {H : Hp} {a : Addr} {kvs : List (List Key × V)} (e : H a = some (.dT kvs)) (hl : kvs.length ≤ 20) (h : ∀ kv ∈ kvs, smallK kv.1 ∧ ShX K H 20 2 kv.2) : ShX K H 720 3 (.ref a) := by
  obtain ⟨es, a1, b, c, t⟩ := dic_shows h
  exact ⟨.dict es, .dic e rfl a1 b rfl, tiny_dict (a := 14) (b := 20) (n := 2) (m := 20) t (by rw [c]; exact hl)⟩
theorem shy_odd {K : PySem.W.Frag} {H : Hp} {a : Addr} {kvs : List (List Key × V)} {k v : V} {dk : PyData} (e : OddAt H a kvs k v) (hl : kvs.length ≤ 20) (h : ∀ kv ∈ kvs, smallK kv.1 ∧ ShX K H 20 2 kv.2) (hk : Dp K H k dk) (nd : dk.hasDict = false) (tk : Tiny dk 6 1) (hv : ShX K H 20 2 v) : ShY K H 756 3 (.ref a) := by
  obtain ⟨es, a1, b, c, t⟩ := dic_shows h
  obtain ⟨dv, h1, h2⟩ := hv
  refine ⟨_, .odd e rfl a1 b rfl hk nd h1, tiny_dict (a := 14) (b := 20) (n := 2) (m := 21) (fun x hx => ?_) (by rw [List.length_append, c]; show kvs.length + 1 ≤ 21; omega)⟩
  rcases List.mem_append.mp hx with hx | hx
  · exact t x hx
  · obtain rfl := List.mem_singleton.mp hx
    exact ⟨tk.up (by decide) (by decide), h2⟩
theorem two_mem {P : V → Prop} {x y : V} (h0 : P x) (h1 : P y) : ∀ z ∈ ([x, y] : List V), P z := fun z hz => by
  rcases List.mem_cons.mp hz with rfl | hz
  · exact h0
  · obtain rfl := List.mem_singleton.mp hz
    exact h1
/-- what the law judges: spoilt, or of the right form; its answers new -/
def SpoltIs (K : PySem.W.Frag) (C : Addr) (H Hv : Hp) (p : Addr) (T : TD) (v : V) : Prop := (FormX K C Hv p T v false ∨ ∃ t ch an al ans d0 d1, v = .ref t ∧ GoodB C Hv p t T ch an al ans d0 d1 ∧ (∃ r0 r1, Hv al = some (.lst [.ref r0, .ref r1]) ∧ r0 ≠ r1 ∧ H r0 = none) ∧ d0 ≠ d1 ∧ H d0 = none ∧ H d1 = none) ∧
  (∀ B, H B ≠ none → ∀ t c ans y0 y1, v = .ref t → Hv t = some (.tup [c, .ref ans]) → Hv ans = some (.lst [y0, y1]) → y0 ≠ .ref B ∧ y1 ≠ .ref B) ∧ ShY K Hv 20000 9 v
/-- the lists are done: spoilt, or good ones -/
def FinF (K : PySem.W.Frag) (C : Addr) (H : Hp) (a p L M : Addr) (T : TD) (G : Hp) : Prop :=
  (∃ x0 x1 y0 y1 r0 r1 b0 b1, vw (pA a) G L = some (.lst [x0, x1]) ∧ vw (pA a) G M = some (.lst [y0, y1]) ∧ Rows2 K (vw (pA a) G) T x0 x1 r0 r1 ∧ AnsF K C (vw (pA a) G) p T y0 b0 ∧ AnsF K C (vw (pA a) G) p T y1 b1 ∧ ((r0 && r1) && (b0 && b1)) = false ∧ ∀ B, H B ≠ none → y0 ≠ .ref B ∧ y1 ≠ .ref B) ∨
  ∃ ch an d0 d1, vw (pA a) G M = some (.lst [.ref d0, .ref d1]) ∧ H d0 = none ∧ H d1 = none ∧ d0 ≠ d1 ∧ (∃ r0 r1, vw (pA a) G L = some (.lst [.ref r0, .ref r1]) ∧ r0 ≠ r1 ∧ H r0 = none) ∧ ∀ t Hv, Same (vw (pA a) G) Hv → Hv t = some (.tup [.ref L, .ref M]) → GoodB C Hv p t T ch an L M d0 d1
def FinS (K : PySem.W.Frag) (C : Addr) (H : Hp) (a p L M : Addr) (T : TD) (G : Hp) : Prop := FinF K C H a p L M T G ∧ ShX K (vw (pA a) G) 242 4 (.ref L) ∧ ShY K (vw (pA a) G) 2002 5 (.ref M)
theorem Rows2.mono {K : PySem.W.Frag} {H H' : Hp} (s : Same H H') {T : TD} {x0 x1 : V} {r0 r1 : Bool} (h : Rows2 K H T x0 x1 r0 r1) : Rows2 K H' T x0 x1 r0 r1 :=
  h.imp (fun ⟨d0, d1, h1, h2, h3⟩ => ⟨d0, d1, dp_mono s _ _ h1, dp_mono s _ _ h2, h3⟩) fun ⟨a0, a1, k0, k1, e0, e1, h0, h1, f⟩ => ⟨a0, a1, k0, k1, e0, e1, s _ _ h0, s _ _ h1, f⟩
theorem FinF.told {K : PySem.W.Frag} {C : Addr} {H : Hp} {a p L M : Addr} {T : TD} {G Hv : Hp} (h : FinF K C H a p L M T G) (hL : H L = none) (s : Same (vw (pA a) G) Hv) {t : Addr} (ht : Hv t = some (.tup [.ref L, .ref M])) (sh : ShY K Hv 20000 9 (.ref t)) : SpoltIs K C H Hv p T (.ref t) := by
  rcases h with ⟨x0, x1, y0, y1, r0, r1, b0, b1, h1, h2, h3, h4, h5, h6, h7⟩ | ⟨ch, an, d0, d1, h1, n0, n1, nd, ⟨r0, r1, hr, nr, fr⟩, h2⟩
  · refine ⟨.inl ?_, ?_, sh⟩
    · rw [← h6]
      exact .two ht (s _ _ h1) (s _ _ h2) (h3.mono s) (h4.mono s) (h5.mono s)
    · intro B hB t' c ans y0' y1' e1 e2 e3
      injection e1 with e1
      subst e1
      rw [ht] at e2
      injection e2 with e2
      injection e2 with e2
      injection e2 with e4 e5
      injection e5 with e5 _
      injection e5 with e5
      subst e5
      rw [s _ _ h2] at e3
      injection e3 with e3
      injection e3 with e3
      injection e3 with e4 e5
      injection e5 with e5 _
      subst e4 e5
      exact h7 B hB
  · refine ⟨.inr ⟨t, ch, an, L, M, d0, d1, rfl, h2 t Hv s ht, ⟨r0, r1, s _ _ hr, nr, fr⟩, nd, n0, n1⟩, ?_, sh⟩
    intro B hB t' c ans y0' y1' e1 e2 e3
    injection e1 with e1
    subst e1
    rw [ht] at e2
    injection e2 with e2
    injection e2 with e2
    injection e2 with e4 e5
    injection e5 with e5 _
    injection e5 with e5
    subst e5
    rw [s _ _ h1] at e3
    injection e3 with e3
    injection e3 with e3
    injection e3 with e4 e5
    injection e5 with e5 _
    subst e4 e5
    exact ⟨fun z => by injection z with z; subst z; exact hB n0, fun z => by injection z with z; subst z; exact hB n1⟩
mutual
theorem dx_mono {K : PySem.W.Frag} {H H' : Hp} (s : Same H H') : ∀ {v : V} {d : PyData}, DX K H v d → DX K H' v d
  | _, _, .flat h n => .flat (dp_mono s _ _ h) n
  | _, _, .lst h g => .lst (s.seq h) (dxs_mono s g)
  | _, _, .tup h g => .tup (seqT_mono s h) (dxs_mono s g)
  | _, _, .dic h e g a b => .dic (s _ _ h) e (dxs_mono s g) a b
theorem dxs_mono {K : PySem.W.Frag} {H H' : Hp} (s : Same H H') : ∀ {v : List V} {d : List PyData}, DXs K H v d → DXs K H' v d
  | _, _, .nil => .nil
  | _, _, .cons a b => .cons (dx_mono s a) (dxs_mono s b)
end
theorem dy_mono {K : PySem.W.Frag} {H H' : Hp} (s : Same H H') {v : V} {d : PyData} (h : DY K H v d) : DY K H' v d := by
  induction h with
  | even h => exact .even (dx_mono s h)
  | odd ho ev g ek ed hk nk hv =>
    obtain ⟨o, hO⟩ := ho
    exact .odd ⟨o, hO.mono s⟩ ev (dxs_mono s g) ek ed (dp_mono s _ _ hk) nk (dx_mono s hv)
  | lst hq hl g ih => exact .lst (s.seq hq) hl ih
  | tup hq hl g ih => exact .tup (seqT_mono s hq) hl ih
theorem ShX.mono {K : PySem.W.Frag} {H H' : Hp} (s : Same H H') {w n : Nat} {v : V} (h : ShX K H w n v) : ShX K H' w n v := let ⟨d, a, t⟩ := h; ⟨d, dx_mono s a, t⟩
theorem ShY.mono {K : PySem.W.Frag} {H H' : Hp} (s : Same H H') {w n : Nat} {v : V} (h : ShY K H w n v) : ShY K H' w n v := let ⟨d, a, t⟩ := h; ⟨d, dy_mono s a, t⟩
theorem FinS.told {K : PySem.W.Frag} {C : Addr} {H : Hp} {a p L M : Addr} {T : TD} {G Hv : Hp} (h : FinS K C H a p L M T G) (hL : H L = none) (s : Same (vw (pA a) G) Hv) {t : Addr} (ht : Hv t = some (.tup [.ref L, .ref M])) : SpoltIs K C H Hv p T (.ref t) :=
  h.1.told hL s ht ((shy_tup (w := 2002) (n := 5) (m := 2) ht (two_mem ((h.2.1.mono s).y.up (by decide) (by decide)) (h.2.2.mono s)) (Nat.le_refl _)).up (by decide) (by decide))
theorem FinS.mono {K : PySem.W.Frag} {C : Addr} {H : Hp} {a p L M : Addr} {T : TD} {G G' : Hp} (h : FinS K C H a p L M T G) (s : Same G G') : FinS K C H a p L M T G' := by
  have sv := vw_same (a := a) (But.same s)
  obtain ⟨h1, h2, h3⟩ := h
  refine ⟨?_, h2.mono sv, h3.mono sv⟩
  rcases h1 with ⟨x0, x1, y0, y1, r0, r1, b0, b1, h1, h2, h3, h4, h5, h6, h7⟩ | ⟨ch, an, d0, d1, h1, n0, n1, nd, ⟨r0, r1, hr, nr, fr⟩, h2⟩
  · exact .inl ⟨x0, x1, y0, y1, r0, r1, b0, b1, sv _ _ h1, sv _ _ h2, h3.mono sv, h4.mono sv, h5.mono sv, h6, h7⟩
  · exact .inr ⟨ch, an, d0, d1, sv _ _ h1, n0, n1, nd, ⟨r0, r1, sv _ _ hr, nr, fr⟩, fun t Hv s' ht => h2 t Hv (sv.trans s') ht⟩
theorem OddAt.vw {a d : Addr} {H : Hp} {xs : List V} {kvs : List (List Key × V)} {k v : V} (h : OddAt H d kvs k v) (ea : H a = some (.lst xs)) : OddAt (vw (pA a) H) d kvs k v := by
  obtain ⟨o, h1, h2, ⟨es, ep, ys, uk, uv, h3, h4, h5, h6⟩, h7⟩ := h
  exact ⟨o, vw_put (pA_ok.mpr (ne_of h1 ea (fun z => by cases z))) h1, h2, ⟨es, ep, ys, uk, uv, h3, h4, h5.keeps (fun c ys e => vw_put (pA_ok.mpr (ne_of e ea (fun z => by cases z))) e), h6⟩, h7⟩
theorem putK_any {B : BD} (an : Nat → IP × List (Int × Int) → Int) (h : Nat) (x : V) (e : IP × List (Int × Int)) (m : e ∈ B) : putK (anKV an h B) (kI e.1) x = B.map fun b => (kI b.1, if b.1 = e.1 then x else .int (an h b)) := by
  have h1 : ((anKV an h B).any fun kv => decide (kv.1 = kI e.1)) = true := List.any_eq_true.mpr ⟨_, List.mem_map.mpr ⟨e, m, rfl⟩, decide_eq_true rfl⟩
  unfold putK
  rw [if_pos h1]
  unfold anKV
  rw [List.map_map]
  refine List.map_congr_left fun b hb => ?_
  show (if kI b.1 = kI e.1 then (kI b.1, x) else (kI b.1, V.int (an h b))) = (kI b.1, if b.1 = e.1 then x else V.int (an h b))
  by_cases c : b.1 = e.1
  · rw [if_pos (by rw [c]), if_pos c]
  · rw [if_neg (fun z => c (kI_inj z)), if_neg c]
/-- lists and dicts copied, nothing spoilt yet -/
structure Cln (C : Addr) (H : Hp) (a p L M q0 q1 f0 f1 : Addr) (C0 C1 : BD) (T : TD) (ch : Nat → List Int) (an : Nat → IP × List (Int × Int) → Int) (G : Hp) : Prop where
  hL : G L = some (.lst [.ref q0, .ref q1])
  hM : G M = some (.lst [.ref f0, .ref f1])
  hq0 : G q0 = some (.lst ((ch 0).map V.int))
  hq1 : G q1 = some (.lst ((ch 1).map V.int))
  hf0 : G f0 = some (.dT (anKV an 0 C0))
  hf1 : G f1 = some (.dT (anKV an 1 C1))
  sv : Same (vw (pA a) H) (vw (pA a) G)
/-- what does not change meanwhile -/
structure ClnK (C : Addr) (H : Hp) (a p L M q0 q1 f0 f1 : Addr) (C0 C1 : BD) (T : TD) : Prop where
  p0 : C0.Perm T.bo
  p1 : C1.Perm T.bo
  tk : TaskAt C (vw (pA a) H) p T
  na : H a ≠ none
  nL : H L = none
  nM : H M = none
  nq0 : H q0 = none
  nq1 : H q1 = none
  nf0 : H f0 = none
  nf1 : H f1 = none
  nd : [L, M, q0, q1, f0, f1].Nodup
  W : WF T
  h4 : ∀ h, h < 2 → (T.al h).length ≤ 4
  h16 : T.bo.length ≤ 16
/-- the numbers are outputs, as many as there are inputs -/
structure ClnN (T : TD) (ch : Nat → List Int) (an : Nat → IP × List (Int × Int) → Int) : Prop where
  len : ∀ h, h < 2 → (ch h).length = (T.al h).length
  outc : ∀ h, h < 2 → ∀ x ∈ ch h, okOut x
  outa : ∀ h, h < 2 → ∀ e ∈ T.bo, okOut (an h e)
section
variable {K : PySem.W.Frag} {C : Addr} {H : Hp} {a p L M q0 q1 f0 f1 : Addr} {C0 C1 : BD} {T : TD} {ch : Nat → List Int} {an : Nat → IP × List (Int × Int) → Int} {G G' : Hp}
theorem ClnK.ne (k : ClnK C H a p L M q0 q1 f0 f1 C0 C1 T) {b : Addr} (h : H b = none) : b ≠ a := fun e => k.na (by rw [← e]; exact h)
theorem ClnK.put (k : ClnK C H a p L M q0 q1 f0 f1 C0 C1 T) {b : Addr} {o : HO} (h : H b = none) (e : G b = some o) : vw (pA a) G b = some o := vw_put (pA_ok.mpr (k.ne h)) e
theorem ClnK.x (k : ClnK C H a p L M q0 q1 f0 f1 C0 C1 T) (s : Same (vw (pA a) H) G') {b : Addr} (h : H b = none) : TaskX C G' p T b := TaskX.new s k.tk (vw_none h)
theorem same_upd' {H0 H : Hp} {a q : Addr} {o : HO} (s : Same (vw (pA a) H0) (vw (pA a) H)) (f : H0 q = none) : Same (vw (pA a) H0) (vw (pA a) (upd H q o)) := fun b u e => by
  obtain ⟨h1, h2⟩ := vw_some e
  obtain ⟨g1, g2⟩ := vw_some (s _ _ e)
  exact vw_put g1 (by rw [upd_ne (ne_of_none h2 f)]; exact g2)
theorem Cln.but (c : Cln C H a p L M q0 q1 f0 f1 C0 C1 T ch an G) (k : ClnK C H a p L M q0 q1 f0 f1 C0 C1 T) (s : But a G G') : Cln C H a p L M q0 q1 f0 f1 C0 C1 T ch an G' :=
  ⟨s _ _ (k.ne k.nL) c.hL, s _ _ (k.ne k.nM) c.hM, s _ _ (k.ne k.nq0) c.hq0, s _ _ (k.ne k.nq1) c.hq1, s _ _ (k.ne k.nf0) c.hf0, s _ _ (k.ne k.nf1) c.hf1, c.sv.trans (vw_same s)⟩
theorem ClnN.l4 (n : ClnN T ch an) (k : ClnK C H a p L M q0 q1 f0 f1 C0 C1 T) {h : Nat} (hh : h < 2) : (ch h).length ≤ 4 := by have := n.len h hh; have := k.h4 h hh; omega
theorem sh_row (n : ClnN T ch an) (k : ClnK C H a p L M q0 q1 f0 f1 C0 C1 T) {h : Nat} (hh : h < 2) {q : Addr} {Hv : Hp} (e : Hv q = some (.lst ((ch h).map V.int))) : ShX K Hv 120 3 (.ref q) := (shx_row (m := 4) e (n.outc h hh) (n.l4 k hh)).up (by decide) (by decide)
theorem sh_L {x0 x1 : V} {Hv : Hp} (e : Hv L = some (.lst [x0, x1])) (h0 : ShX K Hv 120 3 x0) (h1 : ShX K Hv 120 3 x1) : ShX K Hv 242 4 (.ref L) := shx_lst (w := 120) (n := 3) (m := 2) e (two_mem h0 h1) (Nat.le_refl _)
theorem sh_M {x0 x1 : V} {Hv : Hp} (e : Hv M = some (.lst [x0, x1])) (h0 : ShY K Hv 1000 4 x0) (h1 : ShY K Hv 1000 4 x1) : ShY K Hv 2002 5 (.ref M) := shy_lst (w := 1000) (n := 4) (m := 2) e (two_mem h0 h1) (Nat.le_refl _)
theorem small_an (k : ClnK C H a p L M q0 q1 f0 f1 C0 C1 T) {B : BD} (pm : B.Perm T.bo) {e : IP × List (Int × Int)} (he : e ∈ B) : smallK (kI e.1) := by
  have rg := k.W.rng e (pm.mem_iff.mp he)
  have z0 := k.h4 0 (by decide)
  have z1 := k.h4 1 (by decide)
  exact ⟨e.1.1, e.1.2, by omega, by omega, rfl⟩
theorem sh_dic (n : ClnN T ch an) (k : ClnK C H a p L M q0 q1 f0 f1 C0 C1 T) {h : Nat} (hh : h < 2) {B : BD} (pm : B.Perm T.bo) {q : Addr} {Hv : Hp} (e : Hv q = some (.dT (anKV an h B))) : ShY K Hv 1000 4 (.ref q) := by
  refine (shx_dicG e ?_ fun kv hkv => ?_).y.up (by decide) (by decide)
  · unfold anKV
    rw [List.length_map, pm.length_eq]
    have := k.h16
    omega
  · obtain ⟨e, he, rfl⟩ := List.mem_map.mp hkv
    exact ⟨small_an k pm he, (shx_int (n.outa h hh e (pm.mem_iff.mp he))).up (by decide) (by decide)⟩
/-- nothing is spoilt -/
theorem Cln.good (c : Cln C H a p L M q0 q1 f0 f1 C0 C1 T ch an G) (k : ClnK C H a p L M q0 q1 f0 f1 C0 C1 T) (n : ClnN T ch an) : FinS K C H a p L M T G := by
  have nd := k.nd
  simp only [List.nodup_cons, List.mem_cons, List.not_mem_nil, or_false, not_or, List.nodup_nil, and_true, not_false_eq_true] at nd
  obtain ⟨_, _, ⟨n10, _⟩, _, n15⟩ := nd
  refine ⟨.inr ⟨ch, an, f0, f1, k.put k.nM c.hM, k.nf0, k.nf1, n15, ⟨q0, q1, k.put k.nL c.hL, n10, k.nq0⟩, fun t Hv s ht => ?_⟩, sh_L (k.put k.nL c.hL) (sh_row n k (by decide) (k.put k.nq0 c.hq0)) (sh_row n k (by decide) (k.put k.nq1 c.hq1)), sh_M (k.put k.nM c.hM) (sh_dic n k (by decide) k.p0 (k.put k.nf0 c.hf0)) (sh_dic n k (by decide) k.p1 (k.put k.nf1 c.hf1))⟩
  refine ⟨ht, ⟨L, _, rfl, s _ _ (k.put k.nL c.hL), .cons ⟨q0, rfl, s _ _ (k.put k.nq0 c.hq0)⟩ (.cons ⟨q1, rfl, s _ _ (k.put k.nq1 c.hq1)⟩ .nil)⟩, s _ _ (k.put k.nM c.hM), ⟨C0, k.p0, s _ _ (k.put k.nf0 c.hf0)⟩, ⟨C1, k.p1, s _ _ (k.put k.nf1 c.hf1)⟩, k.x (c.sv.trans s) k.nf0, k.x (c.sv.trans s) k.nf1, n.len, n.outc, n.outa⟩
theorem ClnN.row (n : ClnN T ch an) {h : Nat} (hh : h < 2) : rowB (rowD (ch h)) (T.al h).length = true := row_yes (n.len h hh) (n.outc h hh)
theorem okRow_ints {row : List Int} (h : row.length ≤ 100) : okRowD (rowD row) := fun es e => by
  unfold rowD at e
  injection e with e
  subst e
  refine ⟨by rw [List.length_map]; exact h, fun d hd => ?_⟩
  obtain ⟨x, _, rfl⟩ := List.mem_map.mp hd
  exact ok_int _
theorem dp_row {Hv : Hp} {q : Addr} {row : List Int} (h : Hv q = some (.lst (row.map V.int))) : Dp K Hv (.ref q) (rowD row) := .lst (SqL.of h) (dp_ints row)
theorem Cln.dicts (k : ClnK C H a p L M q0 q1 f0 f1 C0 C1 T) (n : ClnN T ch an) (sv : Same (vw (pA a) H) (vw (pA a) G)) (hf0 : G f0 = some (.dT (anKV an 0 C0))) (hf1 : G f1 = some (.dT (anKV an 1 C1))) :
    (∃ b, AnsF K C (vw (pA a) G) p T (.ref f0) b) ∧ ∃ b, AnsF K C (vw (pA a) G) p T (.ref f1) b :=
  ⟨⟨_, anF_at (k.x sv k.nf0) k.p0 (k.put k.nf0 hf0)⟩, ⟨_, anF_at (k.x sv k.nf1) k.p1 (k.put k.nf1 hf1)⟩⟩
theorem ClnK.fresh (k : ClnK C H a p L M q0 q1 f0 f1 C0 C1 T) : ∀ B, H B ≠ none → (V.ref f0) ≠ .ref B ∧ V.ref f1 ≠ .ref B := fun B hB =>
  ⟨fun z => by injection z with z; subst z; exact hB k.nf0, fun z => by injection z with z; subst z; exact hB k.nf1⟩
/-- the two rows as they stand at the end, one no row -/
theorem Cln.rows2 (k : ClnK C H a p L M q0 q1 f0 f1 C0 C1 T) (n : ClnN T ch an) (sv : Same (vw (pA a) H) (vw (pA a) G)) {x0 x1 : V} {r0 r1 : Bool} (hL : G L = some (.lst [x0, x1])) (hM : G M = some (.lst [.ref f0, .ref f1])) (hf0 : G f0 = some (.dT (anKV an 0 C0))) (hf1 : G f1 = some (.dT (anKV an 1 C1))) (hr : Rows2 K (vw (pA a) G) T x0 x1 r0 r1) (hb : (r0 && r1) = false) (s0 : ShX K (vw (pA a) G) 120 3 x0) (s1 : ShX K (vw (pA a) G) 120 3 x1) : FinS K C H a p L M T G := by
  obtain ⟨⟨b0, h0⟩, ⟨b1, h1⟩⟩ := Cln.dicts (K := K) k n sv hf0 hf1
  exact ⟨.inl ⟨x0, x1, _, _, r0, r1, b0, b1, k.put k.nL hL, k.put k.nM hM, hr, h0, h1, by rw [hb]; rfl, k.fresh⟩, sh_L (k.put k.nL hL) s0 s1, sh_M (k.put k.nM hM) (sh_dic n k (by decide) k.p0 (k.put k.nf0 hf0)) (sh_dic n k (by decide) k.p1 (k.put k.nf1 hf1))⟩
/-- a row as the law looks at it, and what it is -/
theorem rows_one {Hv : Hp} {h : Nat} (hh : h < 2) {x0 x1 : V} {d : PyData} (n : ClnN T ch an) (h4 : ∀ h, h < 2 → (T.al h).length ≤ 4) (hx : ∀ i, i < 2 → i ≠ h → Dp K Hv (([x0, x1] : List V).getD i .non) (rowD (ch i))) (hd : Dp K Hv (([x0, x1] : List V).getD h .non) d) (o : okRowD d) (b : rowB d (T.al h).length = false) : ∃ r0 r1, Rows2 K Hv T x0 x1 r0 r1 ∧ (r0 && r1) = false := by
  have ol : ∀ i, i < 2 → okRowD (rowD (ch i)) := fun i hi => okRow_ints (by have := n.len i hi; have := h4 i hi; omega)
  obtain rfl | rfl : h = 0 ∨ h = 1 := by omega
  · exact ⟨_, _, .inl ⟨d, rowD (ch 1), hd, hx 1 (by decide) (by decide), o, ol 1 (by decide), rfl, rfl⟩, by rw [b]; rfl⟩
  · exact ⟨_, _, .inl ⟨rowD (ch 0), d, hx 0 (by decide) (by decide), hd, ol 0 (by decide), o, rfl, rfl⟩, by rw [b, Bool.and_false]⟩
/-- one row in place of another -/
theorem Cln.swap (c : Cln C H a p L M q0 q1 f0 f1 C0 C1 T ch an G) (k : ClnK C H a p L M q0 q1 f0 f1 C0 C1 T) (n : ClnN T ch an) {h : Nat} (hh : h < 2) {x : V} {d : PyData} (hd : Dp K (vw (pA a) (upd G L (.lst ([V.ref q0, V.ref q1].set h x)))) x d) (o : okRowD d) (b : rowB d (T.al h).length = false) (sx : ShX K (vw (pA a) (upd G L (.lst ([V.ref q0, V.ref q1].set h x)))) 120 3 x) : FinS K C H a p L M T (upd G L (.lst ([V.ref q0, V.ref q1].set h x))) := by
  have nd := k.nd
  simp only [List.nodup_cons, List.mem_cons, List.not_mem_nil, or_false, not_or, List.nodup_nil, and_true, not_false_eq_true] at nd
  obtain ⟨⟨n1, n2, n3, n4, n5⟩, _⟩ := nd
  have sv := same_upd' (o := .lst ([V.ref q0, V.ref q1].set h x)) c.sv k.nL
  have hq0 : upd G L (.lst ([V.ref q0, V.ref q1].set h x)) q0 = some (.lst ((ch 0).map V.int)) := by rw [upd_ne (Ne.symm n2)]; exact c.hq0
  have hq1 : upd G L (.lst ([V.ref q0, V.ref q1].set h x)) q1 = some (.lst ((ch 1).map V.int)) := by rw [upd_ne (Ne.symm n3)]; exact c.hq1
  have hL : upd G L (.lst ([V.ref q0, V.ref q1].set h x)) L = some (.lst ([V.ref q0, V.ref q1].set h x)) := upd_same
  have hM : upd G L (.lst ([V.ref q0, V.ref q1].set h x)) M = _ := (upd_ne (Ne.symm n1)).trans c.hM
  have hf0 : upd G L (.lst ([V.ref q0, V.ref q1].set h x)) f0 = _ := (upd_ne (Ne.symm n4)).trans c.hf0
  have hf1 : upd G L (.lst ([V.ref q0, V.ref q1].set h x)) f1 = _ := (upd_ne (Ne.symm n5)).trans c.hf1
  generalize upd G L (.lst ([V.ref q0, V.ref q1].set h x)) = G' at hd sx sv hq0 hq1 hL hM hf0 hf1 ⊢
  have d0 := dp_row (K := K) (k.put k.nq0 hq0)
  have d1 := dp_row (K := K) (k.put k.nq1 hq1)
  obtain rfl | rfl : h = 0 ∨ h = 1 := by omega
  · obtain ⟨r0, r1, hr, hb⟩ := rows_one (x0 := x) (x1 := .ref q1) (by decide) n k.h4 (fun i hi hn => by
      obtain rfl : i = 1 := by omega
      exact d1) hd o b
    exact Cln.rows2 k n sv hL hM hf0 hf1 hr hb sx (sh_row n k (by decide) (k.put k.nq1 hq1))
  · obtain ⟨r0, r1, hr, hb⟩ := rows_one (x0 := .ref q0) (x1 := x) (h := 1) (by decide) n k.h4 (fun i hi hn => by
      obtain rfl : i = 0 := by omega
      exact d0) hd o b
    exact Cln.rows2 k n sv hL hM hf0 hf1 hr hb (sh_row n k (by decide) (k.put k.nq0 hq0)) sx
def setCh (ch : Nat → List Int) (h : Nat) (row : List Int) : Nat → List Int := fun i => if i = h then row else ch i
/-- a part of one row in place of another -/
theorem Cln.part (c : Cln C H a p L M q0 q1 f0 f1 C0 C1 T ch an G) (k : ClnK C H a p L M q0 q1 f0 f1 C0 C1 T) (n : ClnN T ch an) {h : Nat} (hh : h < 2) : ∃ r, ([V.ref q0, V.ref q1] : List V)[h]? = some (.ref r) ∧ G r = some (.lst ((ch h).map V.int)) ∧ H r = none ∧
    ∀ (j : Nat) (od : V), j < (ch h).length → ((∃ i, od = .int i ∧ okOut i) ∨ ∃ d, (∀ H, DpK K H od d) ∧ Ok 5 d ∧ outB d = false ∧ d.hasDict = false ∧ Tiny d 20 1) → FinS K C H a p L M T (upd G r (.lst (((ch h).map V.int).set j od))) := by
  have nd := k.nd
  simp only [List.nodup_cons, List.mem_cons, List.not_mem_nil, or_false, not_or, List.nodup_nil, and_true, not_false_eq_true] at nd
  obtain ⟨⟨n1, n2, n3, n4, n5⟩, ⟨n6, n7, n8, n9⟩, ⟨n10, n11, n12⟩, ⟨n13, n14⟩, n15⟩ := nd
  obtain ⟨r, hr, hG, hn, nL, nM, nf0, nf1, o1⟩ : ∃ r, ([V.ref q0, V.ref q1] : List V)[h]? = some (.ref r) ∧ G r = some (.lst ((ch h).map V.int)) ∧ H r = none ∧ L ≠ r ∧ M ≠ r ∧ f0 ≠ r ∧ f1 ≠ r ∧ ∀ i, i < 2 → i ≠ h → ∃ r', r' ≠ r ∧ ([V.ref q0, V.ref q1] : List V)[i]? = some (.ref r') ∧ G r' = some (.lst ((ch i).map V.int)) ∧ H r' = none := by
    obtain rfl | rfl : h = 0 ∨ h = 1 := by omega
    · exact ⟨q0, rfl, c.hq0, k.nq0, n2, n6, Ne.symm n11, Ne.symm n12, fun i hi hne => by
        obtain rfl : i = 1 := by omega
        exact ⟨q1, Ne.symm n10, rfl, c.hq1, k.nq1⟩⟩
    · exact ⟨q1, rfl, c.hq1, k.nq1, n3, n7, Ne.symm n13, Ne.symm n14, fun i hi hne => by
        obtain rfl : i = 0 := by omega
        exact ⟨q0, n10, rfl, c.hq0, k.nq0⟩⟩
  refine ⟨r, hr, hG, hn, fun j od hj hod => ?_⟩
  have sv := same_upd' (o := .lst (((ch h).map V.int).set j od)) c.sv hn
  have hL : upd G r (.lst (((ch h).map V.int).set j od)) L = _ := (upd_ne nL).trans c.hL
  have hM : upd G r (.lst (((ch h).map V.int).set j od)) M = _ := (upd_ne nM).trans c.hM
  have hf0 : upd G r (.lst (((ch h).map V.int).set j od)) f0 = _ := (upd_ne nf0).trans c.hf0
  have hf1 : upd G r (.lst (((ch h).map V.int).set j od)) f1 = _ := (upd_ne nf1).trans c.hf1
  have hr' : upd G r (.lst (((ch h).map V.int).set j od)) r = some (.lst (((ch h).map V.int).set j od)) := upd_same
  have oth : ∀ i, i < 2 → i ≠ h → ∃ r', ([V.ref q0, V.ref q1] : List V)[i]? = some (.ref r') ∧ upd G r (.lst (((ch h).map V.int).set j od)) r' = some (.lst ((ch i).map V.int)) ∧ H r' = none := fun i hi hne => by
    obtain ⟨r', e1, e2, e3, e4⟩ := o1 i hi hne
    exact ⟨r', e2, (upd_ne e1).trans e3, e4⟩
  generalize upd G r (.lst (((ch h).map V.int).set j od)) = G' at sv hL hM hf0 hf1 hr' oth ⊢
  rcases hod with ⟨i, rfl, oi⟩ | ⟨d, dk, od5, ob, nD, tD⟩
  · have es : ((ch h).map V.int).set j (.int i) = ((ch h).set j i).map V.int := by rw [List.map_set]
    rw [es] at hr'
    have nN : ClnN T (setCh ch h ((ch h).set j i)) an := by
      refine ⟨fun h' hh' => ?_, fun h' hh' x hx => ?_, n.outa⟩
      · unfold setCh
        split
        · next e => subst e; rw [List.length_set]; exact n.len _ hh'
        · exact n.len _ hh'
      · unfold setCh at hx
        split at hx
        · rcases List.mem_or_eq_of_mem_set hx with hx | hx
          · exact n.outc h hh x hx
          · rw [hx]; exact oi
        · exact n.outc _ hh' x hx
    refine Cln.good (C0 := C0) (C1 := C1) (q0 := q0) (q1 := q1) (f0 := f0) (f1 := f1) (ch := setCh ch h ((ch h).set j i)) (an := an) ⟨hL, hM, ?_, ?_, hf0, hf1, sv⟩ k nN
    · by_cases e : 0 = h
      · subst e
        have hr : V.ref q0 = V.ref r := Option.some.inj hr
        injection hr with hr
        rw [hr]
        exact hr'
      · obtain ⟨r', e1, e2, _⟩ := oth 0 (by decide) e
        have e1 : V.ref q0 = V.ref r' := Option.some.inj e1
        injection e1 with e1
        unfold setCh
        rw [if_neg e, e1]
        exact e2
    · by_cases e : 1 = h
      · subst e
        have hr : V.ref q1 = V.ref r := Option.some.inj hr
        injection hr with hr
        rw [hr]
        exact hr'
      · obtain ⟨r', e1, e2, _⟩ := oth 1 (by decide) e
        have e1 : V.ref q1 = V.ref r' := Option.some.inj e1
        injection e1 with e1
        unfold setCh
        rw [if_neg e, e1]
        exact e2
  · have es : ((ch h).map V.int).set j od = ((ch h).take j).map V.int ++ [od] ++ ((ch h).drop (j + 1)).map V.int := by
      rw [List.set_eq_take_append_cons_drop, if_pos (by rw [List.length_map]; exact hj), List.map_take, List.map_drop, List.append_assoc]
      rfl
    rw [es] at hr'
    have lch : (ch h).length ≤ 4 := by have := n.len h hh; have := k.h4 h hh; omega
    have hd : Dp K (vw (pA a) G') (.ref r) (.list (((ch h).take j).map .int ++ [d] ++ ((ch h).drop (j + 1)).map .int)) := .lst (SqL.of (k.put hn hr')) (dpAll_app (dpAll_app (dp_ints _) (.cons (dk _).dp .nil)) (dp_ints _))
    have ok : okRowD (.list (((ch h).take j).map .int ++ [d] ++ ((ch h).drop (j + 1)).map .int)) := fun es e => by
      injection e with e
      subst e
      refine ⟨?_, fun z hz => ?_⟩
      · rw [List.length_append, List.length_append, List.length_map, List.length_map, List.length_take, List.length_drop]
        simp only [List.length_singleton]
        omega
      · rcases List.mem_append.mp hz with hz | hz
        · rcases List.mem_append.mp hz with hz | hz
          · obtain ⟨x, _, rfl⟩ := List.mem_map.mp hz
            exact ok_int _
          · rw [List.mem_singleton.mp hz]
            exact od5
        · obtain ⟨x, _, rfl⟩ := List.mem_map.mp hz
          exact ok_int _
    obtain ⟨r0, r1, hR, hb⟩ := rows_one (K := K) (Hv := vw (pA a) G') (x0 := .ref q0) (x1 := .ref q1) hh n k.h4 (fun i hi hne => by
      obtain ⟨r', e1, e2, e3⟩ := oth i hi hne
      rw [List.getD_eq_getElem?_getD, e1]
      exact dp_row (k.put e3 e2)) (by rw [List.getD_eq_getElem?_getD, hr]; exact hd) ok (rowB_odd hj ob)
    have sR : ShX K (vw (pA a) G') 120 3 (.ref r) := (shx_lst (w := 20) (n := 1) (m := 4) (k.put hn hr') (fun z hz => by
      rcases List.mem_append.mp hz with hz | hz
      · rcases List.mem_append.mp hz with hz | hz
        · obtain ⟨x, hx, rfl⟩ := List.mem_map.mp hz
          exact (shx_int (n.outc h hh x (List.mem_of_mem_take hx))).up (by decide) (by decide)
        · rw [List.mem_singleton.mp hz]
          exact ⟨d, .flat (dk _).dp nD, tD⟩
      · obtain ⟨x, hx, rfl⟩ := List.mem_map.mp hz
        exact (shx_int (n.outc h hh x (List.mem_of_mem_drop hx))).up (by decide) (by decide)) (by
          rw [List.length_append, List.length_append, List.length_map, List.length_map, List.length_take, List.length_drop]
          simp only [List.length_singleton]
          omega)).up (by decide) (by decide)
    have sQ : ∀ i, i < 2 → ∀ q, ([V.ref q0, V.ref q1] : List V)[i]? = some (.ref q) → ShX K (vw (pA a) G') 120 3 (.ref q) := fun i hi q hq => by
      by_cases e : i = h
      · subst e
        rw [hr] at hq
        injection hq with hq
        rw [← hq]
        exact sR
      · obtain ⟨r', e1, e2, e3⟩ := oth i hi e
        rw [e1] at hq
        injection hq with hq
        rw [← hq]
        exact sh_row n k hi (k.put e3 e2)
    exact Cln.rows2 k n sv hL hM hf0 hf1 hR hb (sQ 0 (by decide) q0 rfl) (sQ 1 (by decide) q1 rfl)
/-- answers in place of others -/
theorem Cln.answers (c : Cln C H a p L M q0 q1 f0 f1 C0 C1 T ch an G) (k : ClnK C H a p L M q0 q1 f0 f1 C0 C1 T) {h : Nat} (hh : h < 2) {y : V} (hy : AnsF K C (vw (pA a) (upd G M (.lst ([V.ref f0, V.ref f1].set h y)))) p T y false) (ny : ∀ B, H B ≠ none → y ≠ .ref B) (n : ClnN T ch an) (sy : ShY K (vw (pA a) (upd G M (.lst ([V.ref f0, V.ref f1].set h y)))) 1000 4 y) : FinS K C H a p L M T (upd G M (.lst ([V.ref f0, V.ref f1].set h y))) := by
  have nd := k.nd
  simp only [List.nodup_cons, List.mem_cons, List.not_mem_nil, or_false, not_or, List.nodup_nil, and_true, not_false_eq_true] at nd
  obtain ⟨⟨n1, n2, n3, n4, n5⟩, ⟨n6, n7, n8, n9⟩, ⟨n10, n11, n12⟩, ⟨n13, n14⟩, n15⟩ := nd
  have sv := same_upd' (o := .lst ([V.ref f0, V.ref f1].set h y)) c.sv k.nM
  have hL : upd G M (.lst ([V.ref f0, V.ref f1].set h y)) L = _ := (upd_ne n1).trans c.hL
  have hM : upd G M (.lst ([V.ref f0, V.ref f1].set h y)) M = some (.lst ([V.ref f0, V.ref f1].set h y)) := upd_same
  have hq0 : upd G M (.lst ([V.ref f0, V.ref f1].set h y)) q0 = _ := (upd_ne (Ne.symm n6)).trans c.hq0
  have hq1 : upd G M (.lst ([V.ref f0, V.ref f1].set h y)) q1 = _ := (upd_ne (Ne.symm n7)).trans c.hq1
  have hf0 : upd G M (.lst ([V.ref f0, V.ref f1].set h y)) f0 = _ := (upd_ne (Ne.symm n8)).trans c.hf0
  have hf1 : upd G M (.lst ([V.ref f0, V.ref f1].set h y)) f1 = _ := (upd_ne (Ne.symm n9)).trans c.hf1
  generalize upd G M (.lst ([V.ref f0, V.ref f1].set h y)) = G' at hy sy sv hL hM hq0 hq1 hf0 hf1 ⊢
  have hR : Rows2 K (vw (pA a) G') T (.ref q0) (.ref q1) (rowB (rowD (ch 0)) (T.al 0).length) (rowB (rowD (ch 1)) (T.al 1).length) := .inl ⟨_, _, dp_row (k.put k.nq0 hq0), dp_row (k.put k.nq1 hq1), okRow_ints (by have := n.l4 k (h := 0) (by decide); omega), okRow_ints (by have := n.l4 k (h := 1) (by decide); omega), rfl, rfl⟩
  have sL := sh_L (K := K) (k.put k.nL hL) (sh_row n k (h := 0) (by decide) (k.put k.nq0 hq0)) (sh_row n k (h := 1) (by decide) (k.put k.nq1 hq1))
  obtain rfl | rfl : h = 0 ∨ h = 1 := by omega
  · exact ⟨.inl ⟨_, _, y, .ref f1, _, _, false, _, k.put k.nL hL, k.put k.nM hM, hR, hy, anF_at (k.x sv k.nf1) k.p1 (k.put k.nf1 hf1), by rw [Bool.false_and, Bool.and_false], fun B hB => ⟨ny B hB, (k.fresh B hB).2⟩⟩, sL, sh_M (k.put k.nM hM) sy (sh_dic n k (by decide) k.p1 (k.put k.nf1 hf1))⟩
  · exact ⟨.inl ⟨_, _, .ref f0, y, _, _, _, false, k.put k.nL hL, k.put k.nM hM, hR, anF_at (k.x sv k.nf0) k.p0 (k.put k.nf0 hf0), hy, by rw [Bool.and_false, Bool.and_false], fun B hB => ⟨(k.fresh B hB).1, ny B hB⟩⟩, sL, sh_M (k.put k.nM hM) (sh_dic n k (by decide) k.p0 (k.put k.nf0 hf0)) sy⟩
/-- an answer in place of another -/
theorem Cln.answer (c : Cln C H a p L M q0 q1 f0 f1 C0 C1 T ch an G) (k : ClnK C H a p L M q0 q1 f0 f1 C0 C1 T) (n : ClnN T ch an) {h : Nat} (hh : h < 2) : ∃ f B, ([V.ref f0, V.ref f1] : List V)[h]? = some (.ref f) ∧ B.Perm T.bo ∧ G f = some (.dT (anKV an h B)) ∧ H f = none ∧
    (∀ e ∈ B, ∀ i, okOut i → FinS K C H a p L M T (upd G f (.dT (anKV (setAn an h e.1 i) h B)))) ∧
    ∀ o, (Same (vw (pA a) H) (vw (pA a) (upd G f o)) → vw (pA a) (upd G f o) f = some o → AnsF K C (vw (pA a) (upd G f o)) p T (.ref f) false ∧ ShY K (vw (pA a) (upd G f o)) 1000 4 (.ref f)) → FinS K C H a p L M T (upd G f o) := by
  have nd := k.nd
  simp only [List.nodup_cons, List.mem_cons, List.not_mem_nil, or_false, not_or, List.nodup_nil, and_true, not_false_eq_true] at nd
  obtain ⟨⟨n1, n2, n3, n4, n5⟩, ⟨n6, n7, n8, n9⟩, ⟨n10, n11, n12⟩, ⟨n13, n14⟩, n15⟩ := nd
  have oN : ∀ (h : Nat), h < 2 → ∀ (B : BD) (e : IP × List (Int × Int)), e ∈ B → ∀ i, okOut i → ClnN T ch (setAn an h e.1 i) := fun h hh B e he i oi => ⟨n.len, n.outc, fun h' hh' e' he' => by
    unfold setAn
    split
    · exact oi
    · exact n.outa h' hh' e' he'⟩
  have l4 : ∀ i, i < 2 → (ch i).length ≤ 100 := fun i hi => by have := n.len i hi; have := k.h4 i hi; omega
  obtain rfl | rfl : h = 0 ∨ h = 1 := by omega
  · refine ⟨f0, C0, rfl, k.p0, c.hf0, k.nf0, fun e he i oi => ?_, fun o ho => ?_⟩
    · refine Cln.good (an := setAn an 0 e.1 i) ⟨(upd_ne n4).trans c.hL, (upd_ne n8).trans c.hM, (upd_ne n11).trans c.hq0, (upd_ne n13).trans c.hq1, upd_same, ?_, same_upd' c.sv k.nf0⟩ k (oN 0 (by decide) C0 e he i oi)
      rw [upd_ne (Ne.symm n15)]
      exact c.hf1
    · have sv := same_upd' (o := o) c.sv k.nf0
      have hL : upd G f0 o L = _ := (upd_ne n4).trans c.hL
      have hM : upd G f0 o M = _ := (upd_ne n8).trans c.hM
      have hq0 : upd G f0 o q0 = _ := (upd_ne n11).trans c.hq0
      have hq1 : upd G f0 o q1 = _ := (upd_ne n13).trans c.hq1
      have hf1 : upd G f0 o f1 = _ := (upd_ne (Ne.symm n15)).trans c.hf1
      obtain ⟨hy, sy⟩ := ho sv (k.put k.nf0 upd_same)
      generalize upd G f0 o = G' at hy sy sv hL hM hq0 hq1 hf1 ⊢
      refine ⟨?_, sh_L (k.put k.nL hL) (sh_row n k (h := 0) (by decide) (k.put k.nq0 hq0)) (sh_row n k (h := 1) (by decide) (k.put k.nq1 hq1)), sh_M (k.put k.nM hM) sy (sh_dic n k (by decide) k.p1 (k.put k.nf1 hf1))⟩
      exact .inl ⟨_, _, .ref f0, .ref f1, _, _, false, _, k.put k.nL hL, k.put k.nM hM, .inl ⟨_, _, dp_row (k.put k.nq0 hq0), dp_row (k.put k.nq1 hq1), okRow_ints (l4 0 (by decide)), okRow_ints (l4 1 (by decide)), rfl, rfl⟩, hy, anF_at (k.x sv k.nf1) k.p1 (k.put k.nf1 hf1), by rw [Bool.false_and, Bool.and_false], k.fresh⟩
  · refine ⟨f1, C1, rfl, k.p1, c.hf1, k.nf1, fun e he i oi => ?_, fun o ho => ?_⟩
    · refine Cln.good (an := setAn an 1 e.1 i) ⟨(upd_ne n5).trans c.hL, (upd_ne n9).trans c.hM, (upd_ne n12).trans c.hq0, (upd_ne n14).trans c.hq1, ?_, upd_same, same_upd' c.sv k.nf1⟩ k (oN 1 (by decide) C1 e he i oi)
      rw [upd_ne n15]
      exact c.hf0
    · have sv := same_upd' (o := o) c.sv k.nf1
      have hL : upd G f1 o L = _ := (upd_ne n5).trans c.hL
      have hM : upd G f1 o M = _ := (upd_ne n9).trans c.hM
      have hq0 : upd G f1 o q0 = _ := (upd_ne n12).trans c.hq0
      have hq1 : upd G f1 o q1 = _ := (upd_ne n14).trans c.hq1
      have hf0 : upd G f1 o f0 = _ := (upd_ne n15).trans c.hf0
      obtain ⟨hy, sy⟩ := ho sv (k.put k.nf1 upd_same)
      generalize upd G f1 o = G' at hy sy sv hL hM hq0 hq1 hf0 ⊢
      refine ⟨?_, sh_L (k.put k.nL hL) (sh_row n k (h := 0) (by decide) (k.put k.nq0 hq0)) (sh_row n k (h := 1) (by decide) (k.put k.nq1 hq1)), sh_M (k.put k.nM hM) (sh_dic n k (by decide) k.p0 (k.put k.nf0 hf0)) sy⟩
      exact .inl ⟨_, _, .ref f0, .ref f1, _, _, _, false, k.put k.nL hL, k.put k.nM hM, .inl ⟨_, _, dp_row (k.put k.nq0 hq0), dp_row (k.put k.nq1 hq1), okRow_ints (l4 0 (by decide)), okRow_ints (l4 1 (by decide)), rfl, rfl⟩, anF_at (k.x sv k.nf0) k.p0 (k.put k.nf0 hf0), hy, by rw [Bool.and_false, Bool.and_false], k.fresh⟩
end
end TA

set_option Elab.async false
set_option maxRecDepth 100000
set_option maxHeartbeats 4000000
namespace TA
open PySem L2 PyProof.Rows
set_option linter.unusedVariables false
def spSpoilt (K : PySem.W.Frag) (C : Addr) : Sp := fun vs H Q _ => ∃ (a p t : Addr) (n : Int) (T : TD) (ch : Nat → List Int) (an : Nat → IP × List (Int × Int) → Int) (cal ans d0 d1 : Addr), vs = [.ref a, .ref t] ∧ WellAt H a n ∧ 0 ≤ n ∧ n < 900000 ∧ WF T ∧ (∀ h, h < 2 → (T.al h).length ≤ 4) ∧ T.bo.length ≤ 16 ∧ GoodB C (vw (pA a) H) p t T ch an cal ans d0 d1 ∧ TaskAt C (vw (pA a) H) p T ∧
  ∀ (v : V) (H' : Hp), But a H H' → WellAt H' a (n + 10) → SpoltIs K C H (vw (pA a) H') p T v → Q v H'
/-- what stands behind the ways up to one -/
def IvSp (K : PySem.W.Frag) (C : Addr) (H : Hp) (a p L M q0 q1 f0 f1 : Addr) (C0 C1 : BD) (T : TD) (ch : Nat → List Int) (an : Nat → IP × List (Int × Int) → Int) (n : Int) (way k : Nat) (G : Hp) : Prop :=
  ∃ m : Int, 0 ≤ m ∧ m ≤ n + 3 + k ∧ WellAt G a m ∧ But a H G ∧ ((k ≤ way ∧ Cln C H a p L M q0 q1 f0 f1 C0 C1 T ch an G) ∨ (way < k ∧ FinS K C H a p L M T G))
theorem ixN_of {n j : Nat} (hj : j < n) : ixN n (j : Int) = some j := by
  unfold ixN
  rw [if_pos (by omega), if_pos (by omega)]
  simp
theorem way_is {w k : Nat} {c : Bool} (e : c = decide (V.int (w : Int) = V.int (k : Int))) : (c = true → w = k) ∧ (¬ c = true → w ≠ k) :=
  ⟨fun h => by
    rw [e] at h
    have := of_decide_eq_true h
    injection this with this
    omega, fun h g => h (by rw [e, g]; exact decide_eq_true rfl)⟩
section
variable {P : Program} {w : World} {K : PySem.W.Frag} {mg : Str → Option Value} {base : Heap}
abbrev nSp : List Str := ["_law_state", "_law_thing", "_law_told", "_law_answers", "_law_hand", "_law_odd", "_law_way", "_law_row"]
theorem sc_sp : FnScope nSp ["_law_state", "_law_thing"] (defScope s__law_spoilt) := ⟨rfl, rfl, rfl, by decide +kernel, rfl, by decide +kernel, by decide +kernel⟩
theorem ok_sp {f g1 C : Addr} {fd d1 : FuncData} (F : Fun K "_law_spoilt" "_law_spoilt" s__law_spoilt f fd) (T : Txt K mg) (T2 : Txt2 K mg) (Dg : Def P w K mg base "_law_digit" ["_law_state", "_law_base"] 1 spDigit g1 d1) :
    FnOk P w K mg base CX0 2 f fd ["_law_state", "_law_thing"] (spSpoilt K C) := by
  refine F.ok sc_sp (fun vs H Q E h => ?_) (fun cdv A outer s H vs Q E hr h => ?_)
  · obtain ⟨a, p, t, n, D, ch, an, cal, ans, d0, d1, rfl, _⟩ := h
    rfl
  obtain ⟨a, p, t, n, D, ch, an, cal, ans, e0, e1, rfl, wl, hn0, hn, hW, h4, h16, G, hTk, q⟩ := h
  have nd := sc_sp.nd
  have hu := hu_of hr
  have hu1 : (A.deeper (envOfC "_law_spoilt" (defScope s__law_spoilt) s.heap.objs.size f cdv)).units + 1 < cLine := by have := hr.un; omega
  have hu2 := hu2_of hr
  have hu64 := hu64_of hr
  refine ⟨_, (pss_cons (ps_setLc (i := 2) (own := [("_law_row", 7)]) (g := (gName 7)) (tt := tYes) (te := (tCB (fun xs H Q => ∃ p ys, xs = [.ref p] ∧ (SqL K H p ys ∨ SqT K H p ys) ∧ ∀ l, H l = none → Q (.ref l) (upd H l (.lst ys))) (tCons (tVar 7) tNil))) rfl nd rfl rfl (sw_true rfl rfl rfl (by decide +kernel)) (pi_list (pe_ix ix_tup (pv 1) pe_int (fun _ _ => rfl))) (blkOk_by (N := nSp) (sc := defScope s__law_spoilt) (by decide +kernel)) (fun _ _ _ _ _ => (by exact (pg_name (i := 7) nd rfl (Or.inl rfl)))) (fun _ _ _ _ _ => pts_nil) (fun _ _ _ _ _ => (by exact (pe_callTy call_list_of (by rfl) T.list boot_list (pa_cons (pv 7) pa_nil)))))
    (pss_cons (ps_setLc (i := 3) (own := [("_law_row", 7)]) (g := (gName 7)) (tt := tYes) (te := (tCB rDictT (tCons (tVar 7) tNil))) rfl nd rfl rfl (sw_true rfl rfl rfl (by decide +kernel)) (pi_list (pe_ix ix_tup (pv 1) pe_int (fun _ _ => rfl))) (blkOk_by (N := nSp) (sc := defScope s__law_spoilt) (by decide +kernel)) (fun _ _ _ _ _ => (by exact (pg_name (i := 7) nd rfl (Or.inl rfl)))) (fun _ _ _ _ _ => pts_nil) (fun _ _ _ _ _ => (by exact (pe_callTy (call_dict_dT hu2) (by rfl) T2.dict boot_dict (pa_cons (pv 7) pa_nil)))))
    (pss_cons (ps_set (i := 4) nd rfl (Or.inl rfl) (pe_call Dg.G (hr.mono (by decide)) rfl Dg.m Dg.k Dg.b .nil pass0 (pa_cons (pv 0) (pa_cons pe_int pa_nil))))
    (pss_cons (ps_set (i := 5) nd rfl (Or.inl rfl) (pe_ix ix_list (pe_lst (pa_cons pe_int (pa_cons pe_int (pa_cons pe_int (pa_cons pe_int (pa_cons pe_int (pa_cons pe_int (pa_cons (pe_un un_neg pe_int) (pa_cons pe_bl (pa_cons pe_non (pa_cons pe_str pa_nil))))))))))) (pe_call Dg.G (hr.mono (by decide)) rfl Dg.m Dg.k Dg.b .nil pass0 (pa_cons (pv 0) (pa_cons pe_int pa_nil))) (fun _ _ => rfl)))
    (pss_cons (ps_set (i := 6) nd rfl (Or.inl rfl) (pe_call Dg.G (hr.mono (by decide)) rfl Dg.m Dg.k Dg.b .nil pass0 (pa_cons (pv 0) (pa_cons pe_int pa_nil))))
    (pss_cons (ps_if (pt_cmpR op_eq (pv 6) pe_int (nomark _))
      (pss_one (ps_asg (pv 5) (pg_sub (pe_ix ix_list (pv 2) (pv 4) (fun _ _ => rfl)) (pe_call Dg.G (hr.mono (by decide)) rfl Dg.m Dg.k Dg.b .nil pass0 (pa_cons (pv 0) (pa_cons (pe_callB call_len_seq (by rfl) T.len PySem.boot_len (pa_cons (pe_ix ix_list (pv 2) (pv 4) (fun _ _ => rfl)) pa_nil)) pa_nil))) set_list)))
      pss_nil)
    (pss_cons (ps_if (pt_cmpR op_eq (pv 6) pe_int (nomark _))
      (pss_one (ps_asg (pe_ix ix_list (pe_lst (pa_cons (pe_op op_cat (pe_ix ix_list (pv 2) (pv 4) (fun _ _ => rfl)) (pe_lst (pa_cons (pv 5) pa_nil))) (pa_cons (pe_slice sl_list (pe_ix ix_list (pv 2) (pv 4) (fun _ _ => rfl)) (po_some pe_int) po_none) (pa_cons (pe_callTy call_tuple_of (by rfl) T.tuple boot_tuple (pa_cons (pe_ix ix_list (pv 2) (pv 4) (fun _ _ => rfl)) pa_nil)) (pa_cons pe_non pa_nil))))) (pe_call Dg.G (hr.mono (by decide)) rfl Dg.m Dg.k Dg.b .nil pass0 (pa_cons (pv 0) (pa_cons pe_int pa_nil))) (fun _ _ => rfl)) (pg_sub (pv 2) (pv 4) set_list)))
      pss_nil)
    (pss_cons (ps_if (pt_cmpR op_in_seq (pv 6) (pe_lst (pa_cons pe_int (pa_cons pe_int pa_nil))) (by rfl))
      (pss_one (ps_dput hu (pe_ix ix_list (pv 3) (pv 4) (fun _ _ => rfl)) (pe_ix ix_list (pe_callB (cr_sortedDT (d := 2) (B := 64) (by decide) rfl) (by rfl) T2.sorted (by decide +kernel) (pa_cons (pe_ix ix_list (pv 3) (pv 4) (fun _ _ => rfl)) pa_nil)) (pe_call Dg.G (hr.mono (by decide)) rfl Dg.m Dg.k Dg.b .nil pass0 (pa_cons (pv 0) (pa_cons (pe_callB call_len_dT (by rfl) T.len PySem.boot_len (pa_cons (pe_ix ix_list (pv 3) (pv 4) (fun _ _ => rfl)) pa_nil)) pa_nil))) (fun _ _ => rfl)) (pv 5) rfl))
      pss_nil)
    (pss_cons (ps_if (pt_cmpR op_eq (pv 6) pe_int (nomark _))
      (pss_one (ps_dputO hu1 (pe_ix ix_list (pv 3) (pv 4) (fun _ _ => rfl)) (pe_ix ix_list (pe_lst (pa_cons (pe_tup (pa_cons pe_int (pa_cons pe_int pa_nil))) (pa_cons (pe_tup (pa_cons pe_int (pa_cons pe_int pa_nil))) (pa_cons pe_non pa_nil)))) (pe_call Dg.G (hr.mono (by decide)) rfl Dg.m Dg.k Dg.b .nil pass0 (pa_cons (pv 0) (pa_cons pe_int pa_nil))) (fun _ _ => rfl)) pe_int rfl))
      pss_nil)
    (pss_cons (ps_if (pt_cmpR op_eq (pv 6) pe_int (nomark _))
      (pss_one (ps_asg (pe_ix ix_list (pe_lst (pa_cons pe_dnewT (pa_cons pe_non (pa_cons (pe_callB (cr_sortedIW rfl hu64) (by rfl) T2.sorted (by decide +kernel) (pa_cons (pe_bm0 PySem.F.plainAttrs_dict PySem.F.slot_dict_items PySem.F.type_dict_items L2.DX.mt_itemsT (pe_ix ix_list (pv 3) (pv 4) (fun _ _ => rfl))) pa_nil)) pa_nil)))) (pe_call Dg.G (hr.mono (by decide)) rfl Dg.m Dg.k Dg.b .nil pass0 (pa_cons (pv 0) (pa_cons pe_int pa_nil))) (fun _ _ => rfl)) (pg_sub (pv 3) (pv 4) set_list)))
      pss_nil)
    (pss_cons (ps_if (pt_cmpR op_eq (pv 6) pe_int (nomark _))
      (pss_one (ps_ret (pe_ix ix_list (pe_lst (pa_cons (pe_lst (pa_cons (pv 2) (pa_cons (pv 3) pa_nil))) (pa_cons (pe_tup (pa_cons (pv 2) pa_nil)) (pa_cons (pe_tup (pa_cons (pv 2) (pa_cons (pv 3) (pa_cons pe_int pa_nil)))) (pa_cons pe_non (pa_cons (pe_tup (pa_cons (pv 3) (pa_cons (pv 2) pa_nil))) pa_nil)))))) (pe_call Dg.G (hr.mono (by decide)) rfl Dg.m Dg.k Dg.b .nil pass0 (pa_cons (pv 0) (pa_cons pe_int pa_nil))) (fun _ _ => rfl))))
      pss_nil)
    (pss_one (ps_ret (pe_tup (pa_cons (pv 2) (pa_cons (pv 3) pa_nil)))))))))))))))), ?_⟩
  obtain ⟨ct, htH⟩ := vw_some G.ht
  obtain ⟨tc, cxs, ec, hcal, car⟩ := id G.hal
  obtain rfl : cal = tc := by injection ec
  obtain ⟨ccal, hcalH⟩ := vw_some hcal
  obtain ⟨cans, hansH⟩ := vw_some G.hans
  obtain ⟨B0, p0, h0⟩ := G.h0
  obtain ⟨B1, p1, h1⟩ := G.h1
  obtain ⟨ce0, h0H⟩ := vw_some h0
  obtain ⟨ce1, h1H⟩ := vw_some h1
  have rows : ∀ i, i < 2 → ∃ r, cxs[i]? = some (.ref r) ∧ H r = some (.lst ((ch i).map V.int)) := fun i hi => by
    obtain ⟨y, hy, r, rfl, hr⟩ := car.at (i := i) (y := ch i) (by
      obtain rfl | rfl : i = 0 ∨ i = 1 := by omega
      · rfl
      · rfl)
    exact ⟨r, hy, (vw_some hr).2⟩
  have l20 : ∀ i, i < 2 → (ch i).length ≤ 4 := fun i hi => by rw [G.len i hi]; exact h4 i hi
  have hcl : cxs.length = 2 := car.len
  refine ⟨_, rfl, t, _, _, _, rfl, rfl, SqT.of htH, (by rfl), cal, rfl, ⟨_, SqL.of hcalH⟩, fun L hL => ?_⟩
  have naL : a ≠ L := wl.ne hL
  refine list_turns (xs := cxs) (fun i H' => ∃ us : List Addr, Same H H' ∧ us.length = i ∧ H' L = some (.lst (us.map V.ref)) ∧ us.Nodup ∧ (∀ q ∈ us, q ≠ L ∧ H q = none ∧ H' q ≠ none) ∧ ∀ j q, us[j]? = some q → H' q = some (.lst ((ch j).map V.int))) ⟨[], same_new hL _, rfl, upd_same, .nil, (fun q hq => by cases hq), (fun j q h => by cases h)⟩ (fun i H' _ ⟨_, s, _⟩ => SqL.of (s _ _ hcalH)) ?_ ?_
  · rintro i x H' hx ⟨us, s1, lu, hL1, nu, fu, ru⟩
    have hi : i < 2 := by have := (List.getElem?_eq_some_iff.mp hx).1; omega
    obtain ⟨r, hxr, hrH⟩ := rows i hi
    obtain rfl : x = .ref r := by rw [hx] at hxr; injection hxr
    refine ⟨rfl, _, rfl, r, _, rfl, .inl (SqL.of (s1 _ _ hrH)), fun q hq => ?_⟩
    have sq := same_new hq (.lst ((ch i).map V.int))
    have nqL : q ≠ L := fun e => by rw [e, hL1] at hq; cases hq
    have hqH : H q = none := none_of_same s1 hq
    refine ⟨_, sq _ _ hL1, ?_, us ++ [q], same_upd (s1.trans sq) hL, by rw [List.length_append, lu]; rfl, by rw [upd_same, List.map_append]; rfl, ?_, ?_, ?_⟩
    · rw [List.length_map, lu]
      exact Nat.lt_of_lt_of_le (show i < 100 by omega) (by decide)
    · rw [List.nodup_append]
      refine ⟨nu, by simp, fun x hx y hy e => ?_⟩
      obtain rfl := List.mem_singleton.mp hy
      subst e
      exact (fu x hx).2.2 hq
    · intro z hz
      rcases List.mem_append.mp hz with hz | hz
      · obtain ⟨a1, a2, a3⟩ := fu z hz
        refine ⟨a1, a2, fun e => a3 ?_⟩
        rw [upd_ne a1] at e
        cases ez : H' z with
        | none => rfl
        | some o => rw [sq _ _ ez] at e; cases e
      · obtain rfl := List.mem_singleton.mp hz
        exact ⟨nqL, hqH, fun e => by rw [upd_ne nqL, upd_same] at e; cases e⟩
    · intro j z hz
      by_cases c : j < us.length
      · rw [List.getElem?_append_left c] at hz
        rw [upd_ne (fu z (List.mem_of_getElem? hz)).1]
        exact sq _ _ (ru j z hz)
      · rw [List.getElem?_append_right (by omega)] at hz
        have : j - us.length = 0 := by
          have := (List.getElem?_eq_some_iff.mp hz).1
          simp at this
          omega
        rw [this] at hz
        have hz : some q = some z := hz
        injection hz with hz
        subst hz
        obtain rfl : j = i := by omega
        rw [upd_ne nqL, upd_same]
  rintro H1 ⟨us, s1, lu, hL1, nu, fu, ru⟩
  rw [hcl] at lu
  obtain ⟨q0, q1, rfl⟩ : ∃ q0 q1, us = [q0, q1] := by
    match us, lu with
    | [x, y], _ => exact ⟨x, y, rfl⟩
  have nq : q0 ≠ q1 := by
    intro e
    subst e
    simp at nu
  have hq0 := ru 0 q0 rfl
  have hq1 := ru 1 q1 rfl
  obtain ⟨nq0L, fq0, _⟩ := fu q0 (by simp)
  obtain ⟨nq1L, fq1, _⟩ := fu q1 (by simp)
  have hL1 : H1 L = some (.lst [V.ref q0, V.ref q1]) := hL1
  clear fu ru nu lu
  have dics : ∀ i, i < 2 → ∃ (e : Addr) (B : BD), ([V.ref e0, V.ref e1] : List V)[i]? = some (.ref e) ∧ B.Perm D.bo ∧ H e = some (.dT (anKV an i B)) := fun i hi => by
    obtain rfl | rfl : i = 0 ∨ i = 1 := by omega
    · exact ⟨e0, B0, rfl, p0, h0H⟩
    · exact ⟨e1, B1, rfl, p1, h1H⟩
  have smk : ∀ {i : Nat} {B : BD}, B.Perm D.bo → ∀ kv ∈ anKV an i B, smallK kv.1 := fun {i B} pm kv hkv => by
    obtain ⟨e, he, rfl⟩ := List.mem_map.mp hkv
    have rg := hW.rng e (pm.mem_iff.mp he)
    have z0 := h4 0 (by decide)
    have z1 := h4 1 (by decide)
    exact ⟨e.1.1, e.1.2, by omega, by omega, rfl⟩
  have w1 : WellAt H1 a n := wl.same s1
  refine ⟨_, rfl, t, _, _, _, rfl, rfl, SqT.of (s1 _ _ htH), (by rfl), ans, rfl, ⟨_, SqL.of (s1 _ _ hansH)⟩, fun M hM => ?_⟩
  have naM : a ≠ M := w1.ne hM
  refine list_turns (xs := [V.ref e0, V.ref e1]) (fun i H' => ∃ us : List Addr, Same H1 H' ∧ us.length = i ∧ H' M = some (.lst (us.map V.ref)) ∧ us.Nodup ∧ (∀ q ∈ us, q ≠ M ∧ H1 q = none ∧ H' q ≠ none) ∧ ∀ j q, us[j]? = some q → ∃ B : BD, B.Perm D.bo ∧ H' q = some (.dT (anKV an j B))) ⟨[], same_new hM _, rfl, upd_same, .nil, (fun q hq => by cases hq), (fun j q h => by cases h)⟩ (fun i H' _ ⟨_, s, _⟩ => SqL.of (s _ _ (s1 _ _ hansH))) ?_ ?_
  · rintro i x H' hx ⟨us, s2, lu, hM1, nu, fu, ru⟩
    have hi : i < 2 := (List.getElem?_eq_some_iff.mp hx).1
    obtain ⟨r, B, hxr, pm, hrH⟩ := dics i hi
    obtain rfl : x = .ref r := by rw [hx] at hxr; injection hxr
    refine ⟨rfl, _, rfl, r, _, rfl, .inl (s2 _ _ (s1 _ _ hrH)), smk pm, fun q hq => ?_⟩
    have sq := same_new hq (.dT (anKV an i B))
    have nqM : q ≠ M := fun e => by rw [e, hM1] at hq; cases hq
    have hqH : H1 q = none := none_of_same s2 hq
    refine ⟨_, sq _ _ hM1, ?_, us ++ [q], same_upd (s2.trans sq) hM, by rw [List.length_append, lu]; rfl, by rw [upd_same, List.map_append]; rfl, ?_, ?_, ?_⟩
    · rw [List.length_map, lu]
      exact Nat.lt_of_lt_of_le (show i < 100 by omega) (by decide)
    · rw [List.nodup_append]
      refine ⟨nu, by simp, fun x hx y hy e => ?_⟩
      obtain rfl := List.mem_singleton.mp hy
      subst e
      exact (fu x hx).2.2 hq
    · intro z hz
      rcases List.mem_append.mp hz with hz | hz
      · obtain ⟨a1, a2, a3⟩ := fu z hz
        refine ⟨a1, a2, fun e => a3 ?_⟩
        rw [upd_ne a1] at e
        cases ez : H' z with
        | none => rfl
        | some o => rw [sq _ _ ez] at e; cases e
      · obtain rfl := List.mem_singleton.mp hz
        exact ⟨nqM, hqH, fun e => by rw [upd_ne nqM, upd_same] at e; cases e⟩
    · intro j z hz
      by_cases c : j < us.length
      · rw [List.getElem?_append_left c] at hz
        rw [upd_ne (fu z (List.mem_of_getElem? hz)).1]
        obtain ⟨B', b1, b2⟩ := ru j z hz
        exact ⟨B', b1, sq _ _ b2⟩
      · rw [List.getElem?_append_right (by omega)] at hz
        have : j - us.length = 0 := by
          have := (List.getElem?_eq_some_iff.mp hz).1
          simp at this
          omega
        rw [this] at hz
        have hz : some q = some z := hz
        injection hz with hz
        subst hz
        obtain rfl : j = i := by omega
        exact ⟨B, pm, by rw [upd_ne nqM, upd_same]⟩
  rintro H2 ⟨us, s2, lu, hM2, nu, fu, ru⟩
  have lu : us.length = 2 := lu
  obtain ⟨f0, f1, rfl⟩ : ∃ f0 f1, us = [f0, f1] := by
    match us, lu with
    | [x, y], _ => exact ⟨x, y, rfl⟩
  have nf : f0 ≠ f1 := by
    intro e
    subst e
    simp at nu
  obtain ⟨C0, c0, hf0⟩ := ru 0 f0 rfl
  obtain ⟨C1, c1, hf1⟩ := ru 1 f1 rfl
  obtain ⟨nf0M, ff0, _⟩ := fu f0 (by simp)
  obtain ⟨nf1M, ff1, _⟩ := fu f1 (by simp)
  have hM2 : H2 M = some (.lst [V.ref f0, V.ref f1]) := hM2
  clear fu ru nu lu
  have w2 : WellAt H2 a n := w1.same s2
  refine ⟨_, rfl, a, n, 2, rfl, .inr w2, by omega, by omega, by omega, by omega, fun hI H3 u0 u1 b3 w3 => ?_⟩
  obtain ⟨h, rfl⟩ : ∃ k : Nat, hI = (k : Int) := ⟨hI.toNat, by omega⟩
  have hh : h < 2 := by omega
  have b23 : But a H2 H3 := b3
  refine ⟨_, rfl, (by show 10 ≤ sizeLine; decide), fun O hO => ?_⟩
  have sO := same_new hO (.lst [V.int 0, V.int 1, V.int 2, V.int 3, V.int 63, V.int 64, V.int (-1), V.bl true, V.non, V.str "0"])
  have eO : (upd H3 O (.lst [V.int 0, V.int 1, V.int 2, V.int 3, V.int 63, V.int 64, V.int (-1), V.bl true, V.non, V.str "0"])) O = some (.lst [V.int 0, V.int 1, V.int 2, V.int 3, V.int 63, V.int 64, V.int (-1), V.bl true, V.non, V.str "0"]) := upd_same
  have w3' := w3.same sO
  have nOa : O ≠ a := Ne.symm (w3.ne hO)
  generalize upd H3 O (.lst [V.int 0, V.int 1, V.int 2, V.int 3, V.int 63, V.int 64, V.int (-1), V.bl true, V.non, V.str "0"]) = H4 at sO eO w3' ⊢
  refine ⟨_, rfl, a, n + 1, 10, rfl, .inr w3', by omega, by omega, by decide, by decide, fun r H5 u2 u3 b5 w5 => ?_⟩
  obtain ⟨j, rfl⟩ : ∃ k : Nat, r = (k : Int) := ⟨r.toNat, by omega⟩
  have hj : j < 10 := by omega
  obtain ⟨od, hod, cod⟩ : ∃ od, ([V.int 0, V.int 1, V.int 2, V.int 3, V.int 63, V.int 64, V.int (-1), V.bl true, V.non, V.str "0"] : List V)[j]? = some od ∧ ((∃ i, od = .int i ∧ okOut i) ∨ ∃ d, (∀ H, DpK K H od d) ∧ Ok 5 d ∧ outB d = false ∧ d.hasDict = false ∧ Tiny d 20 1) := by
    obtain rfl | rfl | rfl | rfl | rfl | rfl | rfl | rfl | rfl | rfl : j = 0 ∨ j = 1 ∨ j = 2 ∨ j = 3 ∨ j = 4 ∨ j = 5 ∨ j = 6 ∨ j = 7 ∨ j = 8 ∨ j = 9 := by omega
    · exact ⟨_, rfl, .inl ⟨_, rfl, by decide, by decide⟩⟩
    · exact ⟨_, rfl, .inl ⟨_, rfl, by decide, by decide⟩⟩
    · exact ⟨_, rfl, .inl ⟨_, rfl, by decide, by decide⟩⟩
    · exact ⟨_, rfl, .inl ⟨_, rfl, by decide, by decide⟩⟩
    · exact ⟨_, rfl, .inl ⟨_, rfl, by decide, by decide⟩⟩
    · exact ⟨_, rfl, .inr ⟨_, fun _ => dpk_int _, ok_int _, by decide, nd_int _, by decide +kernel, by decide +kernel, by decide +kernel, by decide +kernel⟩⟩
    · exact ⟨_, rfl, .inr ⟨_, fun _ => dpk_int _, ok_int _, by decide, nd_int _, by decide +kernel, by decide +kernel, by decide +kernel, by decide +kernel⟩⟩
    · exact ⟨_, rfl, .inr ⟨_, fun _ => dpk_bl _, ⟨by simp [PyData.canLay0], by simp [PyData.depth]⟩, rfl, by rw [PyData.hasDict], (tiny_bool true).up (by decide) (by decide)⟩⟩
    · exact ⟨_, rfl, .inr ⟨_, fun _ => dpk_non, ok_non, rfl, by rw [PyData.hasDict], tiny_none.up (by decide) (by decide)⟩⟩
    · exact ⟨_, rfl, .inr ⟨_, fun _ => dpk_str _, ok_str _ (by decide +kernel), rfl, by rw [PyData.hasDict], by decide +kernel, by decide +kernel, by decide +kernel, by decide +kernel⟩⟩
  refine ⟨O, _, _, _, rfl, rfl, SqL.of (b5 _ _ nOa eO), atI_nat hod, ?_⟩
  refine ⟨_, rfl, a, n + 1 + 1, 7, rfl, .inr w5, by omega, by omega, by decide, by decide, fun r H6 u4 u5 b6 w6 => ?_⟩
  obtain ⟨way, rfl⟩ : ∃ k : Nat, r = (k : Int) := ⟨r.toNat, by omega⟩
  have hw7 : way < 7 := by omega
  have bz : But a H2 H6 := ((b3.trans (.same sO)).trans b5).trans b6
  have kk : ClnK C H a p L M q0 q1 f0 f1 C0 C1 D := by
    refine ⟨c0, c1, hTk, ?_, hL, none_of_same s1 hM, fq0, fq1, none_of_same s1 ff0, none_of_same s1 ff1, ?_, hW, h4, h16⟩
    · obtain ⟨x, y, z, e, _⟩ := wl
      rw [e]
      exact fun z => by cases z
    · simp only [List.nodup_cons, List.mem_cons, List.not_mem_nil, or_false, not_or, List.nodup_nil, and_true, not_false_eq_true]
      exact ⟨⟨ne_of_none hL1 hM, Ne.symm nq0L, Ne.symm nq1L, ne_of_none hL1 ff0, ne_of_none hL1 ff1⟩, ⟨Ne.symm (ne_of_none hq0 hM), Ne.symm (ne_of_none hq1 hM), Ne.symm nf0M, Ne.symm nf1M⟩, ⟨nq, ne_of_none hq0 ff0, ne_of_none hq0 ff1⟩, ⟨ne_of_none hq1 ff0, ne_of_none hq1 ff1⟩, nf⟩
  have nn : ClnN D ch an := ⟨G.len, G.outc, G.outa⟩
  have cl2 : Cln C H a p L M q0 q1 f0 f1 C0 C1 D ch an H2 := ⟨s2 _ _ hL1, hM2, s2 _ _ hq0, s2 _ _ hq1, hf0, hf1, vw_same (.same (s1.trans s2))⟩
  have cl := cl2.but kk bz
  have bH : But a H H6 := (But.same (s1.trans s2)).trans bz
  have w6 : WellAt H6 a (n + 3) := w6.up (by omega)
  clear cl2 bz w5 b6 b5 w3' eO sO w3 b23 w2 w1 hf0 hf1 hq0 hq1 hM2 hL1 s1 s2 b3 rows dics
  have smk : ∀ {i : Nat} {B : BD}, B.Perm D.bo → ∀ kv ∈ anKV an i B, smallK kv.1 := smk
  have nLa := kk.ne kk.nL
  have nMa := kk.ne kk.nM
  have lch : ∀ i, i < 2 → (ch i).length ≤ 4 := l20
  refine asg_go ?_
  dsimp only
  refine seq_go ?_
  refine if_join (IvSp K C H a p L M q0 q1 f0 f1 C0 C1 D ch an n way 1) (fun G1 hG1 => ?_) (fun out => ?_)
  case refine_2 =>
    refine ⟨_, rfl, rfl, _, rfl, ?_⟩
    refine ite2 (fun c => ?_) (fun c => out _ ⟨n + 3, by omega, by omega, w6, bH, .inl ⟨by have := (way_is (k := 0) rfl).2 c; omega, cl⟩⟩)
    have c : way = 0 := (way_is (k := 0) rfl).1 c
    obtain ⟨r, hr1, hGr, hn, _⟩ := cl.part (K := K) kk nn hh
    refine ⟨_, rfl, _, rfl, _, rfl, L, _, _, _, rfl, rfl, SqL.of cl.hL, atI_nat hr1, _, rfl, _, rfl, _, rfl, L, _, _, _, rfl, rfl, SqL.of cl.hL, atI_nat hr1, r, _, rfl, .inl (SqL.of hGr), a, n + 3, _, rfl, .inr w6, by omega, by omega, ?_, ?_, fun x G1 x0 x1 b1 w1 => ?_⟩
    · rw [List.length_map, nn.len h hh]
      have := hW.n0 h hh
      omega
    · rw [List.length_map]
      have := lch h hh
      omega
    obtain ⟨j, rfl⟩ : ∃ k : Nat, x = (k : Int) := ⟨x.toNat, by omega⟩
    rw [List.length_map] at x1
    have hj : j < (ch h).length := by omega
    obtain ⟨r', hr', hGr', _, fin⟩ := (cl.but kk b1).part (K := K) kk nn hh
    obtain rfl : r = r' := by
      rw [hr1] at hr'
      injection hr' with e
      injection e
    refine ⟨r, _, _, j, rfl, rfl, hGr', ixN_of (by rw [List.length_map]; exact hj), ?_⟩
    exact out _ ⟨n + 4, by omega, by omega, (w1.up (by omega)).but (Ne.symm (kk.ne hn)) But.at, (bH.trans b1).new hn, .inr ⟨by omega, fin j od hj cod⟩⟩
  obtain ⟨m1, g1, g2, wG1, bG1, s1⟩ := hG1
  dsimp only
  refine seq_go ?_
  refine if_join (IvSp K C H a p L M q0 q1 f0 f1 C0 C1 D ch an n way 2) (fun G2 hG2 => ?_) (fun out => ?_)
  case refine_2 =>
    refine ⟨_, rfl, rfl, _, rfl, ?_⟩
    refine ite2 (fun c => ?_) (fun c => out _ ⟨m1, by omega, by omega, wG1, bG1, s1.imp (fun h => ⟨by have := (way_is (k := 1) rfl).2 c; omega, h.2⟩) (fun h => ⟨by omega, h.2⟩)⟩)
    have c : way = 1 := (way_is (k := 1) rfl).1 c
    have cl1 : Cln C H a p L M q0 q1 f0 f1 C0 C1 D ch an G1 := s1.elim (fun h => h.2) (fun h => by omega)
    clear s1
    obtain ⟨r, hr1, hGr, hn, _⟩ := cl1.part (K := K) kk nn hh
    have l1 : 1 ≤ (ch h).length := by
      rw [nn.len h hh]
      exact (hW.n0 h hh).1
    have l4 := lch h hh
    refine ⟨_, rfl, _, rfl, L, _, _, _, rfl, rfl, SqL.of cl1.hL, atI_nat hr1, _, rfl, (by show 1 ≤ sizeLine; decide), fun y0 hy0 => ?_⟩
    have t_y0 := same_new hy0 (.lst [od])
    have n_y0 : y0 ≠ a := Ne.symm (wG1.ne hy0)
    have e_y0 : (upd G1 y0 (.lst [od])) y0 = some (.lst [od]) := upd_same
    have hGr := t_y0 _ _ hGr
    have cl1 := cl1.but kk (.same t_y0)
    have wG1 := wG1.same t_y0
    have bG1 := bG1.trans (.same t_y0)
    generalize upd G1 y0 (.lst [od]) = G1a at t_y0 e_y0 hGr cl1 wG1 bG1 ⊢
    clear t_y0
    refine ⟨r, y0, _, _, rfl, rfl, hGr, e_y0, ?_, fun y1 hy1 => ?_⟩
    · rw [List.length_map]
      exact Nat.le_trans (show (ch h).length + 1 ≤ 100 by omega) (by decide)
    have t_y1 := same_new hy1 (.lst ((ch h).map V.int ++ [od]))
    have n_y1 : y1 ≠ a := Ne.symm (wG1.ne hy1)
    have e_y1 : (upd G1a y1 (.lst ((ch h).map V.int ++ [od]))) y1 = some (.lst ((ch h).map V.int ++ [od])) := upd_same
    have hGr := t_y1 _ _ hGr
    have e_y0 := t_y1 _ _ e_y0
    have cl1 := cl1.but kk (.same t_y1)
    have wG1 := wG1.same t_y1
    have bG1 := bG1.trans (.same t_y1)
    generalize upd G1a y1 (.lst ((ch h).map V.int ++ [od])) = G1b at t_y1 e_y1 hGr e_y0 cl1 wG1 bG1 ⊢
    clear t_y1
    refine ⟨_, rfl, _, rfl, L, _, _, _, rfl, rfl, SqL.of cl1.hL, atI_nat hr1, _, rfl, r, _, rfl, SqL.of hGr, fun y2 hy2 => ?_⟩
    rw [cut_tail (ch h) l1]
    have t_y2 := same_new hy2 (.lst ((ch h).tail.map V.int))
    have n_y2 : y2 ≠ a := Ne.symm (wG1.ne hy2)
    have e_y2 : (upd G1b y2 (.lst ((ch h).tail.map V.int))) y2 = some (.lst ((ch h).tail.map V.int)) := upd_same
    have hGr := t_y2 _ _ hGr
    have e_y0 := t_y2 _ _ e_y0
    have e_y1 := t_y2 _ _ e_y1
    have cl1 := cl1.but kk (.same t_y2)
    have wG1 := wG1.same t_y2
    have bG1 := bG1.trans (.same t_y2)
    generalize upd G1b y2 (.lst ((ch h).tail.map V.int)) = G1c at t_y2 e_y2 hGr e_y0 e_y1 cl1 wG1 bG1 ⊢
    clear t_y2
    refine ⟨_, rfl, _, rfl, L, _, _, _, rfl, rfl, SqL.of cl1.hL, atI_nat hr1, r, _, rfl, .inl ⟨SqL.of hGr, fun y3 hy3 => ?_⟩⟩
    have t_y3 := same_new hy3 (.tup ((ch h).map V.int))
    have n_y3 : y3 ≠ a := Ne.symm (wG1.ne hy3)
    have e_y3 : (upd G1c y3 (.tup ((ch h).map V.int))) y3 = some (.tup ((ch h).map V.int)) := upd_same
    have hGr := t_y3 _ _ hGr
    have e_y0 := t_y3 _ _ e_y0
    have e_y1 := t_y3 _ _ e_y1
    have e_y2 := t_y3 _ _ e_y2
    have cl1 := cl1.but kk (.same t_y3)
    have wG1 := wG1.same t_y3
    have bG1 := bG1.trans (.same t_y3)
    generalize upd G1c y3 (.tup ((ch h).map V.int)) = G1d at t_y3 e_y3 hGr e_y0 e_y1 e_y2 cl1 wG1 bG1 ⊢
    clear t_y3
    refine ⟨(by show 4 ≤ sizeLine; decide), fun y4 hy4 => ?_⟩
    have t_y4 := same_new hy4 (.lst [.ref y1, .ref y2, .ref y3, .non])
    have n_y4 : y4 ≠ a := Ne.symm (wG1.ne hy4)
    have e_y4 : (upd G1d y4 (.lst [.ref y1, .ref y2, .ref y3, .non])) y4 = some (.lst [.ref y1, .ref y2, .ref y3, .non]) := upd_same
    have hGr := t_y4 _ _ hGr
    have e_y0 := t_y4 _ _ e_y0
    have e_y1 := t_y4 _ _ e_y1
    have e_y2 := t_y4 _ _ e_y2
    have e_y3 := t_y4 _ _ e_y3
    have cl1 := cl1.but kk (.same t_y4)
    have wG1 := wG1.same t_y4
    have bG1 := bG1.trans (.same t_y4)
    generalize upd G1d y4 (.lst [.ref y1, .ref y2, .ref y3, .non]) = G1e at t_y4 e_y4 hGr e_y0 e_y1 e_y2 e_y3 cl1 wG1 bG1 ⊢
    clear t_y4
    refine ⟨_, rfl, a, m1, 4, rfl, .inr wG1, by omega, by omega, by decide, by decide, fun x G1f x0 x1 b1 w1 => ?_⟩
    obtain ⟨j, rfl⟩ : ∃ k : Nat, x = (k : Int) := ⟨x.toNat, by omega⟩
    have hj : j < 4 := by omega
    have e_y0 := b1 _ _ n_y0 e_y0
    have e_y1 := b1 _ _ n_y1 e_y1
    have e_y2 := b1 _ _ n_y2 e_y2
    have e_y3 := b1 _ _ n_y3 e_y3
    have e_y4 := b1 _ _ n_y4 e_y4
    have cl1 := cl1.but kk b1
    have bG1 := bG1.trans b1
    have fin : ∀ x, ([V.ref y1, V.ref y2, V.ref y3, V.non] : List V)[j]? = some x → FinS K C H a p L M D (upd G1f L (.lst ([V.ref q0, V.ref q1].set h x))) := fun x hx => by
      have vp : ∀ {q : Addr} {o : HO}, q ≠ a → G1f q = some o → q ≠ L → vw (pA a) (upd G1f L (.lst ([V.ref q0, V.ref q1].set h x))) q = some o := fun nqa e ne => vw_put (pA_ok.mpr nqa) (by rw [upd_ne ne]; exact e)
      have dl : ∀ {q : Addr}, (∃ xs, G1f q = some (.tup xs)) → q ≠ L := fun ⟨xs, e⟩ z => by rw [z, cl1.hL] at e; cases e
      have ne1 : y1 ≠ L := fun z => by
        rw [z, cl1.hL] at e_y1
        injection e_y1 with e
        injection e with e
        obtain ⟨z, zs, ez⟩ : ∃ z zs, ch h = z :: zs := by
          cases c : ch h with
          | nil => rw [c] at l1; exact absurd l1 (by decide)
          | cons z zs => exact ⟨z, zs, rfl⟩
        rw [ez] at e
        have e : [V.ref q0, V.ref q1] = V.int z :: (zs.map V.int ++ [od]) := e
        injection e with e
        cases e
      have sI : ∀ x ∈ ch h, okOut x := nn.outc h hh
      rcases (show j = 0 ∨ j = 1 ∨ j = 2 ∨ j = 3 by omega) with rfl | rfl | rfl | rfl
      · obtain rfl : V.ref y1 = x := Option.some.inj hx
        have e := vp n_y1 e_y1 ne1
        obtain ⟨de, dk, ok, nD, tD⟩ : ∃ de, (∀ H, DpK K H od de) ∧ Ok 5 de ∧ de.hasDict = false ∧ Tiny de 20 1 := by
          rcases cod with ⟨i, rfl, oi⟩ | ⟨d, dk, o5, _, nD, tD⟩
          · exact ⟨.int i, fun _ => dpk_int _, ok_int _, nd_int _, (tiny_int oi).up (by decide) (by decide)⟩
          · exact ⟨d, dk, o5, nD, tD⟩
        refine cl1.swap kk nn hh (d := .list ((ch h).map .int ++ [de])) (.lst (SqL.of e) (dpAll_app (dp_ints _) (.cons (dk _).dp .nil))) (fun es ee => ?_) ?_ ?_
        · injection ee with ee
          subst ee
          refine ⟨by rw [List.length_append, List.length_map]; show (ch h).length + 1 ≤ 100; omega, fun z hz => ?_⟩
          rcases List.mem_append.mp hz with hz | hz
          · obtain ⟨x, _, rfl⟩ := List.mem_map.mp hz
            exact ok_int _
          · rw [List.mem_singleton.mp hz]
            exact ok
        · show (decide (((ch h).map PyData.int ++ [de]).length = (D.al h).length) && _) = false
          rw [decide_eq_false (by rw [List.length_append, List.length_map, nn.len h hh]; show ¬ (D.al h).length + 1 = (D.al h).length; omega)]
          rfl
        · refine (shx_lst (w := 20) (n := 1) (m := 5) e (fun z hz => ?_) (by rw [List.length_append, List.length_map]; show (ch h).length + 1 ≤ 5; omega)).up (by decide) (by decide)
          rcases List.mem_append.mp hz with hz | hz
          · obtain ⟨x, hx, rfl⟩ := List.mem_map.mp hz
            exact (shx_int (sI x hx)).up (by decide) (by decide)
          · rw [List.mem_singleton.mp hz]
            exact ⟨de, .flat (dk _).dp nD, tD⟩
      · obtain rfl : V.ref y2 = x := Option.some.inj hx
        have ne2 : y2 ≠ L := fun z => by
          rw [z, cl1.hL] at e_y2
          injection e_y2 with e
          injection e with e
          cases c : (ch h).tail with
          | nil => rw [c] at e; cases e
          | cons z zs =>
            rw [c] at e
            have e : [V.ref q0, V.ref q1] = V.int z :: zs.map V.int := e
            injection e with e
            cases e
        have e := vp n_y2 e_y2 ne2
        have lt : (ch h).tail.length = (ch h).length - 1 := List.length_tail
        refine cl1.swap kk nn hh (dp_row e) (okRow_ints (by omega)) (rowB_len (by rw [lt, nn.len h hh]; have := hW.n0 h hh; omega)) ((shx_row (m := 4) e (fun x hx => sI x (List.mem_of_mem_tail hx)) (by omega)).up (by decide) (by decide))
      · obtain rfl : V.ref y3 = x := Option.some.inj hx
        have e := vp n_y3 e_y3 (dl ⟨_, e_y3⟩)
        refine cl1.swap kk nn hh (d := .tuple ((ch h).map .int)) (.tup (SqT.of e) (dp_ints _)) (fun es ee => by cases ee) rfl ((shx_tup (w := 6) (n := 1) (m := 4) e (fun z hz => ?_) (by rw [List.length_map]; omega)).up (by decide) (by decide))
        obtain ⟨x, hx, rfl⟩ := List.mem_map.mp hz
        exact shx_int (sI x hx)
      · obtain rfl : V.non = x := Option.some.inj hx
        exact cl1.swap kk nn hh (d := .none) .non (fun es ee => by cases ee) rfl (shx_non.up (by decide) (by decide))
    obtain ⟨x, hx⟩ : ∃ x, ([V.ref y1, V.ref y2, V.ref y3, V.non] : List V)[j]? = some x := ⟨_, List.getElem?_eq_getElem hj⟩
    refine ⟨y4, _, _, x, rfl, rfl, SqL.of e_y4, atI_nat hx, _, rfl, _, rfl, L, _, _, h, rfl, rfl, cl1.hL, ixN_of (by exact hh), ?_⟩
    exact out _ ⟨m1 + 1, by omega, by omega, w1.but (Ne.symm nLa) But.at, bG1.new hL, .inr ⟨by omega, fin x hx⟩⟩
  obtain ⟨m2, g1, g2, wG2, bG2, s2⟩ := hG2
  dsimp only
  refine seq_go ?_
  refine if_join (IvSp K C H a p L M q0 q1 f0 f1 C0 C1 D ch an n way 4) (fun G4 hG4 => ?_) (fun out => ?_)
  case refine_2 =>
    refine ⟨_, rfl, (by show 2 ≤ sizeLine; decide), fun z0 hz0 => ?_⟩
    have tz := same_new hz0 (.lst [V.int 2, V.int 3])
    have ez : (upd G2 z0 (.lst [V.int 2, V.int 3])) z0 = some (.lst [V.int 2, V.int 3]) := upd_same
    have wG2 := wG2.same tz
    have bG2 := bG2.trans (.same tz)
    have s2 := s2.imp (fun h => And.intro h.1 (h.2.but kk (.same tz))) (fun h => And.intro h.1 (h.2.mono tz))
    generalize upd G2 z0 (.lst [V.int 2, V.int 3]) = G3 at tz ez wG2 bG2 s2 ⊢
    refine ⟨z0, _, rfl, .inl (SqL.of ez), rfl, rfl, _, rfl, ?_⟩
    refine ite2 (fun c => ?_) (fun c => out _ ⟨m2, by omega, by omega, wG2, bG2, ?_⟩)
    case refine_2 =>
      have c : ¬ (way = 2 ∨ way = 3) := fun z => by
        rcases z with rfl | rfl
        · exact c rfl
        · exact c rfl
      exact s2.imp (fun h => ⟨by omega, h.2⟩) (fun h => ⟨by omega, h.2⟩)
    have c : way = 2 ∨ way = 3 := by
      obtain rfl | rfl | rfl | rfl | rfl | rfl | rfl : way = 0 ∨ way = 1 ∨ way = 2 ∨ way = 3 ∨ way = 4 ∨ way = 5 ∨ way = 6 := by omega
      · cases c
      · cases c
      · exact .inl rfl
      · exact .inr rfl
      · cases c
      · cases c
      · cases c
    have cl3 : Cln C H a p L M q0 q1 f0 f1 C0 C1 D ch an G3 := s2.elim (fun h => h.2) (fun h => by omega)
    clear s2
    obtain ⟨f, B, hf1, pB, hGf, hn, _⟩ := cl3.answer (K := K) kk nn hh
    have lB : (anKV an h B).length = D.bo.length := by
      unfold anKV
      rw [List.length_map, pB.length_eq]
    refine ⟨_, rfl, _, rfl, _, rfl, M, _, _, _, rfl, rfl, SqL.of cl3.hM, atI_nat hf1, _, rfl, _, rfl, M, _, _, _, rfl, rfl, SqL.of cl3.hM, atI_nat hf1, f, _, B.map (fun e => [((e.1.1 : Nat) : Int), ((e.1.2 : Nat) : Int)]), rfl, .inl hGf, ?_, ?_, ?_, fun Lk sk e1 e2 e3 hsk => ?_⟩
    · unfold anKV
      rw [List.map_map, List.map_map]
      rfl
    · rw [List.length_map, pB.length_eq]
      omega
    · intro ns hns
      obtain ⟨e, he, rfl⟩ := List.mem_map.mp hns
      have := hW.rng e (pB.mem_iff.mp he)
      have := h4 0 (by decide)
      have := h4 1 (by decide)
      refine ⟨rfl, fun m hm => ?_⟩
      rcases List.mem_cons.mp hm with rfl | hm
      · omega
      · obtain rfl := List.mem_singleton.mp hm
        omega
    have tk := same_new hsk (.lst (Lk.map fun q => V.ref q.1))
    have esk : (upd G3 sk (.lst (Lk.map fun q => V.ref q.1))) sk = some (.lst (Lk.map fun q => V.ref q.1)) := upd_same
    have nska : sk ≠ a := Ne.symm (wG2.ne hsk)
    have e3 : ∀ q ∈ Lk, (upd G3 sk (.lst (Lk.map fun q => V.ref q.1))) q.1 = some (.tup (q.2.map V.int)) := fun q hq => tk _ _ (e3 q hq)
    have wG2 := wG2.same tk
    have bG2 := bG2.trans (.same tk)
    have cl3 := cl3.but kk (.same tk)
    have hGf := tk _ _ hGf
    generalize upd G3 sk (.lst (Lk.map fun q => V.ref q.1)) = G5 at esk e3 wG2 bG2 cl3 hGf ⊢
    clear tk hsk
    refine ⟨_, rfl, _, rfl, _, rfl, M, _, _, _, rfl, rfl, SqL.of cl3.hM, atI_nat hf1, f, _, rfl, hGf, a, m2, _, rfl, .inr wG2, by omega, by omega, ?_, ?_, fun x G6 x0 x1 b6 w6 => ?_⟩
    · rw [lB]
      obtain ⟨e, he, _⟩ := hW.com0 0 (by have := hW.n0 0 (by decide); omega)
      have := List.length_pos_of_mem he
      omega
    · rw [lB]
      omega
    obtain ⟨j, rfl⟩ : ∃ k : Nat, x = (k : Int) := ⟨x.toNat, by omega⟩
    rw [lB] at x1
    have lL : Lk.length = D.bo.length := by
      have := e1.length_eq
      rwa [List.length_map, List.length_map, pB.length_eq] at this
    have hj : j < Lk.length := by omega
    have hjm : Lk[j] ∈ Lk := List.getElem_mem hj
    obtain ⟨e, he, ee⟩ : ∃ e ∈ B, [((e.1.1 : Nat) : Int), ((e.1.2 : Nat) : Int)] = Lk[j].2 := List.mem_map.mp (e1.mem_iff.mp (List.mem_map.mpr ⟨_, hjm, rfl⟩))
    have hq := e3 _ hjm
    have nqa : Lk[j].1 ≠ a := fun z => by
      obtain ⟨xs, ea⟩ := wG2.lst
      rw [z, ea] at hq
      cases hq
    have hq := b6 _ _ nqa hq
    rw [← ee] at hq
    have hLj : (Lk.map fun q => V.ref q.1)[j]? = some (.ref Lk[j].1) := by rw [List.getElem?_map, List.getElem?_eq_getElem hj]; rfl
    have cl6 := cl3.but kk b6
    obtain ⟨f', B', hf', pB', hGf', _, fin1, fin2⟩ := cl6.answer (K := K) kk nn hh
    obtain rfl : f = f' := by
      rw [hf1] at hf'
      injection hf' with e
      injection e
    have eB : anKV an h B = anKV an h B' := by
      have := b6 _ _ (kk.ne hn) hGf
      rw [hGf'] at this
      injection this with this
      injection this with this
      exact this.symm
    refine ⟨sk, _, _, _, rfl, rfl, SqL.of (b6 _ _ nska esk), atI_nat hLj, f, _, rfl, DPut.t (k := kI e.1) hGf' hq (by rw [← eB, lB]; exact Nat.lt_of_le_of_lt h16 (by decide)), ?_⟩
    rw [← eB]
    have kx : ∀ kv ∈ anKV an h B', ∃ e' ∈ D.bo, kv = (kI e'.1, V.int (an h e')) := fun kv hkv => by
      obtain ⟨e', he', rfl⟩ := List.mem_map.mp hkv
      exact ⟨e', pB'.mem_iff.mp he', rfl⟩
    have fin : FinS K C H a p L M D (upd G6 f (.dT (putK (anKV an h B) (kI e.1) od))) := by
      rcases cod with ⟨i, rfl, oi⟩ | ⟨d, dk, o5, ob, nD, tD⟩
      · obtain ⟨e', he', ek⟩ : ∃ e' ∈ B', e'.1 = e.1 := by
          have : (kI e.1, V.int (an h e)) ∈ anKV an h B' := by rw [← eB]; exact List.mem_map.mpr ⟨e, he, rfl⟩
          obtain ⟨e', he', q⟩ := List.mem_map.mp this
          injection q with q1 q2
          exact ⟨e', he', kI_inj q1⟩
        rw [eB, ← ek, putK_map an h i e' he']
        exact fin1 e' he' i oi
      · rw [putK_any an h od e he]
        refine fin2 _ fun sv ef => ⟨?_, ?_⟩
        · have fb : (D.bo.all fun b => outB (if b.1 = e.1 then d else .int (an h b))) = false := by
            rw [List.all_eq_false]
            refine ⟨e, pB.mem_iff.mp he, ?_⟩
            rw [if_pos rfl, ob]
            decide
          rw [← fb]
          refine .dct (vals := fun b => if b.1 = e.1 then od else .int (an h b)) pB ef (kk.x sv hn) fun b hb => ?_
          by_cases c : b.1 = e.1
          · rw [if_pos c, if_pos c]
            exact dk _
          · rw [if_neg c, if_neg c]
            exact dpk_int _
        · refine (shx_dicG ef (by rw [List.length_map, pB.length_eq]; omega) fun kv hkv => ?_).y.up (by decide) (by decide)
          obtain ⟨b, hb, rfl⟩ := List.mem_map.mp hkv
          refine ⟨small_an kk pB hb, ?_⟩
          dsimp only
          by_cases c : b.1 = e.1
          · rw [if_pos c]
            exact ⟨d, .flat (dk _).dp nD, tD.up (by decide) (by decide)⟩
          · rw [if_neg c]
            exact (shx_int (nn.outa h hh b (pB.mem_iff.mp hb))).up (by decide) (by decide)
    exact out _ ⟨m2 + 1, by omega, by omega, w6.but (Ne.symm (kk.ne hn)) But.at, (bG2.trans b6).new hn, .inr ⟨by omega, fin⟩⟩
  obtain ⟨m4, g1, g2, wG4, bG4, s4⟩ := hG4
  dsimp only
  refine seq_go ?_
  refine if_join (IvSp K C H a p L M q0 q1 f0 f1 C0 C1 D ch an n way 5) (fun G5 hG5 => ?_) (fun out => ?_)
  case refine_2 =>
    refine ⟨_, rfl, rfl, _, rfl, ?_⟩
    refine ite2 (fun c => ?_) (fun c => out _ ⟨m4, by omega, by omega, wG4, bG4, s4.imp (fun h => ⟨by have := (way_is (k := 4) rfl).2 c; omega, h.2⟩) (fun h => ⟨by omega, h.2⟩)⟩)
    have c : way = 4 := (way_is (k := 4) rfl).1 c
    have cl1 : Cln C H a p L M q0 q1 f0 f1 C0 C1 D ch an G4 := s4.elim (fun h => h.2) (fun h => by omega)
    clear s4
    obtain ⟨f, B, hf1, pB, hGf, hn, _⟩ := cl1.answer (K := K) kk nn hh
    refine ⟨_, rfl, _, rfl, M, _, _, _, rfl, rfl, SqL.of cl1.hM, atI_nat hf1, (by show 2 ≤ sizeLine; decide), fun y1 hy1 => ?_⟩
    have t_y1 := same_new hy1 (.tup [V.int 9, V.int 9])
    have n_y1 : y1 ≠ a := Ne.symm (wG4.ne hy1)
    have e_y1 : (upd G4 y1 (.tup [V.int 9, V.int 9])) y1 = some (.tup [V.int 9, V.int 9]) := upd_same
    have cl1 := cl1.but kk (.same t_y1)
    have wG4 := wG4.same t_y1
    have bG4 := bG4.trans (.same t_y1)
    generalize upd G4 y1 (.tup [V.int 9, V.int 9]) = G4a at t_y1 e_y1  cl1 wG4 bG4 ⊢
    clear t_y1
    refine ⟨(by show 2 ≤ sizeLine; decide), fun y2 hy2 => ?_⟩
    have t_y2 := same_new hy2 (.tup [V.int 0, V.int 0])
    have n_y2 : y2 ≠ a := Ne.symm (wG4.ne hy2)
    have e_y2 : (upd G4a y2 (.tup [V.int 0, V.int 0])) y2 = some (.tup [V.int 0, V.int 0]) := upd_same
    have e_y1 := t_y2 _ _ e_y1
    have cl1 := cl1.but kk (.same t_y2)
    have wG4 := wG4.same t_y2
    have bG4 := bG4.trans (.same t_y2)
    generalize upd G4a y2 (.tup [V.int 0, V.int 0]) = G4b at t_y2 e_y2 e_y1 cl1 wG4 bG4 ⊢
    clear t_y2
    refine ⟨(by show 3 ≤ sizeLine; decide), fun y3 hy3 => ?_⟩
    have t_y3 := same_new hy3 (.lst [.ref y1, .ref y2, .non])
    have n_y3 : y3 ≠ a := Ne.symm (wG4.ne hy3)
    have e_y3 : (upd G4b y3 (.lst [.ref y1, .ref y2, .non])) y3 = some (.lst [.ref y1, .ref y2, .non]) := upd_same
    have e_y1 := t_y3 _ _ e_y1
    have e_y2 := t_y3 _ _ e_y2
    have cl1 := cl1.but kk (.same t_y3)
    have wG4 := wG4.same t_y3
    have bG4 := bG4.trans (.same t_y3)
    generalize upd G4b y3 (.lst [.ref y1, .ref y2, .non]) = G4c at t_y3 e_y3 e_y1 e_y2 cl1 wG4 bG4 ⊢
    clear t_y3
    refine ⟨_, rfl, a, m4, 3, rfl, .inr wG4, by omega, by omega, by decide, by decide, fun x G4d x0 x1 b1 w1 => ?_⟩
    obtain ⟨j, rfl⟩ : ∃ k : Nat, x = (k : Int) := ⟨x.toNat, by omega⟩
    have hj : j < 3 := by omega
    have e_y1 := b1 _ _ n_y1 e_y1
    have e_y2 := b1 _ _ n_y2 e_y2
    have e_y3 := b1 _ _ n_y3 e_y3
    have cl1 := cl1.but kk b1
    have bG4 := bG4.trans b1
    obtain ⟨f', B', hf', pB', hGf', _, fin1, fin2⟩ := cl1.answer (K := K) kk nn hh
    obtain rfl : f = f' := by
      rw [hf1] at hf'
      injection hf' with e
      injection e
    have lB : (anKV an h B').length = D.bo.length := by
      unfold anKV
      rw [List.length_map, pB'.length_eq]
    have kx : ∀ kv ∈ anKV an h B', smallK kv.1 ∧ ShX K (vw (pA a) G4d) 20 2 kv.2 ∧ IntK kv.1 ∧ (∀ H, DpK K H kv.2 (intD kv)) ∧ ShX K H 20 2 kv.2 := fun kv hkv => by
      obtain ⟨e', he', rfl⟩ := List.mem_map.mp hkv
      have o := nn.outa h hh e' (pB'.mem_iff.mp he')
      refine ⟨small_an kk pB' he', (shx_int o).up (by decide) (by decide), fun z hz => ?_, fun _ => dpk_int _, (shx_int o).up (by decide) (by decide)⟩
      rcases List.mem_cons.mp hz with rfl | hz
      · exact ⟨_, rfl⟩
      · rw [List.mem_singleton.mp hz]
        exact ⟨_, rfl⟩
    have shi : ∀ {Hv : Hp}, ∀ kv ∈ anKV an h B', ShX K Hv 20 2 kv.2 := fun {Hv} kv hkv => by
      obtain ⟨e', he', rfl⟩ := List.mem_map.mp hkv
      exact (shx_int (nn.outa h hh e' (pB'.mem_iff.mp he'))).up (by decide) (by decide)
    have lS : (anKV an h B').length < sizeLine := by rw [lB]; exact Nat.lt_of_le_of_lt h16 (by decide)
    have newK : ∀ x y : Nat, x < 20 → y < 20 → (∀ e ∈ B', e.1 ≠ (x, y)) → FinS K C H a p L M D (upd G4d f (.dT (putK (anKV an h B') (kI (x, y)) (.int 0)))) := fun x y hx hy ne => by
      rw [putK_new _ (valV_noneP fun kv hkv c => by
        obtain ⟨e', he', rfl⟩ := List.mem_map.mp hkv
        exact ne e' he' (kI_inj c))]
      refine fin2 _ fun sv ef => ⟨?_, ?_⟩
      · refine .len (dat := intD) ef (by rw [List.length_append, lB]; show D.bo.length + 1 ≤ 61; omega) (kk.x sv hn) (fun kv hkv => ?_) (by rw [List.length_append, lB]; show D.bo.length + 1 ≠ _; omega)
        rcases List.mem_append.mp hkv with hkv | hkv
        · exact ⟨(kx kv hkv).2.2.1, (kx kv hkv).2.2.2.1 _⟩
        · obtain rfl := List.mem_singleton.mp hkv
          refine ⟨fun z hz => ?_, dpk_int _⟩
          rcases List.mem_cons.mp hz with rfl | hz
          · exact ⟨_, rfl⟩
          · rw [List.mem_singleton.mp hz]
            exact ⟨_, rfl⟩
      · refine (shx_dicG ef (by rw [List.length_append, lB]; show D.bo.length + 1 ≤ 20; omega) fun kv hkv => ?_).y.up (by decide) (by decide)
        rcases List.mem_append.mp hkv with hkv | hkv
        · exact ⟨(kx kv hkv).1, shi kv hkv⟩
        · obtain rfl := List.mem_singleton.mp hkv
          exact ⟨⟨x, y, hx, hy, rfl⟩, (shx_int (i := 0) ⟨by decide, by decide⟩).up (by decide) (by decide)⟩
    have go : ∀ o, FinS K C H a p L M D (upd G4d f o) → IvSp K C H a p L M q0 q1 f0 f1 C0 C1 D ch an n way 5 (upd G4d f o) := fun o fin => ⟨m4 + 1, by omega, by omega, w1.but (Ne.symm (kk.ne hn)) But.at, bG4.new hn, .inr ⟨by omega, fin⟩⟩
    rcases (show j = 0 ∨ j = 1 ∨ j = 2 by omega) with rfl | rfl | rfl
    · refine ⟨y3, _, _, V.ref y1, rfl, rfl, SqL.of e_y3, atI_nat (j := 0) rfl, .inl ⟨f, _, rfl, DPut.t (k := kI (9, 9)) hGf' e_y1 lS, out _ (go _ (newK 9 9 (by decide) (by decide) fun e he c => ?_))⟩⟩
      have rg := hW.rng e (pB'.mem_iff.mp he)
      have := h4 0 (by decide)
      rw [c] at rg
      omega
    · refine ⟨y3, _, _, V.ref y2, rfl, rfl, SqL.of e_y3, atI_nat (j := 1) rfl, .inl ⟨f, _, rfl, DPut.t (k := kI (0, 0)) hGf' e_y2 lS, out _ (go _ ?_)⟩⟩
      by_cases c : ∃ e ∈ B', e.1 = (0, 0)
      · obtain ⟨e, he, ee⟩ := c
        rw [← ee, putK_map an h 0 e he]
        exact fin1 e he 0 ⟨by decide, by decide⟩
      · exact newK 0 0 (by decide) (by decide) fun e he z => c ⟨e, he, z⟩
    · refine ⟨y3, _, _, V.non, rfl, rfl, SqL.of e_y3, atI_nat (j := 2) rfl, .inr ⟨f, _, rfl, hGf', fun kv hkv => (kx kv hkv).2.2.1, lS, .inl rfl, fun φ od => out _ (go _ (fin2 _ fun sv ef => ?_))⟩⟩
      obtain ⟨xs, ea⟩ := (w1.but (Ne.symm (kk.ne hn)) (But.at (a := f) (H := G4d) (o := .ext φ))).lst
      exact ⟨.odd (dat := intD) (OddAt.vw od ea) (by rw [lB]; omega) (fun kv hkv => ⟨(kx kv hkv).2.2.1, (kx kv hkv).2.2.2.1 _⟩) lB, (shy_odd (OddAt.vw od ea) (by rw [lB]; omega) (fun kv hkv => ⟨(kx kv hkv).1, shi kv hkv⟩) .non (by rw [PyData.hasDict]) (tiny_none.up (by decide) (by decide)) ((shx_int (i := 0) ⟨by decide, by decide⟩).up (by decide) (by decide))).up (by decide) (by decide)⟩
  obtain ⟨m5, g1, g2, wG5, bG5, s5⟩ := hG5
  dsimp only
  refine seq_go ?_
  refine if_join (IvSp K C H a p L M q0 q1 f0 f1 C0 C1 D ch an n way 6) (fun G6 hG6 => ?_) (fun out => ?_)
  case refine_2 =>
    refine ⟨_, rfl, rfl, _, rfl, ?_⟩
    refine ite2 (fun c => ?_) (fun c => out _ ⟨m5, by omega, by omega, wG5, bG5, s5.imp (fun h => ⟨by have := (way_is (k := 5) rfl).2 c; omega, h.2⟩) (fun h => ⟨by omega, h.2⟩)⟩)
    have c : way = 5 := (way_is (k := 5) rfl).1 c
    have cl1 : Cln C H a p L M q0 q1 f0 f1 C0 C1 D ch an G5 := s5.elim (fun h => h.2) (fun h => by omega)
    clear s5
    obtain ⟨f, B, hf1, pB, hGf, hn, _⟩ := cl1.answer (K := K) kk nn hh
    refine fun y1 hy1 => ?_
    have f_y1 : H y1 = none := bG5.free wG5 hy1
    have t_y1 := same_new hy1 (.dT [])
    have n_y1 : y1 ≠ a := Ne.symm (wG5.ne hy1)
    have e_y1 : (upd G5 y1 (.dT [])) y1 = some (.dT []) := upd_same
    have hGf := t_y1 _ _ hGf
    have cl1 := cl1.but kk (.same t_y1)
    have wG5 := wG5.same t_y1
    have bG5 := bG5.trans (.same t_y1)
    generalize upd G5 y1 (.dT []) = G5a at t_y1 e_y1 hGf cl1 wG5 bG5 ⊢
    clear t_y1
    refine ⟨_, rfl, _, rfl, M, _, _, _, rfl, rfl, SqL.of cl1.hM, atI_nat hf1, .inr (.inr (.inl ⟨rfl, .inr ⟨_, hGf⟩⟩)), f, _, rfl, rfl, hGf, fun pv hpv => ?_⟩
    have t_pv := same_new hpv (_root_.L2.DX.itemsO pv f)
    have n_pv : pv ≠ a := Ne.symm (wG5.ne hpv)
    have e_pv : (upd G5a pv (_root_.L2.DX.itemsO pv f)) pv = some (_root_.L2.DX.itemsO pv f) := upd_same
    have hGf := t_pv _ _ hGf
    have e_y1 := t_pv _ _ e_y1
    have cl1 := cl1.but kk (.same t_pv)
    have wG5 := wG5.same t_pv
    have bG5 := bG5.trans (.same t_pv)
    generalize upd G5a pv (_root_.L2.DX.itemsO pv f) = G5b at t_pv e_pv hGf e_y1 cl1 wG5 bG5 ⊢
    clear t_pv
    refine ⟨pv, f, B.map (fun e => (iI e.1, V.int (an h e))), rfl, e_pv, ?_, ?_, ?_, ?_, fun G5c lv ps sv0 hlv pm _ elv eps => ?_⟩
    · rw [hGf, List.map_map]
      rfl
    · rw [List.length_map, pB.length_eq]
      omega
    · have nd := perm_ne hW pB
      rw [List.map_map, List.nodup_iff_pairwise_ne, List.pairwise_map]
      rw [List.pairwise_map] at nd
      exact nd.imp fun z c => z (by injection c with c1 c2; exact Prod.ext (Int.ofNat.inj c1) (Int.ofNat.inj c2))
    · intro e he
      obtain ⟨e', he', rfl⟩ := List.mem_map.mp he
      have rg := hW.rng e' (pB.mem_iff.mp he')
      have := h4 0 (by decide)
      have := h4 1 (by decide)
      intro m hm
      rcases List.mem_cons.mp hm with rfl | hm
      · show 0 ≤ ((e'.1.1 : Nat) : Int) ∧ ((e'.1.1 : Nat) : Int) < 64
        omega
      · obtain rfl := List.mem_singleton.mp hm
        show 0 ≤ ((e'.1.2 : Nat) : Int) ∧ ((e'.1.2 : Nat) : Int) < 64
        omega
    have n_lv : lv ≠ a := Ne.symm (wG5.ne hlv)
    have f_lv : H lv = none := bG5.free wG5 hlv
    have e_y1 := sv0 _ _ e_y1
    have wG5 := wG5.same sv0
    have bG5 := bG5.trans (.same sv0)
    have cl1 := cl1.but kk (.same sv0)
    have lps : ps.length = D.bo.length := by
      have := pm.length_eq
      rwa [List.length_map, List.length_map, pB.length_eq] at this
    have okp : ∀ z ∈ ps, ∃ e ∈ D.bo, z.2.1 = iI e.1 ∧ z.2.2 = V.int (an h e) := fun z hz => by
      obtain ⟨e, he, ee⟩ := List.mem_map.mp (pm.mem_iff.mp (List.mem_map.mpr ⟨z, hz, rfl⟩))
      exact ⟨e, pB.mem_iff.mp he, by rw [← ee], by rw [← ee]⟩
    clear hGf e_pv hlv sv0 pm
    refine ⟨(by show 3 ≤ sizeLine; decide), fun y4 hy4 => ?_⟩
    have t_y4 := same_new hy4 (.lst [.ref y1, .non, .ref lv])
    have n_y4 : y4 ≠ a := Ne.symm (wG5.ne hy4)
    have e_y4 : (upd G5c y4 (.lst [.ref y1, .non, .ref lv])) y4 = some (.lst [.ref y1, .non, .ref lv]) := upd_same
    have e_y1 := t_y4 _ _ e_y1
    have elv := t_y4 _ _ elv
    have eps : ∀ z ∈ ps, ∃ q, (upd G5c y4 (.lst [.ref y1, .non, .ref lv])) z.1 = some (.tup [.ref q, z.2.2]) ∧ (upd G5c y4 (.lst [.ref y1, .non, .ref lv])) q = some (.tup [.int z.2.1.1, .int z.2.1.2]) := fun z hz => by
      obtain ⟨q, h1, h2⟩ := eps z hz
      exact ⟨q, t_y4 _ _ h1, t_y4 _ _ h2⟩
    have wG5 := wG5.same t_y4
    have bG5 := bG5.trans (.same t_y4)
    have cl1 := cl1.but kk (.same t_y4)
    generalize upd G5c y4 (.lst [.ref y1, .non, .ref lv]) = G5d at t_y4 e_y4 e_y1 elv eps wG5 bG5 cl1 ⊢
    refine ⟨_, rfl, a, m5, 3, rfl, .inr wG5, by omega, by omega, by decide, by decide, fun x G5e x0 x1 b1 w1 => ?_⟩
    obtain ⟨j, rfl⟩ : ∃ k : Nat, x = (k : Int) := ⟨x.toNat, by omega⟩
    have hj : j < 3 := by omega
    have tupA : ∀ {q : Addr} {xs : List V}, G5d q = some (.tup xs) → q ≠ a := fun {q xs} e z => by
      obtain ⟨ys, ea⟩ := wG5.lst
      rw [z, ea] at e
      cases e
    have e_y1 := b1 _ _ n_y1 e_y1
    have e_y4 := b1 _ _ n_y4 e_y4
    have elv := b1 _ _ n_lv elv
    have eps : ∀ z ∈ ps, ∃ q, G5e z.1 = some (.tup [.ref q, z.2.2]) ∧ G5e q = some (.tup [.int z.2.1.1, .int z.2.1.2]) := fun z hz => by
      obtain ⟨q, h1, h2⟩ := eps z hz
      exact ⟨q, b1 _ _ (tupA h1) h1, b1 _ _ (tupA h2) h2⟩
    have tupA : ∀ {q : Addr} {xs : List V}, G5e q = some (.tup xs) → q ≠ a := fun {q xs} e z => by
      obtain ⟨ys, ea⟩ := w1.lst
      rw [z, ea] at e
      cases e
    have tupM : ∀ {q : Addr} {xs : List V}, G5e q = some (.tup xs) → q ≠ M := fun {q xs} e z => by
      rw [z, (cl1.but kk b1).hM] at e
      cases e
    have cl1 := cl1.but kk b1
    have bG5 := bG5.trans b1
    have one : 1 ≤ D.bo.length := by
      obtain ⟨e, he, _⟩ := hW.com0 0 (by have := hW.n0 0 (by decide); omega)
      exact List.length_pos_of_mem he
    have fin : ∀ x, ([V.ref y1, V.non, V.ref lv] : List V)[j]? = some x → FinS K C H a p L M D (upd G5e M (.lst ([V.ref f0, V.ref f1].set h x))) := fun x hx => by
      have vp : ∀ {q : Addr} {o : HO}, q ≠ a → G5e q = some o → q ≠ M → vw (pA a) (upd G5e M (.lst ([V.ref f0, V.ref f1].set h x))) q = some o := fun nqa e ne => vw_put (pA_ok.mpr nqa) (by rw [upd_ne ne]; exact e)
      rcases (show j = 0 ∨ j = 1 ∨ j = 2 by omega) with rfl | rfl | rfl
      · obtain rfl : V.ref y1 = x := Option.some.inj hx
        have e := vp n_y1 e_y1 (fun z => by rw [z, cl1.hM] at e_y1; cases e_y1)
        refine cl1.answers kk hh (.len (dat := fun _ => .none) e (by decide) (kk.x (same_upd' cl1.sv kk.nM) f_y1) (fun kv hkv => by cases hkv) (by show 0 ≠ _; omega)) (fun B hB z => by injection z with z; rw [← z] at hB; exact hB f_y1) nn ((shx_dicG e (by decide) (fun kv hkv => by cases hkv)).y.up (by decide) (by decide))
      · obtain rfl : V.non = x := Option.some.inj hx
        exact cl1.answers kk hh (.notd .non) (fun B hB z => by cases z) nn (shx_non.y.up (by decide) (by decide))
      · obtain rfl : V.ref lv = x := Option.some.inj hx
        have nlM : lv ≠ M := fun z => by
          rw [z, cl1.hM] at elv
          injection elv with elv
          injection elv with elv
          match ps, lps with
          | [], lps => rw [List.length_nil] at lps; omega
          | z :: zs, _ =>
            have elv : [V.ref f0, V.ref f1] = V.ref z.1 :: zs.map (fun z => V.ref z.1) := elv
            injection elv with e1 _
            injection e1 with e1
            obtain ⟨q, h1, _⟩ := eps z List.mem_cons_self
            rw [← e1, cl1.hf0] at h1
            cases h1
        have e := vp n_lv elv nlM
        have dps : ∀ (zs : List (Addr × (Int × Int) × V)), (∀ z ∈ zs, z ∈ ps) → DpAll K (vw (pA a) (upd G5e M (.lst ([V.ref f0, V.ref f1].set h (V.ref lv))))) (zs.map fun z => V.ref z.1) (zs.map fun z => .tuple [pairD z.2.1, match z.2.2 with | .int i => .int i | _ => .none]) := fun zs hzs => by
          revert hzs
          refine List.rec (motive := fun zs => (∀ z ∈ zs, z ∈ ps) → DpAll K (vw (pA a) (upd G5e M (.lst ([V.ref f0, V.ref f1].set h (V.ref lv))))) (zs.map fun z => V.ref z.1) (zs.map fun z => .tuple [pairD z.2.1, match z.2.2 with | .int i => .int i | _ => .none])) (fun _ => .nil) (fun z zs ih hzs => ?_) zs
          · obtain ⟨q, h1, h2⟩ := eps z (hzs z List.mem_cons_self)
            obtain ⟨b, hb, _, eb⟩ := okp z (hzs z List.mem_cons_self)
            rw [eb] at h1
            rw [List.map_cons, List.map_cons, eb]
            exact .cons (.tup (SqT.of (vp (tupA h1) h1 (tupM h1))) (.cons (.tup (SqT.of (vp (tupA h2) h2 (tupM h2))) (.cons (.int _) (.cons (.int _) .nil))) (.cons (.int _) .nil))) (ih fun y hy => hzs y (List.mem_cons_of_mem _ hy))
        refine cl1.answers kk hh (.notd (.lst (SqL.of e) (dps ps fun z h => h))) (fun B hB z => by injection z with z; rw [← z] at hB; exact hB f_lv) nn ((shx_lst (w := 30) (n := 3) (m := 20) e (fun z hz => ?_) (by rw [List.length_map, lps]; omega)).y.up (by decide) (by decide))
        obtain ⟨y, hy, rfl⟩ := List.mem_map.mp hz
        obtain ⟨q, h1, h2⟩ := eps y hy
        obtain ⟨b, hb, ea, eb⟩ := okp y hy
        rw [eb] at h1
        rw [ea] at h2
        have rg := hW.rng b hb
        have := h4 0 (by decide)
        have := h4 1 (by decide)
        exact shx_tup (w := 14) (n := 2) (m := 2) (vp (tupA h1) h1 (tupM h1)) (two_mem (shx_tup (w := 6) (n := 1) (m := 2) (vp (tupA h2) h2 (tupM h2)) (two_mem (shx_int ⟨by show (0 : Int) ≤ ((b.1.1 : Nat) : Int); omega, by show ((b.1.1 : Nat) : Int) ≤ 63; omega⟩) (shx_int ⟨by show (0 : Int) ≤ ((b.1.2 : Nat) : Int); omega, by show ((b.1.2 : Nat) : Int) ≤ 63; omega⟩)) (Nat.le_refl _)) ((shx_int (nn.outa h hh b hb)).up (by decide) (by decide))) (Nat.le_refl _)
    obtain ⟨x, hx⟩ : ∃ x, ([V.ref y1, V.non, V.ref lv] : List V)[j]? = some x := ⟨_, List.getElem?_eq_getElem hj⟩
    refine ⟨y4, _, _, x, rfl, rfl, SqL.of e_y4, atI_nat hx, _, rfl, _, rfl, M, _, _, h, rfl, rfl, cl1.hM, ixN_of (by exact hh), ?_⟩
    exact out _ ⟨m5 + 1, by omega, by omega, w1.but (Ne.symm nMa) But.at, bG5.new kk.nM, .inr ⟨by omega, fin x hx⟩⟩
  obtain ⟨m6, g1, g2, wG6, bG6, s6⟩ := hG6
  dsimp only
  refine seq_go ?_
  refine ⟨_, rfl, rfl, _, rfl, ?_⟩
  refine ite2 (fun c => ?_) (fun c => ?_)
  case refine_2 =>
    have c : way ≠ 6 := (way_is (k := 6) rfl).2 c
    have fin : FinS K C H a p L M D G6 := s6.elim (fun h => absurd h.1 (by omega)) (fun h => h.2)
    refine ⟨_, rfl, _, rfl, (by show 2 ≤ sizeLine; decide), fun t1 ht1 => ?_⟩
    have t0 := same_new ht1 (.tup [V.ref L, V.ref M])
    refine q _ _ (bG6.trans (.same t0)) ((wG6.same t0).up (by omega)) (fin.told hL (vw_same (.same t0)) (vw_put (pA_ok.mpr (Ne.symm (wG6.ne ht1))) upd_same))
  have c : way = 6 := (way_is (k := 6) rfl).1 c
  have cl1 : Cln C H a p L M q0 q1 f0 f1 C0 C1 D ch an G6 := s6.elim (fun h => h.2) (fun h => by omega)
  clear s6
  refine ⟨_, rfl, _, rfl, (by show 2 ≤ sizeLine; decide), fun y1 hy1 => ?_⟩
  have t_y1 := same_new hy1 (.lst [.ref L, .ref M])
  have n_y1 : y1 ≠ a := Ne.symm (wG6.ne hy1)
  have e_y1 : (upd G6 y1 (.lst [.ref L, .ref M])) y1 = some (.lst [.ref L, .ref M]) := upd_same
  have cl1 := cl1.but kk (.same t_y1)
  have wG6 := wG6.same t_y1
  have bG6 := bG6.trans (.same t_y1)
  generalize upd G6 y1 (.lst [.ref L, .ref M]) = G6a at t_y1 e_y1  cl1 wG6 bG6 ⊢
  clear t_y1
  refine ⟨_, rfl, (by show 1 ≤ sizeLine; decide), fun y2 hy2 => ?_⟩
  have t_y2 := same_new hy2 (.tup [.ref L])
  have n_y2 : y2 ≠ a := Ne.symm (wG6.ne hy2)
  have e_y2 : (upd G6a y2 (.tup [.ref L])) y2 = some (.tup [.ref L]) := upd_same
  have e_y1 := t_y2 _ _ e_y1
  have cl1 := cl1.but kk (.same t_y2)
  have wG6 := wG6.same t_y2
  have bG6 := bG6.trans (.same t_y2)
  generalize upd G6a y2 (.tup [.ref L]) = G6b at t_y2 e_y2 e_y1 cl1 wG6 bG6 ⊢
  clear t_y2
  refine ⟨_, rfl, _, rfl, (by show 3 ≤ sizeLine; decide), fun y3 hy3 => ?_⟩
  have t_y3 := same_new hy3 (.tup [.ref L, .ref M, .int 0])
  have n_y3 : y3 ≠ a := Ne.symm (wG6.ne hy3)
  have e_y3 : (upd G6b y3 (.tup [.ref L, .ref M, .int 0])) y3 = some (.tup [.ref L, .ref M, .int 0]) := upd_same
  have e_y1 := t_y3 _ _ e_y1
  have e_y2 := t_y3 _ _ e_y2
  have cl1 := cl1.but kk (.same t_y3)
  have wG6 := wG6.same t_y3
  have bG6 := bG6.trans (.same t_y3)
  generalize upd G6b y3 (.tup [.ref L, .ref M, .int 0]) = G6c at t_y3 e_y3 e_y1 e_y2 cl1 wG6 bG6 ⊢
  clear t_y3
  refine ⟨_, rfl, _, rfl, (by show 2 ≤ sizeLine; decide), fun y4 hy4 => ?_⟩
  have t_y4 := same_new hy4 (.tup [.ref M, .ref L])
  have n_y4 : y4 ≠ a := Ne.symm (wG6.ne hy4)
  have e_y4 : (upd G6c y4 (.tup [.ref M, .ref L])) y4 = some (.tup [.ref M, .ref L]) := upd_same
  have e_y1 := t_y4 _ _ e_y1
  have e_y2 := t_y4 _ _ e_y2
  have e_y3 := t_y4 _ _ e_y3
  have cl1 := cl1.but kk (.same t_y4)
  have wG6 := wG6.same t_y4
  have bG6 := bG6.trans (.same t_y4)
  generalize upd G6c y4 (.tup [.ref M, .ref L]) = G6d at t_y4 e_y4 e_y1 e_y2 e_y3 cl1 wG6 bG6 ⊢
  clear t_y4
  refine ⟨(by show 5 ≤ sizeLine; decide), fun y5 hy5 => ?_⟩
  have t_y5 := same_new hy5 (.lst [.ref y1, .ref y2, .ref y3, .non, .ref y4])
  have n_y5 : y5 ≠ a := Ne.symm (wG6.ne hy5)
  have e_y5 : (upd G6d y5 (.lst [.ref y1, .ref y2, .ref y3, .non, .ref y4])) y5 = some (.lst [.ref y1, .ref y2, .ref y3, .non, .ref y4]) := upd_same
  have e_y1 := t_y5 _ _ e_y1
  have e_y2 := t_y5 _ _ e_y2
  have e_y3 := t_y5 _ _ e_y3
  have e_y4 := t_y5 _ _ e_y4
  have cl1 := cl1.but kk (.same t_y5)
  have wG6 := wG6.same t_y5
  have bG6 := bG6.trans (.same t_y5)
  generalize upd G6d y5 (.lst [.ref y1, .ref y2, .ref y3, .non, .ref y4]) = G6e at t_y5 e_y5 e_y1 e_y2 e_y3 e_y4 cl1 wG6 bG6 ⊢
  clear t_y5
  refine ⟨_, rfl, a, m6, 5, rfl, .inr wG6, by omega, by omega, by decide, by decide, fun x G6f x0 x1 b1 w1 => ?_⟩
  obtain ⟨j, rfl⟩ : ∃ k : Nat, x = (k : Int) := ⟨x.toNat, by omega⟩
  have hj : j < 5 := by omega
  have e_y1 := b1 _ _ n_y1 e_y1
  have e_y2 := b1 _ _ n_y2 e_y2
  have e_y3 := b1 _ _ n_y3 e_y3
  have e_y4 := b1 _ _ n_y4 e_y4
  have e_y5 := b1 _ _ n_y5 e_y5
  have cl1 := cl1.but kk b1
  have bG6 := bG6.trans b1
  have vp : ∀ {q : Addr} {o : HO}, q ≠ a → G6f q = some o → vw (pA a) G6f q = some o := fun nqa e => vw_put (pA_ok.mpr nqa) e
  obtain ⟨hF, sL, sM⟩ := cl1.good (K := K) kk nn
  have fin : ∀ x, ([V.ref y1, V.ref y2, V.ref y3, V.non, V.ref y4] : List V)[j]? = some x → SpoltIs K C H (vw (pA a) G6f) p D x := fun x hx => by
    rcases (show j = 0 ∨ j = 1 ∨ j = 2 ∨ j = 3 ∨ j = 4 by omega) with rfl | rfl | rfl | rfl | rfl
    · obtain rfl : V.ref y1 = x := Option.some.inj hx
      have e := vp n_y1 e_y1
      refine ⟨.inl (.lst e), fun B hB t' c' ans' z0 z1 e1 e2 _ => ?_, (shy_lst (w := 2002) (n := 5) (m := 2) e (two_mem (sL.y.up (by decide) (by decide)) sM) (Nat.le_refl _)).up (by decide) (by decide)⟩
      injection e1 with e1
      rw [← e1, e] at e2
      cases e2
    · obtain rfl : V.ref y2 = x := Option.some.inj hx
      have e := vp n_y2 e_y2
      refine ⟨.inl (.tup e (by show 1 ≠ 2; decide)), fun B hB t' c' ans' z0 z1 e1 e2 _ => ?_, (shy_tup (w := 2002) (n := 5) (m := 2) e (fun z hz => by rw [List.mem_singleton.mp hz]; exact sL.y.up (by decide) (by decide)) (by show 1 ≤ 2; decide)).up (by decide) (by decide)⟩
      injection e1 with e1
      rw [← e1, e] at e2
      cases e2
    · obtain rfl : V.ref y3 = x := Option.some.inj hx
      have e := vp n_y3 e_y3
      refine ⟨.inl (.tup e (by show 3 ≠ 2; decide)), fun B hB t' c' ans' z0 z1 e1 e2 _ => ?_, (shy_tup (w := 2002) (n := 5) (m := 3) e (fun z hz => ?_) (by show 3 ≤ 3; decide)).up (by decide) (by decide)⟩
      · injection e1 with e1
        rw [← e1, e] at e2
        cases e2
      · rcases List.mem_cons.mp hz with rfl | hz
        · exact sL.y.up (by decide) (by decide)
        · exact two_mem (P := fun z => ShY K (vw (pA a) G6f) 2002 5 z) sM ((shx_int (i := 0) ⟨by decide, by decide⟩).y.up (by decide) (by decide)) z hz
    · obtain rfl : V.non = x := Option.some.inj hx
      exact ⟨.inl .non, (fun B hB t' c' ans' z0 z1 e1 _ _ => by cases e1), shx_non.y.up (by decide) (by decide)⟩
    · obtain rfl : V.ref y4 = x := Option.some.inj hx
      have e := vp n_y4 e_y4
      have eL := kk.put kk.nL cl1.hL
      have eM := kk.put kk.nM cl1.hM
      refine ⟨.inl ?_, fun B hB t' c' ans' z0 z1 e1 e2 e3 => ?_, (shy_tup (w := 2002) (n := 5) (m := 2) e (two_mem sM (sL.y.up (by decide) (by decide))) (Nat.le_refl _)).up (by decide) (by decide)⟩
      · exact .two (r0 := false) (r1 := false) e eM eL (.inr ⟨f0, f1, _, _, rfl, rfl, kk.put kk.nf0 cl1.hf0, kk.put kk.nf1 cl1.hf1, rfl, rfl⟩) (.notd (dp_row (kk.put kk.nq0 cl1.hq0))) (.notd (dp_row (kk.put kk.nq1 cl1.hq1)))
      · injection e1 with e1
        rw [← e1, e] at e2
        injection e2 with e2
        injection e2 with e2
        injection e2 with _ e2
        injection e2 with e2 _
        injection e2 with e2
        rw [← e2, eL] at e3
        injection e3 with e3
        injection e3 with e3
        injection e3 with e4 e5
        injection e5 with e5 _
        rw [← e4, ← e5]
        exact ⟨fun z => by injection z with z; rw [← z] at hB; exact hB kk.nq0, fun z => by injection z with z; rw [← z] at hB; exact hB kk.nq1⟩
  obtain ⟨x, hx⟩ : ∃ x, ([V.ref y1, V.ref y2, V.ref y3, V.non, V.ref y4] : List V)[j]? = some x := ⟨_, List.getElem?_eq_getElem hj⟩
  exact ⟨y5, _, _, x, rfl, rfl, SqL.of e_y5, atI_nat hx, q _ _ bG6 (w1.up (by omega)) (fin x hx)⟩
end
end TA

set_option Elab.async false
set_option maxRecDepth 100000
set_option maxHeartbeats 4000000
set_option linter.unusedVariables false
namespace TA
open PySem L2 PyProof.Rows
structure KDef (P : Program) (w : World) (K : PySem.W.Frag) (mg : Str → Option Value) (base : Heap) (C : Addr) (x : Str) (ps : List Str) (k : Nat) (sp : Sp) (f : Addr) (fd : FuncData) : Prop where
  G : FnOk P w K mg base CX0 k f fd ps sp
  b : Binds K fd ps []
  M : Mk K C f
  m : mg x = some (.ref C)
section
open PySem.Spec LamX
/-- what a def keeps where no repr is under way around it -/
structure Quiet (P : Program) (w : World) (K : PySem.W.Frag) (mg : Str → Option Value) (base : Heap) (k : Nat) (f : Addr) (fd : FuncData) (ps : List Str) (sp : Sp) : Prop where
  len : ∀ vs H Q E, sp vs H Q E → vs.length = ps.length
  run : ∀ (A : Around) (outer : List Env) (s : Shared) (H : Hp) (args : Args) (us : List Value) (vs : List V) (Q : VK) (E : XK), A.guards = some [] → Room k A → Env0 P w K mg base A outer s H → BindsTo s fd args (ps.zip us) → Vals vs us → sp vs H Q E →
    codeAny (model P w) A (.call (.ref f) args) (CR CX0 outer P w H s Q E) s
section
variable {P : Program} {w : World} {K : PySem.W.Frag} {mg : Str → Option Value} {base : Heap}
theorem quiet_of {x qual : Str} {st : Stmt} {f : Addr} {fd : FuncData} {N ps : List Str} {k : Nat} {sp : Sp} (F : Fun K x qual st f fd) (S : FnScope N ps (defScope st)) (len : ∀ vs H Q E, sp vs H Q E → vs.length = ps.length)
    (body : ∀ (cdv : Value) (A : Around) (outer : List Env) (s : Shared) (H : Hp) (vs : List V) (Q : VK) (E : XK), A.guards = some [] → Room k (A.deeper (envOfC qual (defScope st) s.heap.objs.size f cdv)) → sp vs H Q E →
      ∃ t, PSs (cxOf CX0 P w K mg base N qual (defScope st) f cdv A outer s H E).nox (defBody st) t ∧ t { nx := fun _ H' => Q .non H', rt := Q } (L2.start N vs) H) : Quiet P w K mg base (k + 1) f fd ps sp := by
  obtain ⟨oc, od, kV, doc, pm, an, cdv, ct, osl, rfl, lk, hcd⟩ := F.ex
  refine ⟨len, fun A outer s H args us vs Q E hg hr e0 hb hv hs => ?_⟩
  refine run_ofS (N := N) (ps := ps) lk hcd S hr e0 hb hv (len _ _ _ _ hs) fun hr2 => ?_
  obtain ⟨t, p, q⟩ := body cdv A outer s H vs Q E hg hr2 hs
  exact ⟨t, p.nox, q⟩
end
/-! the law called, nothing under way, no table of code -/
section
variable {P : Program} {w : World} {K : PySem.W.Frag} {mg mb : Str → Option Value}
def atCall (K : PySem.W.Frag) (a : Addr) (ob : Obj) (xs : List V) : Hp := fun b => if b = a then (if (K.lookup a).isSome then none else some (.frz ob (.lst xs))) else none
theorem atCall_a {a : Addr} {ob : Obj} {xs : List V} : atCall K a ob xs a = if (K.lookup a).isSome then none else some (.frz ob (.lst xs)) := if_pos rfl
theorem atCall_no {a b : Addr} {ob : Obj} {xs : List V} (m : b ≠ a) : atCall K a ob xs b = none := if_neg m
theorem quiet_end0 {k : Nat} {fa a : Addr} {fd : FuncData} {x : Str} {sp : Sp} {s : Shared} {vs : List Value} {ns : List Int}
    (KX : K.In s.heap) (gl : s.heap.Ns mainGlobals mg) (bn : s.heap.Ns builtinsNs mb) (bb : ∀ x : Str, x ≠ "__name__" → mb x = bootBuiltins x) (nl : s.heap.NoLimit) (gs : s.gens = #[])
    (sc : s.heap.get? a = some { cls := .type "list", data := .seq vs.toArray }) (hi : IntsAre vs ns) (hz : ns.length ≤ sizeLine) (hr : Room k callerA)
    (F : ∀ base : Heap, K.In base → base.Ns mainGlobals mg → Quiet P w K mg base k fa fd [x] sp) (bd : ∀ (s : Shared) (u : Value), BindsTo s fd ⟨[u], []⟩ [(x, u)])
    (hsp : ∀ H : Hp, SqL K H a (ns.map V.int) → sp [.ref a] H (fun v _ => v = .bl true) fun _ _ _ => False) :
    codeAny (model P w) callerA (.call (.ref fa) ⟨[.ref a], []⟩) (fun r s' => r = .ok (.ret (.bool true)) ∧ OldK s.heap s'.heap ∧ s'.os = s.os ∧ AllBare s'.gens) s := by
  have rv := vals_ints hi
  have ln := hi.length
  obtain ⟨H, Ha, Ho⟩ : ∃ H : Hp, (H a = if (K.lookup a).isSome then none else some (.frz { cls := .type "list", data := .seq vs.toArray } (.lst (ns.map V.int)))) ∧ ∀ b, b ≠ a → H b = none := ⟨_, atCall_a, fun b m => atCall_no m⟩
  have seen : SqL K H a (ns.map V.int) := by
    cases e : K.lookup a with
    | none =>
      rw [e] at Ha
      exact .inl (.inr ⟨_, Ha⟩)
    | some o =>
      have q := KX a o e
      rw [sc] at q
      cases q
      exact .inr ⟨_, vs.toArray, _, e, rfl, rfl, rfl, by rw [List.size_toArray, ln]; exact hz, by simpa using rv⟩
  have ok : HOk P w H s.heap := fun b u e => by
    by_cases h2 : b = a
    · subst h2
      rw [Ha] at e
      cases q : (K.lookup b).isSome with
      | true => simp [q] at e
      | false =>
        simp [q] at e
        subst e
        exact ⟨sc, by rw [List.length_map]; exact hz, vs, _, rv, sc⟩
    · rw [Ho b h2] at e
      cases e
  have keepO : ∀ {b : Addr} {o : Obj}, s.heap.get? b = some o → (∀ xs n, o.data ≠ .seq xs n) → (hidT s.heap H).get? b = some o := fun {b o} e n1 =>
    hidT_get e (Ho b fun z => by rw [z, sc] at e; cases e; exact n1 _ _ rfl)
  have keepN : ∀ {b : Addr} {m : Str → Option Value}, s.heap.Ns b m → (hidT s.heap H).Ns b m := fun {b m} h => by
    obtain ⟨o, es, ep, e, d, r⟩ := h
    exact ⟨o, es, ep, keepO e (fun xs n z => by rw [d] at z; cases z), d, r⟩
  have keepK : K.In (hidT s.heap H) := fun b o e => hidT_get (KX b o e) (by
    by_cases h2 : b = a
    · subst h2
      rw [Ha, e]
      rfl
    · exact Ho b h2)
  have e0 : Env0 P w K mg (hidT s.heap H) callerA [] s H := by
    refine ⟨rfl, ⟨keepK, keepN gl, ⟨mb, keepN bn, bb⟩, ?_⟩, fun b o e => of_hidT e, Nat.le_of_eq (hidT_size _ _), trivial, fun b hb => absurd (show b ∈ ([] : List Addr) from hb) (by simp), ok, .of_eq gs⟩
    obtain ⟨mc, h1, h2⟩ := nl
    exact ⟨mc, keepN h1, h2⟩
  refine codeAny_mono ((F _ keepK (keepN gl)).run callerA [] s H ⟨[.ref a], []⟩ [.ref a] [.ref a] (fun v _ => v = .bl true) (fun _ _ _ => False) rfl hr e0 (bd s (.ref a)) (.cons rfl .nil) (hsp H seen)) fun r s' h => ?_
  match r, h with
  | .error _, h => exact False.elim h
  | .ok (.ret u), h =>
    obtain ⟨v, H', os, bare, un, ok', rr, q⟩ := h
    have ev : v = .bl true := q
    subst ev
    obtain rfl : u = Value.bool true := rr
    refine ⟨rfl, OldK.of_keep fun b o e => ?_, os, bare⟩
    cases g : H b with
    | none => exact un.keep b o e g (fun z => absurd (show b ∈ ([] : List Addr) from z) (by simp)) (by simp)
    | some u =>
      by_cases h2 : b = a
      · subst h2
        have fz : ∃ ob xs, u = .frz ob (.lst xs) := by
          rw [Ha] at g
          cases q2 : (K.lookup b).isSome with
          | true => simp [q2] at g
          | false =>
            simp [q2] at g
            exact ⟨_, _, g.symm⟩
        obtain ⟨ob, xs, rfl⟩ := fz
        obtain ⟨g1, _⟩ := ok b _ g
        obtain ⟨g2, _⟩ := ok' b _ (un.frzs b ob _ g)
        rw [e] at g1
        cases g1
        exact g2
      · rw [Ho b h2] at g
        cases g
end
end
/-! law -/
theorem NewAt.vt {C a : Addr} {Hx H' : Hp} {p : Addr} {T : TD} {zs : List V} (h : NewAt C Hx H' p T) (exa : Hx a = some (.lst zs)) (ea' : H' a = some (.lst zs)) : TaskAt C (vw (pA a) H') p T := by
  obtain ⟨dx, aa, d, kvs, h1, h2, hd, _, h3, h4⟩ := h
  have kp : Kp (nwx Hx p H') (vw (pA a) H') := fun b o f e => by
    obtain ⟨e1, e2, e3⟩ := nwx_some e
    exact vw_put (pA_ok.mpr fun c => by subst c; rw [e1] at exa; cases exa) e3
  have np : p ≠ a := ne_of h1 ea' (fun z => by cases z)
  have nd : d ≠ a := ne_of h3 ea' (fun z => by cases z)
  refine ⟨dx, aa, d, vw_put (pA_ok.mpr np) h1, h2.mono kp, kvs, vw_put (pA_ok.mpr nd) h3, h4.imp fun x y r => ?_⟩
  obtain ⟨e, t, xs, e2, ht, az⟩ := r
  refine ⟨e, t, xs, e2, kp.lst ht, az.imp fun v q z => ?_⟩
  obtain ⟨t2, e3, ht2⟩ := z
  exact ⟨t2, e3, vw_put (pA_ok.mpr (ne_of ht2 ea' (fun z => by cases z))) ht2⟩
def spBoxU (K : PySem.W.Frag) (C : Addr) : Sp := fun vs H Q _ => ∃ (p : Addr) (T : TD), vs = [.ref p] ∧ TaskAt C H p T ∧ WF T ∧ ∀ (H' : Hp) (r t : Addr) (w : Str), Same H H' → H' r = some (.tup [.str w, .ref t]) →
  ((w = "boxed" ∧ ∃ ch al an r0 r1 d0 d1, BxAt H H' r T ch t al an r0 r1 d0 d1 ∧ (∀ h, h < 2 → (ch h).length = (T.al h).length) ∧ ∀ h a, h < 2 → a < (T.al h).length → goodS T h a ((ch h).getD a 0)) ∨
   (w = "bar" ∧ ∃ (l : Addr) (h a : Nat), H' t = some (.tup [.int (h : Int), .int (a : Int), .ref l]) ∧ H' l = some (.lst (((T.al h).getD a []).map fun o => oV (oddsF T h a o))) ∧ H l = none ∧ h < 2 ∧ a < (T.al h).length)) → Q (.ref r) H'
theorem boxU {K : PySem.W.Frag} {C : Addr} {vs : List V} {H : Hp} {Q : VK} {E : XK} (h : spBoxU K C vs H Q E) : spBoxed K C vs H Q E := by
  obtain ⟨p, T, e, h1, h2, q⟩ := h
  exact ⟨p, T, e, h1, h2, fun H' r ch t al an r0 r1 d0 d1 s b l g => q H' r t _ s b.h_r (.inl ⟨rfl, ch, al, an, r0, r1, d0, d1, b, l, g⟩), fun H' r t l h a s e1 e2 e3 nl hh ha _ => q H' r t _ s e1 (.inr ⟨rfl, l, h, a, e2, e3, nl, hh, ha⟩)⟩
theorem join2f {b : Bool} {X : Prop} {R : L2.St → Hp → Prop} {σ : L2.St} {H : Hp} (Iv : L2.St → Hp → Prop) (h0 : b = false → Iv σ H) (k : ∀ σ Hc, Iv σ Hc → R σ Hc) (h1 : b = true → (∀ σ Hc, Iv σ Hc → R σ Hc) → X) : if b = true then X else R σ H := by
  cases b with
  | false => exact iteF (k σ H (h0 rfl))
  | true => exact iteT (h1 rfl k)
theorem But.fresh {a : Addr} {H H1 H' : Hp} (s : Same H H1) (n : H a = none) (b : But a H1 H') : Same H H' := fun x o e => b x o (ne_of_none e n) (s _ _ e)
theorem rem_of {kf : IP × List (Int × Int) → List Int} : ∀ {Lk : List (Addr × List Int)} {bs : BD}, Lk.map (·.2) = bs.map kf → ∃ rem : List (Addr × (IP × List (Int × Int))), Lk.map (fun q => V.ref q.1) = rem.map (fun r => V.ref r.1) ∧ rem.map (·.2) = bs ∧ ∀ r ∈ rem, ∃ q ∈ Lk, q.1 = r.1 ∧ q.2 = kf r.2
  | [], [], _ => ⟨[], rfl, rfl, fun r h => nomatch h⟩
  | q :: Lk, b :: bs, e => by
    rw [List.map_cons, List.map_cons] at e
    injection e with e1 e2
    obtain ⟨rem, h1, h2, h3⟩ := rem_of e2
    refine ⟨(q.1, b) :: rem, by rw [List.map_cons, List.map_cons, h1], by rw [List.map_cons, h2], fun r hr => ?_⟩
    rcases List.mem_cons.mp hr with rfl | hr
    · exact ⟨q, List.mem_cons_self, rfl, e1⟩
    · obtain ⟨q', h4, h5⟩ := h3 r hr
      exact ⟨q', List.mem_cons_of_mem _ h4, h5⟩
  | [], _ :: _, e => by cases e
  | _ :: _, [], e => by cases e
theorem erase_permG {α : Type} : ∀ (l : List α) (k : Nat) (h : k < l.length), (l[k] :: l.eraseIdx k).Perm l
  | [], k, h => absurd h (Nat.not_lt_zero k)
  | x :: l, 0, h => List.Perm.refl _
  | x :: l, k + 1, h => (List.Perm.swap x (l[k]'(Nat.lt_of_succ_lt_succ h)) (l.eraseIdx k)).trans ((erase_permG l k (Nat.lt_of_succ_lt_succ h)).cons x)
theorem dp_rem {K : PySem.W.Frag} {H : Hp} : ∀ {rem : List (Addr × (IP × List (Int × Int)))}, (∀ r ∈ rem, H r.1 = some (.tup [.int ((r.2.1.1 : Nat) : Int), .int ((r.2.1.2 : Nat) : Int)])) → DpAll K H (rem.map fun r => V.ref r.1) (rem.map fun r => pairD (iI r.2.1))
  | [], _ => .nil
  | r :: rem, tp => .cons (TpAt.dp (p := iI r.2.1) ⟨r.1, rfl, tp r List.mem_cons_self⟩) (dp_rem fun x hx => tp x (List.mem_cons_of_mem _ hx))
theorem BxAt.view {st : Addr} {H H' H'' : Hp} {r : Addr} {T : TD} {ch : Nat → List Int} {t al an r0 r1 d0 d1 : Addr} (b : BxAt H H' r T ch t al an r0 r1 d0 d1) {x y z : Int} (ea : H' st = some (.lst [.int x, .int y, .int z])) (hs : H st ≠ none) (s : But st H' H'') : BxAt (vw (pA st) H) (vw (pA st) H'') r T ch t al an r0 r1 d0 d1 := by
  have nn : ∀ {q : Addr}, H q = none → q ≠ st := fun h e => hs (by rw [← e]; exact h)
  have g : ∀ {q : Addr} {o : HO}, H' q = some o → q ≠ st → vw (pA st) H'' q = some o := fun h n => vw_put (pA_ok.mpr n) (s _ _ n h)
  have tp : ∀ {q : Addr} {xs : List V}, H' q = some (.tup xs) → q ≠ st := fun h => ne_of h ea (fun z => by cases z)
  have lr : ∀ {q u v : Addr}, H' q = some (.lst [.ref u, .ref v]) → q ≠ st := fun h => ne_of h ea (fun z => by cases z)
  exact ⟨g b.h_r (tp b.h_r), g b.h_t (tp b.h_t), g b.h_al (lr b.h_al), g b.h_r0 (nn b.f0), g b.h_r1 (nn b.f3), g b.h_an (lr b.h_an), g b.h_d0 (nn b.f2), g b.h_d1 (nn b.f1), vw_none b.f0, vw_none b.f1, vw_none b.f2, vw_none b.f3, b.nr, b.nd⟩
/-- a thing of the right form whose answers, and whose first row, are new -/
def GoodN (C : Addr) (H Hv : Hp) (p : Addr) (T : TD) (v : V) : Prop := ∃ t ch an al ans d0 d1, v = .ref t ∧ GoodB C Hv p t T ch an al ans d0 d1 ∧ (∃ r0 r1, Hv al = some (.lst [.ref r0, .ref r1]) ∧ r0 ≠ r1 ∧ H r0 = none) ∧ d0 ≠ d1 ∧ H d0 = none ∧ H d1 = none
theorem GoodN.spolt {K : PySem.W.Frag} {C : Addr} {H Hv : Hp} {p : Addr} {T : TD} {v : V} (W : WF T) (h4 : ∀ h, h < 2 → (T.al h).length ≤ 4) (h16 : T.bo.length ≤ 16) (g : GoodN C H Hv p T v) : SpoltIs K C H Hv p T v := by
  obtain ⟨t, ch, an, al, ans, d0, d1, rfl, G, hr, nd, n0, n1⟩ := g
  refine ⟨.inr ⟨t, ch, an, al, ans, d0, d1, rfl, G, hr, nd, n0, n1⟩, fun B hB t' c ans' y0 y1 e1 e2 e3 => ?_, ?_⟩
  · injection e1 with e1
    rw [← e1, G.ht] at e2
    injection e2 with e2
    injection e2 with e2
    injection e2 with _ e2
    injection e2 with e2 _
    injection e2 with e2
    rw [← e2, G.hans] at e3
    injection e3 with e3
    injection e3 with e3
    injection e3 with e4 e5
    injection e5 with e5 _
    rw [← e4, ← e5]
    exact ⟨fun z => by injection z with z; rw [← z] at hB; exact hB n0, fun z => by injection z with z; rw [← z] at hB; exact hB n1⟩
  · obtain ⟨r0, r1, hal, _, _⟩ := hr
    obtain ⟨tc, cxs, ec, hcal, car⟩ := id G.hal
    obtain rfl : al = tc := by injection ec
    have l4 : ∀ h, h < 2 → (ch h).length ≤ 4 := fun h hh => by rw [G.len h hh]; exact h4 h hh
    have sal : ShX K Hv 242 4 (.ref al) := by
      cases car with
      | cons z0 car =>
      cases car with
      | cons z1 car =>
      cases car
      obtain ⟨q0, rfl, e0⟩ := z0
      obtain ⟨q1, rfl, e1⟩ := z1
      exact sh_L hcal ((shx_row (m := 4) e0 (G.outc 0 (by decide)) (l4 0 (by decide))).up (by decide) (by decide)) ((shx_row (m := 4) e1 (G.outc 1 (by decide)) (l4 1 (by decide))).up (by decide) (by decide))
    have sd : ∀ h, h < 2 → ∀ {d : Addr}, (∃ B : BD, B.Perm T.bo ∧ Hv d = some (.dT (anKV an h B))) → ShY K Hv 1000 4 (.ref d) := fun h hh {d} ⟨B, pm, e⟩ => by
      refine (shx_dicG e ?_ fun kv hkv => ?_).y.up (by decide) (by decide)
      · unfold anKV
        rw [List.length_map, pm.length_eq]
        omega
      · obtain ⟨b, hb, rfl⟩ := List.mem_map.mp hkv
        have rg := W.rng b (pm.mem_iff.mp hb)
        have z0 := h4 0 (by decide)
        have z1 := h4 1 (by decide)
        exact ⟨⟨b.1.1, b.1.2, by omega, by omega, rfl⟩, (shx_int (G.outa h hh b (pm.mem_iff.mp hb))).up (by decide) (by decide)⟩
    exact (shy_tup (w := 2002) (n := 5) (m := 2) G.ht (two_mem (sal.y.up (by decide) (by decide)) (sh_M G.hans (sd 0 (by decide) G.h0) (sd 1 (by decide) G.h1))) (Nat.le_refl _)).up (by decide) (by decide)
theorem FormX.mono {K : PySem.W.Frag} {C : Addr} {H H' : Hp} (s : Same H H') {p : Addr} {T : TD} {v : V} {b : Bool} (h : FormX K C H p T v b) : FormX K C H' p T v b := by
  cases h with
  | lst h => exact .lst (s _ _ h)
  | non => exact .non
  | tup h n => exact .tup (s _ _ h) n
  | two h1 h2 h3 h4 h5 h6 => exact .two (s _ _ h1) (s _ _ h2) (s _ _ h3) (h4.mono s) (h5.mono s) (h6.mono s)
theorem GoodN.mono {C : Addr} {H Hv Hv' : Hp} (s : Same Hv Hv') {p : Addr} {T : TD} {v : V} (g : GoodN C H Hv p T v) : GoodN C H Hv' p T v := by
  obtain ⟨t, ch, an, al, ans, d0, d1, e, G, ⟨r0, r1, h1, h2⟩, nd⟩ := g
  exact ⟨t, ch, an, al, ans, d0, d1, e, G.mono s, ⟨r0, r1, s _ _ h1, h2⟩, nd⟩
theorem SpoltIs.back {K : PySem.W.Frag} {C st : Addr} {H H1 Hv : Hp} {p : Addr} {T : TD} {v : V} {m : Int} (b : But st H H1) (w : WellAt H1 st m) (h : SpoltIs K C H1 Hv p T v) : SpoltIs K C H Hv p T v := by
  obtain ⟨h1, h2, h3⟩ := h
  refine ⟨h1.imp id fun ⟨t, ch, an, al, ans, d0, d1, e, G, ⟨r0, r1, hr, nr, f⟩, nd, n0, n1⟩ => ⟨t, ch, an, al, ans, d0, d1, e, G, ⟨r0, r1, hr, nr, b.free w f⟩, nd, b.free w n0, b.free w n1⟩, fun B hB => h2 B fun c => ?_, h3⟩
  exact hB (b.free w c)
/-- the list of a told bar, as data -/
def ovD : Option Nat → PyData
  | none => .none
  | some b => .int (b : Int)
theorem dp_ov {K : PySem.W.Frag} {H : Hp} {g : Int → Option Nat} : ∀ row : List Int, DpAll K H (row.map fun o => oV (g o)) (row.map fun o => ovD (g o))
  | [] => .nil
  | o :: row => by
    refine .cons (?_ : Dp K H (oV (g o)) (ovD (g o))) (dp_ov row)
    cases g o with
    | none => exact .non
    | some b => exact .int _
theorem ov_low {T : TD} (W : WF T) (h4 : ∀ h, h < 2 → (T.al h).length ≤ 4) {h a : Nat} {o : Int} {b : Nat} (e : oddsF T h a o = some b) : b < 4 := by
  unfold oddsF at e
  obtain ⟨x, hx, rfl⟩ := Option.map_eq_some_iff.mp e
  have rg := W.rng x (sb_mem.mp (List.mem_of_find?_eq_some hx))
  have := h4 0 (by decide)
  have := h4 1 (by decide)
  unfold sel
  split <;> omega
theorem bar_told {K : PySem.W.Frag} {H : Hp} {T : TD} (W : WF T) (h4 : ∀ h, h < 2 → (T.al h).length ≤ 4) {t l : Addr} {h a : Nat} {row : List Int} (lr : row.length ≤ 4) (hh : h < 2) (ha : a < (T.al h).length) (ht : H t = some (.tup [.int (h : Int), .int (a : Int), .ref l])) (hl : H l = some (.lst (row.map fun o => oV (oddsF T h a o)))) :
    (∃ e, Dp K H (.ref t) e ∧ okBarD e) ∧ ShX K H 3000 8 (.ref t) := by
  refine ⟨⟨_, .tup (SqT.of ht) (.cons (.int _) (.cons (.int _) (.cons (.lst (SqL.of hl) (dp_ov row)) .nil))), fun x y es e z hz => ?_⟩, ?_⟩
  · injection e with e
    injection e with _ e
    injection e with _ e
    injection e with e _
    injection e with e
    rw [← e] at hz
    obtain ⟨o, _, rfl⟩ := List.mem_map.mp hz
    cases oddsF T h a o with
    | none => exact ok_non
    | some b => exact ok_int _
  · have := h4 h hh
    refine (shx_tup (w := 28) (n := 2) (m := 3) ht (fun z hz => ?_) (Nat.le_refl 3)).up (by decide) (by decide)
    rcases List.mem_cons.mp hz with rfl | hz
    · exact (shx_int (i := (h : Int)) ⟨by omega, by omega⟩).up (by decide) (by decide)
    · rcases List.mem_cons.mp hz with rfl | hz
      · exact (shx_int (i := (a : Int)) ⟨by omega, by omega⟩).up (by decide) (by decide)
      · rw [List.mem_singleton.mp hz]
        refine shx_lst (w := 6) (n := 1) (m := 4) hl (fun y hy => ?_) (by rw [List.length_map]; exact lr)
        obtain ⟨o, _, rfl⟩ := List.mem_map.mp hy
        cases c : oddsF T h a o with
        | none => exact shx_non
        | some b =>
          have := ov_low W h4 c
          exact shx_int (i := (b : Int)) ⟨by omega, by omega⟩
theorem if_go {c : TT} {A : TS} {D : Ends} {σ : L2.St} {H : Hp} (h : c σ H fun b H1 => if b = true then A D σ H1 else tNext D σ H1) : tIfS c A tNext D σ H := h
/-- what the law looks at: a thing, its answers not at B -/
def ThingX (K : PySem.W.Frag) (C : Addr) (H : Hp) (p B : Addr) (T : TD) (v : V) : Prop := (FormX K C H p T v false ∨ ∃ t ch an al ans d0 d1, v = .ref t ∧ GoodB C H p t T ch an al ans d0 d1) ∧ ∀ t c ans y0 y1, v = .ref t → H t = some (.tup [c, .ref ans]) → H ans = some (.lst [y0, y1]) → y0 ≠ .ref B ∧ y1 ≠ .ref B
theorem FormX.back {K : PySem.W.Frag} {C : Addr} {H H1 : Hp} {p B : Addr} {T : TD} {v : V} {b : Bool} (hf : FormX K C H p T v b) (s : Same H H1) (nB : ∀ t c ans y0 y1, v = .ref t → H t = some (.tup [c, .ref ans]) → H ans = some (.lst [y0, y1]) → y0 ≠ .ref B ∧ y1 ≠ .ref B) : ∀ t c ans y0 y1, v = .ref t → H1 t = some (.tup [c, .ref ans]) → H1 ans = some (.lst [y0, y1]) → y0 ≠ .ref B ∧ y1 ≠ .ref B := by
  intro t c ans y0 y1 ev h1 h2
  subst ev
  cases hf with
  | lst h => rw [s _ _ h] at h1; cases h1
  | tup h n =>
    rw [s _ _ h] at h1
    injection h1 with h1
    injection h1 with h1
    rw [h1] at n
    exact absurd rfl n
  | two g1 g2 g3 _ _ _ =>
    have g1' := s _ _ g1
    rw [h1] at g1'
    injection g1' with g1'
    injection g1' with g1'
    injection g1' with ec g1'
    injection g1' with ea _
    injection ea with ea
    subst ea ec
    have g3' := s _ _ g3
    rw [h2] at g3'
    injection g3' with g3'
    injection g3' with g3'
    injection g3' with ey0 g3'
    injection g3' with ey1 _
    subst ey0 ey1
    exact nB t _ _ _ _ rfl g1 g3
theorem ThingX.form {K : PySem.W.Frag} {C : Addr} {H : Hp} {p B : Addr} {T : TD} {v : V} (W : WF T) (h : ThingX K C H p B T v) : ∃ b, FormX K C H p T v b := by
  rcases h.1 with h | ⟨t, ch, an, al', ans, d0, d1, rfl, G⟩
  · exact ⟨_, h⟩
  · exact ⟨_, G.form W⟩
theorem ThingX.mono {K : PySem.W.Frag} {C : Addr} {H H1 : Hp} {p B : Addr} {T : TD} {v : V} (W : WF T) (s : Same H H1) (h : ThingX K C H p B T v) : ThingX K C H1 p B T v := by
  obtain ⟨b, hf⟩ := h.form W
  exact ⟨h.1.imp (fun g => g.mono s) fun ⟨t, ch, an, al', ans, d0, d1, e, G⟩ => ⟨t, ch, an, al', ans, d0, d1, e, G.mono s⟩, hf.back s h.2⟩
theorem GoodB.nB {C : Addr} {H : Hp} {p t B : Addr} {T : TD} {ch an al ans d0 d1} (G : GoodB C H p t T ch an al ans d0 d1) (n0 : d0 ≠ B) (n1 : d1 ≠ B) : ∀ t' c ans' y0 y1, V.ref t = .ref t' → H t' = some (.tup [c, .ref ans']) → H ans' = some (.lst [y0, y1]) → y0 ≠ .ref B ∧ y1 ≠ .ref B := by
  intro t' c ans' y0 y1 e1 e2 e3
  injection e1 with e1
  rw [← e1, G.ht] at e2
  injection e2 with e2
  injection e2 with e2
  injection e2 with _ e2
  injection e2 with e2 _
  injection e2 with e2
  rw [← e2, G.hans] at e3
  injection e3 with e3
  injection e3 with e3
  injection e3 with e4 e5
  injection e5 with e5 _
  rw [← e4, ← e5]
  exact ⟨fun z => by injection z with z; exact n0 z, fun z => by injection z with z; exact n1 z⟩
theorem or_go {a b : TT} {σ : L2.St} {H : Hp} {Q : Bool → Hp → Prop} (h : a σ H fun c H1 => if c = true then Q true H1 else b σ H1 Q) : tOr a b σ H Q := h
theorem dy_two {K : PySem.W.Frag} {H : Hp} {x y : V} {dx dy : PyData} (h0 : DY K H x dx) (h1 : DY K H y dy) : ∀ (i : Nat) (v : V) (d : PyData), ([x, y] : List V)[i]? = some v → [dx, dy][i]? = some d → DY K H v d
  | 0, v, d, hv, hd => by
    obtain rfl : x = v := Option.some.inj hv
    obtain rfl : dx = d := Option.some.inj hd
    exact h0
  | 1, v, d, hv, hd => by
    obtain rfl : y = v := Option.some.inj hv
    obtain rfl : dy = d := Option.some.inj hd
    exact h1
  | i + 2, v, d, hv, hd => by simp at hv
/-- thing's fault and what is due: the same -/
theorem judge_go {K : PySem.W.Frag} {C : Addr} {σ : L2.St} {H : Hp} {x al B : Addr} {T : TD} {v : V} {Q : Bool → Hp → Prop} (e8 : σ[8]? = some (some (.ref x))) (e10 : σ[10]? = some (some v)) (e3 : σ[3]? = some (some (.ref al))) (e5 : σ[5]? = some (some (.ref B)))
    (hT : TaskAt C H x T) (W : WF T) (hA : AlAt H (.ref al) T.al) (hB : BoAt H B T.bo) (hv : ThingX K C H x B T v) (q : ∀ H', Same H H' → Q false H') :
    tTest (tOp (rNeD K) (tCall (spBoxF K C) [] E0 (tCons (tVar 8) (tCons (tVar 10) tNil))) (tCall (spLDue K C) [] E0 (tCons (tVar 3) (tCons (tVar 5) (tCons (tVar 10) tNil))))) σ H Q := by
  have hvv := hv
  obtain ⟨hv, nB⟩ := hv
  rcases hv with hF | ⟨t, ch, an, al', ans, d0, d1, rfl, G⟩
  · refine ⟨_, e8, _, e10, x, v, T, rfl, hT, W, .inl ⟨hF.box W, fun r H1 s1 er => ?_⟩⟩
    refine ⟨_, e3, _, e5, _, e10, al, B, x, v, T, rfl, hA.mono (.same s1), hB.mono s1, W, hF.back s1 nB, .inl ⟨hF.mono s1, fun r' H2 s2 er' => ?_⟩⟩
    obtain ⟨d, h1, h2, ok⟩ := form_same (K := K) (s2 _ _ er) er'
    obtain ⟨sh, eq⟩ := ok_same ok
    refine ⟨d, d, h1, h2, sh, sh, _, rfl, ?_⟩
    rw [eq]
    exact q H2 (s1.trans s2)
  · refine ⟨_, e8, _, e10, x, _, T, rfl, hT, W, .inr ⟨t, ch, an, al', ans, d0, d1, rfl, G, fun fv H1 s1 hf => ?_⟩⟩
    refine ⟨_, e3, _, e5, _, e10, al, B, x, _, T, rfl, hA.mono (.same s1), hB.mono s1, W, (G.form (K := K) W).back s1 nB, .inr ⟨t, ch, an, al', ans, d0, d1, rfl, G.mono s1, fun fv' H2 s2 hf' => ?_⟩⟩
    obtain ⟨d, h1, h2, ok⟩ := fault_one5 (K := K) (hf.mono s2) hf'
    obtain ⟨sh, eq⟩ := ok_same ok
    refine ⟨d, d, h1, h2, sh, sh, _, rfl, ?_⟩
    rw [eq]
    exact q H2 (s1.trans s2)
theorem BarRes.mono {T : TD} {h a : Nat} {bs : List Nat} {fv : V} {H H' : Hp} (s : Same H H') (h1 : BarRes T h a bs fv H) : BarRes T h a bs fv H' := h1.imp id fun ⟨r, k, e, h2, h3⟩ => ⟨r, k, e, s _ _ h2, h3⟩
theorem bar_go {K : PySem.W.Frag} {C : Addr} {σ : L2.St} {H : Hp} {x al B : Addr} {T : TD} {v : V} {d : PyData} {Q : Bool → Hp → Prop} (e8 : σ[8]? = some (some (.ref x))) (e11 : σ[11]? = some (some v)) (e3 : σ[3]? = some (some (.ref al))) (e5 : σ[5]? = some (some (.ref B)))
    (hT : TaskAt C H x T) (W : WF T) (hA : AlAt H (.ref al) T.al) (hB : BoAt H B T.bo) (hv : Dp K H v d) (okb : okBarD d) (q : ∀ H', Same H H' → Q false H') :
    tTest (tOp (rNeD K) (tCall (spBarF K C) [] E0 (tCons (tVar 8) (tCons (tVar 11) tNil))) (tCall (spLBar K) [] E0 (tCons (tVar 3) (tCons (tVar 5) (tCons (tVar 11) tNil))))) σ H Q := by
  by_cases c : ∃ h a bs, BarG T d h a bs
  · obtain ⟨h, a, bs, g⟩ := c
    refine ⟨_, e8, _, e11, x, v, T, d, rfl, hT, W, hv, .inr ⟨h, a, bs, g, fun fv H1 s1 hf => ?_⟩⟩
    refine ⟨_, e3, _, e5, _, e11, al, B, v, T, d, rfl, hA.mono (.same s1), hB.mono s1, W, dp_mono s1 _ _ hv, okb, .inr ⟨h, a, bs, g, fun fv' H2 s2 hf' => ?_⟩⟩
    obtain ⟨d, h1, h2, ok⟩ := bar_one5 (K := K) (hf.mono s2) hf'
    obtain ⟨sh, eq⟩ := ok_same ok
    refine ⟨d, d, h1, h2, sh, sh, _, rfl, ?_⟩
    rw [eq]
    exact q H2 (s1.trans s2)
  · refine ⟨_, e8, _, e11, x, v, T, d, rfl, hT, W, hv, .inl ⟨c, fun r H1 s1 er => ?_⟩⟩
    refine ⟨_, e3, _, e5, _, e11, al, B, v, T, d, rfl, hA.mono (.same s1), hB.mono s1, W, dp_mono s1 _ _ hv, okb, .inl ⟨c, fun r' H2 s2 er' => ?_⟩⟩
    obtain ⟨d, h1, h2, ok⟩ := form_same (K := K) (s2 _ _ er) er'
    obtain ⟨sh, eq⟩ := ok_same ok
    refine ⟨d, d, h1, h2, sh, sh, _, rfl, ?_⟩
    rw [eq]
    exact q H2 (s1.trans s2)
end TA

set_option Elab.async false
set_option maxRecDepth 100000
set_option maxHeartbeats 4000000
set_option linter.unusedVariables false
namespace TA
open PySem L2 PyProof.Rows
/-! law -/
/-- what is left of the pairs, and what stands in the dict -/
structure LiW (st lf B : Addr) (T : TD) (H0 H : Hp) (rem : List (Addr × (IP × List (Int × Int)))) (done : BD) : Prop where
  hl : H lf = some (.lst (rem.map fun r => V.ref r.1))
  tp : ∀ r ∈ rem, H r.1 = some (.tup [.int ((r.2.1.1 : Nat) : Int), .int ((r.2.1.2 : Nat) : Int)])
  pm : (rem.map (·.2) ++ done).Perm T.bo
  hb : ∃ kvB, H B = some (.dT kvB) ∧ A2 (EnAt (vw (pA st) H0)) kvB done
  bt : But st H0 H
def spLaw (K : PySem.W.Frag) : Sp := fun vs H Q _ => ∃ (a : Addr) (ns : List Int), vs = [.ref a] ∧ SqL K H a (ns.map V.int) ∧ ns.length ≤ 63 ∧ ∀ H', Q (.bl true) H'
abbrev nLaw : List Str := ["_law_script", "_law_k", "_law_state", "_law_alone", "_law_rows", "_law_both", "_law_left", "_law_pair", "_law_task", "_law_word", "_law_thing", "_law_shut", "_law_kept"]
theorem sc_law : FnScope nLaw ["_law_script"] (defScope sLaw) := ⟨rfl, rfl, rfl, by decide +kernel, rfl, by decide +kernel, by decide +kernel⟩
section
variable {P : Program} {w : World} {K : PySem.W.Frag} {mg : Str → Option Value} {base : Heap}
theorem ok_law {f g1 g2 g3 g4 g5 g6 g7 g8 g9 g10 g11 g12 C : Addr} {fd d1 d2 d3 d4 d5 d6 d7 d8 d9 d10 d11 d12 : FuncData} (F : Fun K "law" "law" sLaw f fd) (T : Txt K mg) (T2 : Txt2 K mg) (Z : TxtC K mg C) (RP : mg "repr" = none) (Ce : Def P w K mg base "_law_cell_at" ["_law_script", "_law_k"] 1 (spCell K) g1 d1)
    (Dg : Def P w K mg base "_law_digit" ["_law_state", "_law_base"] 1 spDigit g2 d2) (Pa : Def P w K mg base "_law_parts" ["_law_state", "_law_most"] 3 spParts g3 d3) (Tk : KDef P w K mg base C "Task" ["self", "alone", "both"] 7 (spInit K C) g4 d4) (Bx : Def P w K mg base "boxed" ["task"] 5 (spBoxU K C) g5 d5)
    (Ab : Def P w K mg base "_law_any_bar" ["_law_state", "_law_alone"] 2 (spAnyBar K) g6 d6) (Dn : Def P w K mg base "_law_drawn" ["_law_state", "_law_alone", "_law_both"] 2 spDrawn g7 d7) (Sp : Def P w K mg base "_law_spoilt" ["_law_state", "_law_thing"] 2 (spSpoilt K C) g8 d8)
    (Bxf : Def P w K mg base "boxed_fault" ["task", "thing"] 7 (spBoxF K C) g9 d9) (Du : Def P w K mg base "_law_due" ["_law_alone", "_law_both", "_law_thing"] 4 (spLDue K C) g10 d10) (Bbf : Def P w K mg base "boxed_bar_fault" ["task", "thing"] 6 (spBarF K C) g11 d11) (Bd : Def P w K mg base "_law_bar_due" ["_law_alone", "_law_both", "_law_thing"] 2 (spLBar K) g12 d12)
    {g13 : Addr} {d13 : FuncData} (Fo : Def P w K mg base "_law_form" ["_law_alone", "_law_both", "_law_thing"] 3 (spLForm K C) g13 d13) : Quiet P w K mg base 9 f fd ["_law_script"] (spLaw K) := by
  refine quiet_of F sc_law (fun vs H Q E h => ?_) (fun cdv A outer s H vs Q E hgu hr h => ?_)
  · obtain ⟨a, ns, rfl, _⟩ := h
    rfl
  obtain ⟨a, ns, rfl, hS, h63, q⟩ := h
  have nd := sc_law.nd
  have hu := hu_of hr
  have hu65 := hu65_of hr
  refine ⟨_, (pss_cons (ps_for PassesOwn.never (by rfl) (pi_range1 (by rfl) T.range (pa_cons (pe_callB (call_max2 rfl) (by rfl) T2.max (by decide +kernel) (pa_cons pe_int (pa_cons (pe_callB (call_min2 rfl) (by rfl) T.min (by decide +kernel) (pa_cons pe_int (pa_cons (pe_callB call_len_seq (by rfl) T.len PySem.boot_len (pa_cons (pv 0) pa_nil)) pa_nil))) pa_nil))) pa_nil)) (pg_name (i := 1) nd rfl (Or.inl rfl))
      (pss_cons (ps_set (i := 2) nd rfl (Or.inl rfl) (pe_lst (pa_cons (pe_op op_add (pe_call Ce.G (hr.mono (by decide)) rfl Ce.m Ce.k Ce.b .nil pass0 (pa_cons (pv 0) (pa_cons (pv 1) pa_nil))) (pe_op op_mul pe_int (pv 1))) pa_nil)))
    (pss_cons (ps_asg (pe_call Pa.G (hr.mono (by decide)) rfl Pa.m Pa.k Pa.b .nil pass0 (pa_cons (pv 2) (pa_cons pe_int pa_nil))) (pg_tup (by rfl) (pgs_cons (pg_name (i := 3) nd rfl (Or.inl rfl)) (pgs_cons (pg_name (i := 4) nd rfl (Or.inl rfl)) pgs_nil))))
    (pss_cons (ps_set (i := 5) nd rfl (Or.inl rfl) pe_dnewT)
    (pss_cons (ps_set (i := 6) nd rfl (Or.inl rfl) (pe_callB (cr_sortedDT (d := 2) (B := 64) (by decide) rfl) (by rfl) T2.sorted (by decide +kernel) (pa_cons (pv 4) pa_nil)))
    (pss_cons (ps_while PassesOwn.never (pt_cmpR (op_neD hr.units) (pv 6) (pe_lst pa_nil) (nomark _))
      (pss_cons (ps_set (i := 7) nd rfl (Or.inl rfl) (pe_bm PySem.F.plainAttrs_list PySem.F.slot_list_pop PySem.F.type_list_pop mt_popAt (pv 6) (pa_cons (pe_call Dg.G (hr.mono (by decide)) rfl Dg.m Dg.k Dg.b .nil pass0 (pa_cons (pv 2) (pa_cons (pe_callB call_len_seq (by rfl) T.len PySem.boot_len (pa_cons (pv 6) pa_nil)) pa_nil))) pa_nil)))
    (pss_one (ps_dput hu (pv 5) (pv 7) (pe_dget hu (pv 4) (pv 7) (fun _ _ => rfl)) rfl))))
    (pss_cons (ps_set (i := 8) nd rfl (Or.inl rfl) (pe_make Tk.M Tk.G (hr.mono (by decide)) (by rfl) Tk.m Tk.b .nil pass0 (pa_cons (pv 3) (pa_cons (pv 5) pa_nil))))
    (pss_cons (ps_asg (pe_call Bx.G (hr.mono (by decide)) rfl Bx.m Bx.k Bx.b .nil pass0 (pa_cons (pv 8) pa_nil)) (pg_tup (by rfl) (pgs_cons (pg_name (i := 9) nd rfl (Or.inl rfl)) (pgs_cons (pg_name (i := 10) nd rfl (Or.inl rfl)) pgs_nil))))
    (pss_cons (ps_set (i := 11) nd rfl (Or.inl rfl) (pe_call Ab.G (hr.mono (by decide)) rfl Ab.m Ab.k Ab.b .nil pass0 (pa_cons (pv 2) (pa_cons (pv 3) pa_nil))))
    (pss_cons (ps_if (pt_cmpR op_eq (pv 9) pe_str (nomark _))
      (pss_cons (ps_set (i := 11) nd rfl (Or.inl rfl) (pe_ix ix_list (pe_lst (pa_cons (pv 10) (pa_cons (pv 11) pa_nil))) (pe_call Dg.G (hr.mono (by decide)) rfl Dg.m Dg.k Dg.b .nil pass0 (pa_cons (pv 2) (pa_cons pe_int pa_nil))) (fun _ _ => rfl)))
    (pss_one (ps_set (i := 10) nd rfl (Or.inl rfl) (pe_call Dn.G (hr.mono (by decide)) rfl Dn.m Dn.k Dn.b .nil pass0 (pa_cons (pv 2) (pa_cons (pv 3) (pa_cons (pv 5) pa_nil)))))))
      pss_nil)
    (pss_cons (ps_if (pt_cmpR op_gt (pe_call Dg.G (hr.mono (by decide)) rfl Dg.m Dg.k Dg.b .nil pass0 (pa_cons (pv 2) (pa_cons pe_int pa_nil))) pe_int (nomark _))
      (pss_one (ps_set (i := 10) nd rfl (Or.inl rfl) (pe_call Sp.G (hr.mono (by decide)) rfl Sp.m Sp.k Sp.b .nil pass0 (pa_cons (pv 2) (pa_cons (pv 10) pa_nil)))))
      pss_nil)
    (pss_cons (ps_set (i := 12) nd rfl (Or.inl rfl) (pe_callB (call_reprY hgu (Nat.lt_of_succ_lt hu65)) (by rfl) RP (by decide +kernel) (pa_cons (pe_tup (pa_cons (pv 10) (pa_cons (pv 11) pa_nil))) pa_nil)))
    (pss_cons (ps_if (pt_cmpR (op_neD hr.units) (pe_call Bxf.G (hr.mono (by decide)) rfl Bxf.m Bxf.k Bxf.b .nil pass0 (pa_cons (pv 8) (pa_cons (pv 10) pa_nil))) (pe_call Du.G (hr.mono (by decide)) rfl Du.m Du.k Du.b .nil pass0 (pa_cons (pv 3) (pa_cons (pv 5) (pa_cons (pv 10) pa_nil)))) (nomark _))
      (pss_one (ps_ret pe_bl))
      pss_nil)
    (pss_cons (ps_if (PW.pt (pw_or (pt_cmpR (op_neD hr.units) (pe_call Bbf.G (hr.mono (by decide)) rfl Bbf.m Bbf.k Bbf.b .nil pass0 (pa_cons (pv 8) (pa_cons (pv 11) pa_nil))) (pe_call Bd.G (hr.mono (by decide)) rfl Bd.m Bd.k Bd.b .nil pass0 (pa_cons (pv 3) (pa_cons (pv 5) (pa_cons (pv 11) pa_nil)))) (nomark _)) (pw_or1 (pt_cmpR op_ne (pe_callB (call_reprY hgu (Nat.lt_of_succ_lt hu65)) (by rfl) RP (by decide +kernel) (pa_cons (pe_tup (pa_cons (pv 10) (pa_cons (pv 11) pa_nil))) pa_nil)) (pv 12) (nomark _)))))
      (pss_one (ps_ret pe_bl))
      pss_nil)
    (pss_one (ps_if (pt_val (pe_call Fo.G (hr.mono (by decide)) rfl Fo.m Fo.k Fo.b .nil pass0 (pa_cons (pv 3) (pa_cons (pv 5) (pa_cons (pv 10) pa_nil)))))
      (pss_cons (ps_asg (pe_op op_mod (pe_op op_add (pe_ix ix_list (pe_ix ix_list (pe_ix ix_tup (pv 10) pe_int (fun _ _ => rfl)) pe_int (fun _ _ => rfl)) pe_int (fun _ _ => rfl)) pe_int) pe_int) (pg_sub (pe_ix ix_list (pe_ix ix_tup (pv 10) pe_int (fun _ _ => rfl)) pe_int (fun _ _ => rfl)) pe_int set_list))
    (pss_cons (ps_set (i := 7) nd rfl (Or.inl rfl) (pe_ix ix_list (pe_callB (cr_sortedDT (d := 2) (B := 64) (by decide) rfl) (by rfl) T2.sorted (by decide +kernel) (pa_cons (pv 5) pa_nil)) pe_int (fun _ _ => rfl)))
    (pss_cons (ps_dput hu (pe_ix ix_list (pe_ix ix_tup (pv 10) pe_int (fun _ _ => rfl)) pe_int (fun _ _ => rfl)) (pv 7) (pe_op op_mod (pe_op op_add (pe_dget hu (pe_ix ix_list (pe_ix ix_tup (pv 10) pe_int (fun _ _ => rfl)) pe_int (fun _ _ => rfl)) (pv 7) (fun _ _ => rfl)) pe_int) pe_int) rfl)
    (pss_one (ps_if (pt_cmpR (op_neD hr.units) (pe_call Bxf.G (hr.mono (by decide)) rfl Bxf.m Bxf.k Bxf.b .nil pass0 (pa_cons (pv 8) (pa_cons (pv 10) pa_nil))) (pe_call Du.G (hr.mono (by decide)) rfl Du.m Du.k Du.b .nil pass0 (pa_cons (pv 3) (pa_cons (pv 5) (pa_cons (pv 10) pa_nil)))) (nomark _))
      (pss_one (ps_ret pe_bl))
      pss_nil)))))
      pss_nil))))))))))))))))
    (pss_one (ps_ret pe_bl))), ?_⟩
  refine ⟨_, rfl, a, _, rfl, .inl hS, _, _, rfl, _, _, rfl, ?_⟩
  have hkk : ∀ j : Int, 1 ≤ (if (if j < 10 then j else 10) > 1 then (if j < 10 then j else 10) else 1) ∧ (if (if j < 10 then j else 10) > 1 then (if j < 10 then j else 10) else 1) ≤ 10 := fun j => by
    split <;> split <;> omega
  have hkk := hkk (((ns.map V.int).length : Nat) : Int)
  generalize (if (if (((ns.map V.int).length : Nat) : Int) < 10 then (((ns.map V.int).length : Nat) : Int) else 10) > 1 then (if (((ns.map V.int).length : Nat) : Int) < 10 then (((ns.map V.int).length : Nat) : Int) else 10) else 1) = kk at hkk ⊢
  refine ⟨kk, rfl, by omega, by omega, for_range (n := kk.toNat) (fun i σ Hc => ∃ g1 g2 g3 g4 g5 g6 g7 g8 g9 g10 g11 g12, σ = [some (.ref a), g1, g2, g3, g4, g5, g6, g7, g8, g9, g10, g11, g12] ∧ Same H Hc) ⟨_, _, _, _, _, _, _, _, _, _, _, _, rfl, Same.refl H⟩ ?_ ?_⟩
  rotate_left
  · rintro σ Hc ⟨_, _, _, _, _, _, _, _, _, _, _, _, rfl, sc⟩
    exact q Hc
  rintro i σ Hc hi ⟨k1, k2, k3, k4, k5, k6, k7, k8, k9, k10, k11, k12, rfl, sc⟩
  refine ⟨_, rfl, _, rfl, a, ns, _, rfl, sc.seq hS, by omega, by omega, fun c => ?_⟩
  refine ⟨_, rfl, _, _, rfl, rfl, .inl ⟨by decide, by decide⟩, _, _, rfl, rfl, (by show 1 ≤ sizeLine; decide), fun st hst => ?_⟩
  have s2 := same_new hst (.lst [V.int (c + 31 * (0 + (i : Int)))])
  refine ⟨_, rfl, st, 0, 3, rfl, .inl ⟨_, upd_same⟩, by decide, by decide, by decide, by decide, fun r al d D0 H3 b3 rn aln dn hr3 hA3 hrow w3 hW0 h30 hR hO h16 _ => ?_⟩
  have s13 : Same Hc H3 := b3.fresh s2 hst
  have nst : Hc st = none := hst
  clear b3 s2 rn aln dn
  refine ⟨r, _, rfl, SqT.of hr3, rfl, _, _, rfl, _, _, rfl, rfl, ?_⟩
  clear hr3
  obtain ⟨kvs, hd3, hE3⟩ := hrow
  -- both, left
  intro B hB
  have sB := same_new hB (.dT [])
  have nB : B ≠ st := Ne.symm (w3.ne hB)
  have eB : (upd H3 B (.dT [])) B = some (.dT []) := upd_same
  have w4 := w3.same sB
  have nBd : B ≠ d := Ne.symm (ne_of_none hd3 hB)
  have fB : H3 B = none := hB
  generalize upd H3 B (.dT []) = H4 at sB eB w4 ⊢
  have hE4 : A2 (EnAt H4) kvs D0.bo := hE3.imp fun _ _ r => r.mono (vw_kp.trans (.same sB))
  refine ⟨_, rfl, d, kvs, D0.bo.map (fun e => [((e.1.1 : Nat) : Int), ((e.1.2 : Nat) : Int)]), rfl, .inl (sB _ _ hd3), ?_, ?_, ?_, fun Lk lf p1 p2 p3 hlf => ?_⟩
  · rw [keys_of hE4, List.map_map, List.map_map]
    rfl
  · rw [List.length_map]
    omega
  · intro nss hns
    obtain ⟨e, he, rfl⟩ := List.mem_map.mp hns
    have := hW0.rng e he
    have := (hW0.n0 0 (by decide)).2
    have := (hW0.n0 1 (by decide)).2
    refine ⟨rfl, fun m hm => ?_⟩
    rcases List.mem_cons.mp hm with rfl | hm
    · omega
    · obtain rfl := List.mem_singleton.mp hm
      omega
  obtain ⟨rem0, er1, er2, er3⟩ := rem_of (keys_sorted hW0 p1 p2)
  have sK := same_new hlf (.lst (Lk.map fun q => V.ref q.1))
  have nlf : lf ≠ st := Ne.symm (w4.ne hlf)
  have eL : (upd H4 lf (.lst (Lk.map fun q => V.ref q.1))) lf = some (.lst (Lk.map fun q => V.ref q.1)) := upd_same
  have w5 := w4.same sK
  have nlB : B ≠ lf := ne_of_none eB hlf
  have eB := sK _ _ eB
  have p3 : ∀ q ∈ Lk, (upd H4 lf (.lst (Lk.map fun q => V.ref q.1))) q.1 = some (.tup (q.2.map V.int)) := fun q hq => sK _ _ (p3 q hq)
  have s35 := sB.trans sK
  have fl : H3 lf = none := none_of_same sB hlf
  rw [er1] at eL
  rw [er1] at sK p3 w5 eB s35
  rw [er1]
  generalize upd H4 lf (.lst (rem0.map fun r => V.ref r.1)) = H5 at sK p3 w5 eB s35 eL ⊢
  clear hlf sK p1 p2 w4 sB hE4
  refine asg_go ?_
  try dsimp only
  refine seq_go ?_
  have lr0 : rem0.length = D0.bo.length := by rw [← (sb_perm D0).length_eq, ← er2, List.length_map]
  refine ⟨fun m σ H' => ∃ g7 rem done, σ = [some (.ref a), some (.int (0 + (i : Int))), some (.ref st), some (.ref al), some (.ref d), some (.ref B), some (.ref lf), g7, k8, k9, k10, k11, k12] ∧ rem.length = m ∧ LiW st lf B D0 H3 H' rem done ∧ WellAt H' st (516 - (m : Int)), ⟨D0.bo.length, _, rem0, [], rfl, lr0, ⟨eL, fun r hr => ?_, by rw [er2, List.append_nil]; exact sb_perm D0, ⟨[], eB, .nil⟩, .same s35⟩, w5.up (by omega)⟩, ?_⟩
  · obtain ⟨q, hq, e1, e2⟩ := er3 r hr
    rw [← e1, p3 q hq, e2]
    rfl
  rintro m σ H' ⟨g7, rem, done, rfl, lm, li, wl⟩
  have mle : rem.length + done.length = D0.bo.length := by
    have := li.pm.length_eq
    rwa [List.length_append, List.length_map] at this
  refine ⟨_, rfl, (by show 0 ≤ sizeLine; decide), fun z hz => ?_⟩
  have sz := same_new hz (.lst [])
  have ez : (upd H' z (.lst [])) z = some (.lst []) := upd_same
  have li2 : LiW st lf B D0 H3 (upd H' z (.lst [])) rem done := ⟨sz _ _ li.hl, fun r hr => sz _ _ (li.tp r hr), li.pm, (by
    obtain ⟨kvB, h1, h2⟩ := li.hb
    exact ⟨kvB, sz _ _ h1, h2⟩), li.bt.trans (.same sz)⟩
  have wl2 := wl.same sz
  clear li wl
  generalize upd H' z (.lst []) = H6 at sz ez li2 wl2 ⊢
  clear sz hz
  refine ⟨_, _, .lst (SqL.of li2.hl) (dp_rem li2.tp), .lst (SqL.of ez) .nil, ?_, okD_nil.shaped (by decide), _, rfl, ?_⟩
  · have e : rem.map (fun r => pairD (iI r.2.1)) = (rem.map fun r => iI r.2.1).map pairD := by rw [List.map_map]; rfl
    rw [e]
    exact (okD_pairs _).shaped (by decide)
  rw [eqv_nil]
  by_cases hrem : rem = []
  case neg =>
    have lpos : 1 ≤ rem.length := by
      cases rem with
      | nil => exact absurd rfl hrem
      | cons r0 rem => exact Nat.succ_le_succ (Nat.zero_le _)
    refine iteT' (by
      cases rem with
      | nil => exact absurd rfl hrem
      | cons r0 rem => rfl) ⟨fun σ H' => ∃ m', m' < m ∧ ∃ g7 rem done, σ = [some (.ref a), some (.int (0 + (i : Int))), some (.ref st), some (.ref al), some (.ref d), some (.ref B), some (.ref lf), g7, k8, k9, k10, k11, k12] ∧ rem.length = m' ∧ LiW st lf B D0 H3 H' rem done ∧ WellAt H' st (516 - (m' : Int)), fun σ' H' h => h, ?_⟩
    refine ⟨_, rfl, .inl ⟨rfl, _, SqL.of li2.hl⟩, _, rfl, _, rfl, lf, _, rfl, .inl (SqL.of li2.hl), ?_⟩
    rw [List.length_map]
    refine ⟨st, 516 - (m : Int), _, rfl, .inr wl2, by omega, by omega, by omega, by omega, fun x H7 x0 x1 b7 w7 => ?_⟩
    obtain ⟨j, rfl⟩ : ∃ j : Nat, x = (j : Int) := ⟨x.toNat, by omega⟩
    have hj : j < rem.length := by omega
    have hjm : rem[j] ∈ rem := List.getElem_mem hj
    have hq := li2.tp _ hjm
    have nqa : rem[j].1 ≠ st := fun z => by
      obtain ⟨xs, ea⟩ := wl2.lst
      rw [z, ea] at hq
      cases hq
    have tp7 : ∀ r ∈ rem, H7 r.1 = some (.tup [.int ((r.2.1.1 : Nat) : Int), .int ((r.2.1.2 : Nat) : Int)]) := fun r hr => b7 _ _ (fun z => by
      obtain ⟨xs, ea⟩ := wl2.lst
      have := li2.tp r hr
      rw [z, ea] at this
      cases this) (li2.tp r hr)
    refine ⟨lf, _, _, j, .ref rem[j].1, rfl, rfl, b7 _ _ nlf li2.hl, by omega, by omega, ?_, by rw [List.getElem?_map, List.getElem?_eq_getElem hj]; rfl, ?_⟩
    · rw [List.length_map]
      exact (ixN_seq (j := j) (ixN_of hj)).1
    rw [← DT.map_erase]
    obtain ⟨kvB, hB6, aB6⟩ := li2.hb
    have hB7 := b7 _ _ nB hB6
    have nds : d ≠ st := by
      obtain ⟨xs, ea⟩ := w3.lst
      exact ne_of hd3 ea (fun z => by cases z)
    have hd7 : H7 d = some (.dT kvs) := (li2.bt.trans b7) _ _ nds hd3
    have nld : lf ≠ d := Ne.symm (ne_of_none hd3 fl)
    have bt7 := (li2.bt.trans b7).new (o := .lst ((rem.eraseIdx j).map fun r => V.ref r.1)) fl
    have w8 := w7.but (Ne.symm nlf) (But.at (a := lf) (H := H7) (o := .lst ((rem.eraseIdx j).map fun r => V.ref r.1)))
    have hl8 : (upd H7 lf (.lst ((rem.eraseIdx j).map fun r => V.ref r.1))) lf = some (.lst ((rem.eraseIdx j).map fun r => V.ref r.1)) := upd_same
    have hd8 : (upd H7 lf (.lst ((rem.eraseIdx j).map fun r => V.ref r.1))) d = some (.dT kvs) := by rw [upd_ne (Ne.symm nld)]; exact hd7
    have hB8 : (upd H7 lf (.lst ((rem.eraseIdx j).map fun r => V.ref r.1))) B = some (.dT kvB) := by rw [upd_ne nlB]; exact hB7
    have tp8 : ∀ r ∈ rem, (upd H7 lf (.lst ((rem.eraseIdx j).map fun r => V.ref r.1))) r.1 = some (.tup [.int ((r.2.1.1 : Nat) : Int), .int ((r.2.1.2 : Nat) : Int)]) := fun r hr => by
      rw [upd_ne (fun z => by have := tp7 r hr; rw [z, b7 _ _ nlf li2.hl] at this; cases this)]
      exact tp7 r hr
    generalize upd H7 lf (.lst ((rem.eraseIdx j).map fun r => V.ref r.1)) = H8 at bt7 w8 hl8 hd8 hB8 tp8 ⊢
    have hm0 : rem[j].2 ∈ D0.bo := li2.pm.mem_iff.mp (List.mem_append.mpr (.inl (List.mem_map.mpr ⟨_, hjm, rfl⟩)))
    obtain ⟨v, hv, hLet⟩ := val_at hE3 hW0.srt _ hm0
    refine ⟨_, rfl, _, rfl, d, v, rfl, by rw [← hv]; exact DGet.t (k := kI rem[j].2.1) hd8 (tp8 _ hjm), ?_⟩
    have dne : ∀ e ∈ done, e.1 ≠ rem[j].2.1 := fun e he c => by
      have nd : ((rem.map (·.2) ++ done).map (·.1)).Nodup := (li2.pm.map (·.1)).nodup_iff.mpr (show (D0.bo.map (·.1)).Nodup from hW0.srt)
      rw [List.map_append, List.nodup_append] at nd
      exact nd.2.2 rem[j].2.1 (List.mem_map.mpr ⟨_, List.mem_map.mpr ⟨_, hjm, rfl⟩, rfl⟩) e.1 (List.mem_map.mpr ⟨e, he, rfl⟩) c.symm
    refine ⟨_, rfl, _, rfl, B, _, rfl, DPut.t (k := kI rem[j].2.1) hB8 (tp8 _ hjm) ?_, ?_⟩
    · rw [aB6.len]
      exact Nat.lt_of_le_of_lt (show done.length ≤ 100 by omega) (by decide)
    rw [putK_new _ (val_no aB6 dne)]
    refine ⟨m - 1, by omega, _, rem.eraseIdx j, done ++ [rem[j].2], rfl, by rw [List.length_eraseIdx_of_lt hj, lm], ⟨by rw [upd_ne (Ne.symm nlB)]; exact hl8, fun r hr => ?_, ?_, ⟨_, upd_same, aB6.app (.cons ⟨rfl, hLet⟩ .nil)⟩, bt7.new fB⟩, (w8.but (Ne.symm nB) But.at).up (by omega)⟩
    · have hr := List.mem_of_mem_eraseIdx hr
      rw [upd_ne (fun z => by have := tp8 r hr; rw [z, hB8] at this; cases this)]
      exact tp8 r hr
    · refine List.Perm.trans ?_ li2.pm
      have p1 := (erase_permG rem j hj).map (·.2)
      refine List.Perm.trans ?_ (List.Perm.append_right done p1)
      rw [List.map_cons, List.cons_append]
      have : (rem.eraseIdx j).map (·.2) ++ (done ++ [rem[j].2]) = ((rem.eraseIdx j).map (·.2) ++ done) ++ [rem[j].2] := (List.append_assoc _ _ _).symm
      rw [this]
      exact List.perm_append_singleton _ _
  refine iteF' (by rw [hrem]; rfl) ?_
  subst hrem
  have m0 : m = 0 := lm.symm
  subst m0
  obtain ⟨kvB, hB6, aB6⟩ := li2.hb
  have pm : done.Perm D0.bo := by
    have := li2.pm
    rwa [List.map_nil, List.nil_append] at this
  have b36 := li2.bt
  have w6 : WellAt H6 st 520 := wl2.up (by omega)
  have hA6 := hA3.mono (vwA_but b36)
  have aB6 := aB6.imp fun _ _ r => r.mono (vwA_but b36)
  have hW : WF ⟨D0.al, done⟩ := hW0.shuffle pm
  have l16 : done.length ≤ 16 := by rw [pm.length_eq]; exact h16
  have s16 : Same Hc H6 := b36.fresh s13 nst
  have nBs := nB
  have hBold : H6 B ≠ none := by rw [hB6]; exact fun z => by cases z
  clear li2 wl2 b36 eL p3 s35 w5 eB er1 er2 er3 lr0 ez hA3 hE3 hd3 w3 s13 fl fB nlB nBd mle rem0
  generalize hT' : (⟨D0.al, done⟩ : TD) = D at hW
  have eal : D.al = D0.al := by rw [← hT']
  have ebo : D.bo = done := by rw [← hT']
  have hA6 : AlAt (vw (pA st) H6) (.ref al) D.al := by rw [eal]; exact hA6
  have aB6 : A2 (EnAt (vw (pA st) H6)) kvB D.bo := by rw [ebo]; exact aB6
  have h4 : ∀ h, h < 2 → (D.al h).length ≤ 4 := fun h hh => by
    rw [eal]
    have := h30 h hh
    omega
  have l16 : D.bo.length ≤ 16 := by rw [ebo]; exact l16
  have hR4 : ∀ h, h < 2 → ∀ r ∈ D.al h, r.length ≤ 4 := fun h hh r hr => (hR h hh r (by rw [← eal]; exact hr)).1
  clear hT' eal ebo pm hR hO h16 h30 hW0 hi
  refine ⟨_, rfl, _, rfl, ?_⟩
  intro x dx nx ndx nex
  have s4 : Same H6 (upd (upd H6 dx (.own x)) x (.ins C dx [])) := fun b o e => by
    rw [upd_ne (ne_of_none e nx), upd_ne (ne_of_none e ndx)]
    exact e
  refine ⟨x, dx, al, B, D, rfl, upd_same, (hA6.mono vw_kp).mono (.same s4), ⟨kvB, s4 _ _ hB6, aB6.imp fun _ _ r => r.mono (vw_kp.trans (.same s4))⟩, hW, fun H7 b7 hnew => ⟨rfl, ?_⟩⟩
  have s7 : Same H6 H7 := fun b o e => b7 _ _ (ne_of_none e nx) (s4 _ _ e)
  have w7 := w6.same s7
  obtain ⟨z6, ea6⟩ := w6.lst
  have hTk := hnew.vt (s4 _ _ ea6) (s7 _ _ ea6)
  have hA7 := hA6.mono (vwA_but (.same s7))
  have aB7 := aB6.imp fun _ _ r => r.mono (vwA_but (.same s7))
  have hB7 := s7 _ _ hB6
  have s17 : Same Hc H7 := s16.trans s7
  have hst7 : H7 st ≠ none := by
    rw [s7 _ _ ea6]
    exact fun z => by cases z
  have hBo : H7 B ≠ none := by
    rw [hB7]
    exact fun z => by cases z
  have hlTk : ∀ {Hn : Hp}, But st H7 Hn → Same (vw (pA st) H7) (vw (pA st) Hn) := fun b => vw_same b
  clear s4 s7 b7 hnew nex ndx nx hA6 aB6 hB6 w6 ea6 s16 hBold
  -- boxed
  refine ⟨_, rfl, x, D, rfl, hTk.mono (fun b o e => (vw_some e).2), hW, fun H8 r t wd s8 er hbx => ?_⟩
  refine ⟨r, _, rfl, SqT.of er, rfl, _, _, rfl, _, _, rfl, rfl, ?_⟩
  have w8 := w7.same s8
  have b78 : But st H7 H8 := .same s8
  refine ⟨_, rfl, _, rfl, st, al, 520, D, rfl, w8, by decide, by decide, hW, h4, hR4, hA7.mono (vwA_but b78), fun v11 H9 b9 w9 hd9 sh9 => ?_⟩
  have b79 := b78.trans b9
  try dsimp only
  refine asg_go ?_
  try dsimp only
  refine seq_go ?_
  refine ⟨_, rfl, rfl, _, rfl, ?_⟩
  refine join2f (fun σ Hn => ∃ v9 v10 v11, σ = [some (.ref a), some (.int (0 + (i : Int))), some (.ref st), some (.ref al), some (.ref d), some (.ref B), some (.ref lf), g7, some (.ref x), v9, some v10, some v11, k12] ∧ But st H7 Hn ∧ WellAt Hn st 700 ∧ GoodN C H7 (vw (pA st) Hn) x D v10 ∧ (∃ e, Dp K (vw (pA st) Hn) v11 e ∧ okBarD e) ∧ ShX K (vw (pA st) Hn) 3000 8 v11) (fun hb => ?_) ?_ (fun hb k => ?_)
  case refine_1 =>
    rcases hbx with ⟨rfl, ch, al', an, r0, r1, d0, d1, bx, hl, hg⟩ | ⟨rfl, _⟩
    · obtain ⟨xx, yy, zz, ea8, _⟩ := w8
      have bv := bx.view ea8 hst7 b9
      exact ⟨_, _, _, rfl, b79, w9.up (by decide), ⟨t, ch, fun h e => ansO ch h e, al', an, d0, d1, rfl, bv.good hW (hlTk b79) hTk hl hg, ⟨r0, r1, bv.h_al, bv.nr, bx.f0⟩, bx.nd, bx.f2, bx.f1⟩, hd9, sh9⟩
    · rw [decide_eq_true rfl] at hb
      cases hb
  case refine_3 =>
    rcases hbx with ⟨rfl, _⟩ | ⟨rfl, l, hb_, aa, ht8, hl8, nl, hh2, ha2⟩
    · exact absurd (of_decide_eq_true hb) (by decide)
    refine ⟨_, rfl, _, rfl, (by show 2 ≤ sizeLine; decide), fun z hz => ?_⟩
    have sz := same_new hz (.lst [.ref t, v11])
    have ez : (upd H9 z (.lst [.ref t, v11])) z = some (.lst [.ref t, v11]) := upd_same
    have nz : z ≠ st := Ne.symm (w9.ne hz)
    have w10 := w9.same sz
    have b10 := b79.trans (.same sz)
    have v910 := vw_same (a := st) (.same sz)
    have b810 := b9.trans (.same sz)
    generalize upd H9 z (.lst [.ref t, v11]) = H10 at sz ez w10 b10 v910 b810 ⊢
    refine ⟨_, rfl, st, 540, 2, rfl, .inr w10, by decide, by decide, by decide, by decide, fun xi H11 x0 x1 b11 w11 => ?_⟩
    obtain ⟨j, rfl⟩ : ∃ j : Nat, xi = (j : Int) := ⟨xi.toNat, by omega⟩
    have hj : j < 2 := by omega
    have b711 := b10.trans b11
    have v911 := v910.trans (vw_same b11)
    have nlst : l ≠ st := fun e => hst7 (by rw [← e]; exact nl)
    obtain ⟨xs8, ea8⟩ := w8.lst
    have ntst : t ≠ st := ne_of ht8 ea8 (fun z => by cases z)
    have vt : vw (pA st) H11 t = some (.tup [.int (hb_ : Int), .int (aa : Int), .ref l]) := vw_put (pA_ok.mpr ntst) (b11 _ _ ntst (b810 _ _ ntst ht8))
    have vl := vw_put (pA_ok.mpr nlst) (b11 _ _ nlst (b810 _ _ nlst hl8))
    have rowl : ((D.al hb_).getD aa []).length ≤ 4 := by
      rw [List.getD_eq_getElem?_getD, List.getElem?_eq_getElem ha2]
      exact hR4 hb_ hh2 _ (List.getElem_mem ha2)
    obtain ⟨tb1, tb2⟩ := bar_told (K := K) hW h4 rowl hh2 ha2 vt vl
    obtain ⟨v, hv, dv, sv⟩ : ∃ v, ([V.ref t, v11] : List V)[j]? = some v ∧ (∃ e, Dp K (vw (pA st) H11) v e ∧ okBarD e) ∧ ShX K (vw (pA st) H11) 3000 8 v := by
      obtain rfl | rfl : j = 0 ∨ j = 1 := by omega
      · exact ⟨_, rfl, tb1, tb2⟩
      · obtain ⟨e, h1, h2⟩ := hd9
        exact ⟨_, rfl, ⟨e, dp_mono v911 _ _ h1, h2⟩, sh9.mono v911⟩
    refine ⟨z, _, _, v, rfl, rfl, SqL.of (b11 _ _ nz ez), atI_nat hv, ?_⟩
    refine ⟨_, rfl, _, rfl, _, rfl, st, al, B, 541, D, rfl, w11, by decide, by decide, hW, h4, l16, hA7.mono (vwA_but b711), ⟨kvB, b711 _ _ nBs hB7, aB7.imp fun _ _ r => r.mono (vwA_but b711)⟩, fun t' cal ans d0 d1 ch an H12 b12 w12 nt ncal nans nd0 nd1 hDr hrw ndd => ?_⟩
    obtain ⟨r0, r1, hrows, nr, nr0⟩ := hrw
    obtain ⟨e, h1, h2⟩ := dv
    have v12 := vw_same b12
    have f0 := b711.free w11 nd0
    have f1 := b711.free w11 nd1
    exact k _ _ ⟨_, _, _, rfl, b711.trans b12, w12.up (by decide), ⟨t', ch, an, cal, ans, d0, d1, rfl, hDr.good (.new (hlTk (b711.trans b12)) hTk (vw_none f0)) (.new (hlTk (b711.trans b12)) hTk (vw_none f1)), ⟨r0, r1, hrows, nr, b711.free w11 nr0⟩, ndd, f0, f1⟩, ⟨e, dp_mono v12 _ _ h1, h2⟩, sv.mono v12⟩
  clear hbx hd9 sh9 b9 w9 w8 b78 b79 s8 er hR4
  rintro σ H10 ⟨v9, v10, v11, rfl, b710, w10, hG, ⟨e11, hd10, okb⟩, sh10⟩
  try dsimp only
  refine seq_go ?_
  refine ⟨_, rfl, st, 700, 3, rfl, .inr w10, by decide, by decide, by decide, by decide, fun xi H11 x0 x1 b11 w11 => ?_⟩
  refine ⟨_, _, rfl, rfl, _, rfl, ?_⟩
  have b711 := b710.trans b11
  have v1011 := vw_same b11
  have hG11 := hG.mono v1011
  refine join2f (fun σ Hn => ∃ v9 v10 v11, σ = [some (.ref a), some (.int (0 + (i : Int))), some (.ref st), some (.ref al), some (.ref d), some (.ref B), some (.ref lf), g7, some (.ref x), v9, some v10, some v11, k12] ∧ But st H7 Hn ∧ (∃ zs, Hn st = some (.lst zs)) ∧ SpoltIs K C H7 (vw (pA st) Hn) x D v10 ∧ (∃ e, Dp K (vw (pA st) Hn) v11 e ∧ okBarD e) ∧ ShX K (vw (pA st) Hn) 3000 8 v11) (fun _ => ⟨_, _, _, rfl, b711, w11.lst, hG11.spolt hW h4 l16, ⟨e11, dp_mono v1011 _ _ hd10, okb⟩, sh10.mono v1011⟩) ?_ (fun _ k => ?_)
  case refine_2 =>
    obtain ⟨t, ch, an, al', ans, d0, d1, rfl, G, _⟩ := hG11
    refine ⟨_, rfl, _, rfl, st, x, t, 701, D, ch, an, al', ans, d0, d1, rfl, w11, by decide, by decide, hW, h4, l16, G, hTk.mono (hlTk b711), fun v H12 b12 w12 hsp => ?_⟩
    have v12 := v1011.trans (vw_same b12)
    exact k _ _ ⟨_, _, _, rfl, b711.trans b12, w12.lst, hsp.back b711 w11, ⟨e11, dp_mono v12 _ _ hd10, okb⟩, sh10.mono v12⟩
  clear hG11 v1011 b711 w11 b11 hG hd10 sh10 w10 b710 okb
  rintro σ H12 ⟨v9, v10, v11, rfl, b712, ⟨zs, ez12⟩, hSp, ⟨e11, hde, okb⟩, sh12⟩
  have v1 : Same (vw (pA st) H12) H12 := fun b o e => (vw_some e).2
  have hX12 : ThingX K C H12 x B D v10 := ThingX.mono hW v1 ⟨hSp.1.imp id fun ⟨t, ch, an, al', ans, d0, d1, e, G, _⟩ => ⟨t, ch, an, al', ans, d0, d1, e, G⟩, hSp.2.1 B hBo⟩
  obtain ⟨d10, y10, t10⟩ := hSp.2.2.mono v1
  obtain ⟨d11, x11, t11⟩ := sh12.mono v1
  have tt : Tiny (.tuple [d10, d11]) 40002 10 := tiny_tuple (w := 20000) (n := 9) (m := 2) (fun d hd => by
    rcases List.mem_cons.mp hd with rfl | hd
    · exact t10
    · rw [List.mem_singleton.mp hd]
      exact t11.up (by decide) (by decide)) (Nat.le_refl _)
  have hT12 := (hTk.mono (hlTk b712)).mono v1
  have hA12 := (hA7.mono (vwA_but b712)).mono vw_kp
  have hB12 : BoAt H12 B D.bo := ⟨kvB, b712 _ _ nBs hB7, aB7.imp fun _ _ r => r.mono ((vwA_but b712).trans vw_kp)⟩
  have de12 := dp_mono v1 _ _ hde
  have s112 : Same Hc H12 := b712.fresh s17 nst
  unfold tNext
  dsimp only
  refine seq_go ?_
  refine ⟨_, rfl, _, rfl, (by show 2 ≤ sizeLine; decide), fun tu htu => ?_⟩
  have sb := same_new htu (.tup [v10, v11])
  refine ⟨tu, [v10, v11], [d10, d11], rfl, SqT.of upd_same, rfl, dy_two (dy_mono sb y10) (.even (dx_mono sb x11)), tt.s, Nat.le_trans tt.d (by decide), tiny_shown tt (by decide), ?_⟩
  generalize upd H12 tu (.tup [v10, v11]) = H13 at sb ⊢
  refine asg_go ?_
  dsimp only
  refine seq_go ?_
  refine if_go ?_
  refine judge_go (T := D) rfl rfl rfl rfl (hT12.mono sb) hW (hA12.mono (.same sb)) (hB12.mono sb) (hX12.mono hW sb) (fun H14 s14 => iteF' rfl ?_)
  have sb := sb.trans s14
  clear s14 htu
  unfold tNext
  dsimp only
  refine seq_go ?_
  refine if_go ?_
  refine or_go ?_
  refine bar_go (T := D) (d := e11) rfl rfl rfl rfl (hT12.mono sb) hW (hA12.mono (.same sb)) (hB12.mono sb) (dp_mono sb _ _ de12) okb (fun H15 s15 => iteF' rfl ?_)
  have sb := sb.trans s15
  clear s15
  refine ⟨_, rfl, _, rfl, (by show 2 ≤ sizeLine; decide), fun tu2 htu2 => ?_⟩
  have sb2 := sb.trans (same_new htu2 (.tup [v10, v11]))
  refine ⟨tu2, [v10, v11], [d10, d11], rfl, SqT.of upd_same, rfl, dy_two (dy_mono sb2 y10) (.even (dx_mono sb2 x11)), tt.s, Nat.le_trans tt.d (by decide), tiny_shown tt (by decide), ?_⟩
  generalize upd H15 tu2 (.tup [v10, v11]) = H16 at sb2 ⊢
  refine ⟨_, rfl, rfl, _, rfl, iteF' (by simp) ?_⟩
  unfold tNext
  dsimp only
  refine if_go ?_
  have hBV : BoAt (vw (pA st) H7) B D.bo := ⟨kvB, vw_put (pA_ok.mpr nBs) hB7, aB7⟩
  rcases hSp.1 with hF | ⟨t, ch, an, al', ans, d0, d1, rfl, G, ⟨r0, r1, hr, nr, nr0⟩, ndd, n0, n1⟩
  · refine ⟨_, rfl, _, rfl, _, rfl, al, B, x, v10, D, false, rfl, hA12.mono (.same sb2), hB12.mono sb2, hW, (hF.mono v1).mono sb2, (hX12.mono hW sb2).2, fun H17 s17 => ⟨_, rfl, iteF' rfl ?_⟩⟩
    exact ⟨_, _, _, _, _, _, _, _, _, _, _, _, rfl, sc.trans (s112.trans (sb2.trans s17))⟩
  refine ⟨_, rfl, _, rfl, _, rfl, al, B, x, .ref t, D, true, rfl, hA12.mono (.same sb2), hB12.mono sb2, hW, ((G.mono v1).mono sb2).form hW, (hX12.mono hW sb2).2, fun H17 s17_ => ⟨_, rfl, iteT' rfl ?_⟩⟩
  have G17 := ((G.mono v1).mono sb2).mono s17_
  have hr17 := s17_ _ _ (sb2 _ _ (v1 _ _ hr))
  have S17 := (hlTk b712).trans (v1.trans (sb2.trans s17_))
  have C17 := s112.trans (sb2.trans s17_)
  obtain ⟨tc, cxs, ec, hcal, car⟩ := id G17.hal
  obtain rfl : al' = tc := by injection ec
  obtain rfl : cxs = [.ref r0, .ref r1] := by
    rw [hr17] at hcal
    injection hcal with hcal
    injection hcal with hcal
    exact hcal.symm
  obtain ⟨hq0, hq1⟩ : H17 r0 = some (.lst ((ch 0).map V.int)) ∧ H17 r1 = some (.lst ((ch 1).map V.int)) := by
    cases car with
    | cons z0 car =>
    cases car with
    | cons z1 car =>
    obtain ⟨q0, e0, h0⟩ := z0
    obtain ⟨q1, e1, h1⟩ := z1
    injection e0 with e0
    injection e1 with e1
    rw [e0, e1]
    exact ⟨h0, h1⟩
  obtain ⟨B0, p0, hd0⟩ := G17.h0
  obtain ⟨B1, p1, hd1⟩ := G17.h1
  obtain ⟨c0, cs, ech⟩ : ∃ c0 cs, ch 0 = c0 :: cs := by
    have l0 := G17.len 0 (by decide)
    have l1 := (hW.n0 0 (by decide)).1
    cases c : ch 0 with
    | nil =>
      rw [c] at l0
      have l0 : 0 = (D.al 0).length := l0
      omega
    | cons z zs => exact ⟨z, zs, rfl⟩
  have ix0 : ((ch 0).map V.int)[0]? = some (.int c0) := by rw [ech]; rfl
  have oc0 := G17.outc 0 (by decide) c0 (by rw [ech]; exact List.mem_cons_self)
  have ht17 := G17.ht
  have hans17 := G17.hans
  refine ⟨_, rfl, t, _, _, _, rfl, rfl, SqT.of ht17, atI_nat (j := 0) rfl, al', _, _, _, rfl, rfl, SqL.of hr17, atI_nat (j := 0) rfl, r0, _, _, _, rfl, rfl, SqL.of hq0, atI_nat (j := 0) ix0, _, _, rfl, rfl, _, _, rfl, rfl, (by show (0 : Int) < 64; decide), ?_⟩
  refine ⟨_, rfl, t, _, _, _, rfl, rfl, SqT.of ht17, atI_nat (j := 0) rfl, al', _, _, _, rfl, rfl, SqL.of hr17, atI_nat (j := 0) rfl, r0, _, _, 0, rfl, rfl, hq0, ixN_of (j := 0) (by rw [ech, List.length_map]; exact Nat.succ_pos _), ?_⟩
  have nint : ∀ {q : Addr} {u v : Addr}, H17 q = some (.lst [.ref u, .ref v]) → q ≠ r0 := fun {q u v} h e => by
    rw [e, hq0, ech] at h
    injection h with h
    injection h with h
    injection h with h _
    cases h
  have e18 : ((ch 0).map V.int).set 0 (.int ((c0 + 1) % 64)) = (setCh ch 0 ((ch 0).set 0 ((c0 + 1) % 64)) 0).map V.int := by
    unfold setCh
    rw [if_pos rfl, List.map_set]
  rw [e18]
  have ht18 := (upd_ne (o := .lst ((setCh ch 0 ((ch 0).set 0 ((c0 + 1) % 64)) 0).map V.int)) (ne_of ht17 hq0 (fun z => by cases z))).trans ht17
  have hr18 := (upd_ne (o := .lst ((setCh ch 0 ((ch 0).set 0 ((c0 + 1) % 64)) 0).map V.int)) (nint hr17)).trans hr17
  have hans18 := (upd_ne (o := .lst ((setCh ch 0 ((ch 0).set 0 ((c0 + 1) % 64)) 0).map V.int)) (nint hans17)).trans hans17
  have hq1_18 := (upd_ne (o := .lst ((setCh ch 0 ((ch 0).set 0 ((c0 + 1) % 64)) 0).map V.int)) (Ne.symm nr)).trans hq1
  have hd0_18 := (upd_ne (o := .lst ((setCh ch 0 ((ch 0).set 0 ((c0 + 1) % 64)) 0).map V.int)) (ne_of hd0 hq0 (fun z => by cases z))).trans hd0
  have hd1_18 := (upd_ne (o := .lst ((setCh ch 0 ((ch 0).set 0 ((c0 + 1) % 64)) 0).map V.int)) (ne_of hd1 hq0 (fun z => by cases z))).trans hd1
  have hq0_18 : (upd H17 r0 (.lst ((setCh ch 0 ((ch 0).set 0 ((c0 + 1) % 64)) 0).map V.int))) r0 = some (.lst ((setCh ch 0 ((ch 0).set 0 ((c0 + 1) % 64)) 0).map V.int)) := upd_same
  have S18 := same_upd (p := r0) (o := .lst ((setCh ch 0 ((ch 0).set 0 ((c0 + 1) % 64)) 0).map V.int)) S17 (vw_none nr0)
  have C18 := same_upd (p := r0) (o := .lst ((setCh ch 0 ((ch 0).set 0 ((c0 + 1) % 64)) 0).map V.int)) C17 (none_of_same s17 nr0)
  generalize upd H17 r0 (.lst ((setCh ch 0 ((ch 0).set 0 ((c0 + 1) % 64)) 0).map V.int)) = H18 at ht18 hr18 hans18 hq1_18 hd0_18 hd1_18 hq0_18 S18 C18 ⊢
  obtain ⟨kv8, hB18, aB18⟩ := hBV.mono S18
  try dsimp only
  refine seq_go ?_
  refine ⟨_, rfl, B, kv8, D.bo.map (fun e => [((e.1.1 : Nat) : Int), ((e.1.2 : Nat) : Int)]), rfl, .inl hB18, ?_, ?_, ?_, fun Lk lk q1 q2 q3 hlk => ?_⟩
  · rw [keys_of aB18, List.map_map, List.map_map]
    rfl
  · rw [List.length_map]
    omega
  · intro nss hns
    obtain ⟨e, he, rfl⟩ := List.mem_map.mp hns
    have := hW.rng e he
    have := (hW.n0 0 (by decide)).2
    have := (hW.n0 1 (by decide)).2
    refine ⟨rfl, fun m hm => ?_⟩
    rcases List.mem_cons.mp hm with rfl | hm
    · omega
    · obtain rfl := List.mem_singleton.mp hm
      omega
  have sk := same_new hlk (.lst (Lk.map fun q => V.ref q.1))
  have elk : (upd H18 lk (.lst (Lk.map fun q => V.ref q.1))) lk = some (.lst (Lk.map fun q => V.ref q.1)) := upd_same
  have q3 : ∀ q ∈ Lk, (upd H18 lk (.lst (Lk.map fun q => V.ref q.1))) q.1 = some (.tup (q.2.map V.int)) := fun q hq => sk _ _ (q3 q hq)
  have ht19 := sk _ _ ht18
  have hr19 := sk _ _ hr18
  have hans19 := sk _ _ hans18
  have hq1_19 := sk _ _ hq1_18
  have hd0_19 := sk _ _ hd0_18
  have hd1_19 := sk _ _ hd1_18
  have hq0_19 := sk _ _ hq0_18
  have S19 := S18.trans sk
  have C19 := C18.trans sk
  generalize upd H18 lk (.lst (Lk.map fun q => V.ref q.1)) = H19 at sk elk q3 ht19 hr19 hans19 hq1_19 hd0_19 hd1_19 hq0_19 S19 C19 ⊢
  have eLk := keys_sorted hW q1 q2
  obtain ⟨e0, he0, q_, hq_, eq_⟩ : ∃ e0 ∈ D.bo, ∃ q, Lk[0]? = some q ∧ q.2 = [((e0.1.1 : Nat) : Int), ((e0.1.2 : Nat) : Int)] := by
    obtain ⟨e, he, _⟩ := hW.com0 0 (by have := hW.n0 0 (by decide); omega)
    have l1 : 0 < (TA.sb D).length := List.length_pos_of_mem (sb_mem.mpr he)
    have h0 : (TA.sb D)[0]? = some (TA.sb D)[0] := List.getElem?_eq_getElem l1
    have h1 : (Lk.map (·.2))[0]? = some [(((TA.sb D)[0].1.1 : Nat) : Int), (((TA.sb D)[0].1.2 : Nat) : Int)] := by rw [eLk, List.getElem?_map, h0]; rfl
    rw [List.getElem?_map] at h1
    obtain ⟨q, g1, g2⟩ := Option.map_eq_some_iff.mp h1
    exact ⟨_, sb_mem.mp (List.getElem_mem l1), q, g1, g2⟩
  have htq := q3 q_ (List.mem_of_getElem? hq_)
  rw [eq_] at htq
  refine ⟨lk, _, _, _, rfl, rfl, SqL.of elk, atI_nat (j := 0) (by rw [List.getElem?_map, hq_]; rfl), ?_⟩
  try dsimp only
  refine seq_go ?_
  have he1 : e0 ∈ B1 := p1.mem_iff.mpr he0
  have hval : valV (anKV an 1 B1) (kI e0.1) = some (.int (an 1 e0)) := anKV_at (perm_ne hW p1) an 1 e0 he1
  refine ⟨_, rfl, t, _, _, _, rfl, rfl, SqT.of ht19, atI_nat (j := 1) rfl, ans, _, _, _, rfl, rfl, SqL.of hans19, atI_nat (j := 1) rfl, _, rfl, d1, .int (an 1 e0), rfl, by rw [← hval]; exact DGet.t (k := kI e0.1) hd1_19 htq, _, _, rfl, rfl, _, _, rfl, rfl, (by show (0 : Int) < 5; decide), ?_⟩
  refine ⟨_, rfl, t, _, _, _, rfl, rfl, SqT.of ht19, atI_nat (j := 1) rfl, ans, _, _, _, rfl, rfl, SqL.of hans19, atI_nat (j := 1) rfl, _, rfl, d1, _, rfl, DPut.t (k := kI e0.1) hd1_19 htq ?_, ?_⟩
  · unfold anKV
    rw [List.length_map, p1.length_eq]
    exact Nat.lt_of_le_of_lt l16 (by decide)
  rw [putK_map an 1 _ e0 he1]
  have oa0 := G17.outa 1 (by decide) e0 he0
  have S20 := same_upd (p := d1) (o := .dT (anKV (setAn an 1 e0.1 ((an 1 e0 + 1) % 5)) 1 B1)) S19 (vw_none n1)
  have C20 := same_upd (p := d1) (o := .dT (anKV (setAn an 1 e0.1 ((an 1 e0 + 1) % 5)) 1 B1)) C19 (none_of_same s17 n1)
  have G20 : GoodB C (upd H19 d1 (.dT (anKV (setAn an 1 e0.1 ((an 1 e0 + 1) % 5)) 1 B1))) x t D (setCh ch 0 ((ch 0).set 0 ((c0 + 1) % 64))) (setAn an 1 e0.1 ((an 1 e0 + 1) % 5)) al' ans d0 d1 := by
    refine ⟨?_, ⟨al', _, rfl, ?_, .cons ⟨r0, rfl, ?_⟩ (.cons ⟨r1, rfl, ?_⟩ .nil)⟩, ?_, ⟨B0, p0, ?_⟩, ⟨B1, p1, upd_same⟩, .new S20 hTk (vw_none n0), .new S20 hTk (vw_none n1), fun h hh => ?_, fun h hh y hy => ?_, fun h hh e he => ?_⟩
    · rw [upd_ne (ne_of ht19 hd1_19 (fun z => by cases z))]
      exact ht19
    · rw [upd_ne (ne_of hr19 hd1_19 (fun z => by cases z))]
      exact hr19
    · rw [upd_ne (ne_of hq0_19 hd1_19 (fun z => by cases z))]
      exact hq0_19
    · rw [upd_ne (ne_of hq1_19 hd1_19 (fun z => by cases z)), hq1_19]
      rfl
    · rw [upd_ne (ne_of hans19 hd1_19 (fun z => by cases z))]
      exact hans19
    · rw [upd_ne ndd]
      exact hd0_19
    · unfold setCh
      split
      · next e => subst e; rw [List.length_set]; exact G17.len _ hh
      · exact G17.len _ hh
    · unfold setCh at hy
      split at hy
      · rcases List.mem_or_eq_of_mem_set hy with hy | hy
        · exact G17.outc 0 (by decide) y hy
        · rw [hy]
          exact ⟨by omega, by omega⟩
      · exact G17.outc _ hh y hy
    · unfold setAn
      split
      · exact ⟨by omega, by omega⟩
      · exact G17.outa h hh e he
  generalize upd H19 d1 (.dT (anKV (setAn an 1 e0.1 ((an 1 e0 + 1) % 5)) 1 B1)) = H20 at S20 C20 G20 ⊢
  try dsimp only
  refine if_go ?_
  refine judge_go (T := D) rfl rfl rfl rfl (hTk.mono S20) hW (hA7.mono (.same S20)) (hBV.mono S20) ⟨.inr ⟨_, _, _, _, _, _, _, rfl, G20⟩, G20.nB (fun z => hBo (by rw [← z]; exact n0)) (fun z => hBo (by rw [← z]; exact n1))⟩ (fun H21 s21 => iteF' rfl ?_)
  exact ⟨_, _, _, _, _, _, _, _, _, _, _, _, rfl, sc.trans (C20.trans s21)⟩
end
end TA

set_option Elab.async false
set_option maxRecDepth 100000
set_option maxHeartbeats 4000000
set_option linter.unusedVariables false
namespace TA
open PySem PySem.Spec L2 PyProof.Rows LamX
theorem respec {P : Program} {w : World} {K : PySem.W.Frag} {mg : Str → Option Value} {base : Heap} {CX : CXT} {k : Nat} {f : Addr} {fd : FuncData} {ps : List Str} {sp sp' : Sp} (F : FnOk P w K mg base CX k f fd ps sp) (h : ∀ vs H Q E, sp' vs H Q E → sp vs H Q E) : FnOk P w K mg base CX k f fd ps sp' :=
  ⟨fun vs H Q E q => F.len vs H Q E (h _ _ _ _ q), fun A outer s H args us vs Q E hr he hb hv hs => F.run A outer s H args us vs Q E hr he hb hv (h _ _ _ _ hs)⟩
theorem all_mk {l : PySem.W.OpenLaw} {w : World} {K : PySem.W.Frag} {h : Heap} {mg : Str → Option Value} {fa f1 f2 f3 f4 f5 f6 f7 f8 f9 f10 f11 f12 f13 f14 f15 f16 f17 f18 f19 f20 f21 f22 f23 f24 f25 f26 f27 f28 f29 f30 f31 f32 f33 f34 f35 f36 f37 f38 f39 f40 f41 hA0  C y1 y2 y3 : Addr} (X : K.In h) (G : h.Ns mainGlobals mg) (hfa : mg "law" = some (.ref fa))
    {od1 an1 od2 an2 od3 an3 od4 an4 od5 an5 od6 an6 od7 an7 od8 an8 od9 an9 od10 an10 od11 an11 od12 an12 od13 an13 od14 an14 od15 an15 od16 an16 od17 an17 od18 an18 od19 an19 od20 an20 od21 an21 od22 an22 od23 an23 od24 an24 od25 an25 od26 an26 od27 an27 od28 an28 od29 an29 od30 an30 od31 an31 od32 an32 od33 an33 od34 an34 od35 an35 od36 an36 od37 an37 od38 an38 od39 an39 od40 an40 od41 an41 odH0 : Option Addr} {sl1 sl2 sl3 sl4 sl5 sl6 sl7 sl8 sl9 sl10 sl11 sl12 sl13 sl14 sl15 sl16 sl17 sl18 sl19 sl20 sl21 sl22 sl23 sl24 sl25 sl26 sl27 sl28 sl29 sl30 sl31 sl32 sl33 sl34 sl35 sl36 sl37 sl38 sl39 sl40 sl41 slH0 : Array (Option Value)} {oc1 kV1 dc1 pm1 cd1 ct1 oc2 kV2 dc2 pm2 cd2 ct2 oc3 kV3 dc3 pm3 cd3 ct3 oc4 kV4 dc4 pm4 cd4 ct4 oc5 kV5 dc5 pm5 cd5 ct5 oc6 kV6 dc6 pm6 cd6 ct6 oc7 kV7 dc7 pm7 cd7 ct7 oc8 kV8 dc8 pm8 cd8 ct8 oc9 kV9 dc9 pm9 cd9 ct9 oc10 kV10 dc10 pm10 cd10 ct10 oc11 kV11 dc11 pm11 cd11 ct11 oc12 kV12 dc12 pm12 cd12 ct12 oc13 kV13 dc13 pm13 cd13 ct13 oc14 kV14 dc14 pm14 cd14 ct14 oc15 kV15 dc15 pm15 cd15 ct15 oc16 kV16 dc16 pm16 cd16 ct16 oc17 kV17 dc17 pm17 cd17 ct17 oc18 kV18 dc18 pm18 cd18 ct18 oc19 kV19 dc19 pm19 cd19 ct19 oc20 kV20 dc20 pm20 cd20 ct20 oc21 kV21 dc21 pm21 cd21 ct21 oc22 kV22 dc22 pm22 cd22 ct22 oc23 kV23 dc23 pm23 cd23 ct23 oc24 kV24 dc24 pm24 cd24 ct24 oc25 kV25 dc25 pm25 cd25 ct25 oc26 kV26 dc26 pm26 cd26 ct26 oc27 kV27 dc27 pm27 cd27 ct27 oc28 kV28 dc28 pm28 cd28 ct28 oc29 kV29 dc29 pm29 cd29 ct29 oc30 kV30 dc30 pm30 cd30 ct30 oc31 kV31 dc31 pm31 cd31 ct31 oc32 kV32 dc32 pm32 cd32 ct32 oc33 kV33 dc33 pm33 cd33 ct33 oc34 kV34 dc34 pm34 cd34 ct34 oc35 kV35 dc35 pm35 cd35 ct35 oc36 kV36 dc36 pm36 cd36 ct36 oc37 kV37 dc37 pm37 cd37 ct37 oc38 kV38 dc38 pm38 cd38 ct38 oc39 kV39 dc39 pm39 cd39 ct39 oc40 kV40 dc40 pm40 cd40 ct40 oc41 kV41 dc41 pm41 cd41 ct41 : Value} {tI0 tT0_0 tT0_1 : Tok} {nH0 : Nat}
    {yod1 yan1 yod2 yan2 yod3 yan3 : Option Addr} {ysl1 ysl2 ysl3 : Array (Option Value)} {yoc1 ykV1 ydc1 ypm1 ycd1 yct1 yoc2 ykV2 ydc2 ypm2 ycd2 yct2 yoc3 ykV3 ydc3 ypm3 ycd3 yct3 : Value}
    (aC : PySem.W.nsIn K mainGlobals "Task" = some (some (.ref C)))
    (ya1 : PySem.W.findIn K (.ref C) "__init__" = some (some (.ref y1))) (yi1 : PySem.W.isFn K (.ref y1) = true) (yl1 : K.lookup y1 = some ⟨yoc1, yod1, .func (PySem.W.fnOf "__init__" "Task.__init__" (defArgs s_init) (defBody s_init) (defScope s_init) .none ykV1 ydc1 ypm1 yan1 ycd1 yct1), ysl1⟩) (yc1 : PySem.W.codeIn K ycd1 "Task.__init__" = true) (yk1 : PySem.W.keepIn K (.ref y1) = true)
    (ya2 : PySem.W.findIn K (.ref C) "inputs" = some (some (.ref y2))) (yi2 : PySem.W.isFn K (.ref y2) = true) (yl2 : K.lookup y2 = some ⟨yoc2, yod2, .func (PySem.W.fnOf "inputs" "Task.inputs" (defArgs s_inputs) (defBody s_inputs) (defScope s_inputs) .none ykV2 ydc2 ypm2 yan2 ycd2 yct2), ysl2⟩) (yc2 : PySem.W.codeIn K ycd2 "Task.inputs" = true) (yk2 : PySem.W.keepIn K (.ref y2) = true)
    (ya3 : PySem.W.findIn K (.ref C) "pairs" = some (some (.ref y3))) (yi3 : PySem.W.isFn K (.ref y3) = true) (yl3 : K.lookup y3 = some ⟨yoc3, yod3, .func (PySem.W.fnOf "pairs" "Task.pairs" (defArgs s_pairs) (defBody s_pairs) (defScope s_pairs) .none ykV3 ydc3 ypm3 yan3 ycd3 yct3), ysl3⟩) (yc3 : PySem.W.codeIn K ycd3 "Task.pairs" = true) (yk3 : PySem.W.keepIn K (.ref y3) = true)
    (pg : PySem.W.plainGet K C Str.empty = true) (hd : PySem.W.hasDictIn K C = true) (po : PySem.W.plainOver K C = true) (sa : PySem.W.findIn K (.ref C) "__setattr__" = some (some (.builtin "object.__setattr__"))) (mkC : PySem.W.makesIn K C = true) (kC : PySem.W.keepIn K (.ref C) = true) (nA : PySem.W.findIn K (.ref C) "alone" = some none) (nB : PySem.W.findIn K (.ref C) "both" = some none)
    (a1 : PySem.W.nsIn K mainGlobals "is_whole" = some (some (.ref f1))) (l1 : K.lookup f1 = some ⟨oc1, od1, .func (PySem.W.fnOf "is_whole" "is_whole" (defArgs sWhole) (defBody sWhole) (defScope sWhole) .none kV1 dc1 pm1 an1 cd1 ct1), sl1⟩) (c1 : PySem.W.codeIn K cd1 "is_whole" = true) (k1 : PySem.W.keepIn K (.ref f1) = true)
    (a2 : PySem.W.nsIn K mainGlobals "is_whole_within" = some (some (.ref f2))) (l2 : K.lookup f2 = some ⟨oc2, od2, .func (PySem.W.fnOf "is_whole_within" "is_whole_within" (defArgs sWithin) (defBody sWithin) (defScope sWithin) .none kV2 dc2 pm2 an2 cd2 ct2), sl2⟩) (c2 : PySem.W.codeIn K cd2 "is_whole_within" = true) (k2 : PySem.W.keepIn K (.ref f2) = true)
    (a3 : PySem.W.nsIn K mainGlobals "is_hand" = some (some (.ref f3))) (l3 : K.lookup f3 = some ⟨oc3, od3, .func (PySem.W.fnOf "is_hand" "is_hand" (defArgs sHand) (defBody sHand) (defScope sHand) .none kV3 dc3 pm3 an3 cd3 ct3), sl3⟩) (c3 : PySem.W.codeIn K cd3 "is_hand" = true) (k3 : PySem.W.keepIn K (.ref f3) = true)
    (a4 : PySem.W.nsIn K mainGlobals "is_rising" = some (some (.ref f4))) (l4 : K.lookup f4 = some ⟨oc4, od4, .func (PySem.W.fnOf "is_rising" "is_rising" (defArgs s_is_rising) (defBody s_is_rising) (defScope s_is_rising) .none kV4 dc4 pm4 an4 cd4 ct4), sl4⟩) (c4 : PySem.W.codeIn K cd4 "is_rising" = true) (k4 : PySem.W.keepIn K (.ref f4) = true)
    (a5 : PySem.W.nsIn K mainGlobals "is_output" = some (some (.ref f5))) (l5 : K.lookup f5 = some ⟨oc5, od5, .func (PySem.W.fnOf "is_output" "is_output" (defArgs s_is_output) (defBody s_is_output) (defScope s_is_output) .none kV5 dc5 pm5 an5 cd5 ct5), sl5⟩) (c5 : PySem.W.codeIn K cd5 "is_output" = true) (k5 : PySem.W.keepIn K (.ref f5) = true)
    (a6 : PySem.W.nsIn K mainGlobals "is_outputs" = some (some (.ref f6))) (l6 : K.lookup f6 = some ⟨oc6, od6, .func (PySem.W.fnOf "is_outputs" "is_outputs" (defArgs s_is_outputs) (defBody s_is_outputs) (defScope s_is_outputs) .none kV6 dc6 pm6 an6 cd6 ct6), sl6⟩) (c6 : PySem.W.codeIn K cd6 "is_outputs" = true) (k6 : PySem.W.keepIn K (.ref f6) = true)
    (a7 : PySem.W.nsIn K mainGlobals "is_rows" = some (some (.ref f7))) (l7 : K.lookup f7 = some ⟨oc7, od7, .func (PySem.W.fnOf "is_rows" "is_rows" (defArgs s_is_rows) (defBody s_is_rows) (defScope s_is_rows) .none kV7 dc7 pm7 an7 cd7 ct7), sl7⟩) (c7 : PySem.W.codeIn K cd7 "is_rows" = true) (k7 : PySem.W.keepIn K (.ref f7) = true)
    (a8 : PySem.W.nsIn K mainGlobals "is_alone" = some (some (.ref f8))) (l8 : K.lookup f8 = some ⟨oc8, od8, .func (PySem.W.fnOf "is_alone" "is_alone" (defArgs s_is_alone) (defBody s_is_alone) (defScope s_is_alone) .none kV8 dc8 pm8 an8 cd8 ct8), sl8⟩) (c8 : PySem.W.codeIn K cd8 "is_alone" = true) (k8 : PySem.W.keepIn K (.ref f8) = true)
    (a9 : PySem.W.nsIn K mainGlobals "is_output_pair" = some (some (.ref f9))) (l9 : K.lookup f9 = some ⟨oc9, od9, .func (PySem.W.fnOf "is_output_pair" "is_output_pair" (defArgs s_is_output_pair) (defBody s_is_output_pair) (defScope s_is_output_pair) .none kV9 dc9 pm9 an9 cd9 ct9), sl9⟩) (c9 : PySem.W.codeIn K cd9 "is_output_pair" = true) (k9 : PySem.W.keepIn K (.ref f9) = true)
    (a10 : PySem.W.nsIn K mainGlobals "is_let" = some (some (.ref f10))) (l10 : K.lookup f10 = some ⟨oc10, od10, .func (PySem.W.fnOf "is_let" "is_let" (defArgs s_is_let) (defBody s_is_let) (defScope s_is_let) .none kV10 dc10 pm10 an10 cd10 ct10), sl10⟩) (c10 : PySem.W.codeIn K cd10 "is_let" = true) (k10 : PySem.W.keepIn K (.ref f10) = true)
    (a11 : PySem.W.nsIn K mainGlobals "is_input_pair" = some (some (.ref f11))) (l11 : K.lookup f11 = some ⟨oc11, od11, .func (PySem.W.fnOf "is_input_pair" "is_input_pair" (defArgs s_is_input_pair) (defBody s_is_input_pair) (defScope s_is_input_pair) .none kV11 dc11 pm11 an11 cd11 ct11), sl11⟩) (c11 : PySem.W.codeIn K cd11 "is_input_pair" = true) (k11 : PySem.W.keepIn K (.ref f11) = true)
    (a12 : PySem.W.nsIn K mainGlobals "each_comes" = some (some (.ref f12))) (l12 : K.lookup f12 = some ⟨oc12, od12, .func (PySem.W.fnOf "each_comes" "each_comes" (defArgs s_each_comes) (defBody s_each_comes) (defScope s_each_comes) .none kV12 dc12 pm12 an12 cd12 ct12), sl12⟩) (c12 : PySem.W.codeIn K cd12 "each_comes" = true) (k12 : PySem.W.keepIn K (.ref f12) = true)
    (a13 : PySem.W.nsIn K mainGlobals "is_both" = some (some (.ref f13))) (l13 : K.lookup f13 = some ⟨oc13, od13, .func (PySem.W.fnOf "is_both" "is_both" (defArgs s_is_both) (defBody s_is_both) (defScope s_is_both) .none kV13 dc13 pm13 an13 cd13 ct13), sl13⟩) (c13 : PySem.W.codeIn K cd13 "is_both" = true) (k13 : PySem.W.keepIn K (.ref f13) = true)
    (a14 : PySem.W.nsIn K mainGlobals "is_pair" = some (some (.ref f14))) (l14 : K.lookup f14 = some ⟨oc14, od14, .func (PySem.W.fnOf "is_pair" "is_pair" (defArgs s_is_pair) (defBody s_is_pair) (defScope s_is_pair) .none kV14 dc14 pm14 an14 cd14 ct14), sl14⟩) (c14 : PySem.W.codeIn K cd14 "is_pair" = true) (k14 : PySem.W.keepIn K (.ref f14) = true)
    (a15 : PySem.W.nsIn K mainGlobals "is_row" = some (some (.ref f15))) (l15 : K.lookup f15 = some ⟨oc15, od15, .func (PySem.W.fnOf "is_row" "is_row" (defArgs s_is_row) (defBody s_is_row) (defScope s_is_row) .none kV15 dc15 pm15 an15 cd15 ct15), sl15⟩) (c15 : PySem.W.codeIn K cd15 "is_row" = true) (k15 : PySem.W.keepIn K (.ref f15) = true)
    (a16 : PySem.W.nsIn K mainGlobals "is_chosen" = some (some (.ref f16))) (l16 : K.lookup f16 = some ⟨oc16, od16, .func (PySem.W.fnOf "is_chosen" "is_chosen" (defArgs s_is_chosen) (defBody s_is_chosen) (defScope s_is_chosen) .none kV16 dc16 pm16 an16 cd16 ct16), sl16⟩) (c16 : PySem.W.codeIn K cd16 "is_chosen" = true) (k16 : PySem.W.keepIn K (.ref f16) = true)
    (a17 : PySem.W.nsIn K mainGlobals "alone_fault" = some (some (.ref f17))) (l17 : K.lookup f17 = some ⟨oc17, od17, .func (PySem.W.fnOf "alone_fault" "alone_fault" (defArgs s_alone_fault) (defBody s_alone_fault) (defScope s_alone_fault) .none kV17 dc17 pm17 an17 cd17 ct17), sl17⟩) (c17 : PySem.W.codeIn K cd17 "alone_fault" = true) (k17 : PySem.W.keepIn K (.ref f17) = true)
    (a18 : PySem.W.nsIn K mainGlobals "is_answers" = some (some (.ref f18))) (l18 : K.lookup f18 = some ⟨oc18, od18, .func (PySem.W.fnOf "is_answers" "is_answers" (defArgs s_is_answers) (defBody s_is_answers) (defScope s_is_answers) .none kV18 dc18 pm18 an18 cd18 ct18), sl18⟩) (c18 : PySem.W.codeIn K cd18 "is_answers" = true) (k18 : PySem.W.keepIn K (.ref f18) = true)
    (a19 : PySem.W.nsIn K mainGlobals "is_boxed" = some (some (.ref f19))) (l19 : K.lookup f19 = some ⟨oc19, od19, .func (PySem.W.fnOf "is_boxed" "is_boxed" (defArgs s_is_boxed) (defBody s_is_boxed) (defScope s_is_boxed) .none kV19 dc19 pm19 an19 cd19 ct19), sl19⟩) (c19 : PySem.W.codeIn K cd19 "is_boxed" = true) (k19 : PySem.W.keepIn K (.ref f19) = true)
    (a20 : PySem.W.nsIn K mainGlobals "is_answered" = some (some (.ref f20))) (l20 : K.lookup f20 = some ⟨oc20, od20, .func (PySem.W.fnOf "is_answered" "is_answered" (defArgs s_is_answered) (defBody s_is_answered) (defScope s_is_answered) .none kV20 dc20 pm20 an20 cd20 ct20), sl20⟩) (c20 : PySem.W.codeIn K cd20 "is_answered" = true) (k20 : PySem.W.keepIn K (.ref f20) = true)
    (a21 : PySem.W.nsIn K mainGlobals "at_odds" = some (some (.ref f21))) (l21 : K.lookup f21 = some ⟨oc21, od21, .func (PySem.W.fnOf "at_odds" "at_odds" (defArgs s_at_odds) (defBody s_at_odds) (defScope s_at_odds) .none kV21 dc21 pm21 an21 cd21 ct21), sl21⟩) (c21 : PySem.W.codeIn K cd21 "at_odds" = true) (k21 : PySem.W.keepIn K (.ref f21) = true)
    (a22 : PySem.W.nsIn K mainGlobals "answers_to" = some (some (.ref f22))) (l22 : K.lookup f22 = some ⟨oc22, od22, .func (PySem.W.fnOf "answers_to" "answers_to" (defArgs s_answers_to) (defBody s_answers_to) (defScope s_answers_to) .none kV22 dc22 pm22 an22 cd22 ct22), sl22⟩) (c22 : PySem.W.codeIn K cd22 "answers_to" = true) (k22 : PySem.W.keepIn K (.ref f22) = true)
    (a23 : PySem.W.nsIn K mainGlobals "boxed" = some (some (.ref f23))) (l23 : K.lookup f23 = some ⟨oc23, od23, .func (PySem.W.fnOf "boxed" "boxed" (defArgs s_boxed) (defBody s_boxed) (defScope s_boxed) .none kV23 dc23 pm23 an23 cd23 ct23), sl23⟩) (c23 : PySem.W.codeIn K cd23 "boxed" = true) (k23 : PySem.W.keepIn K (.ref f23) = true)
    (a24 : PySem.W.nsIn K mainGlobals "answers_fault" = some (some (.ref f24))) (l24 : K.lookup f24 = some ⟨oc24, od24, .func (PySem.W.fnOf "answers_fault" "answers_fault" (defArgs s_answers_fault) (defBody s_answers_fault) (defScope s_answers_fault) .none kV24 dc24 pm24 an24 cd24 ct24), sl24⟩) (c24 : PySem.W.codeIn K cd24 "answers_fault" = true) (k24 : PySem.W.keepIn K (.ref f24) = true)
    (a25 : PySem.W.nsIn K mainGlobals "boxed_fault" = some (some (.ref f25))) (l25 : K.lookup f25 = some ⟨oc25, od25, .func (PySem.W.fnOf "boxed_fault" "boxed_fault" (defArgs s_boxed_fault) (defBody s_boxed_fault) (defScope s_boxed_fault) .none kV25 dc25 pm25 an25 cd25 ct25), sl25⟩) (c25 : PySem.W.codeIn K cd25 "boxed_fault" = true) (k25 : PySem.W.keepIn K (.ref f25) = true)
    (a26 : PySem.W.nsIn K mainGlobals "is_boxed_bar" = some (some (.ref f26))) (l26 : K.lookup f26 = some ⟨oc26, od26, .func (PySem.W.fnOf "is_boxed_bar" "is_boxed_bar" (defArgs s_is_boxed_bar) (defBody s_is_boxed_bar) (defScope s_is_boxed_bar) .none kV26 dc26 pm26 an26 cd26 ct26), sl26⟩) (c26 : PySem.W.codeIn K cd26 "is_boxed_bar" = true) (k26 : PySem.W.keepIn K (.ref f26) = true)
    (a27 : PySem.W.nsIn K mainGlobals "boxed_bar_fault" = some (some (.ref f27))) (l27 : K.lookup f27 = some ⟨oc27, od27, .func (PySem.W.fnOf "boxed_bar_fault" "boxed_bar_fault" (defArgs s_boxed_bar_fault) (defBody s_boxed_bar_fault) (defScope s_boxed_bar_fault) .none kV27 dc27 pm27 an27 cd27 ct27), sl27⟩) (c27 : PySem.W.codeIn K cd27 "boxed_bar_fault" = true) (k27 : PySem.W.keepIn K (.ref f27) = true)
    (a28 : PySem.W.nsIn K mainGlobals "_law_cell_at" = some (some (.ref f28))) (l28 : K.lookup f28 = some ⟨oc28, od28, .func (PySem.W.fnOf "_law_cell_at" "_law_cell_at" (defArgs sCell) (defBody sCell) (defScope sCell) .none kV28 dc28 pm28 an28 cd28 ct28), sl28⟩) (c28 : PySem.W.codeIn K cd28 "_law_cell_at" = true) (k28 : PySem.W.keepIn K (.ref f28) = true)
    (a29 : PySem.W.nsIn K mainGlobals "_law_digit" = some (some (.ref f29))) (l29 : K.lookup f29 = some ⟨oc29, od29, .func (PySem.W.fnOf "_law_digit" "_law_digit" (defArgs s__law_digit) (defBody s__law_digit) (defScope s__law_digit) .none kV29 dc29 pm29 an29 cd29 ct29), sl29⟩) (c29 : PySem.W.codeIn K cd29 "_law_digit" = true) (k29 : PySem.W.keepIn K (.ref f29) = true)
    (a30 : PySem.W.nsIn K mainGlobals "_law_few" = some (some (.ref f30))) (l30 : K.lookup f30 = some ⟨oc30, od30, .func (PySem.W.fnOf "_law_few" "_law_few" (defArgs s__law_few) (defBody s__law_few) (defScope s__law_few) .none kV30 dc30 pm30 an30 cd30 ct30), sl30⟩) (c30 : PySem.W.codeIn K cd30 "_law_few" = true) (k30 : PySem.W.keepIn K (.ref f30) = true)
    (a31 : PySem.W.nsIn K mainGlobals "_law_outs" = some (some (.ref f31))) (l31 : K.lookup f31 = some ⟨oc31, od31, .func (PySem.W.fnOf "_law_outs" "_law_outs" (defArgs s__law_outs) (defBody s__law_outs) (defScope s__law_outs) .none kV31 dc31 pm31 an31 cd31 ct31), sl31⟩) (c31 : PySem.W.codeIn K cd31 "_law_outs" = true) (k31 : PySem.W.keepIn K (.ref f31) = true)
    (a32 : PySem.W.nsIn K mainGlobals "_law_parts" = some (some (.ref f32))) (l32 : K.lookup f32 = some ⟨oc32, od32, .func (PySem.W.fnOf "_law_parts" "_law_parts" (defArgs s__law_parts) (defBody s__law_parts) (defScope s__law_parts) .none kV32 dc32 pm32 an32 cd32 ct32), sl32⟩) (c32 : PySem.W.codeIn K cd32 "_law_parts" = true) (k32 : PySem.W.keepIn K (.ref f32) = true)
    (a33 : PySem.W.nsIn K mainGlobals "_law_whole" = some (some (.ref f33))) (l33 : K.lookup f33 = some ⟨oc33, od33, .func (PySem.W.fnOf "_law_whole" "_law_whole" (defArgs s__law_whole) (defBody s__law_whole) (defScope s__law_whole) .none kV33 dc33 pm33 an33 cd33 ct33), sl33⟩) (c33 : PySem.W.codeIn K cd33 "_law_whole" = true) (k33 : PySem.W.keepIn K (.ref f33) = true)
    (a34 : PySem.W.nsIn K mainGlobals "_law_outputs" = some (some (.ref f34))) (l34 : K.lookup f34 = some ⟨oc34, od34, .func (PySem.W.fnOf "_law_outputs" "_law_outputs" (defArgs s__law_outputs) (defBody s__law_outputs) (defScope s__law_outputs) .none kV34 dc34 pm34 an34 cd34 ct34), sl34⟩) (c34 : PySem.W.codeIn K cd34 "_law_outputs" = true) (k34 : PySem.W.keepIn K (.ref f34) = true)
    (a35 : PySem.W.nsIn K mainGlobals "_law_form" = some (some (.ref f35))) (l35 : K.lookup f35 = some ⟨oc35, od35, .func (PySem.W.fnOf "_law_form" "_law_form" (defArgs s__law_form) (defBody s__law_form) (defScope s__law_form) .none kV35 dc35 pm35 an35 cd35 ct35), sl35⟩) (c35 : PySem.W.codeIn K cd35 "_law_form" = true) (k35 : PySem.W.keepIn K (.ref f35) = true)
    (a36 : PySem.W.nsIn K mainGlobals "_law_due" = some (some (.ref f36))) (l36 : K.lookup f36 = some ⟨oc36, od36, .func (PySem.W.fnOf "_law_due" "_law_due" (defArgs s__law_due) (defBody s__law_due) (defScope s__law_due) .none kV36 dc36 pm36 an36 cd36 ct36), sl36⟩) (c36 : PySem.W.codeIn K cd36 "_law_due" = true) (k36 : PySem.W.keepIn K (.ref f36) = true)
    (a37 : PySem.W.nsIn K mainGlobals "_law_bar_due" = some (some (.ref f37))) (l37 : K.lookup f37 = some ⟨oc37, od37, .func (PySem.W.fnOf "_law_bar_due" "_law_bar_due" (defArgs s__law_bar_due) (defBody s__law_bar_due) (defScope s__law_bar_due) .none kV37 dc37 pm37 an37 cd37 ct37), sl37⟩) (c37 : PySem.W.codeIn K cd37 "_law_bar_due" = true) (k37 : PySem.W.keepIn K (.ref f37) = true)
    (a38 : PySem.W.nsIn K mainGlobals "_law_drawn" = some (some (.ref f38))) (l38 : K.lookup f38 = some ⟨oc38, od38, .func (PySem.W.fnOf "_law_drawn" "_law_drawn" (defArgs s__law_drawn) (defBody s__law_drawn) (defScope s__law_drawn) .none kV38 dc38 pm38 an38 cd38 ct38), sl38⟩) (c38 : PySem.W.codeIn K cd38 "_law_drawn" = true) (k38 : PySem.W.keepIn K (.ref f38) = true)
    (a39 : PySem.W.nsIn K mainGlobals "_law_spoilt" = some (some (.ref f39))) (l39 : K.lookup f39 = some ⟨oc39, od39, .func (PySem.W.fnOf "_law_spoilt" "_law_spoilt" (defArgs s__law_spoilt) (defBody s__law_spoilt) (defScope s__law_spoilt) .none kV39 dc39 pm39 an39 cd39 ct39), sl39⟩) (c39 : PySem.W.codeIn K cd39 "_law_spoilt" = true) (k39 : PySem.W.keepIn K (.ref f39) = true)
    (a40 : PySem.W.nsIn K mainGlobals "_law_any_bar" = some (some (.ref f40))) (l40 : K.lookup f40 = some ⟨oc40, od40, .func (PySem.W.fnOf "_law_any_bar" "_law_any_bar" (defArgs s__law_any_bar) (defBody s__law_any_bar) (defScope s__law_any_bar) .none kV40 dc40 pm40 an40 cd40 ct40), sl40⟩) (c40 : PySem.W.codeIn K cd40 "_law_any_bar" = true) (k40 : PySem.W.keepIn K (.ref f40) = true)
    (a41 : PySem.W.nsIn K mainGlobals "law" = some (some (.ref f41))) (l41 : K.lookup f41 = some ⟨oc41, od41, .func (PySem.W.fnOf "law" "law" (defArgs sLaw) (defBody sLaw) (defScope sLaw) .none kV41 dc41 pm41 an41 cd41 ct41), sl41⟩) (c41 : PySem.W.codeIn K cd41 "law" = true) (k41 : PySem.W.keepIn K (.ref f41) = true)
    (z0 : PySem.W.nsIn K mainGlobals "isinstance" = some none)
    (z1 : PySem.W.nsIn K mainGlobals "int" = some none)
    (z2 : PySem.W.nsIn K mainGlobals "bool" = some none)
    (z3 : PySem.W.nsIn K mainGlobals "len" = some none)
    (z4 : PySem.W.nsIn K mainGlobals "range" = some none)
    (z5 : PySem.W.nsIn K mainGlobals "list" = some none)
    (z6 : PySem.W.nsIn K mainGlobals "tuple" = some none)
    (z7 : PySem.W.nsIn K mainGlobals "all" = some none)
    (z8 : PySem.W.nsIn K mainGlobals "sum" = some none)
    (z9 : PySem.W.nsIn K mainGlobals "min" = some none)
    (z10 : PySem.W.nsIn K mainGlobals "sorted" = some none)
    (z11 : PySem.W.nsIn K mainGlobals "set" = some none)
    (z12 : PySem.W.nsIn K mainGlobals "max" = some none)
    (z13 : PySem.W.nsIn K mainGlobals "zip" = some none)
    (z14 : PySem.W.nsIn K mainGlobals "dict" = some none)
    (z15 : PySem.W.nsIn K mainGlobals "abs" = some none)
    (z16 : PySem.W.nsIn K mainGlobals "repr" = some none)
    (z17 : PySem.W.nsIn K mainGlobals "enumerate" = some none)
    (i0 : PySem.W.nsIn K mainGlobals "MOST_OUTPUT" = some (some (.int 63 tI0)))
    (t0 : PySem.W.nsIn K mainGlobals "HANDS" = some (some (.ref hA0))) (u0 : K.lookup hA0 = some ⟨.type "tuple", odH0, .seq (Array.mk [.int 0 tT0_0, .int 1 tT0_1]) nH0, slH0⟩)
    : ∃ fd : FuncData, (∀ (s : Shared) (v : Value), BindsTo s fd ⟨[v], []⟩ [("_law_script", v)]) ∧ ∀ base : Heap, K.In base → base.Ns mainGlobals mg → Quiet l.prog w K mg base 9 fa fd ["_law_script"] (spLaw K) := by
  have e := hfa.symm.trans (PySem.W.mg_of X G a41)
  cases e
  have F1 := fun_mk (st := sWhole) l1 c1 k1
  have b1 := F1.binds (ps := ["thing"]) fun _ _ _ _ _ _ us hl => match us, hl with | [_], _ => rfl
  have F2 := fun_mk (st := sWithin) l2 c2 k2
  have b2 := F2.binds (ps := ["thing", "least", "most"]) fun _ _ _ _ _ _ us hl => match us, hl with | [_, _, _], _ => rfl
  have F3 := fun_mk (st := sHand) l3 c3 k3
  have b3 := F3.binds (ps := ["thing"]) fun _ _ _ _ _ _ us hl => match us, hl with | [_], _ => rfl
  have F4 := fun_mk (st := s_is_rising) l4 c4 k4
  have b4 := F4.binds (ps := ["things"]) fun _ _ _ _ _ _ us hl => match us, hl with | [_], _ => rfl
  have F5 := fun_mk (st := s_is_output) l5 c5 k5
  have b5 := F5.binds (ps := ["thing"]) fun _ _ _ _ _ _ us hl => match us, hl with | [_], _ => rfl
  have F6 := fun_mk (st := s_is_outputs) l6 c6 k6
  have b6 := F6.binds (ps := ["thing"]) fun _ _ _ _ _ _ us hl => match us, hl with | [_], _ => rfl
  have F7 := fun_mk (st := s_is_rows) l7 c7 k7
  have b7 := F7.binds (ps := ["thing"]) fun _ _ _ _ _ _ us hl => match us, hl with | [_], _ => rfl
  have F8 := fun_mk (st := s_is_alone) l8 c8 k8
  have b8 := F8.binds (ps := ["thing"]) fun _ _ _ _ _ _ us hl => match us, hl with | [_], _ => rfl
  have F9 := fun_mk (st := s_is_output_pair) l9 c9 k9
  have b9 := F9.binds (ps := ["thing"]) fun _ _ _ _ _ _ us hl => match us, hl with | [_], _ => rfl
  have F10 := fun_mk (st := s_is_let) l10 c10 k10
  have b10 := F10.binds (ps := ["thing"]) fun _ _ _ _ _ _ us hl => match us, hl with | [_], _ => rfl
  have F11 := fun_mk (st := s_is_input_pair) l11 c11 k11
  have b11 := F11.binds (ps := ["thing", "alone"]) fun _ _ _ _ _ _ us hl => match us, hl with | [_, _], _ => rfl
  have F12 := fun_mk (st := s_each_comes) l12 c12 k12
  have b12 := F12.binds (ps := ["both", "alone", "hand"]) fun _ _ _ _ _ _ us hl => match us, hl with | [_, _, _], _ => rfl
  have F13 := fun_mk (st := s_is_both) l13 c13 k13
  have b13 := F13.binds (ps := ["thing", "alone"]) fun _ _ _ _ _ _ us hl => match us, hl with | [_, _], _ => rfl
  have F14 := fun_mk (st := s_is_pair) l14 c14 k14
  have b14 := F14.binds (ps := ["task", "thing"]) fun _ _ _ _ _ _ us hl => match us, hl with | [_, _], _ => rfl
  have F15 := fun_mk (st := s_is_row) l15 c15 k15
  have b15 := F15.binds (ps := ["thing", "many"]) fun _ _ _ _ _ _ us hl => match us, hl with | [_, _], _ => rfl
  have F16 := fun_mk (st := s_is_chosen) l16 c16 k16
  have b16 := F16.binds (ps := ["task", "thing"]) fun _ _ _ _ _ _ us hl => match us, hl with | [_, _], _ => rfl
  have F17 := fun_mk (st := s_alone_fault) l17 c17 k17
  have b17 := F17.binds (ps := ["task", "alone"]) fun _ _ _ _ _ _ us hl => match us, hl with | [_, _], _ => rfl
  have F18 := fun_mk (st := s_is_answers) l18 c18 k18
  have b18 := F18.binds (ps := ["task", "thing"]) fun _ _ _ _ _ _ us hl => match us, hl with | [_, _], _ => rfl
  have F19 := fun_mk (st := s_is_boxed) l19 c19 k19
  have b19 := F19.binds (ps := ["task", "thing"]) fun _ _ _ _ _ _ us hl => match us, hl with | [_, _], _ => rfl
  have F20 := fun_mk (st := s_is_answered) l20 c20 k20
  have b20 := F20.binds (ps := ["task", "pair", "hand", "output"]) fun _ _ _ _ _ _ us hl => match us, hl with | [_, _, _, _], _ => rfl
  have F21 := fun_mk (st := s_at_odds) l21 c21 k21
  have b21 := F21.binds (ps := ["task", "hand", "at", "output"]) fun _ _ _ _ _ _ us hl => match us, hl with | [_, _, _, _], _ => rfl
  have F22 := fun_mk (st := s_answers_to) l22 c22 k22
  have b22 := F22.binds (ps := ["task", "hand", "alone"]) fun _ _ _ _ _ _ us hl => match us, hl with | [_, _, _], _ => rfl
  have F23 := fun_mk (st := s_boxed) l23 c23 k23
  have b23 := F23.binds (ps := ["task"]) fun _ _ _ _ _ _ us hl => match us, hl with | [_], _ => rfl
  have F24 := fun_mk (st := s_answers_fault) l24 c24 k24
  have b24 := F24.binds (ps := ["task", "hand", "alone", "answers"]) fun _ _ _ _ _ _ us hl => match us, hl with | [_, _, _, _], _ => rfl
  have F25 := fun_mk (st := s_boxed_fault) l25 c25 k25
  have b25 := F25.binds (ps := ["task", "thing"]) fun _ _ _ _ _ _ us hl => match us, hl with | [_, _], _ => rfl
  have F26 := fun_mk (st := s_is_boxed_bar) l26 c26 k26
  have b26 := F26.binds (ps := ["task", "thing"]) fun _ _ _ _ _ _ us hl => match us, hl with | [_, _], _ => rfl
  have F27 := fun_mk (st := s_boxed_bar_fault) l27 c27 k27
  have b27 := F27.binds (ps := ["task", "thing"]) fun _ _ _ _ _ _ us hl => match us, hl with | [_, _], _ => rfl
  have F28 := fun_mk (st := sCell) l28 c28 k28
  have b28 := F28.binds (ps := ["_law_script", "_law_k"]) fun _ _ _ _ _ _ us hl => match us, hl with | [_, _], _ => rfl
  have F29 := fun_mk (st := s__law_digit) l29 c29 k29
  have b29 := F29.binds (ps := ["_law_state", "_law_base"]) fun _ _ _ _ _ _ us hl => match us, hl with | [_, _], _ => rfl
  have F30 := fun_mk (st := s__law_few) l30 c30 k30
  have b30 := F30.binds (ps := ["_law_state", "_law_great", "_law_most"]) fun _ _ _ _ _ _ us hl => match us, hl with | [_, _, _], _ => rfl
  have F31 := fun_mk (st := s__law_outs) l31 c31 k31
  have b31 := F31.binds (ps := ["_law_state", "_law_great"]) fun _ _ _ _ _ _ us hl => match us, hl with | [_, _], _ => rfl
  have F32 := fun_mk (st := s__law_parts) l32 c32 k32
  have b32 := F32.binds (ps := ["_law_state", "_law_most"]) fun _ _ _ _ _ _ us hl => match us, hl with | [_, _], _ => rfl
  have F33 := fun_mk (st := s__law_whole) l33 c33 k33
  have b33 := F33.binds (ps := ["_law_thing", "_law_low", "_law_high"]) fun _ _ _ _ _ _ us hl => match us, hl with | [_, _, _], _ => rfl
  have F34 := fun_mk (st := s__law_outputs) l34 c34 k34
  have b34 := F34.binds (ps := ["_law_thing", "_law_many"]) fun _ _ _ _ _ _ us hl => match us, hl with | [_, _], _ => rfl
  have F35 := fun_mk (st := s__law_form) l35 c35 k35
  have b35 := F35.binds (ps := ["_law_alone", "_law_both", "_law_thing"]) fun _ _ _ _ _ _ us hl => match us, hl with | [_, _, _], _ => rfl
  have F36 := fun_mk (st := s__law_due) l36 c36 k36
  have b36 := F36.binds (ps := ["_law_alone", "_law_both", "_law_thing"]) fun _ _ _ _ _ _ us hl => match us, hl with | [_, _, _], _ => rfl
  have F37 := fun_mk (st := s__law_bar_due) l37 c37 k37
  have b37 := F37.binds (ps := ["_law_alone", "_law_both", "_law_thing"]) fun _ _ _ _ _ _ us hl => match us, hl with | [_, _, _], _ => rfl
  have F38 := fun_mk (st := s__law_drawn) l38 c38 k38
  have b38 := F38.binds (ps := ["_law_state", "_law_alone", "_law_both"]) fun _ _ _ _ _ _ us hl => match us, hl with | [_, _, _], _ => rfl
  have F39 := fun_mk (st := s__law_spoilt) l39 c39 k39
  have b39 := F39.binds (ps := ["_law_state", "_law_thing"]) fun _ _ _ _ _ _ us hl => match us, hl with | [_, _], _ => rfl
  have F40 := fun_mk (st := s__law_any_bar) l40 c40 k40
  have b40 := F40.binds (ps := ["_law_state", "_law_alone"]) fun _ _ _ _ _ _ us hl => match us, hl with | [_, _], _ => rfl
  have F41 := fun_mk (st := sLaw) l41 c41 k41
  have Zc : TxtC K mg C := ⟨⟨pg, hd, po, sa⟩, nA, nB, PySem.W.mg_of X G aC⟩
  have Y1 := fun_mk (st := s_init) yl1 yc1 yk1
  have yb1 := Y1.binds (ps := ["self", "alone", "both"]) fun _ _ _ _ _ _ us hl => match us, hl with | [_, _, _], _ => rfl
  have Y2 := fun_mk (st := s_inputs) yl2 yc2 yk2
  have yb2 := Y2.binds (ps := ["self", "hand"]) fun _ _ _ _ _ _ us hl => match us, hl with | [_, _], _ => rfl
  have Y3 := fun_mk (st := s_pairs) yl3 yc3 yk3
  have yb3 := Y3.binds (ps := ["self"]) fun _ _ _ _ _ _ us hl => match us, hl with | [_], _ => rfl
  have m := fun {n : Str} {v : Value} (e : PySem.W.nsIn K mainGlobals n = some (some v)) => PySem.W.mg_of X G e
  have mz := fun {n : Str} (e : PySem.W.nsIn K mainGlobals n = some none) => PySem.W.mg_none_of X G e
  have T : Txt K mg := ⟨mz z0, mz z1, mz z2, mz z3, mz z4, mz z5, mz z6, mz z7, mz z8, mz z9⟩
  have T2 : Txt2 K mg := ⟨mz z10, mz z11, mz z12, mz z13, mz z14⟩
  have U : TxtH K mg := ⟨_, m t0, fun H => .inr ⟨_, _, _, u0, rfl, rfl, (by show 2 ≤ sizeLine; decide), .cons ⟨_, rfl⟩ (.cons ⟨_, rfl⟩ .nil)⟩⟩
  refine ⟨PySem.W.fnOf "law" "law" (defArgs sLaw) (defBody sLaw) (defScope sLaw) .none kV41 dc41 pm41 an41 cd41 ct41, fun s v => .of_eq rfl, fun base _ _ => ?_⟩
  have e1 : Def l.prog w K mg base "is_whole" ["thing"] 1 (spWholeG K) f1 _ := ⟨ok_wholeG F1 T, b1, k1, m a1⟩
  have e2 : Def l.prog w K mg base "is_whole_within" ["thing", "least", "most"] 2 (spWithinG K) f2 _ := ⟨ok_withinG F2 e1, b2, k2, m a2⟩
  have e3 : Def l.prog w K mg base "is_hand" ["thing"] 3 (spHandG K) f3 _ := ⟨ok_handG F3 e2, b3, k3, m a3⟩
  have eRI : Def l.prog w K mg base "is_rising" ["things"] 1 (spRisI K) f4 _ := ⟨ok_risI F4 T, b4, k4, m a4⟩
  have eRP : Def l.prog w K mg base "is_rising" ["things"] 1 (spRisP K) f4 _ := ⟨ok_risP F4 T, b4, k4, m a4⟩
  have e5 : Def l.prog w K mg base "is_output" ["thing"] 3 (spOut K) f5 _ := ⟨ok_out F5 (m i0) e2, b5, k5, m a5⟩
  have e6 : Def l.prog w K mg base "is_outputs" ["thing"] 4 (spOuts K) f6 _ := ⟨ok_outs F6 T e5 eRI, b6, k6, m a6⟩
  have e7 : Def l.prog w K mg base "is_rows" ["thing"] 5 (spRows K) f7 _ := ⟨ok_rows F7 T e6, b7, k7, m a7⟩
  have e8 : Def l.prog w K mg base "is_alone" ["thing"] 6 (spAlone K) f8 _ := ⟨ok_alone F8 T e7, b8, k8, m a8⟩
  have e9 : Def l.prog w K mg base "is_output_pair" ["thing"] 4 (spPairB K) f9 _ := ⟨ok_outpair F9 T e5, b9, k9, m a9⟩
  have e10 : Def l.prog w K mg base "is_let" ["thing"] 5 (spLetB K) f10 _ := ⟨ok_let F10 T e9 eRP, b10, k10, m a10⟩
  have e11 : Def l.prog w K mg base "is_input_pair" ["thing", "alone"] 3 (spInp K) f11 _ := ⟨ok_inp F11 T U e2, b11, k11, m a11⟩
  have e12 : Def l.prog w K mg base "each_comes" ["both", "alone", "hand"] 1 (spEach K) f12 _ := ⟨ok_each F12 T T2, b12, k12, m a12⟩
  have e13 : Def l.prog w K mg base "is_both" ["thing", "alone"] 6 (spBoth K) f13 _ := ⟨ok_both F13 T T2 U e11 e10 e12, b13, k13, m a13⟩
  have tk : KDef l.prog w K mg base C "Task" ["self", "alone", "both"] 7 (spInit K C) y1 _ := ⟨ok_init Y1 T T2 Zc e8 e13, yb1, ⟨mkC, ya1, yi1, kC⟩, Zc.mg⟩
  have inp : MDef l.prog w K mg base C "inputs" nInputs 4 (spInputs K C) y2 _ := ⟨ok_inputs Y2 T Zc e3, yb2, ⟨ya2, yi2, yk2⟩⟩
  have prs : MDef l.prog w K mg base C "pairs" nPairs 1 (spPairs K C) y3 _ := ⟨ok_pairs Y3 T2 Zc, yb3, ⟨ya3, yi3, yk3⟩⟩
  have e28 : Def l.prog w K mg base "_law_cell_at" ["_law_script", "_law_k"] 1 (spCell K) f28 _ := ⟨ok_cell F28 T, b28, k28, m a28⟩
  have e29 : Def l.prog w K mg base "_law_digit" ["_law_state", "_law_base"] 1 spDigit f29 _ := ⟨ok_digit F29 T, b29, k29, m a29⟩
  have e30 : Def l.prog w K mg base "_law_few" ["_law_state", "_law_great", "_law_most"] 2 spFew f30 _ := ⟨ok_few F30 T T2 e29, b30, k30, m a30⟩
  have e31 : Def l.prog w K mg base "_law_outs" ["_law_state", "_law_great"] 2 spOuts2 f31 _ := ⟨ok_outs2 F31 T T2 e29, b31, k31, m a31⟩
  have e32 : Def l.prog w K mg base "_law_parts" ["_law_state", "_law_most"] 3 spParts f32 _ := ⟨ok_parts F32 T T2 e29 e30 e31, b32, k32, m a32⟩
  have e14 : Def l.prog w K mg base "is_pair" ["task", "thing"] 4 (spIsP K C) f14 _ := ⟨ok_isp F14 T Zc e11, b14, k14, m a14⟩
  have e15 : Def l.prog w K mg base "is_row" ["thing", "many"] 4 (spRowX K) f15 _ := ⟨ok_rowX F15 T e5, b15, k15, m a15⟩
  have e16 : Def l.prog w K mg base "is_chosen" ["task", "thing"] 5 (spChosenX K C) f16 _ := ⟨ok_chosenX F16 T U Zc e15 inp, b16, k16, m a16⟩
  have e17 : Def l.prog w K mg base "alone_fault" ["task", "alone"] 5 (spAloneF K C) f17 _ := ⟨ok_af F17 T U Zc inp, b17, k17, m a17⟩
  have e18 : Def l.prog w K mg base "is_answers" ["task", "thing"] 5 (spIsAns K C) f18 _ := ⟨ok_isans F18 T T2 Zc e14 e5, b18, k18, m a18⟩
  have e19 : Def l.prog w K mg base "is_boxed" ["task", "thing"] 6 (spIsBoxed K C) f19 _ := ⟨ok_isboxed F19 T Zc e16 e18, b19, k19, m a19⟩
  have e20 : Def l.prog w K mg base "is_answered" ["task", "pair", "hand", "output"] 1 (spAnswered K C) f20 _ := ⟨ok_answered F20 Zc, b20, k20, m a20⟩
  have e21 : Def l.prog w K mg base "at_odds" ["task", "hand", "at", "output"] 2 (spOdds K C) f21 _ := ⟨ok_odds F21 T Zc e20 prs, b21, k21, m a21⟩
  have e22 : Def l.prog w K mg base "answers_to" ["task", "hand", "alone"] 2 (spAnsTo K C) f22 _ := ⟨ok_ansto F22 T Zc prs, b22, k22, m a22⟩
  have e23 : Def l.prog w K mg base "boxed" ["task"] 5 (spBoxU K C) f23 _ := ⟨respec (ok_boxed F23 T U Zc e21 e22 inp) (fun _ _ _ _ h => boxU h), b23, k23, m a23⟩
  have e24 : Def l.prog w K mg base "answers_fault" ["task", "hand", "alone", "answers"] 2 (spAnsF K C) f24 _ := ⟨ok_ansf F24 T Zc prs, b24, k24, m a24⟩
  have e25 : Def l.prog w K mg base "boxed_fault" ["task", "thing"] 7 (spBoxF K C) f25 _ := ⟨ok_boxf F25 T U Zc e19 e17 e24, b25, k25, m a25⟩
  have e26 : Def l.prog w K mg base "is_boxed_bar" ["task", "thing"] 5 (spIsBar K C) f26 _ := ⟨ok_isbar F26 T Zc e3 e2 inp, b26, k26, m a26⟩
  have e27 : Def l.prog w K mg base "boxed_bar_fault" ["task", "thing"] 6 (spBarF K C) f27 _ := ⟨ok_barf F27 T Zc e26 e20, b27, k27, m a27⟩
  have e33 : Def l.prog w K mg base "_law_whole" ["_law_thing", "_law_low", "_law_high"] 1 (spLWh K) f33 _ := ⟨ok_lwh F33 T, b33, k33, m a33⟩
  have e34 : Def l.prog w K mg base "_law_outputs" ["_law_thing", "_law_many"] 2 (spLOu K) f34 _ := ⟨ok_lou F34 T e33, b34, k34, m a34⟩
  have e35 : Def l.prog w K mg base "_law_form" ["_law_alone", "_law_both", "_law_thing"] 3 (spLForm K C) f35 _ := ⟨ok_lf F35 T T2 e33 e34, b35, k35, m a35⟩
  have e36 : Def l.prog w K mg base "_law_due" ["_law_alone", "_law_both", "_law_thing"] 4 (spLDue K C) f36 _ := ⟨ok_ld F36 T T2 e35, b36, k36, m a36⟩
  have e37 : Def l.prog w K mg base "_law_bar_due" ["_law_alone", "_law_both", "_law_thing"] 2 (spLBar K) f37 _ := ⟨ok_lb F37 T T2 (mz z17) e33, b37, k37, m a37⟩
  have e38 : Def l.prog w K mg base "_law_drawn" ["_law_state", "_law_alone", "_law_both"] 2 spDrawn f38 _ := ⟨ok_dn F38 T e29, b38, k38, m a38⟩
  have e39 : Def l.prog w K mg base "_law_spoilt" ["_law_state", "_law_thing"] 2 (spSpoilt K C) f39 _ := ⟨ok_sp F39 T T2 e29, b39, k39, m a39⟩
  have e40 : Def l.prog w K mg base "_law_any_bar" ["_law_state", "_law_alone"] 2 (spAnyBar K) f40 _ := ⟨ok_ab F40 T e29, b40, k40, m a40⟩
  exact ok_law F41 T T2 Zc (mz z16) e28 e29 e32 tk e23 e40 e38 e39 e25 e36 e27 e37 e35
theorem walk {l : PySem.W.OpenLaw} {q : Program} {loose : List Str} {XP : (Str → Option Value) → Heap → Prop} {YP : World → Heap → Prop} {d : DefRec} {K : Params → PySem.W.Frag} (hn : l.most = some 63) (hdf : d.params.defaults = [])
    (hY : ∀ (w : World) (h : Heap), YP w h → (K w.params).In h)
    (F : ∀ (w : World) (mg : Str → Option Value) (fa : Addr) (h : Heap), (K w.params).In h → h.Ns mainGlobals mg → mg d.name = some (.ref fa) →
      ∃ fd : FuncData, (∀ (s : Shared) (u : Value), BindsTo s fd ⟨[u], []⟩ [("_law_script", u)]) ∧ ∀ base : Heap, (K w.params).In base → base.Ns mainGlobals mg → Quiet l.prog w (K w.params) mg base 9 fa fd ["_law_script"] (spLaw (K w.params))) :
    PySem.W.WalkO q loose XP YP l.row.toRowW d [] (fun f vs => PySem.call f vs) := by
  refine Att.attach_callB hn hdf fun w s₀ s mg mb fa o pm cd doc a vs ns G Y ho hd hcd hmg hobj hints hlen hbits hg => ?_
  have KX := hY w _ Y
  obtain ⟨fd, hb, hF⟩ := F w mg fa _ KX G.T.g hmg
  exact quiet_end0 KX G.T.g G.T.b G.T.builtins G.T.nolimit hg hobj hints (Nat.le_trans hlen (by decide)) ⟨rfl, by decide, by decide⟩ hF hb fun H hS => ⟨a, ns, rfl, hS, hlen, fun _ => rfl⟩
end TA
open PySem PySem.W PyProof.Rows
set_option maxRecDepth 100000 in
set_option maxHeartbeats 0 in
theorem PySem.Challenge.cw_twoalone_k82_boxed_ones_judged_holds : PySem.Challenge.rw_twoalone_k82_boxed_ones_judged.Holds := by
  w_on; o_law; k_head; (case hw => w_witness2)
  k_fill
  refine TA.walk (l := PySem.Challenge.rw_twoalone_k82_boxed_ones_judged) rfl rfl (fun w h Y => PySem.W.kIn_of Y) ?F
  case F =>
    intro w mg fa h KX G hmg
    refine' TA.all_mk KX G hmg ?aC ?ya1 ?yi1 ?yl1 ?yc1 ?yk1 ?ya2 ?yi2 ?yl2 ?yc2 ?yk2 ?ya3 ?yi3 ?yl3 ?yc3 ?yk3 ?pg ?hd ?po ?sa ?mkC ?kC ?nA ?nB ?a1 ?l1 ?c1 ?k1 ?a2 ?l2 ?c2 ?k2 ?a3 ?l3 ?c3 ?k3 ?a4 ?l4 ?c4 ?k4 ?a5 ?l5 ?c5 ?k5 ?a6 ?l6 ?c6 ?k6 ?a7 ?l7 ?c7 ?k7 ?a8 ?l8 ?c8 ?k8 ?a9 ?l9 ?c9 ?k9 ?a10 ?l10 ?c10 ?k10 ?a11 ?l11 ?c11 ?k11 ?a12 ?l12 ?c12 ?k12 ?a13 ?l13 ?c13 ?k13 ?a14 ?l14 ?c14 ?k14 ?a15 ?l15 ?c15 ?k15 ?a16 ?l16 ?c16 ?k16 ?a17 ?l17 ?c17 ?k17 ?a18 ?l18 ?c18 ?k18 ?a19 ?l19 ?c19 ?k19 ?a20 ?l20 ?c20 ?k20 ?a21 ?l21 ?c21 ?k21 ?a22 ?l22 ?c22 ?k22 ?a23 ?l23 ?c23 ?k23 ?a24 ?l24 ?c24 ?k24 ?a25 ?l25 ?c25 ?k25 ?a26 ?l26 ?c26 ?k26 ?a27 ?l27 ?c27 ?k27 ?a28 ?l28 ?c28 ?k28 ?a29 ?l29 ?c29 ?k29 ?a30 ?l30 ?c30 ?k30 ?a31 ?l31 ?c31 ?k31 ?a32 ?l32 ?c32 ?k32 ?a33 ?l33 ?c33 ?k33 ?a34 ?l34 ?c34 ?k34 ?a35 ?l35 ?c35 ?k35 ?a36 ?l36 ?c36 ?k36 ?a37 ?l37 ?c37 ?k37 ?a38 ?l38 ?c38 ?k38 ?a39 ?l39 ?c39 ?k39 ?a40 ?l40 ?c40 ?k40 ?a41 ?l41 ?c41 ?k41 ?z0 ?z1 ?z2 ?z3 ?z4 ?z5 ?z6 ?z7 ?z8 ?z9 ?z10 ?z11 ?z12 ?z13 ?z14 ?z15 ?z16 ?z17 ?i0 ?t0 ?u0
    (case aC => k_is); (case ya1 => k_is); (case yi1 => k_is); (case yl1 => k_is); (case yc1 => k_is); (case yk1 => k_is); (case ya2 => k_is); (case yi2 => k_is); (case yl2 => k_is); (case yc2 => k_is); (case yk2 => k_is); (case ya3 => k_is); (case yi3 => k_is); (case yl3 => k_is); (case yc3 => k_is); (case yk3 => k_is); (case pg => k_is); (case hd => k_is); (case po => k_is); (case sa => k_is); (case mkC => k_is); (case kC => k_is); (case nA => k_is); (case nB => k_is)
    (case a1 => k_is); (case l1 => k_is); (case c1 => k_is); (case k1 => k_is); (case a2 => k_is); (case l2 => k_is); (case c2 => k_is); (case k2 => k_is); (case a3 => k_is); (case l3 => k_is); (case c3 => k_is); (case k3 => k_is); (case a4 => k_is); (case l4 => k_is); (case c4 => k_is); (case k4 => k_is); (case a5 => k_is); (case l5 => k_is); (case c5 => k_is); (case k5 => k_is); (case a6 => k_is); (case l6 => k_is); (case c6 => k_is); (case k6 => k_is); (case a7 => k_is); (case l7 => k_is); (case c7 => k_is); (case k7 => k_is); (case a8 => k_is); (case l8 => k_is); (case c8 => k_is); (case k8 => k_is); (case a9 => k_is); (case l9 => k_is); (case c9 => k_is); (case k9 => k_is); (case a10 => k_is); (case l10 => k_is); (case c10 => k_is); (case k10 => k_is); (case a11 => k_is); (case l11 => k_is); (case c11 => k_is); (case k11 => k_is); (case a12 => k_is); (case l12 => k_is); (case c12 => k_is); (case k12 => k_is); (case a13 => k_is); (case l13 => k_is); (case c13 => k_is); (case k13 => k_is); (case a14 => k_is); (case l14 => k_is); (case c14 => k_is); (case k14 => k_is); (case a15 => k_is); (case l15 => k_is); (case c15 => k_is); (case k15 => k_is); (case a16 => k_is); (case l16 => k_is); (case c16 => k_is); (case k16 => k_is); (case a17 => k_is); (case l17 => k_is); (case c17 => k_is); (case k17 => k_is); (case a18 => k_is); (case l18 => k_is); (case c18 => k_is); (case k18 => k_is); (case a19 => k_is); (case l19 => k_is); (case c19 => k_is); (case k19 => k_is); (case a20 => k_is); (case l20 => k_is); (case c20 => k_is); (case k20 => k_is); (case a21 => k_is); (case l21 => k_is); (case c21 => k_is); (case k21 => k_is); (case a22 => k_is); (case l22 => k_is); (case c22 => k_is); (case k22 => k_is); (case a23 => k_is); (case l23 => k_is); (case c23 => k_is); (case k23 => k_is); (case a24 => k_is); (case l24 => k_is); (case c24 => k_is); (case k24 => k_is); (case a25 => k_is); (case l25 => k_is); (case c25 => k_is); (case k25 => k_is); (case a26 => k_is); (case l26 => k_is); (case c26 => k_is); (case k26 => k_is); (case a27 => k_is); (case l27 => k_is); (case c27 => k_is); (case k27 => k_is); (case a28 => k_is); (case l28 => k_is); (case c28 => k_is); (case k28 => k_is); (case a29 => k_is); (case l29 => k_is); (case c29 => k_is); (case k29 => k_is); (case a30 => k_is); (case l30 => k_is); (case c30 => k_is); (case k30 => k_is); (case a31 => k_is); (case l31 => k_is); (case c31 => k_is); (case k31 => k_is); (case a32 => k_is); (case l32 => k_is); (case c32 => k_is); (case k32 => k_is); (case a33 => k_is); (case l33 => k_is); (case c33 => k_is); (case k33 => k_is); (case a34 => k_is); (case l34 => k_is); (case c34 => k_is); (case k34 => k_is); (case a35 => k_is); (case l35 => k_is); (case c35 => k_is); (case k35 => k_is); (case a36 => k_is); (case l36 => k_is); (case c36 => k_is); (case k36 => k_is); (case a37 => k_is); (case l37 => k_is); (case c37 => k_is); (case k37 => k_is); (case a38 => k_is); (case l38 => k_is); (case c38 => k_is); (case k38 => k_is); (case a39 => k_is); (case l39 => k_is); (case c39 => k_is); (case k39 => k_is); (case a40 => k_is); (case l40 => k_is); (case c40 => k_is); (case k40 => k_is); (case a41 => k_is); (case l41 => k_is); (case c41 => k_is); (case k41 => k_is); (case z0 => k_is); (case z1 => k_is); (case z2 => k_is); (case z3 => k_is); (case z4 => k_is); (case z5 => k_is); (case z6 => k_is); (case z7 => k_is); (case z8 => k_is); (case z9 => k_is); (case z10 => k_is); (case z11 => k_is); (case z12 => k_is); (case z13 => k_is); (case z14 => k_is); (case z15 => k_is); (case z16 => k_is); (case z17 => k_is); (case i0 => k_is); (case t0 => k_is); (case u0 => k_is)
