import PyProof.Rows.All
import Wide.All
import OpenK.AllK
import Wide.FinOn
import HandS.ForMost
import HandS.IsInst
import HandS.DictTup
import HandS.Conv
import HandS.TupSets
import HandS.Walk
import HandS.SetBool
import HandS.DictComp
import HandS.Strs
import HandS.SetFor
import KE.KDictCopyH
import KE.KDictDisplayH
import PyProof.ReprRoads
import PyProof.CallFns
import PyProof.ReprLen
import KE.DataFind
import HandS.Lambda
import HandS.EndTab
import KE.KDictOf
import PyProof.DictMoreH
import PyProof.DictFindH
import PyProof.P3Eq
import HandS.TupLen
import HandS.DictEq
import HandS.ListEq
import HandS.OwnEq
import HandS.Defaults
import HandS.MakeKwOnly
import KE.KDictPairs
import HandS.Style
import HandS.Deep
import HandS.NoneIn
import HandS.Wide
import HandS.ExcIs
import HandS.ForExc
import HandS.More
import HandS.EndBits
import KE.KNestM
import PyProof.ReprText
import PySem.Challenge.RW_twoalone_k01_tasks_told
set_option Elab.async false
set_option maxRecDepth 100000
set_option maxHeartbeats 4000000
namespace L2
open PySem PySem.Spec PyProof.Rows
set_option linter.unusedVariables false
/-! dicts with tuple keys: their items walked, their keys sorted -/
section
variable {X : Cx} {pins : List (Addr × Obj)} {σ : St} {H : Hp} {s : Shared} {d : Addr} {o : Obj}
/-- a locked dict of tuple keys as it lies: its entries, the keys' tuples, the values -/
theorem Inv.entriesT {kvs : List (List Key × V)} (I : Inv X pins σ H s) (locked : H d = some (.frz o (.dT kvs))) :
    (d == sysModules) = false ∧ ∃ (es : Array DictEntry) (ep : Nat), o.data = .dict es ep ∧ DT.Raw s.heap d es ep ∧ es.size = kvs.length ∧
      ∀ (i : Nat) (k : List Key) (v : V), kvs[i]? = some (k, v) → ∃ (hi : i < es.size) (q : Addr), es[i].key = .ref q ∧ H q = some (.tup (k.map kV)) ∧ RelV v es[i].val := by
  obtain ⟨there, _, notSys, xs, pairs, o', es, ep, found, exact', data, rows, _⟩ := I.hok d _ locked
  rw [there] at found
  cases found
  have sizes : es.size = kvs.length := (size_of_entries rows).trans (Paired.length pairs).symm
  refine ⟨notSys, es, ep, data, ⟨o, there, exact', data⟩, sizes, fun i k v e => ?_⟩
  obtain ⟨b, hb, e1, e2, e3⟩ := paired_get pairs e
  have hi : i < es.size := by rw [sizes]; exact (List.getElem?_eq_some_iff.mp e).1
  have q := entry_at rows i
  rw [hb, Array.getElem?_eq_getElem hi] at q
  have q' : es[i] = entryOfKey (tupleKind (mixKind X.prog X.w)) b := Option.some.inj q
  exact ⟨hi, b.2.1, by rw [q']; rfl, e2, by rw [q']; exact e3⟩
end
/-- the items of the locked dict at d: each a new pair of the key's own tuple and the value -/
def Itit (d : Addr) (o : Obj) (kvs : List (List Key × V)) : It :=
  ⟨fun i H => H d = some (.frz o (.dT kvs)) ∧ i < kvs.length,
   fun i H x H' => ∃ (T q : Addr) (k : List Key) (v : V), kvs[i]? = some (k, v) ∧ H q = some (.tup (k.map kV)) ∧ x = .ref T ∧ H T = none ∧ H' = upd H T (.tup [.ref q, v]),
   fun i H => H d = some (.frz o (.dT kvs)) ∧ kvs.length ≤ i⟩
theorem turn_itemsT {P : Program} {w : World} {K : PySem.W.Frag} {d : Addr} {o : Obj} {es : Array DictEntry} {ep : Nat} {kvs : List (List Key × V)} {elts : List Expr} {kk : Nat} {tpos : Pos} (it : Addr) (hod : o.data = .dict es ep) :
    Turn P w K (.Tuple elts kk tpos) (Itit d o kvs) [it] it (fun i h => ∃ ok ov, IsItemIter h it d i kvs.length ep ok ov) where
  mem := by simp
  obj := fun i h ⟨ok, ov, e⟩ b hb => by
    rw [List.mem_singleton.mp hb]
    exact ⟨_, e, fun v z => nomatch z⟩
  keep := fun i h h' ⟨ok, ov, e⟩ k => ⟨ok, ov, k it (by simp) _ e⟩
  item := by
    rintro X rfl rfl rfl hc i pins s σ H E I hf ⟨ok, ov, he⟩ ⟨hd, hi⟩
    obtain ⟨_, es', ep', hdt, raw, hsz, ent⟩ := I.entriesT hd
    obtain ⟨rfl, rfl⟩ := dict_ep hod hdt
    obtain ⟨⟨k, v⟩, hkv⟩ : ∃ p, kvs[i]? = some p := ⟨kvs[i], List.getElem?_eq_getElem hi⟩
    obtain ⟨hi', q, hkey, hq, rv⟩ := ent i k v hkv
    rw [← hsz] at he
    have hlt : it < s.heap.objs.size := Heap.lt_size he
    refine DT.nextI he raw hi' fun h' out laid grown kept => ?_
    refine ⟨_, rfl, wpAny_letOwnedTupleGo_items (s := { s with heap := h' }) out fun h'' he' sb => ?_⟩
    have laid2 : h''.get? s.heap.objs.size = some { cls := .type "tuple", data := .seq #[es'[i].key, es'[i].val] } := (sb.2 _ (Nat.ne_of_gt hlt)).trans laid
    have pair : ObjOk X.prog X.w (upd H s.heap.objs.size (.tup [.ref q, v])) h'' s.heap.objs.size (.tup [.ref q, v]) :=
      ⟨by show 2 ≤ sizeLine; decide, [es'[i].key, es'[i].val], .cons hkey (.cons rv .nil), ⟨_, laid2, rfl, _, rfl⟩⟩
    have I1 : Inv X pins σ (upd H s.heap.objs.size (.tup [.ref q, v])) { s with heap := h'' } :=
      I.turnedNew (t' := s.toks) (ch := [it]) (fun b ob hb e => (sb.2 b (fun z => hb (List.mem_singleton.mpr z))).trans (kept b ob (fun z => hb (List.mem_singleton.mpr z)) e)) hf (Nat.le_refl _) pair
    refine ⟨.ref s.heap.objs.size, _, I1, rfl, ⟨_, q, k, v, hkv, hq, rfl, I.hok.fresh (Nat.le_refl _), rfl⟩, ⟨es'[i].key, es'[i].val, by rw [← hsz]; exact he'⟩, fun b hb => ?_⟩
    rw [List.mem_singleton.mp hb, upd_ne (Nat.ne_of_lt hlt)]
    exact (hf it (by simp)).1
  done := by
    rintro X rfl rfl rfl hc i pins s σ H E I hf ⟨ok, ov, he⟩ ⟨hd, hi⟩
    obtain ⟨f0, f1, f2, f3, f4, f5⟩ := hf it (by simp)
    obtain ⟨_, es', ep', hdt, raw, hsz, ent⟩ := I.entriesT hd
    obtain ⟨rfl, rfl⟩ := dict_ep hod hdt
    rw [← hsz] at he
    exact DT.endI (I.ok.hd hc) he raw (by omega) fun h' eb => ⟨rfl, I.turned (t' := s.toks) (fun b ob hb e => eb b ob hb e) f0 f1 f3 f4 f5⟩
  self := fun A i s Q E ⟨_, _, e⟩ h => PySem.W.kcp_self e h
/-- for a, b in e.items(): e a locked dict of tuple keys -/
def iItemsT (td : TE) : TI := fun σ H R => td σ H fun x H1 => ∃ d o kvs, x = .ref d ∧ H1 d = some (.frz o (.dT kvs)) ∧ R (Itit d o kvs) H1
theorem pi_itemsT {X : Cx} {e : Expr} {td : TE} {apos cpos : Pos} {elts : List Expr} {kk : Nat} {tpos : Pos} (he : PE X e td) (hbase : attributeBase e "items" X.env (eval e X.env) = eval e X.env := by rfl) (hline : (apos.endLine == cpos.line) = true := by rfl) :
    PI X (.Tuple elts kk tpos) (.Call (.Attribute e "items" apos) [] [] cpos) (iItemsT td) := by
  refine ⟨fun pins s σ H R I h => ?_⟩
  refine wpAny_Call_method (T := "dict") (id := "dict.items") hbase rfl hline F.plainAttrs_dict F.slot_dict_items F.type_dict_items (thn (he.run pins s σ H _ I h) fun u s1 ⟨x, H1, I1, rx, d, o, kvs, ex, hd, q⟩ => ?_)
  subst ex
  obtain rfl : u = Value.ref d := rx
  obtain ⟨notSys, es, ep, hdt, raw, hsz, ent⟩ := I1.entriesT hd
  refine ⟨raw.typeIs, fun b z => ?_, ?_⟩
  · cases z
    obtain ⟨ob, h1, h2, h3⟩ := raw
    exact ⟨ob, h1, h2.2.1⟩
  have I2 : Inv X pins σ H1 { s1 with heap := s1.heap.push { cls := .type "dict_items", data := .fields #[.ref d] } } := I1.kept (t' := s1.toks) fun b ob q => Heap.get?_push_of_some _ q
  have walk : wpAny (model X.prog X.w) X.A (pyIter (.ref s1.heap.objs.size)) (PIE X pins σ (.Tuple elts kk tpos) R) X.xe { s1 with heap := s1.heap.push { cls := .type "dict_items", data := .fields #[.ref d] } } := by
    refine DT.iterI (d := d) ⟨_, Heap.get?_push_size _ rfl, rfl, rfl⟩ (raw.push _) (pi_one (tk := s1.toks) I2 _ (turn_itemsT _ hdt) ⟨.none, .none, ?_⟩ q)
    rw [← hsz]
    exact Heap.get?_push_size _ rfl
  show wpAny _ _ (callWith cpos (.builtin "dict.items") [.ref d] [] []) _ X.xe s1
  exact method_meetsIn F.slot_dict_items F.entry_dict_items rfl (PySem.evalArgs_none ⟨rfl, raw.typeIs, F.args_dict_items_1 _, _, DT.meetsItems (es := es) (ep := ep) notSys, raw, walk⟩)
end L2

set_option Elab.async false
set_option maxRecDepth 100000
set_option maxHeartbeats 4000000
namespace L2
open PySem PySem.Spec PyProof.Rows
set_option linter.unusedVariables false
/-! one core for comprehensions that gather into any thing: what is laid first, and what a turn adds, are parameters -/
section
variable {X : Cx}
/-- the walk of a comprehension that gathers at D: o0 is what stands there first; add says what one turn does to it -/
def tGather (o0 : Addr → HO) (wi : TI) (g : TG) (tt : TT) (add : Addr → St → Hp → (Hp → Prop) → Prop) (vs : List Nat) : TE := fun σ H Q =>
  wi σ H fun J H1 => ∀ D, H1 D = none → ∃ W : Nat → Nat → Hp → Prop, (∃ m, W 0 m (upd H1 D (o0 D))) ∧ ∀ i m H, W i m H →
    (J.stop i H ∧ Q (.ref D) H) ∨
    (J.go i H ∧ ∃ Nx : Hp → Prop, (∀ H', Nx H' → ∃ m', m' < m ∧ W (i + 1) m' H') ∧
      ∀ x H', J.yld i H x H' → g x (wipe σ vs) H' fun σ2 H2 => wipe σ2 vs = wipe σ vs ∧ tt σ2 H2 fun b H3 => if b = true then add D σ2 H3 Nx else Nx H3)
/-- one turn as the machine does it: the next thing, the target, the tests, then Body or the way back -/
def TurnIs (P : Program) (w : World) (A : Around) (target iter : Expr) (ifs : List Expr) (it : Value) (env : Env) (R : Result → Shared → Prop) (Body : (Shared → Prop) → Shared → Prop) (back : Shared → Prop) (s : Shared) : Prop :=
  wpAny (model P w) A (pyNext it) (fun r s₁ => match r with
    | none => R (.ok .next) s₁
    | some v => wpAny (model P w) A (letOwnedTupleGo target it v) (fun _ s₁' =>
        wpAny (model P w) A (assign target env v) (fun _ s₂ =>
          wpAny (model P w) A (forIn ifs true fun c r => if r = true then do let ok ← isTrue c env (eval c env); pure (ForInStep.yield ok) else pure (ForInStep.yield r))
            (fun ok s₃ => if ok = true then Body back s₃ else back s₃) (notedBy (model P w) A env fun e s' => R (.error e) s') s₂)
          (notedBy (model P w) A env fun e s' => R (.error e) s') s₁')
        (notedBy (model P w) A env fun e s' => R (.error e) s') s₁)
    (notedBy (model P w) A env fun e s' => R (.error e) s') s
variable {pins : List (Addr × Obj)} {s : Shared} {σ : L2.St} {H : Hp} {Q : VK} {node tg iter : Expr} {ifs : List Expr} {scope : Scope} {own : List (PySem.Str × Nat)} {pos' : Pos} {wi : TI} {g : TG} {tt : TT}
  {add : Addr → L2.St → Hp → (Hp → Prop) → Prop} {o0 : Addr → HO} {ob : Obj} {mk : Sem Value} {use : Option (Value → Sem Unit)} {Qf : Value → Shared → Prop} {Body : Value → Env → (Result → Shared → Prop) → (Shared → Prop) → Shared → Prop}
theorem gather_core (hc : X.calm = true) (hN : X.N.Nodup) (I : Inv X pins σ H s) (hi : PI X tg iter wi) (ok : BlkOk X.N X.env.scope scope own) (hcl : clausesOf node = [⟨tg, iter, ifs, 0⟩])
    (hmk : ∀ (A : Around) (E : Value → Shared → Prop) (s : Shared) (Q : Value → Shared → Prop), Q (.ref s.heap.objs.size) { s with heap := s.heap.push ob } → wpAny (model X.prog X.w) A mk Q E s)
    (hob : ∀ (h : Heap) (H : Hp), sysModules < h.objs.size → ObjOk X.prog X.w H (h.push ob) h.objs.size (o0 h.objs.size))
    (hloop : ∀ (it : Value) (D : Addr) (env : Env) (R : Result → Shared → Prop) (I : Nat → Shared → Prop), (∀ n s, I n s → TurnIs X.prog X.w X.A tg iter ifs it env R (Body (.ref D) env R) (fun s' => ∃ m, m < n ∧ I m s') s) →
      ∀ n s, I n s → codeAny (model X.prog X.w) X.A (.compLoop node 0 it (.ref D) env) R s)
    (hstart : ∀ (it acc : Value) (env : Env) (R : Result → Shared → Prop) (s : Shared), codeAny (model X.prog X.w) X.A (.compLoop node 0 it acc env) R s →
      wpAny (model X.prog X.w) X.A (pyIter it) (fun it' s' => codeAny (model X.prog X.w) X.A (.compLoop node 0 it' acc env) R s') (notedBy (model X.prog X.w) X.A env fun x s' => R (.error x) s') s →
      codeAny (model X.prog X.w) X.A (.compStart node 0 it acc env) R s)
    (hg : ∀ (s : Shared) (H : Hp) (C : Addr) (cl : List (PySem.Str × Addr)) (fp : List Addr), PG (X.blk s H scope (compEnvC scope cl C X.env) fp) tg g)
    (ht : ∀ (s : Shared) (H : Hp) (C : Addr) (cl : List (PySem.Str × Addr)) (fp : List Addr), PTs (X.blk s H scope (compEnvC scope cl C X.env) fp) ifs tt)
    (hadd : ∀ (s : Shared) (H : Hp) (C : Addr) (cl : List (PySem.Str × Addr)) (fp : List Addr) (D : Addr) (R : Result → Shared → Prop) (Nx : Hp → Prop) (back : Shared → Prop) (pins' : List (Addr × Obj)) (σ2 : L2.St) (H3 : Hp) (s3 : Shared),
      Inv (X.blk s H scope (compEnvC scope cl C X.env) fp) pins' σ2 H3 s3 → add D σ2 H3 Nx → (∀ s' H', Inv (X.blk s H scope (compEnvC scope cl C X.env) fp) pins' σ2 H' s' → Nx H' → back s') → Body (.ref D) (compEnvC scope cl C X.env) R back s3)
    (hs : ∀ x, foldedSetIterable iter X.env x = pure x) (h : tGather o0 wi g tt add (own.map (·.2)) σ H Q)
    (hRR : ∀ D C s' m H', Inv X pins σ H' s' → Q (.ref D) H' → s'.heap.Ns C m → FpOk X pins H' C → compPost (model X.prog X.w) X.A X.xe use Qf (.ref D) C (.ok .next) s') :
    wpAny (model X.prog X.w) X.A (comprehension node scope X.env pos' mk false (eval iter X.env) use) Qf X.xe s := by
  have free : ∀ y ∈ scope.names, y.2 = .free → ∃ c, X.env.cells.lookup y.1 = some c := fun y hy e => (ok.free y hy e).elim (fun k => I.ok.has _ (.inl k)) (fun k => I.ok.has _ (.inr k))
  refine wpAny_comprehension_free (use := use) hcl hs (closure_ok free) ok.kind (fun y hy e => by rw [ok.uniq y hy, e]) (thn (hi.run pins s σ H _ I h) fun xv s1 hx => thn hx fun itv s2 h2 => ?_)
  obtain ⟨it, fp, tn, J, H2, e, I2, T, st2, f2, q⟩ := h2
  subst e
  refine hmk _ _ _ _ (newEnv_comp ?_)
  obtain ⟨W, ⟨m0, w0⟩, turn⟩ := q s2.heap.objs.size (I2.hok.fresh (Nat.le_refl _))
  have I3 : Inv X pins σ (upd H2 s2.heap.objs.size (o0 s2.heap.objs.size)) ({ s2 with heap := s2.heap.push ob } : Shared) :=
    I2.laid (t' := s2.toks) (fun b o e => Heap.get?_push_of_some _ e) (Nat.le_refl _) (hob _ _ I2.big)
  have f3 : ∀ b ∈ fp, FpOk X pins (upd H2 s2.heap.objs.size (o0 s2.heap.objs.size)) b ∧ b < (s2.heap.push ob).objs.size := fun b hb => by
    obtain ⟨o, e, _⟩ := T.obj _ _ st2 b hb
    have lt := Heap.lt_size e
    exact ⟨⟨by rw [upd_ne (Nat.ne_of_lt lt)]; exact (f2 b hb).1, (f2 b hb).2⟩, by rw [Heap.size_push]; exact Nat.lt_succ_of_lt lt⟩
  have st3 : tn 0 (s2.heap.push ob) := T.keep _ _ _ st2 fun b _ o e => Heap.get?_push_of_some _ e
  generalize hD : s2.heap.objs.size = D at I3 w0 turn f3 ⊢
  generalize hs3 : ({ s2 with heap := s2.heap.push ob } : Shared) = s3 at I3 ⊢
  have h3 : s3.heap = s2.heap.push ob := by rw [← hs3]
  rw [← h3] at f3 st3
  generalize upd H2 D (o0 D) = H3 at I3 w0 f3
  have I4 := block_start I3 ok hN f3
  have pg := hg s3 H3 s3.heap.objs.size (cellsFrom (s3.heap.objs.size + 1) scope.names (cloFrom X.env.cells scope.names [])) fp
  have pt := ht s3 H3 s3.heap.objs.size (cellsFrom (s3.heap.objs.size + 1) scope.names (cloFrom X.env.cells scope.names [])) fp
  have pa := hadd s3 H3 s3.heap.objs.size (cellsFrom (s3.heap.objs.size + 1) scope.names (cloFrom X.env.cells scope.names [])) fp
  show codeAny _ _ (.compStart node 0 (.ref it) (.ref D) (compEnvC scope (cellsFrom (s3.heap.objs.size + 1) scope.names (cloFrom X.env.cells scope.names [])) s3.heap.objs.size X.env)) (compPost (model X.prog X.w) X.A X.xe use Qf (.ref D) s3.heap.objs.size) { s3 with heap := pushCells (s3.heap.push { cls := .type "dict", data := .dict #[] }) scope.names }
  generalize hce : compEnvC scope (cellsFrom (s3.heap.objs.size + 1) scope.names (cloFrom X.env.cells scope.names [])) s3.heap.objs.size X.env = ce at I4 pg pt pa ⊢
  have cL : ce.locals = s3.heap.objs.size := by subst hce; rfl
  generalize hs4 : ({ s3 with heap := pushCells (s3.heap.push { cls := .type "dict", data := .dict #[] }) scope.names } : Shared) = s4 at I4 ⊢
  have st4 : tn 0 s4.heap := T.keep _ _ _ st3 fun b _ o e => by rw [← hs4]; exact pushCells_keeps _ _ _ _ (Heap.get?_push_of_some _ e)
  have still : ∀ {σ' : L2.St} {H' : Hp} {s' : Shared}, Inv (X.blk s3 H3 scope ce fp) [] σ' H' s' → (∀ b ∈ fp, H' b = none) → ∀ b ∈ fp, FpOk (X.blk s3 H3 scope ce fp) [] H' b := fun I' hn b hb =>
    ⟨hn b hb, (I'.ok.exf b hb).1, I'.ok.exfs b hb, .inl hb, fun x c e => (I'.ok.exf b hb).2 x c e, fun p hp => absurd (show p ∈ ([] : List (Addr × Obj)) ++ [] from hp) (by simp)⟩
  have loop := hloop (.ref it) D ce (compPost (model X.prog X.w) X.A X.xe use Qf (.ref D) s3.heap.objs.size)
    (fun n s' => ∃ i H', Inv (X.blk s3 H3 scope ce fp) [] (wipe σ (own.map (·.2))) H' s' ∧ tn i s'.heap ∧ (∀ b ∈ fp, H' b = none) ∧ W i n H') ?_ m0 s4 ⟨0, H3, I4, st4, fun b hb => (f3 b hb).1.1, w0⟩
  · exact hstart _ _ _ _ _ loop (T.self X.A 0 _ _ _ st4 loop)
  rintro n s5 ⟨i, H5, I5, st5, n5, w5⟩
  rcases turn i n H5 w5 with ⟨stop, qq⟩ | ⟨go, Nx, hNx, step⟩
  · refine thnF (T.done (X.blk s3 H3 scope ce fp) rfl rfl rfl hc i [] s5 _ H5 (fun _ _ => False) I5 (still I5 n5) st5 stop) fun r s6 ⟨hr, I6⟩ => ?_
    subst hr
    have I7 : Inv X pins σ H5 s6 := I3.call' (ch := fp) I6.os I6.base I6.hok I6.bare fun b hb => ⟨(f3 b hb).1.2.2.2.1, (f3 b hb).1.2.1, (f3 b hb).1.2.2.2.2.1, (f3 b hb).1.2.2.2.2.2⟩
    have nC : H5 s3.heap.objs.size = none := by
      have z : H5 ce.locals = none := I6.free
      rwa [cL] at z
    obtain ⟨m, hn, _⟩ := I6.loc
    have hn : s6.heap.Ns ce.locals m := hn
    rw [cL] at hn
    exact hRR D s3.heap.objs.size s6 m H5 I7 qq hn (I3.fpOk (Nat.le_refl _) nC)
  · refine thnF (T.item (X.blk s3 H3 scope ce fp) rfl rfl rfl hc i [] s5 _ H5 (fun _ _ => False) I5 (still I5 n5) st5 go) fun r s6 ⟨u, hr, h6⟩ => ?_
    subst hr
    refine thnF h6 fun _ s7 ⟨x, H7, I7, r7, y7, st7, n7⟩ => ?_
    refine thnF (pg.run _ s7 _ H7 x u _ (I7.pinned (still I7 n7) (T.obj _ _ st7)) r7 (step x H7 y7)) fun _ s8 ⟨σ8, H8, I8, hw8, q8⟩ => ?_
    refine thnF (pt.run _ s8 σ8 H8 _ I8 q8) fun b s9 ⟨H9, I9, q9⟩ => ?_
    have again : ∀ (s' : Shared) (H' : Hp), Inv (X.blk s3 H3 scope ce fp) ([] ++ pinsAt fp s7.heap) σ8 H' s' → Nx H' → ∃ m, m < n ∧ ∃ i H', Inv (X.blk s3 H3 scope ce fp) [] (wipe σ (own.map (·.2))) H' s' ∧ tn i s'.heap ∧ (∀ b ∈ fp, H' b = none) ∧ W i m H' := fun s' H' I' nx => by
      obtain ⟨m', hm, w'⟩ := hNx H' nx
      have stands : ∀ b ∈ fp, ∀ o, s7.heap.get? b = some o → s'.heap.get? b = some o ∧ H' b = none := fun b hb o e =>
        let z := I'.pin (b, o) (List.mem_append_right _ (List.mem_append_right _ (mem_pinsAt hb e)))
        ⟨z.1, z.2.1⟩
      refine ⟨m', hm, i + 1, H', (I'.unpinned (pins := [])).weak (by rw [← hw8, wipe_length]) (fun j v e => ?_), T.keep _ _ _ st7 fun b hb o e => (stands b hb o e).1, fun b hb => ?_, w'⟩
      · rw [← hw8] at e
        exact (wipe_some e).1
      · obtain ⟨o, e, _⟩ := T.obj _ _ st7 b hb
        exact (stands b hb o e).2
    cases b with
    | false => exact again s9 H9 I9 q9
    | true => exact pa D _ Nx _ _ σ8 H9 s9 I9 q9 again
end
end L2

set_option Elab.async false
set_option maxRecDepth 100000
set_option maxHeartbeats 4000000
namespace L2
open PySem PySem.Spec PyProof.Rows PpSet
set_option linter.unusedVariables false
/-! the core taken twice: sets of ints, dicts with tuple keys; len of a set -/
/-- a set as it is made -/
abbrev bareSet (w : World) : Obj := { cls := .type "set", dict := none, data := .set #[] 0 (.fresh 0 0 (!w.params.followText "set-order")) }
section
variable {X : Cx}
/-- a turn of {e for ..}, e an int -/
def addI (w : World) (te : TE) : Addr → L2.St → Hp → (Hp → Prop) → Prop := fun D σ H Nx => te σ H fun y H1 => ∃ (k : Int) (S : Int → Bool) (n : Nat), y = .int k ∧ H1 D = some (SetO w D S n) ∧ n + 1 < scanBound ∧
  Nx (upd H1 D (SetO w D (fun j => S j || decide (j = k)) (if S k = true then n else n + 1)))
theorem pe_scI {elt tg iter : Expr} {ifs : List Expr} {scope : Scope} {own : List (PySem.Str × Nat)} {pos : Pos} {wi : TI} {g : TG} {tt : TT} {te : TE} (hc : X.calm = true) (hN : X.N.Nodup) (hi : PI X tg iter wi) (ok : BlkOk X.N X.env.scope scope own)
    (hg : ∀ (s : Shared) (H : Hp) (C : Addr) (cl : List (PySem.Str × Addr)) (fp : List Addr), PG (X.blk s H scope (compEnvC scope cl C X.env) fp) tg g)
    (ht : ∀ (s : Shared) (H : Hp) (C : Addr) (cl : List (PySem.Str × Addr)) (fp : List Addr), PTs (X.blk s H scope (compEnvC scope cl C X.env) fp) ifs tt)
    (he : ∀ (s : Shared) (H : Hp) (C : Addr) (cl : List (PySem.Str × Addr)) (fp : List Addr), PE (X.blk s H scope (compEnvC scope cl C X.env) fp) elt te)
    (hs : ∀ x, foldedSetIterable iter X.env x = pure x := by intro _; rfl) :
    PE X (.SetComp elt [⟨tg, iter, ifs, 0⟩] scope pos) (tGather (fun D => SetO X.w D (fun _ => false) 0) wi g tt (addI X.w te) (own.map (·.2))) := by
  refine ⟨fun pins s σ H Q I h => ?_⟩
  rw [eval_SetComp]
  refine gather_core (ob := bareSet X.w) (mk := newSet (.type "set")) (o0 := fun D => SetO X.w D (fun _ => false) 0) (add := addI X.w te)
    (Body := fun acc env R back s => wpAny (model X.prog X.w) X.A (eval elt env) (fun x s4 => wpAny (model X.prog X.w) X.A (call (.builtin "set.add") [acc, x]) (fun _ s5 => back s5) (notedBy (model X.prog X.w) X.A env fun e s' => R (.error e) s') s4)
      (notedBy (model X.prog X.w) X.A env fun e s' => R (.error e) s') s)
    hc hN I hi ok rfl (fun A E s Q q => newSet_ok q) (fun h H hb => setO_new (setR_fresh X.w)) (fun it D env R I turn n s => compLoopS_any I turn n) (fun it acc env R s a b => codeAny_compStart_set a b) hg ht ?_ hs h ?_
  · intro s H C cl fp D R Nx back pins' σ2 H3 s3 I3 q3 k
    refine thnF ((he s H C cl fp).run _ s3 σ2 H3 _ I3 q3) fun z s4 ⟨yv, H4, I4, r4, n, S, m, ey, hD, room, nx⟩ => ?_
    subst ey
    obtain ⟨tk, rfl⟩ := r4
    refine setR_add (setO_get (X := X.blk s H scope (compEnvC scope cl C X.env) fp) I4 hD) room fun h' sb new => k _ _ (I4.write (e := D) (t' := s4.toks + 1) (by rw [hD]; trivial) (.inl rfl) (fun b u hb hu => (sb.2 b hb).trans hu) ?_ (setO_new new)) nx
    have ⟨o, _, _, _, ho, _⟩ := new
    exact ⟨o, ho⟩
  · intro D C s' m H' I' q hn ⟨f0, f1, f2, f3, f4, f5⟩
    exact ⟨m, hn, fun h'' sb => ⟨.ref D, H', I'.turned (t' := s'.toks) (fun b o hb e => (sb.2 b hb).trans e) f0 f1 f3 f4 f5, rfl, q⟩⟩
/-- len of such a set -/
def rLenSI (w : World) : List V → Hp → VK → Prop := fun xs H Q => ∃ (a : Addr) (S : Int → Bool) (n : Nat), xs = [.ref a] ∧ H a = some (SetO w a S n) ∧ Q (.int (n : Int)) H
theorem call_len_SI : CallR X (.builtin "len") (rLenSI X.w) := by
  intro pins s σ H vs us Q I r h
  obtain ⟨a, S, n, rfl, ha, q⟩ := h
  rw [Vals.ref1 r]
  obtain ⟨o, es, ep, t, ho, hex, hd, _, _, _, small, fits, hn, _⟩ := setO_get I ha
  have lim : es.size < 2 ^ 62 := Nat.lt_trans small (by unfold scanBound; decide)
  refine call_len_set ho hex hd fits (by omega) ⟨.int n, H, (I.tok _).tok _, ⟨_, by rw [hn]⟩, q⟩
/-- a turn of {k: e for ..}, k a tuple of ints and texts -/
def addT (tk tv : TE) : Addr → L2.St → Hp → (Hp → Prop) → Prop := fun D σ H Nx => tk σ H fun y H1 => tv σ H1 fun z H2 => ∃ (kvs : List (List Key × V)) (k : List Key) (b : Addr), y = .ref b ∧ H2 b = some (.tup (k.map kV)) ∧ H2 D = some (.dT kvs) ∧ kvs.length < sizeLine ∧
  Nx (upd H2 D (.dT (putK kvs k z)))
theorem pe_dcT {kx vx tg iter : Expr} {ifs : List Expr} {scope : Scope} {own : List (PySem.Str × Nat)} {pos : Pos} {wi : TI} {g : TG} {tt : TT} {tk tv : TE} (hu : X.A.units + 1 < cLine) (hc : X.calm = true) (hN : X.N.Nodup) (hi : PI X tg iter wi) (ok : BlkOk X.N X.env.scope scope own)
    (hg : ∀ (s : Shared) (H : Hp) (C : Addr) (cl : List (PySem.Str × Addr)) (fp : List Addr), PG (X.blk s H scope (compEnvC scope cl C X.env) fp) tg g)
    (ht : ∀ (s : Shared) (H : Hp) (C : Addr) (cl : List (PySem.Str × Addr)) (fp : List Addr), PTs (X.blk s H scope (compEnvC scope cl C X.env) fp) ifs tt)
    (hk : ∀ (s : Shared) (H : Hp) (C : Addr) (cl : List (PySem.Str × Addr)) (fp : List Addr), PE (X.blk s H scope (compEnvC scope cl C X.env) fp) kx tk)
    (he : ∀ (s : Shared) (H : Hp) (C : Addr) (cl : List (PySem.Str × Addr)) (fp : List Addr), PE (X.blk s H scope (compEnvC scope cl C X.env) fp) vx tv)
    (hs : ∀ x, foldedSetIterable iter X.env x = pure x := by intro _; rfl) :
    PE X (.DictComp kx vx [⟨tg, iter, ifs, 0⟩] scope pos) (tGather (fun _ => .dT []) wi g tt (addT tk tv) (own.map (·.2))) := by
  refine ⟨fun pins s σ H Q I h => ?_⟩
  rw [arm_eval_DictComp]
  refine gather_core (ob := { cls := .type "dict", data := .dict #[] }) (mk := newDict) (o0 := fun _ => .dT []) (add := addT tk tv)
    (Body := fun acc env R back s => match acc with
      | .ref D => wpAny (model X.prog X.w) X.A (eval kx env) (fun kv s4 => wpAny (model X.prog X.w) X.A (eval vx env) (fun vv s5 => wpAny (model X.prog X.w) X.A (dictSet D kv vv) (fun _ s6 => back s6) (notedBy (model X.prog X.w) X.A env fun e s' => R (.error e) s') s5)
          (notedBy (model X.prog X.w) X.A env fun e s' => R (.error e) s') s4) (notedBy (model X.prog X.w) X.A env fun e s' => R (.error e) s') s
      | _ => False)
    hc hN I hi ok rfl (fun A E s Q q => wpAny_newObj_type q) (fun h H hb => dt_empty h hb) (fun it D env R I turn n s => compLoop_anyD I turn n) (fun it acc env R s a b => codeAny_compStart_dict a b) hg ht ?_ hs h ?_
  · intro s H C cl fp D R Nx back pins' σ2 H3 s3 I3 q3 k
    refine thnF ((hk s H C cl fp).run _ s3 σ2 H3 _ I3 q3) fun z s4 ⟨yk, H4, I4, r4, q4⟩ => ?_
    refine thnF ((he s H C cl fp).run _ s4 σ2 H4 _ I4 q4) fun z2 s5 ⟨yv, H5, I5, r5, kvs, ks, b, ey, hb, hD, hz, nx⟩ => ?_
    subst ey
    cases (show z = Value.ref b from r4)
    obtain ⟨hl, hd, xs, rel, dd⟩ := dt_of I5.hok hD
    have hz' : xs.length ≤ sizeLine := by rw [← Paired.length rel]; exact hl
    have grown : (putK kvs ks yv).length ≤ sizeLine := by have := length_putK kvs ks yv; omega
    refine wpAny_dictSet_heap (hsz := hz') (show X.A.units < cLine by omega) (key_of I5.hok hb) dd fun h' dd' same => k _ _ ?_ nx
    obtain ⟨q, es, ep, hq, h2, h3, h4, _, h5⟩ := dd'
    refine d_write I5 (by rw [hD]; exact True.intro) same ⟨q, hq⟩ ⟨grown, hd, _, (rel.put ks hb r5).keeps fun c ys ec => ?_, q, es, ep, hq, h2, h3, h4, h5⟩
    rw [upd_ne (ne_of ec hD (fun z => nomatch z))]
    exact ec
  · intro D C s' m H' I' q hn ⟨f0, f1, f2, f3, f4, f5⟩
    exact ⟨m, hn, fun h'' sb => ⟨.ref D, H', I'.turned (t' := s'.toks) (fun b o hb e => (sb.2 b hb).trans e) f0 f1 f3 f4 f5, rfl, q⟩⟩
end
end L2

set_option Elab.async false
set_option maxRecDepth 100000
set_option maxHeartbeats 4000000
namespace L2
open PySem PySem.Spec PyProof.Rows
set_option linter.unusedVariables false
/-! sorted(d), d a dict whose keys are tuples of ints -/
def rSortDT (d : Nat) (B : Int) : List V → Hp → VK → Prop := fun vs H Q => ∃ (a : Addr) (kvs : List (List Key × V)) (nss : List (List Int)), vs = [V.ref a] ∧ Rd H a (.dT kvs) ∧ kvs.map (·.1) = nss.map (fun ns => ns.map Sum.inl) ∧ nss.length < 64 ∧
  (∀ ns ∈ nss, ns.length = d ∧ TS.Bd B ns) ∧
  ∀ (L : List (Addr × List Int)) (p : Addr), (L.map (·.2)).Perm nss → L.Pairwise (fun q r => TS.code B q.2 ≤ TS.code B r.2) → (∀ q ∈ L, H q.1 = some (.tup (q.2.map V.int))) → H p = none → Q (.ref p) (upd H p (.lst (L.map fun q => V.ref q.1)))
theorem inl_inj : ∀ {a b : List Int}, a.map (Sum.inl : Int → Key) = b.map Sum.inl → a = b
  | [], [], _ => rfl
  | x :: a, y :: b, e => by
    rw [List.map_cons, List.map_cons] at e
    injection e with e1 e2
    rw [Sum.inl.inj e1, inl_inj e2]
  | [], _ :: _, e => by cases e
  | _ :: _, [], e => by cases e
section
variable {X : Cx}
theorem cr_sortedDT {d : Nat} {B : Int} (hd1 : 1 ≤ d) (hc : X.calm = true) : CallR X (.builtin "sorted") (rSortDT d B) := by
  intro pins s σ H vs us Q I r h
  obtain ⟨a, kvs, nss, rfl, hR, hkeys, few, hB, q⟩ := h
  rw [Vals.ref1 r]
  obtain ⟨hz, notSys, ks, pairs, o, es, ep, ho, hx, hdt, rows, nd⟩ := (show ObjOk X.prog X.w H s.heap a (.dT kvs) from hR.ok I.hok)
  have l1 : es.size = ks.length := size_of_entries rows
  have l2 : kvs.length = ks.length := Paired.length pairs
  have l3 : kvs.length = nss.length := by have e := congrArg List.length hkeys; rwa [List.length_map, List.length_map] at e
  -- each row: its tuple, by number
  have row : ∀ (j : Nat) (x : List Key × Addr × Value), ks[j]? = some x → ∃ ns, nss[j]? = some ns ∧ H x.2.1 = some (.tup (ns.map V.int)) := fun j x hj => by
    have lt : j < kvs.length := by have := (List.getElem?_eq_some_iff.mp hj).1; omega
    obtain ⟨b, hb, e1, e2, _⟩ := paired_get pairs (List.getElem?_eq_getElem lt)
    rw [hj] at hb
    cases hb
    have e3 : (kvs.map (·.1))[j]? = some kvs[j].1 := by rw [List.getElem?_map, List.getElem?_eq_getElem lt]; rfl
    rw [hkeys, List.getElem?_map] at e3
    obtain ⟨ns, hns, e4⟩ := Option.map_eq_some_iff.mp e3
    refine ⟨ns, hns, ?_⟩
    rw [e2, ← e4, List.map_map]
    rfl
  refine Calls.call_function_entry kind_sorted plain_sorted entry_sorted (args_sorted1 _) ?_
  unfold Builtin.«sorted»
  refine wpAny_bind (m := checkCount "sorted" 1 1 _) (wpAny_pure ?_)
  refine wpAny_bind (PySem.W.kdu_collect (A := X.A.in1) (kdl_raw notSys hx hdt) (I.ok.hd hc) ho (by omega) fun h' tk acc kept its => ?_)
  have eq : acc.toList = ks.map fun x => Value.ref x.2.1 := by
    apply List.ext_getElem?
    intro j
    rw [List.getElem?_map]
    rcases Nat.lt_or_ge j ks.length with lt | ge
    · have hacc : j < acc.toList.length := by rw [Array.length_toList, its.1, l1]; exact lt
      obtain ⟨en, hen, hv⟩ := its.2 j acc.toList[j] (by rw [← Array.getElem?_toList]; exact List.getElem?_eq_getElem hacc)
      have qe := entry_at rows j
      rw [hen, List.getElem?_eq_getElem lt] at qe
      have e2 : en = entryOfKey (tupleKind (mixKind X.prog X.w)) ks[j] := Option.some.inj qe
      rw [List.getElem?_eq_getElem hacc, List.getElem?_eq_getElem lt, hv, e2]
      rfl
    · rw [List.getElem?_eq_none (by rw [Array.length_toList, its.1, l1]; exact ge), List.getElem?_eq_none ge]
      rfl
  have I1 : Inv X pins σ H { s with heap := h', toks := tk } := I.kept kept
  refine wpAny_bind (wpAny_newList ?_ (by rw [eq, List.length_map, sizeLine_eq]; omega))
  have made : (h'.push (seqObj "list" acc.toList.toArray 0)).get? h'.objs.size = some (seqObj "list" acc.toList.toArray 0) := Heap.get?_push_size _ rfl
  generalize hvs : acc.toList = vs at made eq ⊢
  have I2 : Inv X pins σ H { s with heap := h'.push (seqObj "list" vs.toArray 0), toks := tk } := I1.kept (t' := tk) fun b o e => Heap.get?_push_of_some _ e
  have tups : ∀ v ∈ vs, ∃ (b : Addr) (ns : List Int), v = .ref b ∧ ns ∈ nss ∧ H b = some (.tup (ns.map V.int)) ∧ TS.TupInts (h'.push (seqObj "list" vs.toArray 0)) v ns := fun v hv => by
    rw [eq] at hv
    obtain ⟨x, hx, rfl⟩ := List.mem_map.mp hv
    obtain ⟨j, hj⟩ := List.getElem?_of_mem hx
    obtain ⟨ns, h1, h2⟩ := row j x hj
    obtain ⟨_, ws, rv, it⟩ := (show ObjOk X.prog X.w H (h'.push (seqObj "list" vs.toArray 0)) x.2.1 (.tup (ns.map V.int)) from I2.hok _ _ h2)
    exact ⟨_, ns, rfl, List.mem_of_getElem? h1, h2, _, ws.toArray, rfl, it, by simpa using rv.ints⟩
  show wpAny _ _ _ _ _ { s with heap := h'.push (seqObj "list" vs.toArray 0), toks := tk }
  refine wpAny_bind (wpAny_holding (TS.call_sort_tups (d := d) (B := B) (s := { s with heap := h'.push (seqObj "list" vs.toArray 0), toks := tk }) made (by rw [eq, List.length_map]; omega) hd1 (fun v hv => ?_) fun out a1 a2 => ?_))
  · obtain ⟨b, ns, _, h1, _, h2⟩ := tups v hv
    exact ⟨ns, h2, (hB ns h1).1, (hB ns h1).2⟩
  obtain ⟨e', he'⟩ := sortedHeap_at (vs := vs) (out := out) made
  have kept2 : ∀ b u, h'.get? b = some u → (sortedHeap (h'.push (seqObj "list" vs.toArray 0)) h'.objs.size vs out).get? b = some u := fun b u e => by
    have hb : b < h'.objs.size := Heap.lt_size e
    rw [sortedHeap_old (Nat.ne_of_lt hb) (by rw [size_push']; exact Nat.lt_succ_of_lt hb)]
    exact Heap.get?_push_of_some _ e
  -- the rows that come out
  have L0 : ∀ ws : List Value, (∀ v ∈ ws, v ∈ vs) → ∃ L : List (Addr × List Int), ws = L.map (fun q => Value.ref q.1) ∧ L.map (·.2) = ws.map (TS.intsOf (h'.push (seqObj "list" vs.toArray 0))) ∧ ∀ q ∈ L, H q.1 = some (.tup (q.2.map V.int)) := by
    intro ws
    induction ws with
    | nil => intro _; exact ⟨[], rfl, rfl, fun q hq => by cases hq⟩
    | cons v ws ih =>
      intro hv
      obtain ⟨b, ns, e, _, h2, h3⟩ := tups v (hv v List.mem_cons_self)
      obtain ⟨L, e1, e2, e3⟩ := ih fun u hu => hv u (List.mem_cons_of_mem _ hu)
      refine ⟨(b, ns) :: L, by rw [List.map_cons, e, e1], by rw [List.map_cons, List.map_cons, e2, h3.ints], fun q hq => ?_⟩
      rcases List.mem_cons.mp hq with rfl | z
      · exact h2
      · exact e3 q z
  obtain ⟨L, e1, e2, e3⟩ := L0 out.toList fun v hv => a1.mem_iff.mp hv
  have lenL : (L.map fun q => V.ref q.1).length ≤ sizeLine := by
    have e4 := a1.length_eq
    rw [e1, eq, List.length_map, List.length_map] at e4
    rw [List.length_map, e4, sizeLine_eq]; omega
  refine wpAny_pure ⟨_, rfl, .ref h'.objs.size, upd H h'.objs.size (.lst (L.map fun q => V.ref q.1)), I1.laid (t' := tk) kept2 (Nat.le_refl _)
    (show ObjOk X.prog X.w _ _ _ (.lst (L.map fun q => V.ref q.1)) from ⟨lenL, out.toList, e', by rw [e1]; exact vals_of_refs L, he'⟩), rfl, q L _ ?_ ?_ e3 (I1.hok.fresh (Nat.le_refl _))⟩
  · rw [e2]
    have all : ∀ F : Value → List Int, (∀ (j : Nat) (x : List Key × Addr × Value), ks[j]? = some x → nss[j]? = some (F (.ref x.2.1))) → vs.map F = nss := fun F hF => by
      rw [eq, List.map_map]
      apply List.ext_getElem?
      intro j
      rw [List.getElem?_map]
      cases hj : ks[j]? with
      | none => rw [List.getElem?_eq_none (by have := List.getElem?_eq_none_iff.mp hj; omega)]; rfl
      | some x => rw [hF j x hj]; rfl
    refine (a1.map _).trans (List.Perm.of_eq (all _ fun j x hj => ?_))
    obtain ⟨ns, h1, h2⟩ := row j x hj
    obtain ⟨_, ws, rv, it⟩ := (show ObjOk X.prog X.w H (h'.push (seqObj "list" vs.toArray 0)) x.2.1 (.tup (ns.map V.int)) from I2.hok _ _ h2)
    rw [h1]
    exact congrArg some (show TS.TupInts (h'.push (seqObj "list" vs.toArray 0)) (.ref x.2.1) ns from ⟨_, ws.toArray, rfl, it, by simpa using rv.ints⟩).ints.symm
  · rw [e1, List.pairwise_map] at a2
    have e5 : ∀ q ∈ L, TS.intsOf (h'.push (seqObj "list" vs.toArray 0)) (.ref q.1) = q.2 := fun q hq => by
      obtain ⟨_, ws, rv, it⟩ := (show ObjOk X.prog X.w H (h'.push (seqObj "list" vs.toArray 0)) q.1 (.tup (q.2.map V.int)) from I2.hok _ _ (e3 q hq))
      exact (show TS.TupInts (h'.push (seqObj "list" vs.toArray 0)) (.ref q.1) q.2 from ⟨_, ws.toArray, rfl, it, by simpa using rv.ints⟩).ints
    refine List.Pairwise.imp_of_mem (fun {x y} hx hy hle => ?_) a2
    rw [← e5 x hx, ← e5 y hy]
    exact hle
end
end L2

set_option Elab.async false
set_option maxRecDepth 100000
set_option maxHeartbeats 4000000
namespace L2
open PySem PySem.Spec PyProof.Rows
set_option linter.unusedVariables false
/-! set(xs), xs a list of ints, as a set that can be sorted -/
section
variable {P : Program} {w : World} {A : Around} {E : Value → Shared → Prop} {s : Shared}
theorem set_of_list {l : Addr} {items : Array Value} (ns : List Int) {Q : Value → Shared → Prop} (hh : A.handled = none) (hl : s.heap.IsList l items) (hit : IntsAre items.toList ns) (hb : ns.length + 1 < scanBound)
    (h : ∀ (h' : Heap) (tk c : Nat), SetR w h' s.heap.objs.size (fun j => decide (j ∈ ns)) c → c ≤ ns.length → (∀ b o, s.heap.get? b = some o → h'.get? b = some o) → Q (.ref s.heap.objs.size) { s with heap := h', toks := tk }) :
    wpAny (model P w) A (call (.type "set") [.ref l]) Q E s := by
  have sizes : items.size = ns.length := by rw [← Array.length_toList]; exact IntsAre.length hit
  obtain ⟨c, tl, hmro⟩ := F.called_set.mro
  have hmade := F.called_set.made
  have hsub := F.called_set.sub
  refine wpAny_call (codeAny_of_tree ?_)
  show wpAny (model P w) _ (callAny (.type "set") _) _ _ s
  refine wpAny_pure ⟨Code.quiet_builtin _ (by decide +kernel), codeAny_builtin F.entry_type_call ?_⟩
  rw [Around.under_plain (weight_type_call_type "set" [.ref l] []) rfl]
  have h1 := F.called_set.notType
  have h2 := F.called_set.canCreate
  have hct := F.typeCall_set_1 (.ref l)
  repeat (any_goals (first | assumption | wp_step))
  refine codeAny_mono (code_set_led1 (.ref l) (E := E) (Q₁ := fun obj s₁ => obj = .ref s.heap.objs.size ∧ s₁ = { s with heap := s.heap.push (bareSet w) }) ⟨rfl, rfl⟩) fun r s₁ hr => ?_
  match r, hr with
  | .error e, hr => exact hr
  | .ok .next, hr | .ok .brk, hr | .ok .cont, hr => exact hr.elim
  | .ok (.ret obj), hr =>
    obtain ⟨rfl, rfl⟩ := hr
    have laid : (s.heap.push (bareSet w)).get? s.heap.objs.size = some (bareSet w) := Heap.get?_push_size _ rfl
    have hT : Shared.TypeIs { s with heap := s.heap.push (bareSet w) } (.ref s.heap.objs.size) "set" := ⟨_, laid, rfl⟩
    have hli := F.called_set.init.lookup
    have hbi := F.called_set.init.bind (.ref s.heap.objs.size)
    repeat (any_goals (first | assumption | wp_step))
    refine codeAny_mono (codeAny_call_builtin (R := wants (fun r s₂ => r = .none ∧ ∃ h' tk c, s₂ = { s with heap := h', toks := tk } ∧ SetR w h' s.heap.objs.size (fun j => decide (j ∈ ns)) c ∧ c ≤ ns.length ∧
        (∀ b o, s.heap.get? b = some o → h'.get? b = some o)) E) F.called_set.init.plain F.entry_set_init (check_set_init_1 hT ?_)) fun r₂ s₂ hr₂ => ?_
    · obtain ⟨⟨ocls, odict, odata, oslots⟩, hol, hcl, nl, hdl⟩ := hl
      simp only at hcl hdl
      subst hcl; subst hdl
      have lS : l < s.heap.objs.size := Heap.lt_size hol
      have hol' : (s.heap.push (bareSet w)).get? l = some { cls := .type "list", dict := odict, data := .seq items nl, slots := oslots } := Heap.get?_push_of_some _ hol
      have hsls := F.sub_list_set
      have hslf := F.sub_list_frozenset
      have hne : (Value.type "list" == Value.type "dict") = false := by decide
      have hl1 : (s.heap.push (bareSet w)).IsList l items := ⟨_, hol', rfl, nl, rfl⟩
      unfold Builtin.«set.__init__» noKeywords Builtin.Frozenset.updateFrom
      generalize hPI : pyIter = PI
      wp_walk
      subst hPI
      refine wpAny_pyIter_list hl1 ?_
      refine wpAny_bind (wpAny_runValue ?_)
      have hh3 : A.in1.in1.in1.handled = none := by simp [hh]
      have pz : (s.heap.push (bareSet w)).objs.size = s.heap.objs.size + 1 := Heap.size_push ..
      have hneI : l ≠ (s.heap.push (bareSet w)).objs.size := by rw [pz]; exact Nat.ne_of_lt (Nat.lt_succ_of_lt lS)
      have away : s.heap.objs.size ∉ [(s.heap.push (bareSet w)).objs.size, l] := by
        rw [pz]; simp only [List.mem_cons, List.not_mem_nil, or_false, not_or]
        exact ⟨Nat.ne_of_lt (Nat.lt_succ_self _), Nat.ne_of_gt lS⟩
      have hval : ∀ (i : Nat) (v : Value), items[i]? = some v → ∃ k t, ns[i]? = some k ∧ v = .int k t := fun i v hv => by
        have hi : i < ns.length := by rw [← sizes]; exact (Array.getElem?_eq_some_iff.mp hv).1
        obtain ⟨t, e⟩ := IntsAre.int_at hit i v (by rw [Array.getElem?_toList]; exact hv)
        refine ⟨ns[i], t, List.getElem?_eq_getElem hi, ?_⟩
        rw [e, List.getD_eq_getElem?_getD, List.getElem?_eq_getElem hi]
        rfl
      refine set_update_ints ((Walks.list hh3 _ l hneI items).toS) s.heap.objs.size away ns sizes hb hval (items.size - 0) 0 _ (by omega) (Nat.zero_le _) ⟨⟨_, Heap.get?_push_size _ rfl, rfl, rfl⟩, (hl1.push _)⟩ ⟨0, Nat.le_refl 0, setR_new_at (Heap.get?_push_of_some _ laid)⟩ ?_
      intro s' c' hm hc' hS'
      obtain ⟨h', g2, d', tk', os'⟩ := s'
      cases (hm.gens : g2 = s.gens); cases (hm.drawn : d' = s.drawn); cases (hm.os : os' = s.os)
      show wpAny (model P w) _ _ _ _ _
      refine wpAny_pure ?_
      show wpAny (model P w) _ (ret Value.none) _ _ _
      rw [sizes] at hc'
      refine wpAny_pure ⟨rfl, h', tk', c', rfl, hS', hc', fun b o e => ?_⟩
      have b0 : b < s.heap.objs.size := Heap.lt_size e
      have b2 : b ≠ (s.heap.push (bareSet w)).objs.size := by rw [pz]; exact Nat.ne_of_lt (Nat.lt_succ_of_lt b0)
      exact hm.heap b o (by simp only [List.mem_cons, List.not_mem_nil, or_false, not_or]; exact ⟨Nat.ne_of_lt b0, b2⟩) (Heap.get?_push_of_some _ (Heap.get?_push_of_some _ e))
    · match r₂, hr₂ with
      | .error e, hr₂ => exact hr₂
      | .ok .next, hr₂ | .ok .brk, hr₂ | .ok .cont, hr₂ => exact hr₂.elim
      | .ok (.ret r), hr₂ =>
        obtain ⟨rfl, h', tk, c', rfl, hS', hc', hk'⟩ := hr₂
        repeat (any_goals (first | assumption | wp_step))
        exact h _ _ _ hS' hc' hk'
end
section
variable {X : Cx}
/-- set(xs), xs a list of ints -/
def rSetOfI (K : PySem.W.Frag) (w : World) : List V → Hp → VK → Prop := fun vs H Q => ∃ (l : Addr) (ns : List Int), vs = [V.ref l] ∧ SqL K H l (ns.map V.int) ∧ ns.length ≤ 1000 ∧
  ∀ (a : Addr) (c : Nat), H a = none → c ≤ ns.length → Q (.ref a) (upd H a (SetO w a (fun j => decide (j ∈ ns)) c))
theorem cr_setOfI (hc : X.calm = true) : CallR X (.type "set") (rSetOfI X.K X.w) := by
  intro pins s σ H vs us Q I r h
  obtain ⟨l, ns, rfl, hl, few, q⟩ := h
  rw [Vals.ref1 r]
  obtain ⟨its, rv, pl, hz⟩ := I.list hl
  refine set_of_list ns (I.ok.hd hc) pl.isList (by simpa using rv.ints) (by unfold scanBound; omega) fun h' tk c R hle kept => ?_
  exact ⟨.ref s.heap.objs.size, upd H s.heap.objs.size (SetO X.w s.heap.objs.size (fun j => decide (j ∈ ns)) c), I.laid (t' := tk) kept (Nat.le_refl _) (setO_new R), rfl, q _ c (I.hok.fresh (Nat.le_refl _)) hle⟩
end
end L2

set_option Elab.async false
set_option maxRecDepth 100000
set_option maxHeartbeats 4000000
namespace L2
open PySem PySem.Spec PyProof.Rows
set_option linter.unusedVariables false
/-! d.clear() of a dict with tuple keys -/
def rClearT : V → List V → Hp → VK → Prop := fun x vs H Q => ∃ (a : Addr) (kvs : List (List Key × V)), x = .ref a ∧ vs = [] ∧ H a = some (.dT kvs) ∧ Q .non (upd H a (.dT []))
theorem mt_clearT {X : Cx} : MtR X "dict.clear" rClearT := by
  intro pins s σ H x vs v us Q I rx rv h
  obtain ⟨a, kvs, ex, ev, e, q⟩ := h
  subst ex
  subst ev
  obtain rfl : v = Value.ref a := rx
  have hus := rv.zero
  subst hus
  obtain ⟨hz, notSys, ks, pairs, o, es, ep, ho, hx, hdt, rows, nd⟩ := (show ObjOk X.prog X.w H s.heap a (.dT kvs) from I.hok a _ e)
  have l1 : es.size = ks.length := size_of_entries rows
  have l2 : kvs.length = ks.length := Paired.length pairs
  have raw : s.heap.DictRaw a es ep := ⟨o, ho, hx, hdt⟩
  refine call_meetsIn PySem.F.slot_dict_clear raw.typeIs PySem.F.entry_dict_clear (PySem.F.args_dict_clear_1 _) (meets_dict_clear_raw a) ⟨es, ep, raw, by omega, fun h' dd' hs => ?_⟩
  obtain ⟨o', h1, h2, h3⟩ := dd'
  refine ⟨.non, _, d_write (ob := .dT []) (t' := s.toks) I (by rw [e]; exact True.intro) hs ⟨o', h1⟩ ⟨Nat.zero_le _, notSys, [], .nil, o', #[], ep + 1, h1, h2, h3, rfl, List.nodup_nil⟩, rfl, q⟩
end L2

set_option Elab.async false
set_option maxRecDepth 100000
set_option maxHeartbeats 4000000
namespace L2
open PySem PySem.Spec PyProof.Rows PpSet
set_option linter.unusedVariables false
/-! a display with tuples as keys -/
/-- the pairs that were made, as keys and values -/
abbrev PDt (H : Hp) : List (V × V) → List (List Key × V) → Prop := Paired fun p q => (∃ b, p.1 = .ref b ∧ H b = some (.tup (q.1.map kV))) ∧ p.2 = q.2
def mergeT (kvs more : List (List Key × V)) : List (List Key × V) := more.foldl (fun acc kv => putK acc kv.1 kv.2) kvs
theorem length_mergeT : ∀ (more kvs : List (List Key × V)), (mergeT kvs more).length ≤ kvs.length + more.length
  | [], kvs => by show kvs.length ≤ kvs.length + 0; omega
  | p :: r, kvs => by
    have a := length_mergeT r (putK kvs p.1 p.2)
    have b := length_putK kvs p.1 p.2
    show (mergeT (putK kvs p.1 p.2) r).length ≤ _
    rw [List.length_cons]; omega
theorem KT.merge {H : Hp} : ∀ {more : List (List Key × V)} {rs : List (List Key × Addr × Value)} {kvs : List (List Key × V)} {xs : List (List Key × Addr × Value)}, KT H more rs → KT H kvs xs → KT H (mergeT kvs more) (storedAllH xs rs) := by
  intro more rs kvs xs r
  unfold KT at r
  induction r generalizing kvs xs with
  | nil => intro q; exact q
  | @cons p q ps qs h t ih =>
    intro r0
    have e : KT H (putK kvs p.1 p.2) (storedH xs q.1 q.2.1 q.2.2) := by
      rw [← h.1]
      exact r0.put p.1 h.2.1 h.2.2
    exact ih e
theorem carriesT_of {P : Program} {w : World} {H : Hp} {h : Heap} (ok : HOk P w H h) : ∀ {ps : List (V × V)} {kvs : List (List Key × V)} {ws : List (Value × Value)}, VV ps ws → PDt H ps kvs → ∃ rs, CarriesH (tupleKind (mixKind P w)) h ws rs ∧ KT H kvs rs := by
  intro ps kvs ws r
  induction r generalizing kvs with
  | nil =>
    intro q
    cases q
    exact ⟨[], True.intro, .nil⟩
  | @cons p v ps vs hv t ih =>
    intro q
    cases q with
    | @cons _ kv _ kvs hk tk =>
      obtain ⟨rs, c, z⟩ := ih tk
      obtain ⟨⟨b, e1, hb⟩, e2⟩ := hk
      obtain ⟨v1, v2⟩ := v
      obtain ⟨r1, r2⟩ := hv
      rw [e1] at r1
      cases (show v1 = Value.ref b from r1)
      exact ⟨(kv.1, b, v2) :: rs, ⟨rfl, rfl, key_of ok hb, c⟩, .cons ⟨rfl, hb, e2 ▸ r2⟩ z⟩
/-- {(a, b): v, ..}; the new dict stands empty while the pairs are made -/
def tDispT (trs : List (TE × TE)) : TE := fun σ H Q => ∀ p, H p = none → tPairs trs σ (upd H p (.dT [])) fun ps H2 => H2 p = some (.dT []) ∧ ∃ kvs : List (List Key × V), PDt H2 ps kvs ∧ kvs.length ≤ 15 ∧ Q (.ref p) (upd H2 p (.dT (mergeT [] kvs)))
theorem pe_dispT {X : Cx} {pos : Pos} {keys : List (Option Expr)} {values : List Expr} {trs : List (TE × TE)} (hu : X.A.units + 1 < cLine) (h : PPs X pos keys values trs) (hall : keys.all (·.isSome) = true) (hl : keys.length = values.length) (h0 : keys ≠ [])
    (h15 : keys.length ≤ 15) : PE X (.Dict keys values pos) (tDispT trs) := by
  refine ⟨fun pins s σ H Q I q => ?_⟩
  have hn := I.hok.fresh (Nat.le_refl s.heap.objs.size)
  have I1 := I.laid (a := s.heap.objs.size) (o := .dT []) (h' := s.heap.push { cls := .type "dict", data := .dict #[] }) (t' := s.toks) (fun _ _ q => Heap.get?_push_of_some _ q) (Nat.le_refl _) (dt_empty s.heap I.big)
  have hlen := pairTrees_length keys values X.env pos hall hl
  have hne : pairTrees keys values X.env pos ≠ [] := fun he => by
    rw [he] at hlen
    exact h0 (List.length_eq_zero_iff.mp hlen.symm)
  rw [arm_eval_Dict, zip_pairTrees keys values X.env pos hall hl, dictDisplay_pairs _ hne (by omega)]
  refine wpAny_bind (wpAny_standAt (wpAny_bind (wpAny_subDictH (knd := tupleKind (mixKind X.prog X.w)) (show X.A.units < cLine by omega) (by omega) (thn (h.run pins _ σ _ _ I1 (q _ hn)) fun ws s2 ⟨ps, H2, I2, rel, e, kvs, pt, lk, q2⟩ => ?_))))
  obtain ⟨rs, c, rk⟩ := carriesT_of I2.hok rel pt
  obtain ⟨z, hd, vs0, r0, dd⟩ := dt_of I2.hok e
  cases r0
  refine ⟨rs, c, dd, fun h' tk dd' hs => wpAny_pure ⟨.ref s.heap.objs.size, _, ?_, rfl, q2⟩⟩
  have hz : (mergeT [] kvs).length ≤ sizeLine := by
    have h1 := length_mergeT kvs []
    rw [List.length_nil] at h1
    rw [sizeLine_eq]; omega
  obtain ⟨o, es, ep, ho, h2, h3, h4, _, h5⟩ := dd'
  refine d_write I2 (by rw [e]; exact True.intro) hs ⟨o, ho⟩ ⟨hz, hd, _, (rk.merge .nil).keeps fun c ys ec => ?_, o, es, ep, ho, h2, h3, h4, h5⟩
  rw [upd_ne (ne_of ec e (fun z => nomatch z))]
  exact ec
end L2

set_option Elab.async false
set_option maxRecDepth 100000
set_option maxHeartbeats 4000000
namespace L2
open PySem PySem.Spec PyProof.Rows
set_option linter.unusedVariables false
/-! t in s, s a set of tuples of ints that stands still -/
section
variable {P : Program} {w : World} {A : Around} {E : Value → Shared → Prop} {s : Shared}
variable {a : Addr} {L : List (Addr × List Int)} {es : Array (Int × Value)} {ep : Nat} {t : SetTable}
theorem nth_dummy (m : Nat) : ∀ (c : Nat) (q : SetTable.Probe), q.dummy = none → (nth m q c).dummy = none
  | 0, q, e => e
  | c + 1, q, e => nth_dummy m c (adv m q) (by unfold adv; split <;> exact e)
theorem seek {x : Addr} {k : List Int} (R : SetTR P w s.heap a L es ep t) (mine : IsT P w s.heap k x) (few : A.units < cLine) {end_ : Nat} {Q : SetFound → Shared → Prop}
    (ends : end_ < 10 * SetTable.turns t.mask) (free : way t.mask (thash P w k) end_ ∉ t.place.toList) (full : ∀ c, c < end_ → way t.mask (thash P w k) c ∈ t.place.toList)
    (yes : k ∈ L.map (·.2) → ∀ i, Q (.there (some i)) s) (no : k ∉ L.map (·.2) → ∀ j, Q (.free j false) s) :
    ∀ (fuel c : Nat) (at_ : Option SetTable.Probe), at_.getD (t.probeStart (thash P w k)) = nth t.mask (t.probeStart (thash P w k)) c → c ≤ end_ → end_ - c < fuel →
      (∀ (i : Nat) q, L[i]? = some q → q.2 = k → ∃ d, c ≤ d ∧ d < end_ ∧ t.place.toList[i]? = some (way t.mask (thash P w k) d)) →
      wpAny (model P w) A (setSearchFrom a (.ref x) (thash P w k) false fuel at_) Q E s := by
  intro fuel
  induction fuel with
  | zero => exact fun c at_ _ _ lt _ => absurd lt (Nat.not_lt_zero _)
  | succ n again =>
    intro c at_ here cle lt ahead
    obtain ⟨ob, got, exact_, dat⟩ := R.ob
    rw [setSearchFrom_succ]
    apply wpAny_bind
    apply wpAny_setState_of got dat R.fits
    dsimp only
    apply wp_if_neg R.gw
    try (apply wpAny_bind; apply wpAny_pure)
    have plain0 := nth_dummy t.mask c (t.probeStart (thash P w k)) rfl
    have join : ∀ d, nth t.mask (nth t.mask (t.probeStart (thash P w k)) c) d = nth t.mask (t.probeStart (thash P w k)) (c + d) := fun d => (nth_add t.mask c _ d).symm
    have spot : ∀ d, (nth t.mask (nth t.mask (t.probeStart (thash P w k)) c) d).j = way t.mask (thash P w k) (c + d) := fun d => congrArg (·.j) (join d)
    have hash_ : ∀ (i : Nat) q, L[i]? = some q → ((es[i]?.map (·.1)).getD 0) = thash P w q.2 := fun i q e => by
      rw [R.entry e] <;> rfl
    rcases go_spec t R.tab.ris R.tab.dm (fun i => (es[i]?.map (·.1)).getD 0) (thash P w k) (10 * SetTable.turns t.mask) (end_ - c) _ plain0 (by omega) (fun d lt => by rw [spot]; exact full _ (by omega)) (by rw [spot, Nat.add_sub_cancel' cle]; exact free) with ⟨d, i, dlt, at_i, hi, before, probe⟩ | ⟨before, probe⟩
    · rw [spot] at at_i probe
      rw [join] at probe
      have probe' : t.probe (fun i => (es[i]?.map (·.1)).getD 0) (thash P w k) (at_.getD (t.probeStart (thash P w k))) = some (.candidate (way t.mask (thash P w k) (c + d)) i (nth t.mask (t.probeStart (thash P w k)) (c + (d + 1)))) := by rw [here]; exact probe
      rw [probe']
      dsimp only
      have il : i < L.length := by
        have z1 := (List.getElem?_eq_some_iff.mp at_i).1
        have z2 := R.tab.sz
        rw [List.length_map] at z2
        rwa [Array.length_toList, z2] at z1
      obtain ⟨q, eq⟩ : ∃ q, L[i]? = some q := ⟨_, List.getElem?_eq_getElem il⟩
      have qm := List.mem_of_getElem? eq
      have inner : wpAny (model P w) A (searchRest a (.ref x) (thash P w k) false n es t (way t.mask (thash P w k) (c + d)) i (nth t.mask (t.probeStart (thash P w k)) (c + (d + 1)))) Q E s := by
        unfold searchRest
        rw [R.entry eq]
        dsimp only
        apply wpAny_bind
        apply wpAny_holding
        apply wpAny_eqBool_tuple few (R.tup q qm) mine
        apply wpAny_bind
        apply wpAny_setState_of got dat R.fits
        dsimp only
        apply wp_if_neg (by simp)
        try (apply wpAny_bind; apply wpAny_pure)
        rw [sameMem]
        dsimp only
        have live := slot_live R.tab.ris at_i
        simp only [if_true, live, R.entry eq]
        apply wpAny_bind
        apply wpAny_isSame_ref_self
        apply wpAny_bind
        apply wpAny_pure
        simp only [if_true]
        by_cases same : q.2 = k
        · apply wp_if_pos (by simp [same])
          exact wpAny_pure (yes (List.mem_map.mpr ⟨q, qm, same⟩) i)
        · apply wp_if_neg (by simp [same])
          apply again (c + (d + 1)) _ rfl (by omega) (by omega)
          intro i0 q0 e0 k0
          obtain ⟨d', l1, l2, l3⟩ := ahead i0 q0 e0 k0
          refine ⟨d', ?_, l2, l3⟩
          by_cases z : d' < c + d
          · refine absurd ((hash_ i0 q0 e0).trans (congrArg (thash P w) k0)) (before (d' - c) i0 (by omega) ?_)
            rw [spot, Nat.add_sub_cancel' l1]
            exact l3
          · by_cases y : d' = c + d
            · exfalso
              rw [y] at l3
              have live0 := slot_live R.tab.ris l3
              rw [live] at live0
              injection live0 with live0
              rw [← live0, eq] at e0
              cases e0
              exact same k0
            · omega
      by_cases led : t.led = true
      · apply wp_if_neg (by simp [led])
        try (apply wpAny_bind; apply wpAny_pure)
        exact inner
      · apply wp_if_pos (by simp [led])
        apply wpAny_bind
        apply seen_tup mine
        · intro y hy
          obtain ⟨e, me, rfl⟩ := List.mem_map.mp hy
          have me1 : e ∈ es.toList := (show e ∈ es ∧ _ by simpa using me).1.val
          rw [R.rows] at me1
          obtain ⟨q2, m2, rfl⟩ := List.mem_map.mp me1
          exact ⟨q2.2, q2.1, rfl, R.tup q2 m2⟩
        · apply wp_if_neg (by decide)
          try (apply wpAny_bind; apply wpAny_pure)
          exact inner
    · have probe' : t.probe (fun i => (es[i]?.map (·.1)).getD 0) (thash P w k) (at_.getD (t.probeStart (thash P w k))) = some (.empty (nth t.mask (nth t.mask (t.probeStart (thash P w k)) c) (end_ - c)).j none) := by rw [here]; exact probe
      rw [probe']
      dsimp only
      apply wpAny_pure
      apply no
      intro hm
      obtain ⟨q0, m0, k0⟩ := List.mem_map.mp hm
      obtain ⟨i0, e0⟩ := List.getElem?_of_mem m0
      obtain ⟨d', l1, l2, l3⟩ := ahead i0 q0 e0 k0
      refine before (d' - c) i0 (by omega) ?_ ((hash_ i0 q0 e0).trans (congrArg (thash P w) k0))
      rw [spot, Nat.add_sub_cancel' l1]
      exact l3
theorem seek_all {x : Addr} {k : List Int} (R : SetTR P w s.heap a L es ep t) (mine : IsT P w s.heap k x) (few : A.units < cLine) {Q : SetFound → Shared → Prop}
    (yes : k ∈ L.map (·.2) → ∀ i, Q (.there (some i)) s) (no : k ∉ L.map (·.2) → ∀ j, Q (.free j false) s) : wpAny (model P w) A (setSearch a (.ref x) (thash P w k)) Q E s := by
  have room := R.room
  obtain ⟨end_, ends, free, full⟩ := R.tab.first (by rw [List.length_map]; omega) (thash P w k)
  have turns : 10 * SetTable.turns t.mask ≤ 1420 := by
    unfold SetTable.turns
    rcases R.tab.mok with z | z | z <;> omega
  unfold setSearch
  apply seek R mine few ends free full yes no 100000 0 none rfl (Nat.zero_le _) (by omega)
  intro i q e hk
  have e' : (L.map fun p => thash P w p.2)[i]? = some (thash P w k) := by rw [List.getElem?_map, e, ← hk] <;> rfl
  have il : i < t.place.toList.length := by
    have z1 := (List.getElem?_eq_some_iff.mp e).1
    have z2 := R.tab.sz
    rw [List.length_map] at z2
    rw [Array.length_toList]
    omega
  obtain ⟨d, dlt, de⟩ := R.tab.before free e' (List.getElem?_eq_getElem il)
  exact ⟨d, Nat.zero_le _, dlt, by rw [List.getElem?_eq_getElem il, de]⟩
theorem find_tup {x : Addr} {k : List Int} (R : SetTR P w s.heap a L es ep t) (mine : IsT P w s.heap k x) (few : A.units < cLine) {Q : Option Nat → Shared → Prop} (h : ∀ r : Option Nat, r.isSome = decide (k ∈ L.map (·.2)) → Q r s) :
    wpAny (model P w) A (setFind a (.ref x) (thash P w k)) Q E s := by
  obtain ⟨ob, got, exact_, dat⟩ := R.ob
  unfold setFind setFindIn
  apply wpAny_bind
  apply wpAny_setState_of got dat R.fits
  dsimp only
  apply wp_if_neg (by simp [byScan, Value.scannable])
  try (apply wpAny_bind; apply wpAny_pure)
  apply wpAny_bind
  apply seek_all R mine few
  · intro m i
    exact wpAny_pure (h (some i) (by rw [decide_eq_true m]; rfl))
  · intro m j
    exact wpAny_pure (h none (by rw [decide_eq_false m]; rfl))
theorem holds_tup (neg : Bool) {x : Addr} {k : List Int} (R : SetTR P w s.heap a L es ep t) (mine : IsT P w s.heap k x) (few : A.units + 64 < cLine) {Q : Value → Shared → Prop} (h : ∀ tk, Q (.bool (if neg = true then !decide (k ∈ L.map (·.2)) else decide (k ∈ L.map (·.2)))) { s with toks := tk }) :
    wpAny (model P w) A (compareOp (if neg = true then .NotIn else .In) (.ref x) (.ref a)) Q E s := by
  have isSet : s.TypeIs (.ref a) "set" := by
    obtain ⟨ob, got, exact_, _⟩ := R.ob
    exact ⟨ob, got, exact_.1⟩
  have core : ∀ {Q' : Bool → Shared → Prop}, (∀ tk, Q' (decide (k ∈ L.map (·.2))) { s with toks := tk }) → wpAny (model P w) A (contains (.ref a) (.ref x)) Q' E s := by
    intro Q' h'
    unfold contains
    try with_reducible apply wpAny_holding
    apply wpAny_bind
    apply wpAny_specialOf isSet F.slot_set_contains.lookup
    show wpAny _ _ (if (some (Value.builtin "set.__contains__") == some Value.none) = true then _ else _) _ E s
    rw [if_neg (by rw [beq_builtin_none]; decide)]
    apply wpAny_bind
    apply wpAny_callSpecialUnlessNone?_slot (name := Str.ofString "__contains__") isSet F.slot_set_contains
    apply wpAny_call_entry F.slot_set_contains isSet entry_set_contains ?_ (F.args_set_contains_2 _ _)
    unfold Builtin.«frozenset.__contains__» Builtin.Frozenset.oneOther
    simp only [List.isEmpty_nil, bind_assoc]
    unfold Builtin.Frozenset.addrOf Builtin.Frozenset.withSetAsKey setContains
    apply wpAny_bind
    apply wpAny_pure
    try dsimp only
    apply wpAny_bind
    apply wpAny_pure
    try dsimp only
    apply wpAny_bind
    apply wpAny_tryCatch
    apply wpAny_holding
    apply wpAny_bind
    apply wpAny_pyHash_tuple ?_ mine
    apply wpAny_bind
    apply find_tup (s := { s with toks := s.toks + (k.length + 1) }) R mine ?_
    · intro r er
      apply wpAny_pure
      show wpAny _ _ (ret (Value.bool r.isSome)) _ _ _
      rw [er]
      exact wpAny_pure ⟨_, rfl, wpAny_truthy_bool (h' _)⟩
    all_goals (show A.units + 1 < cLine; omega)
  cases neg with
  | true =>
    show wpAny _ _ (do return .bool (!(← contains (.ref a) (.ref x)))) Q E s
    apply wpAny_bind
    exact core fun tk => wpAny_pure (h tk)
  | false =>
    show wpAny _ _ (do return .bool (← contains (.ref a) (.ref x))) Q E s
    apply wpAny_bind
    exact core fun tk => wpAny_pure (h tk)
end
section
variable {X : Cx}
/-- x in s, s a set of tuples of ints -/
def rInSetT (neg : Bool) (K : PySem.W.Frag) (P : Program) (w : World) : R2 := fun x y H Q => ∃ (b a : Addr) (k : List Int) (L : List (Addr × List Int)), x = .ref b ∧ y = .ref a ∧ SqT K H b (k.map V.int) ∧ H a = some (SetTO P w a L) ∧ (∀ q ∈ L, SqT K H q.1 (q.2.map V.int)) ∧ Q (.bl (if neg = true then !decide (k ∈ L.map (·.2)) else decide (k ∈ L.map (·.2)))) H
theorem or_setT (neg : Bool) (hu : X.A.units + 64 < cLine) : OpR X (compareOp (if neg = true then .NotIn else .In)) (rInSetT neg X.K X.prog X.w) := by
  intro pins s σ H x y v u Q I rx ry h
  obtain ⟨b, a, k, L, rfl, rfl, tup, isSet, rows, q⟩ := h
  cases rx
  cases ry
  have R0 : SetT0 X.prog X.w s.heap a L := (I.hok a _ isSet).1
  obtain ⟨es, ep, t, R⟩ := R0.full fun p hp => I.isT (rows p hp)
  exact holds_tup neg R (I.isT tup) hu fun tk => ⟨.bl _, H, I.tok tk, rfl, q⟩
theorem op_inSetT (hu : X.A.units + 64 < cLine) : OpR X (compareOp .In) (rInSetT false X.K X.prog X.w) := or_setT false hu
theorem op_notInSetT (hu : X.A.units + 64 < cLine) : OpR X (compareOp .NotIn) (rInSetT true X.K X.prog X.w) := or_setT true hu
end
end L2

set_option Elab.async false
set_option maxRecDepth 100000
set_option maxHeartbeats 4000000
namespace L2
open PySem PySem.Spec PyProof.Rows
set_option linter.unusedVariables false
/-! data in which dicts with tuple keys may stand -/
def keyD1 : Key → PyData
  | .inl i => .int i
  | .inr s => .str s
def keyD (k : List Key) : PyData := .tuple (k.map keyD1)
mutual
inductive DX (K : PySem.W.Frag) (H : Hp) : V → PyData → Prop
  | flat {v : V} {d : PyData} : Dp K H v d → d.hasDict = false → DX K H v d
  | lst {a : Addr} {xs : List V} {ds : List PyData} : SqL K H a xs → DXs K H xs ds → DX K H (.ref a) (.list ds)
  | tup {a : Addr} {xs : List V} {ds : List PyData} : SqT K H a xs → DXs K H xs ds → DX K H (.ref a) (.tuple ds)
  | dic {a : Addr} {kvs : List (List Key × V)} {vs : List V} {ds : List PyData} {es : List (PyData × PyData)} : H a = some (.dT kvs) → vs = kvs.map (·.2) → DXs K H vs ds → es.map (·.1) = kvs.map (fun kv => keyD kv.1) → es.map (·.2) = ds → DX K H (.ref a) (.dict es)
inductive DXs (K : PySem.W.Frag) (H : Hp) : List V → List PyData → Prop
  | nil : DXs K H [] []
  | cons {v : V} {vs : List V} {d : PyData} {ds : List PyData} : DX K H v d → DXs K H vs ds → DXs K H (v :: vs) (d :: ds)
end
theorem keyD1_dp {K : PySem.W.Frag} {H : Hp} : ∀ k : List Key, DpAll K H (k.map kV) (k.map keyD1)
  | [] => .nil
  | .inl i :: k => .cons (.int i) (keyD1_dp k)
  | .inr s :: k => .cons (.str s) (keyD1_dp k)
theorem keyD1_no : ∀ k : List Key, PyData.hasDictAll (k.map keyD1) = false
  | [] => rfl
  | .inl i :: k => by
    show (false || PyData.hasDictAll (k.map keyD1)) = false
    rw [keyD1_no k]
    rfl
  | .inr s :: k => by
    show (false || PyData.hasDictAll (k.map keyD1)) = false
    rw [keyD1_no k]
    rfl
section
variable {X : Cx} {pins : List (Addr × Obj)} {σ : L2.St} {H : Hp} {s : Shared}
/-- what may be shown of a value -/
def Shw (P : Program) (w : World) (h : Heap) (u : Value) (d : PyData) : Prop := (∃ as, Reads h u d as) ∧ (d.showable = true → d.shown.length ≤ sizeLine → ∃ bs, ReadAtMost h d.depth bs ∧ ReprK P w bs h d.depth u d.shown)
def ShwS (P : Program) (w : World) (h : Heap) (us : List Value) (ds : List PyData) : Prop := (∃ as, ReadsAll h us ds as) ∧ (PyData.showableAll ds = true → (∀ t ∈ PyData.shownAll ds, t.length ≤ sizeLine) → ∃ bs, ReadAtMost h (PyData.depthAll ds) bs ∧ ReprAllK P w bs h (PyData.depthAll ds) us (PyData.shownAll ds))
theorem shw_nil {P : Program} {w : World} {h : Heap} : ShwS P w h [] [] := ⟨⟨_, .nil⟩, fun _ _ => ⟨[], fun _ m => (nomatch m), by rw [PyData.shownAll]; exact .nil⟩⟩
theorem shw_cons {P : Program} {w : World} {h : Heap} {u : Value} {us : List Value} {d : PyData} {ds : List PyData} (a : Shw P w h u d) (b : ShwS P w h us ds) : ShwS P w h (u :: us) (d :: ds) := by
  obtain ⟨⟨as, ra⟩, ga⟩ := a
  obtain ⟨⟨bs, rb⟩, gb⟩ := b
  refine ⟨⟨_, .cons ra rb⟩, fun hs hz => ?_⟩
  rw [PyData.showableAll, Bool.and_eq_true] at hs
  rw [PyData.shownAll] at hz
  obtain ⟨p, p1, p2⟩ := ga hs.1 (hz _ List.mem_cons_self)
  obtain ⟨q, q1, q2⟩ := gb hs.2 fun t m => hz t (List.mem_cons_of_mem _ m)
  rw [PyData.depthAll, PyData.shownAll]
  exact ⟨p ++ q, (p1.mono (Nat.le_max_left _ _)).append (q1.mono (Nat.le_max_right _ _)), .cons ((p2.more fun _ m => List.mem_append_left _ m).level_le (Nat.le_max_left _ _)) (q2.more_le (fun _ m => List.mem_append_right _ m) (Nat.le_max_right _ _))⟩
theorem shw_seq {P : Program} {w : World} {h : Heap} {u : Value} {d : PyData} {as : List Addr} (r : Reads h u d as) (n : d.hasDict = false) : Shw P w h u d := ⟨⟨as, r⟩, fun hs hz => ReprK.of_reads r hs (PyData.noDict_hsm n) hz⟩
theorem shw_lst {P : Program} {w : World} {h : Heap} {a : Addr} {o : Obj} {its : Array Value} {n : Nat} {ds : List PyData} (ha : h.get? a = some o) (hc : o.cls = .type "list") (hd : o.data = .seq its n) (g : ShwS P w h its.toList ds) : Shw P w h (.ref a) (.list ds) := by
  obtain ⟨⟨as, ra⟩, g⟩ := g
  have rd : Reads h (.ref a) (.list ds) _ := .list ha hc hd ra
  refine ⟨⟨_, rd⟩, fun hs hz => ?_⟩
  rw [PyData.showable] at hs
  rw [PyData.shown] at hz ⊢
  obtain ⟨bs, b1, b2⟩ := g hs fun t m => Nat.le_trans (listText_mem_le m) hz
  have out : a ∉ bs := not_mem_of_deeper rd (by rw [PyData.depth]; omega) b1
  refine ⟨a :: bs, b1.cons rd (by rw [PyData.depth]; omega), ?_⟩
  rw [PyData.depth]
  obtain ⟨l⟩ := its
  cases l with
  | nil =>
    cases ra
    rw [PyData.shownAll, listText_nil]
    exact .listEmpty ha hc hd
  | cons x l => exact .list ha hc hd out (by simpa using b2.length_eq) fun i y e => b2.item i y (by simpa using e)
theorem shw_tup {P : Program} {w : World} {h : Heap} {a : Addr} {o : Obj} {its : Array Value} {n : Nat} {ds : List PyData} (ha : h.get? a = some o) (hc : o.cls = .type "tuple") (hd : o.data = .seq its n) (g : ShwS P w h its.toList ds) : Shw P w h (.ref a) (.tuple ds) := by
  obtain ⟨⟨as, ra⟩, g⟩ := g
  have rd : Reads h (.ref a) (.tuple ds) _ := .tuple ha hc hd ra
  refine ⟨⟨_, rd⟩, fun hs hz => ?_⟩
  rw [PyData.showable] at hs
  rw [PyData.shown] at hz ⊢
  obtain ⟨bs, b1, b2⟩ := g hs fun t m => Nat.le_trans (tupleText_mem_le m) hz
  refine ⟨a :: bs, b1.cons rd (by rw [PyData.depth]; omega), ?_⟩
  rw [PyData.depth]
  exact .tuple ha hc hd (not_mem_of_deeper rd (by rw [PyData.depth]; omega) b1) b2
theorem shw_dic {P : Program} {w : World} {h : Heap} {a : Addr} {o : Obj} {es : Array DictEntry} {n : Nat} {kvs : List (PyData × PyData)} (ha : h.get? a = some o) (hc : o.cls = .type "dict") (hd : o.data = .dict es n) (hy : (a == sysModules) = false) (gk : ShwS P w h (es.toList.map (·.key)) (kvs.map (·.1))) (gv : ShwS P w h (es.toList.map (·.val)) (kvs.map (·.2))) : Shw P w h (.ref a) (.dict kvs) := by
  obtain ⟨⟨as, ra⟩, gk⟩ := gk
  obtain ⟨⟨bs, rb⟩, gv⟩ := gv
  have rd : Reads h (.ref a) (.dict kvs) _ := .dict ha hc hd ra rb
  refine ⟨⟨_, rd⟩, fun hs hz => ?_⟩
  rw [PyData.showable] at hs
  rw [PyData.shown] at hz ⊢
  obtain ⟨s1, s2⟩ := PyData.showableKv_split kvs hs
  obtain ⟨p, p1, p2⟩ := gk s1 fun t m => by
    obtain ⟨x, x1, x2⟩ := PyData.shownKv_key_le kvs t m
    exact Nat.le_trans x2 (Nat.le_trans (dictText_mem_le x1) hz)
  obtain ⟨q, q1, q2⟩ := gv s2 fun t m => by
    obtain ⟨x, x1, x2⟩ := PyData.shownKv_val_le kvs t m
    exact Nat.le_trans x2 (Nat.le_trans (dictText_mem_le x1) hz)
  have pq : ReadAtMost h (PyData.depthKv kvs) (p ++ q) := (p1.mono (PyData.depthAll_keys_le kvs)).append (q1.mono (PyData.depthAll_vals_le kvs))
  refine ⟨a :: (p ++ q), pq.cons rd (by rw [PyData.depth]; omega), ?_⟩
  rw [PyData.depth, PyData.shownKv_eq]
  exact .dict ha hc hd hy (not_mem_of_deeper rd (by rw [PyData.depth]; omega) pq) (.of_two es.toList _ _ (p2.more_le (fun _ m => List.mem_append_left _ m) (PyData.depthAll_keys_le kvs)) (q2.more_le (fun _ m => List.mem_append_right _ m) (PyData.depthAll_vals_le kvs)))
theorem dpAll_shw (I : Inv X pins σ H s) : ∀ (ds : List PyData) (vs : List V) (us : List Value), DpAll X.K H vs ds → Vals vs us → PyData.hasDictAll ds = false → ShwS X.prog X.w s.heap us ds
  | [], _, _, h, r, _ => by
    cases h
    cases r
    exact shw_nil
  | d :: ds, _, _, h, r, n => by
    cases h with
    | cons h1 h2 =>
      cases r with
      | cons r1 r2 =>
        rw [PyData.hasDictAll, Bool.or_eq_false_iff] at n
        obtain ⟨as, q⟩ := Dp.reads I d _ _ h1 r1
        exact shw_cons (shw_seq q n.1) (dpAll_shw I ds _ _ h2 r2 n.2)
mutual
theorem DX.shw (I : Inv X pins σ H s) : ∀ {v : V} {d : PyData}, DX X.K H v d → ∀ u : Value, RelV v u → Shw X.prog X.w s.heap u d
  | _, _, .flat h n, u, r => by
    obtain ⟨as, q⟩ := Dp.reads I _ _ _ h r
    exact shw_seq q n
  | _, _, .lst hq g, u, r => by
    obtain rfl : u = Value.ref _ := r
    obtain ⟨its, rv, ⟨o, n, ho, hc, _, hd⟩, _⟩ := I.list hq
    exact shw_lst ho hc hd (DXs.shw I g its rv)
  | _, _, .tup hq g, u, r => by
    obtain rfl : u = Value.ref _ := r
    obtain ⟨its, rv, ⟨o, ho, hc, n, hd⟩, _⟩ := I.tuple hq
    exact shw_tup ho hc hd (DXs.shw I g its rv)
  | _, _, .dic (a := a) (kvs := kvs) (es := eds) ha ev g ek ed, u, r => by
    obtain rfl : u = Value.ref a := r
    obtain ⟨hz, hy, xs, pairs, o, es, ep, ho, hx, hdt, rows, nd⟩ := (show ObjOk X.prog X.w H s.heap a (.dT kvs) from I.hok _ _ ha)
    have hvals : Vals (kvs.map (·.2)) (es.toList.map (·.val)) := by
      rw [rows]
      clear rows nd g ev ek ha hz
      induction pairs with
      | nil => exact .nil
      | cons p _ ih => exact .cons p.2.2 ih
    have hkeys : ∀ (ks : List (List Key × V)) (ys : List (List Key × Addr × Value)), Paired (fun (p : List Key × V) (q : List Key × Addr × Value) => p.1 = q.1 ∧ H q.2.1 = some (.tup (p.1.map kV)) ∧ RelV p.2 q.2.2) ks ys → ShwS X.prog X.w s.heap ((ys.map (entryOfKey (tupleKind (mixKind X.prog X.w)))).map (·.key)) (ks.map fun kv => keyD kv.1) := fun ks ys p => by
      induction p with
      | nil => exact shw_nil
      | @cons k y ks ys p _ ih =>
        obtain ⟨as, q⟩ := Dp.reads I (keyD k.1) (.ref y.2.1) (.ref y.2.1) (.tup (SqT.of p.2.1) (keyD1_dp k.1)) rfl
        exact shw_cons (shw_seq q (by unfold keyD; rw [PyData.hasDict]; exact keyD1_no _)) ih
    refine shw_dic ho hx.1 hdt hy ?_ ?_
    · rw [ek, rows]
      exact hkeys kvs xs pairs
    · rw [ed]
      exact DXs.shw I g _ (ev ▸ hvals)
theorem DXs.shw (I : Inv X pins σ H s) : ∀ {vs : List V} {ds : List PyData}, DXs X.K H vs ds → ∀ us : List Value, Vals vs us → ShwS X.prog X.w s.heap us ds
  | _, _, .nil, us, r => by
    cases r
    exact shw_nil
  | _, _, .cons g gs, us, r => by
    cases r with
    | cons r1 r2 => exact shw_cons (DX.shw I g _ r1) (DXs.shw I gs _ r2)
end
/-- repr of a tuple in which dicts may stand -/
def rReprX (K : PySem.W.Frag) : List V → Hp → VK → Prop := fun xs H Q => ∃ (a : Addr) (vs : List V) (ds : List PyData), xs = [.ref a] ∧ SqT K H a vs ∧ DXs K H vs ds ∧ (PyData.tuple ds).showable = true ∧ (PyData.tuple ds).depth ≤ 40 ∧ (PyData.tuple ds).shown.length ≤ sizeLine ∧ Q (.str (PyData.tuple ds).shown) H
theorem call_reprX (hg : X.A.guards = some []) (hu : X.A.units + 64 < cLine) : CallR X (.builtin "repr") (rReprX X.K) := by
  intro pins s σ H xs us Q I r h
  obtain ⟨a, vs, ds, rfl, hq, g, hs, hd, hz, q⟩ := h
  obtain rfl := Vals.ref1 r
  obtain ⟨its, rv, ⟨o, ho, hc, n, hdd⟩, _⟩ := I.tuple hq
  obtain ⟨⟨as, ra⟩, gg⟩ := DXs.shw I g its rv
  have rd : Reads s.heap (.ref a) (.tuple ds) _ := .tuple ho hc hdd ra
  rw [PyData.showable] at hs
  rw [PyData.shown] at hz q
  rw [PyData.depth] at hd
  obtain ⟨bs, b1, b2⟩ := gg hs fun t m => Nat.le_trans (tupleText_mem_le m) hz
  have out : a ∉ bs := not_mem_of_deeper rd (by rw [PyData.depth]; omega) b1
  refine call_repr_slot (T := "tuple") (idr := "tuple.__repr__") (by omega) ⟨o, ho, hc⟩ F.slot_tuple_repr ?_
  exact call_tuple_reprK ho hc hdd out b2 (g := []) hg (fun b _ => Clear.nil b) (by show X.A.units + 1 + (PyData.depthAll ds + 1) < cLine; omega) (fun _ _ e => e) (fun h' u tk hk => ⟨_, _, rfl, .str _, H, I.kept (t' := tk) hk, ⟨_, rfl⟩, q⟩) hz
end
end L2

set_option Elab.async false
set_option maxRecDepth 100000
set_option maxHeartbeats 4000000
namespace L2
open PySem PySem.Spec PyProof.Rows
set_option linter.unusedVariables false
/-! dict(d) and d.pop(k) of a dict whose keys are pairs of small numbers -/
def hI (a b : Nat) : Int := reduceHash (Builtin.Tuple.tupleHashOf [hashInt ((a : Nat) : Int), hashInt ((b : Nat) : Int)])
theorem hI_all : ((List.range 400).map fun i => hI (i / 20) (i % 20)).Pairwise (· ≠ ·) := by decide +kernel
theorem hI_inj {a b c d : Nat} (ha : a < 20) (hb : b < 20) (hc : c < 20) (hd : d < 20) (h : hI a b = hI c d) : a = c ∧ b = d := by
  have key : ∀ {a b c d : Nat}, a < 20 → b < 20 → c < 20 → d < 20 → 20 * a + b < 20 * c + d → hI a b ≠ hI c d := fun {a b c d} ha hb hc hd hl => by
    have h1 := List.pairwise_iff_getElem.mp hI_all (20 * a + b) (20 * c + d) (by rw [List.length_map, List.length_range]; omega) (by rw [List.length_map, List.length_range]; omega) hl
    rw [List.getElem_map, List.getElem_map, List.getElem_range, List.getElem_range] at h1
    rw [show (20 * a + b) / 20 = a by omega, show (20 * a + b) % 20 = b by omega, show (20 * c + d) / 20 = c by omega, show (20 * c + d) % 20 = d by omega] at h1
    exact h1
  rcases Nat.lt_trichotomy (20 * a + b) (20 * c + d) with g | g | g
  · exact absurd h (key ha hb hc hd g)
  · omega
  · exact absurd h.symm (key hc hd ha hb g)
def smallK (k : List Key) : Prop := ∃ a b : Nat, a < 20 ∧ b < 20 ∧ k = [.inl (a : Int), .inl (b : Int)]
section
variable {prog : Program} {w : World} {A : Around} {E : Value → Shared → Prop} {s : Shared}
theorem smallK_hash {a b : Nat} : (tupleKind (mixKind prog w)).hash [.inl (a : Int), .inl (b : Int)] = hI a b := rfl
theorem small_nodup : ∀ {ks : List (List Key)}, (∀ k ∈ ks, smallK k) → ks.Nodup → (ks.map fun k => (tupleKind (mixKind prog w)).hash k).Nodup
  | [], _, _ => List.nodup_nil
  | k :: ks, h, n => by
    rw [List.nodup_cons] at n
    rw [List.map_cons, List.nodup_cons]
    refine ⟨fun m => ?_, small_nodup (fun x hx => h x (List.mem_cons_of_mem _ hx)) n.2⟩
    obtain ⟨k2, hk2, e⟩ := List.mem_map.mp m
    obtain ⟨a, b, ha, hb, rfl⟩ := h k List.mem_cons_self
    obtain ⟨c, d, hc, hd, rfl⟩ := h k2 (List.mem_cons_of_mem _ hk2)
    have e : hI c d = hI a b := e
    obtain ⟨rfl, rfl⟩ := hI_inj hc hd ha hb e
    exact n.1 hk2
theorem call_dictH {o : Addr} {more : List (List Key × Addr × Value)} {Q : Value → Shared → Prop} (hu : (tupleKind (mixKind prog w)).room A.in1.in1) (hoS : (o == sysModules) = false) (ho : s.heap.DictOfH (tupleKind (mixKind prog w)) o more) (hsz : more.length ≤ sizeLine)
    (hty : ∀ x ∈ more, s.TypeIs (.ref x.2.1) "tuple") (hap : (more.map fun x => (tupleKind (mixKind prog w)).hash x.1).Nodup)
    (h : ∀ h', h'.DictOfH (tupleKind (mixKind prog w)) s.heap.objs.size more → Heap.SameBut s.heap.objs.size (s.heap.push { cls := .type "dict", data := .dict #[] }) h' → Q (.ref s.heap.objs.size) { s with heap := h' }) :
    wpAny (model prog w) A (call (.type "dict") [.ref o]) Q E s := by
  refine callType_codes (Q₁ := fun obj s₁ => obj = .ref s.heap.objs.size ∧ s₁ = { s with heap := s.heap.push { cls := .type "dict", data := .dict #[] } }) F.kt_called_dict (F.kt_typeCall_dict_1 _) F.entry_dict_init (kt_code_dict_new _ ⟨rfl, rfl⟩) ?_
  rintro obj s₁ ⟨rfl, rfl⟩
  have hnew : (s.heap.push { cls := .type "dict", data := .dict #[] }).DictOfH (tupleKind (mixKind prog w)) s.heap.objs.size [] :=
    ⟨_, #[], 0, Heap.get?_push_size _ rfl, ⟨rfl, rfl, rfl⟩, rfl, rfl, (fun _ hx => nomatch hx), List.nodup_nil⟩
  have hdo : s.heap.objs.size ≠ o := by
    obtain ⟨_, _, _, hg, _⟩ := ho
    exact fun e => absurd (Heap.lt_size hg) (by rw [e]; exact Nat.lt_irrefl _)
  have ho' : (s.heap.push { cls := .type "dict", data := .dict #[] }).DictOfH (tupleKind (mixKind prog w)) o more := by
    obtain ⟨ob, es, ep, h1, h2, h3, h4, h5, h6⟩ := ho
    refine ⟨ob, es, ep, Heap.get?_push_of_some _ h1, h2, h3, h4, fun x hx => ?_, h6⟩
    obtain ⟨o1, its, n, q1, q2, q3, q4⟩ := (show IsTupleKey (mixKind prog w) s.heap x.1 x.2.1 from h5 x hx)
    exact ⟨o1, its, n, Heap.get?_push_of_some _ q1, q2, q3, q4⟩
  have hn : (more.map (·.1)).Nodup := ho.nodup
  have ty' : ∀ x ∈ more, ({ s with heap := s.heap.push { cls := .type "dict", data := .dict #[] } } : Shared).TypeIs (.ref x.2.1) "tuple" := fun x hx => by
    obtain ⟨o1, q1, q2⟩ := hty x hx
    exact ⟨o1, Heap.get?_push_of_some _ q1, q2⟩
  have hnt : ({ s with heap := s.heap.push { cls := .type "dict", data := .dict #[] } } : Shared).TypeIs (.ref s.heap.objs.size) "dict" := ⟨_, Heap.get?_push_size _ rfl, rfl⟩
  refine ⟨hnt, F.args_dict_init_2 _ _, ?_⟩
  unfold Builtin.«dict.__init__»
  refine wpAny_bind ?_
  unfold Builtin.Dict.selfAndRest
  refine wpAny_bind (wpAny_notOrdered_dict hnt ?_)
  show wpAny _ _ (pure (s.heap.objs.size, [Value.ref o])) _ _ _
  refine wpAny_pure ?_
  show wpAny _ _ (Builtin.Dict.updateFrom "dict.__init__" s.heap.objs.size (.ref o) [] .none) _ _ _
  unfold Builtin.Dict.updateFrom
  refine wpAny_bind (wpAny_typeOf (s := { s with heap := s.heap.push { cls := .type "dict", data := .dict #[] } }) ho'.typeIs ?_)
  rw [if_neg (by decide)]
  refine wpAny_bind ?_
  unfold Builtin.Dict.merge
  refine wpAny_bind ?_
  unfold Builtin.Dict.readDirectly
  refine wpAny_bind (wpAny_isInstance (s := { s with heap := s.heap.push { cls := .type "dict", data := .dict #[] } }) ho'.typeIs isSubtype_dict_dict ?_)
  simp only [Bool.not_true, Bool.false_eq_true, if_false]
  refine wpAny_bind (wpAny_specialOf (s := { s with heap := s.heap.push { cls := .type "dict", data := .dict #[] } }) ho'.typeIs F.slot_dict_iter.lookup (wpAny_pure ?_))
  simp only [beq_self_eq_true, if_true]
  refine wpAny_bind (wpAny_pure ?_)
  refine wpAny_mergeDict_heap (s := { s with heap := s.heap.push { cls := .type "dict", data := .dict #[] } }) (hsz := by simpa using hsz) hu hdo hoS hnew ho' (.inr ⟨ty', hap⟩) fun h' hd' _ hs' => ?_
  show wpAny _ _ (Builtin.Dict.addKeywords s.heap.objs.size [] >>= _) _ _ _
  rw [storedAllH_nil_of_nodup more hn] at hd'
  exact wpAny_bind (wpAny_pure (wpAny_pure ⟨rfl, h h' hd' hs'⟩))
end
/-- dict(d): a copy -/
def rDictT : List V → Hp → VK → Prop := fun xs H Q => ∃ (a : Addr) (kvs : List (List Key × V)), xs = [.ref a] ∧ Rd H a (.dT kvs) ∧ (∀ kv ∈ kvs, smallK kv.1) ∧ ∀ p, H p = none → Q (.ref p) (upd H p (.dT kvs))
theorem KT.keysEq {H : Hp} : ∀ {kvs : List (List Key × V)} {xs : List (List Key × Addr × Value)}, KT H kvs xs → xs.map (·.1) = kvs.map (·.1)
  | _, _, .nil => rfl
  | _, _, .cons h t => by
    rw [List.map_cons, List.map_cons, KT.keysEq t, h.1]
theorem call_dict_dT {X : Cx} (hu : X.A.units + 2 < cLine) : CallR X (.type "dict") rDictT := by
  intro pins s σ H xs us Q I r q
  obtain ⟨a, kvs, ex, hd, hk, q⟩ := q
  subst ex
  obtain ⟨u, eu, rx⟩ := vals1 r
  subst eu
  cases rx
  obtain ⟨z, lo, xs, rel, dd⟩ := dt_rd I.hok hd
  have ek := KT.keysEq rel
  have hall : ∀ k ∈ xs.map (·.1), smallK k := fun k hkm => by
    rw [ek] at hkm
    obtain ⟨kv, hkv, rfl⟩ := List.mem_map.mp hkm
    exact hk kv hkv
  have hn : (xs.map (·.1)).Nodup := dd.nodup
  have hap := small_nodup (prog := X.prog) (w := X.w) hall hn
  rw [List.map_map] at hap
  have hst : ∀ x ∈ xs, (tupleKind (mixKind X.prog X.w)).is s.heap x.1 x.2.1 := by
    obtain ⟨o, es, ep, h1, h2, h3, h4, h5, h6⟩ := id dd
    exact h5
  refine call_dictH (show X.A.units + 2 < cLine from hu) lo dd (by rw [← Paired.length rel]; exact z) (fun x hx => ?_) hap fun h' d' hs => ?_
  · obtain ⟨o, its, n, h1, h2, _⟩ := (show IsTupleKey (mixKind X.prog X.w) s.heap x.1 x.2.1 from hst x hx)
    exact ⟨o, h1, h2⟩
  have hm : (s.heap.objs.size == sysModules) = false := beq_eq_false_iff_ne.mpr (Nat.ne_of_gt I.big)
  have hf := I.hok.fresh (Nat.le_refl _)
  obtain ⟨o, es, ep, h1, h2, h3, h4, h5, h6⟩ := d'
  exact ⟨.ref s.heap.objs.size, upd H s.heap.objs.size (.dT kvs), I.laid (t' := s.toks) (fun b u e => (hs.2 b (Nat.ne_of_lt (Heap.lt_size e))).trans (Heap.get?_push_of_some _ e)) (Nat.le_refl _)
    (show ObjOk X.prog X.w _ _ _ (.dT kvs) from ⟨z, hm, xs, rel.keeps (fun c ys ec => (by rw [upd_ne (ne_of_none ec hf)]; exact ec)), o, es, ep, h1, h2, h3, h4, h6⟩), rfl, q _ hf⟩
/-- d.pop(k), k a key -/
def rPop1T : V → List V → Hp → VK → Prop := fun x xs H Q => ∃ (a : Addr) (kvs : List (List Key × V)) (k : List Key) (b : Addr) (v : V), x = .ref a ∧ xs = [.ref b] ∧ H a = some (.dT kvs) ∧ H b = some (.tup (k.map kV)) ∧ valV kvs k = some v ∧ Q v (upd H a (.dT (dropK kvs k)))
theorem mt_pop1T {X : Cx} (hu : X.A.units + 1 < cLine) : MtR X "dict.pop" rPop1T := by
  intro pins s σ H x xs v us Q I rx rxs h
  obtain ⟨a, kvs, k, b, v0, rfl, rfl, ha, hb, ev, q⟩ := h
  cases rx
  obtain ⟨u1, rfl, r1⟩ := vals1 rxs
  cases r1
  obtain ⟨z, hd, xs', rel, dd⟩ := dt_of I.hok ha
  have hz : xs'.length ≤ sizeLine := by rw [← Paired.length rel]; exact z
  have r := rel.val k
  rw [ev] at r
  obtain ⟨p, hp, rv⟩ : ∃ p, atKey xs' k = some p ∧ RelV v0 p.2 := by
    cases ep : atKey xs' k with
    | none =>
      rw [ep] at r
      exact (show False from r).elim
    | some p =>
      rw [ep] at r
      exact ⟨p, rfl, r⟩
  refine call_pop_heap (hsz := hz) (.inl rfl) (PySem.F.args_dict_pop_2 _ _) (tupleKind_room_in1 hu) (key_of I.hok hb) hd dd hp fun h' dd' hs => ?_
  obtain ⟨o, es, ep, hq, h2, h3, h4, _, h5⟩ := dd'
  have I2 : Inv X pins σ (upd H a (.dT (dropK kvs k))) { s with heap := h', toks := s.toks + (tupleKind (mixKind X.prog X.w)).draws k } :=
    d_write I (by rw [ha]; exact True.intro) hs ⟨o, hq⟩ ⟨Nat.le_trans (dropK_le kvs k) z, hd, _, (DX.KT_drop k rel).keeps (fun c ys ec => (by rw [upd_ne (ne_of ec ha (fun z => nomatch z))]; exact ec)), o, es, ep, hq, h2, h3, h4, h5⟩
  exact ⟨v0, _, I2, rv, q⟩
end L2

set_option Elab.async false
set_option maxRecDepth 100000
set_option maxHeartbeats 4000000
namespace L2
open PySem PySem.Spec PyProof.Rows
set_option linter.unusedVariables false
/-! a key that is no tuple, among keys that are tuples -/
inductive OddKey : V → Value → PyData → Prop
  | non : OddKey .non .none .none
  | int {i : Int} {t : Tok} : OddKey (.int i) (.int i t) (.int i)
  | str {x : Str} {t : Tok} : PyData.strOk x = true → OddKey (.str x) (.str x t) (.str x)
theorem OddKey.carried {v : V} {u : Value} {d : PyData} (h : OddKey v u d) : carriedByValue u = true := by cases h <;> rfl
theorem OddKey.eqv {v : V} {u : Value} {d : PyData} (h : OddKey v u d) (k : List Key) : PyData.eqv (keyD k) d = false := by
  cases h <;> (unfold keyD; simp [PyData.eqv])
def IntK (k : List Key) : Prop := ∀ x ∈ k, ∃ i : Int, x = .inl i
theorem canLay_key : ∀ k : List Key, IntK k → PyData.canLayAll0 (k.map keyD1) = true
  | [], _ => rfl
  | x :: k, h => by
    obtain ⟨i, rfl⟩ := h x List.mem_cons_self
    rw [List.map_cons, PyData.canLayAll0, canLay_key k fun y hy => h y (List.mem_cons_of_mem _ hy)]
    simp [keyD1, PyData.canLay0]
theorem OddKey.lay {v : V} {u : Value} {d : PyData} (h : OddKey v u d) : PyData.canLay0 d = true ∧ d.depth = 0 := by
  cases h with
  | non => exact ⟨by simp [PyData.canLay0], by simp [PyData.depth]⟩
  | int => exact ⟨by simp [PyData.canLay0], by simp [PyData.depth]⟩
  | str o => exact ⟨by simpa [PyData.canLay0] using o, by simp [PyData.depth]⟩
section
variable {X : Cx} {pins : List (Addr × Obj)} {σ : L2.St} {H : Hp} {s : Shared}
theorem OddKey.reads {v : V} {u : Value} {d : PyData} (h : OddKey v u d) (hp : Heap) : Reads hp u d [] := by
  cases h
  · exact .none
  · exact .int _ _
  · exact .str _ _
theorem OddKey.quiet {A : Around} {E : Value → Shared → Prop} {v : V} {u : Value} {d : PyData} (h : OddKey v u d) {Q : Bool → Shared → Prop} (q : Q true s) : wpAny (model X.prog X.w) A (eqIsQuiet 8 u) Q E s := by
  cases h <;> (unfold eqIsQuiet; exact wpAny_pure q)
/-- it isn't there -/
theorem find_odd (I : Inv X pins σ H s) {A : Around} {E : Value → Shared → Prop} (hu : A.units < cLine) {d : Addr} {o : Obj} {es : Array DictEntry} {ep : Nat} {xs : List (List Key × Addr × Value)} {kvs : List (List Key × V)} (ho : s.heap.get? d = some o) (hd : o.data = .dict es ep) (he : es.toList = xs.map (entryOfKey (tupleKind (mixKind X.prog X.w)))) (rel : KT H kvs xs) (hi : ∀ kv ∈ kvs, IntK kv.1)
    {v : V} {key : Value} {dk : PyData} (hk : OddKey v key dk) (h : Int) {Q : Option Nat → Shared → Prop} (q : Q none s) : wpAny (model X.prog X.w) A (dictFind d key h) Q E s := by
  have hall : ∀ x ∈ xs, ∃ k : List Key, H x.2.1 = some (.tup (k.map kV)) ∧ IntK k := by
    clear he
    induction rel with
    | nil => exact fun x hx => nomatch hx
    | @cons p y ks ys r _ ih =>
      intro x hx
      rcases List.mem_cons.mp hx with rfl | hx
      · exact ⟨p.1, r.2.1, hi p List.mem_cons_self⟩
      · exact ih (fun kv hkv => hi kv (List.mem_cons_of_mem _ hkv)) x hx
  have hmem : ∀ (i : Nat) (e : DictEntry), es[i]? = some e → ∃ (b : Addr) (k : List Key), e.key = .ref b ∧ H b = some (.tup (k.map kV)) ∧ IntK k := by
    intro i e hi
    have : e ∈ xs.map (entryOfKey (tupleKind (mixKind X.prog X.w))) := he ▸ Array.mem_toList_iff.mpr (Array.mem_of_getElem? hi)
    obtain ⟨x, hx, rfl⟩ := List.mem_map.mp this
    obtain ⟨k, hk⟩ := hall x hx
    exact ⟨x.2.1, k, rfl, hk⟩
  have hst : ∀ v ∈ (placesWithHash es.size (fun i => es[i]?.map (·.hash)) h).filterMap (fun i => es[i]?.map (·.key)), ∃ (b : Addr) (k : List Key), v = .ref b ∧ H b = some (.tup (k.map kV)) ∧ IntK k := by
    intro v hv
    obtain ⟨i, _, hi⟩ := List.mem_filterMap.mp hv
    cases hei : es[i]? with
    | none => rw [hei] at hi; cases hi
    | some e =>
      rw [hei] at hi
      obtain rfl : e.key = v := by simpa using hi
      exact hmem i e hei
  have unlike : ∀ {Q : Bool → Shared → Prop} {E : Value → Shared → Prop} {b : Addr} {k : List Key}, H b = some (.tup (k.map kV)) ∧ IntK k → Q false s → wpAny (model X.prog X.w) A (eqBool (.ref b) key) Q E s := fun {Q E b k} hb hq => by
    obtain ⟨as, ra⟩ := Dp.reads I (keyD k) (.ref b) (.ref b) (.tup (SqT.of hb.1) (keyD1_dp k)) rfl
    refine PySem.SeqAt.eqBoolOverData _ _ A E s _ _ _ dk _ [] Q ra (hk.reads _) (by unfold keyD; rw [PyData.canLay0]; exact canLay_key k hb.2) hk.lay.1 (by rw [hk.lay.2]; omega) ?_
    rw [hk.eqv]
    exact hq
  have walk : wpAny (model X.prog X.w) A (dictWalkPlain d key h es (placesWithHash es.size (fun i => es[i]?.map (·.hash)) h)) Q E s := by
    unfold dictWalkPlain
    refine wpAny_bind ?_
    refine wpAny_forIn_list _ (fun rest b s' => s' = s ∧ b = (none, ())) _ ?_ ?_ _ _ ⟨rfl, rfl⟩
    · rintro x rest b s' ⟨rfl, rfl⟩
      cases hx : es[x]? with
      | none => exact wpAny_pure ⟨rfl, rfl⟩
      | some e =>
        obtain ⟨b, k, ek, hb⟩ := hmem x e hx
        dsimp only
        by_cases hh : (e.hash == h) = true
        · rw [if_pos hh]
          refine wpAny_bind (wpAny_dictEpoch ho hd (wpAny_bind ?_))
          rw [ek]
          refine unlike hb (wpAny_bind (wpAny_dictEpoch ho hd ?_))
          show wpAny _ _ (if (ep != ep) = true then _ else _) _ E _
          rw [if_neg (by simp)]
          simp only [Bool.false_eq_true, if_false]
          exact wpAny_bind (wpAny_rule (wpAny_pure ⟨rfl, rfl⟩))
        · rw [if_neg hh]
          exact wpAny_pure ⟨rfl, rfl⟩
    · rintro b s' ⟨rfl, rfl⟩
      exact wpAny_pure q
  have tells : ∀ {Q : Bool → Shared → Prop} {E : Value → Shared → Prop}, Q false s → wpAny (model X.prog X.w) A (tableMayTell key ((placesWithHash es.size (fun i => es[i]?.map (·.hash)) h).filterMap (fun i => es[i]?.map (·.key)))) Q E s := fun {Q E} hq => by
    unfold tableMayTell
    split
    · exact wpAny_pure hq
    · refine wpAny_bind (hk.quiet (X := X) ?_)
      simp only [Bool.not_true, Bool.false_eq_true, if_false]
      refine wpAny_bind ?_
      refine wpAny_forIn_list _ (fun rest r s' => s' = s ∧ r = (none, ()) ∧ ∀ v ∈ rest, ∃ (b : Addr) (k : List Key), v = .ref b ∧ H b = some (.tup (k.map kV)) ∧ IntK k) _ ?_ ?_ _ _ ⟨rfl, rfl, hst⟩
      · rintro x rest r s' ⟨rfl, rfl, hr⟩
        obtain ⟨b, k, rfl, hb⟩ := hr x List.mem_cons_self
        refine wpAny_bind ((tupleKind (mixKind X.prog X.w)).quiet (key_of I.hok hb.1) ?_)
        simp only [Bool.not_true, Bool.false_eq_true, if_false]
        exact wpAny_pure ⟨rfl, rfl, fun v hv => hr v (List.mem_cons_of_mem _ hv)⟩
      · rintro r s' ⟨rfl, rfl, _⟩
        exact wpAny_pure hq
  cases hk with
  | non =>
    unfold dictFind
    try with_reducible refine wpAny_holding ?_
    refine wpAny_bind (wpAny_dictEntries ho hd ?_)
    dsimp only
    by_cases hc : ((Value.none :: (placesWithHash es.size (fun i => es[i]?.map (·.hash)) h).filterMap (fun i => es[i]?.map (·.key))).all carriedByValue) = true
    · rw [if_pos hc]
      exact walk
    · rw [if_neg hc]
      have hne : ¬ (((placesWithHash es.size (fun i => es[i]?.map (·.hash)) h).filterMap (fun i => es[i]?.map (·.key))) == [Value.none]) = true := by
        intro e
        have e := eq_of_beq e
        obtain ⟨b, k, e2, _⟩ := hst Value.none (by rw [e]; exact List.mem_cons_self)
        cases e2
      rw [if_neg hne]
      refine wpAny_bind (tells ?_)
      simp only [Bool.false_and, Bool.false_eq_true, if_false]
      refine wpAny_bind ?_
      refine wpAny_forIn_list _ (fun rest b s' => s' = s ∧ b = (none, none)) _ ?_ ?_ _ _ ⟨rfl, rfl⟩
      · rintro x rest b s' ⟨rfl, rfl⟩
        cases hx : es[x]? with
        | none => exact wpAny_pure ⟨rfl, rfl⟩
        | some e =>
          obtain ⟨b, k, ek, hb⟩ := hmem x e hx
          dsimp only
          by_cases hh : (e.hash == h) = true
          · rw [if_pos hh]
            refine wpAny_bind (wpAny_dictEpoch ho hd (wpAny_bind ?_))
            rw [ek]
            refine unlike hb (wpAny_bind (wpAny_dictEpoch ho hd ?_))
            show wpAny _ _ (if (ep != ep) = true then _ else _) _ E _
            rw [if_neg (by simp)]
            simp only [Bool.false_eq_true, if_false]
            exact wpAny_bind (wpAny_rule (wpAny_pure ⟨rfl, rfl⟩))
          · rw [if_neg hh]
            exact wpAny_pure ⟨rfl, rfl⟩
      · rintro b s' ⟨rfl, rfl⟩
        exact wpAny_pure q
  | @int i t =>
    unfold dictFind
    try with_reducible refine wpAny_holding ?_
    refine wpAny_bind (wpAny_dictEntries ho hd ?_)
    dsimp only
    by_cases hc : ((Value.int i t :: (placesWithHash es.size (fun i => es[i]?.map (·.hash)) h).filterMap (fun i => es[i]?.map (·.key))).all carriedByValue) = true
    · rw [if_pos hc]
      exact walk
    · rw [if_neg hc]
      have hne : ¬ (((placesWithHash es.size (fun i => es[i]?.map (·.hash)) h).filterMap (fun i => es[i]?.map (·.key))) == [Value.int i t]) = true := by
        intro e
        have e := eq_of_beq e
        obtain ⟨b, k, e2, _⟩ := hst (Value.int i t) (by rw [e]; exact List.mem_cons_self)
        cases e2
      rw [if_neg hne]
      refine wpAny_bind (tells ?_)
      simp only [Bool.false_and, Bool.false_eq_true, if_false]
      refine wpAny_bind ?_
      refine wpAny_forIn_list _ (fun rest b s' => s' = s ∧ b = (none, none)) _ ?_ ?_ _ _ ⟨rfl, rfl⟩
      · rintro x rest b s' ⟨rfl, rfl⟩
        cases hx : es[x]? with
        | none => exact wpAny_pure ⟨rfl, rfl⟩
        | some e =>
          obtain ⟨b, k, ek, hb⟩ := hmem x e hx
          dsimp only
          by_cases hh : (e.hash == h) = true
          · rw [if_pos hh]
            refine wpAny_bind (wpAny_dictEpoch ho hd (wpAny_bind ?_))
            rw [ek]
            refine unlike hb (wpAny_bind (wpAny_dictEpoch ho hd ?_))
            show wpAny _ _ (if (ep != ep) = true then _ else _) _ E _
            rw [if_neg (by simp)]
            simp only [Bool.false_eq_true, if_false]
            exact wpAny_bind (wpAny_rule (wpAny_pure ⟨rfl, rfl⟩))
          · rw [if_neg hh]
            exact wpAny_pure ⟨rfl, rfl⟩
      · rintro b s' ⟨rfl, rfl⟩
        exact wpAny_pure q
  | @str x t ox =>
    unfold dictFind
    try with_reducible refine wpAny_holding ?_
    refine wpAny_bind (wpAny_dictEntries ho hd ?_)
    dsimp only
    by_cases hs : (es.all fun e => isExactStrKey e.key) = true
    · rw [if_pos hs]
      have h0 : es = #[] := by
        by_cases h1 : 0 < es.size
        · obtain ⟨b, k, ek, _⟩ := hmem 0 es[0] (Array.getElem?_eq_getElem h1)
          have := Array.all_eq_true.mp hs 0 h1
          rw [ek] at this
          cases this
        · exact Array.size_eq_zero_iff.mp (by omega)
      subst h0
      unfold foundByValue
      have e0 : (#[] : Array DictEntry).findIdx? (fun y => y.key.isStr x) = none := by simp
      rw [e0]
      exact wpAny_pure q
    · rw [if_neg hs]
      by_cases hc : ((Value.str x t :: (placesWithHash es.size (fun i => es[i]?.map (·.hash)) h).filterMap (fun i => es[i]?.map (·.key))).all carriedByValue) = true
      · rw [if_pos hc]
        exact walk
      · rw [if_neg hc]
        have hne : ¬ (((placesWithHash es.size (fun i => es[i]?.map (·.hash)) h).filterMap (fun i => es[i]?.map (·.key))) == [Value.str x t]) = true := by
          intro e
          have e := eq_of_beq e
          obtain ⟨b, k, e2, _⟩ := hst (Value.str x t) (by rw [e]; exact List.mem_cons_self)
          cases e2
        rw [if_neg hne]
        refine wpAny_bind (tells ?_)
        simp only [Bool.false_and, Bool.false_eq_true, if_false]
        refine wpAny_bind ?_
        refine wpAny_forIn_list _ (fun rest b s' => s' = s ∧ b = (none, none)) _ ?_ ?_ _ _ ⟨rfl, rfl⟩
        · rintro x rest b s' ⟨rfl, rfl⟩
          cases hx : es[x]? with
          | none => exact wpAny_pure ⟨rfl, rfl⟩
          | some e =>
            obtain ⟨b, k, ek, hb⟩ := hmem x e hx
            dsimp only
            by_cases hh : (e.hash == h) = true
            · rw [if_pos hh]
              refine wpAny_bind (wpAny_dictEpoch ho hd (wpAny_bind ?_))
              rw [ek]
              refine unlike hb (wpAny_bind (wpAny_dictEpoch ho hd ?_))
              show wpAny _ _ (if (ep != ep) = true then _ else _) _ E _
              rw [if_neg (by simp)]
              simp only [Bool.false_eq_true, if_false]
              exact wpAny_bind (wpAny_rule (wpAny_pure ⟨rfl, rfl⟩))
            · rw [if_neg hh]
              exact wpAny_pure ⟨rfl, rfl⟩
        · rintro b s' ⟨rfl, rfl⟩
          exact wpAny_pure q
/-- what may be put among keys that are tuples, and is none -/
def OddV (y : V) : Prop := y = .non ∨ (∃ i, y = .int i) ∨ ∃ x, y = .str x ∧ PyData.strOk x = true
theorem OddV.key {y : V} {u : Value} (h : OddV y) (r : RelV y u) : ∃ d, OddKey y u d := by
  rcases h with rfl | ⟨i, rfl⟩ | ⟨x, rfl, o⟩
  · cases (show u = Value.none from r)
    exact ⟨_, .non⟩
  · obtain ⟨t, rfl⟩ := r
    exact ⟨_, .int⟩
  · obtain ⟨t, rfl⟩ := r
    exact ⟨_, .str o⟩
theorem OddKey.hash {A : Around} {E : Value → Shared → Prop} {v : V} {u : Value} {d : PyData} (h : OddKey v u d) {Q : Int → Shared → Prop} (q : ∀ i, Q i { s with toks := s.toks + 1 }) : wpAny (model X.prog X.w) A (pyHash u) Q E s := by
  cases h with
  | non => exact pyHash_leaf (k := .none) rfl (q _)
  | @int i t => exact pyHash_leaf (k := .num i) (by simp [Leaf.isOf]) (q _)
  | @str x t o => exact pyHash_leaf (k := .text x) (by simp [Leaf.isOf, Value.isStrOf]) (q _)
/-- a dict of tuple keys in which one more key stands, at the end, that is none; its object is o -/
structure OddW (o : Obj) (H : Hp) (a : Addr) (kvs : List (List Key × V)) (k v : V) : Prop where
  at' : H a = some (.ext fun h => h.get? a = some o)
  ec : o.ExactDict
  ex : ∃ (es : Array DictEntry) (ep : Nat) (xs : List (List Key × Addr × Value)) (uk uv : Value), o.data = .dict es ep ∧ (a == sysModules) = false ∧ KT H kvs xs ∧ RelV k uk ∧ RelV v uv ∧
    es.toList.map (fun e => (e.key, e.val)) = xs.map (fun x => (Value.ref x.2.1, x.2.2)) ++ [(uk, uv)] ∧ es.size ≤ sizeLine
  key : OddV k
def OddAt (H : Hp) (a : Addr) (kvs : List (List Key × V)) (k v : V) : Prop := ∃ o, OddW o H a kvs k v
theorem OddW.mono {o : Obj} {H H' : Hp} {a : Addr} {kvs : List (List Key × V)} {k v : V} (h : OddW o H a kvs k v) (s : ∀ b u, H b = some u → H' b = some u) : OddW o H' a kvs k v := by
  obtain ⟨h1, h2, ⟨es, ep, xs, uk, uv, h3, h4, h5, h6⟩, h7⟩ := h
  exact ⟨s _ _ h1, h2, ⟨es, ep, xs, uk, uv, h3, h4, h5.keeps (fun c ys e => s _ _ e), h6⟩, h7⟩
theorem put_odd (I : Inv X pins σ H s) {A : Around} {E : Value → Shared → Prop} (hu : A.units + 1 < cLine) {a : Addr} {kvs : List (List Key × V)} {y v : V} {u r : Value} {Q : Unit → Shared → Prop} (ha : H a = some (.dT kvs)) (hi : ∀ kv ∈ kvs, IntK kv.1) (hz : kvs.length < sizeLine) (hy : OddV y) (ry : RelV y u) (rv : RelV v r)
    (q : ∀ φ s', OddAt (upd H a (.ext φ)) a kvs y v → Inv X pins σ (upd H a (.ext φ)) s' → Q () s') : wpAny (model X.prog X.w) A (setItem (.ref a) u r) Q E s := by
  obtain ⟨dk, hk⟩ := hy.key ry
  obtain ⟨z, hd, xs, rel, dd⟩ := dt_of I.hok ha
  obtain ⟨o, es, ep, ho, hc, hdat, he, his, hn⟩ := id dd
  have hty : s.TypeIs (.ref a) "dict" := ⟨o, ho, hc.1⟩
  have hes : es.size = kvs.length := by rw [size_of_entries he, ← Paired.length rel]
  unfold setItem
  try with_reducible refine wpAny_holding ?_
  refine wpAny_bind (wpAny_sequenceKey hty (by decide) ?_)
  refine wpAny_bind (wpAny_callSpecial?_slot (name := Str.ofString "__setitem__") hty PySem.slot_dict_setitem
    (wpAny_call_entry PySem.slot_dict_setitem hty PySem.entry_dict_setitem ?_ (PySem.args_dict_setitem _ _ _)))
  show wpAny _ _ (Builtin.Dict.notOrdered "__setitem__" ⟨[.ref a, u, r], []⟩ >>= _) _ _ s
  refine wpAny_bind (wpAny_notOrdered_dict hty ?_)
  show wpAny _ _ (dictSet a u r >>= _) _ _ s
  refine wpAny_bind ?_
  unfold dictSet
  try with_reducible refine wpAny_holding ?_
  refine wpAny_bind (hk.hash (X := X) fun hh => ?_)
  unfold dictSetHashed
  try with_reducible refine wpAny_holding ?_
  have I1 : Inv X pins σ H { s with toks := s.toks + 1 } := I.tok _
  refine wpAny_bind (find_odd I1 (show A.in1.units < cLine from by show A.units + 1 < cLine; exact hu) ho hdat he rel hi hk hh ?_)
  refine wpAny_bind (wpAny_rule (wpAny_updateDictKeys (s := { s with toks := s.toks + 1 }) (hz := by omega) ho hdat ?_))
  refine wpAny_pure ⟨.none, rfl, wpAny_pure ?_⟩
  have hg := Heap.get?_update_self (Obj.mapDictKeys fun es => es.push ⟨hh, u, r⟩) ho (Obj.isFreed_of_dict (Obj.data_mapDictKeys hdat _))
  have hs : Heap.SameBut a s.heap (s.heap.update a (Obj.mapDictKeys fun es => es.push ⟨hh, u, r⟩)) := Heap.SameBut.update ..
  refine q (fun h => h.get? a = some (Obj.mapDictKeys (fun es => es.push ⟨hh, u, r⟩) o)) _ ⟨_, upd_same, hc.mapDictKeys _, ⟨_, ep + 1, xs, u, r, Obj.data_mapDictKeys hdat _, hd, rel.keeps (fun c ys ec => by rw [upd_ne (ne_of ec ha (fun z => nomatch z))]; exact ec), ry, rv, ?_, ?_⟩, hy⟩ ?_
  · rw [Array.toList_push, List.map_append, he, List.map_map]
    rfl
  · rw [Array.size_push]
    omega
  · exact d_write (t' := s.toks + 1) I1 (by rw [ha]; exact True.intro) hs ⟨_, hg⟩ ⟨hg, ⟨_, hg⟩, fun h1 h2 e k => k _ e⟩
/-- as it lies -/
theorem OddW.entries (I : Inv X pins σ H s) {d : Addr} {o : Obj} {kvs : List (List Key × V)} {k v : V} (h : OddW o H d kvs k v) :
    (d == sysModules) = false ∧ ∃ (es : Array DictEntry) (ep : Nat), o.data = .dict es ep ∧ DT.Raw s.heap d es ep ∧ es.size = kvs.length + 1 ∧
      (∀ (i : Nat) (k : List Key) (v : V), kvs[i]? = some (k, v) → ∃ (hi : i < es.size) (q : Addr), es[i].key = .ref q ∧ H q = some (.tup (k.map kV)) ∧ RelV v es[i].val) ∧ ∃ hi : kvs.length < es.size, RelV k es[kvs.length].key ∧ RelV v es[kvs.length].val := by
  obtain ⟨h1, h2, ⟨es, ep, xs, uk, uv, h3, h4, h5, h6, h7, h8, h9⟩, hk⟩ := h
  have there : s.heap.get? d = some o := (show ObjOk X.prog X.w H s.heap d (.ext fun h => h.get? d = some o) from I.hok _ _ h1).1
  have l5 : kvs.length = xs.length := Paired.length h5
  have sizes : es.size = kvs.length + 1 := by
    have := congrArg List.length h8
    rw [List.length_map, List.length_append, List.length_map, Array.length_toList] at this
    simpa [l5] using this
  have at8 : ∀ (i : Nat) (hi : i < es.size), (es.toList.map (fun e => (e.key, e.val)))[i]? = some (es[i].key, es[i].val) := fun i hi => by
    rw [List.getElem?_map, Array.getElem?_toList, Array.getElem?_eq_getElem hi]
    rfl
  refine ⟨h4, es, ep, h3, ⟨o, there, h2, h3⟩, sizes, fun i k v e => ?_, by omega, ?_⟩
  · obtain ⟨b, hb, e1, e2, e3⟩ := paired_get h5 e
    have hi : i < es.size := by have := (List.getElem?_eq_some_iff.mp e).1; omega
    have q := at8 i hi
    rw [h8, List.getElem?_append_left (by rw [List.length_map]; exact (List.getElem?_eq_some_iff.mp hb).1), List.getElem?_map, hb] at q
    injection q with q
    injection q with q1 q2
    exact ⟨hi, b.2.1, q1.symm, e2, by rw [← q2]; exact e3⟩
  · have hi : kvs.length < es.size := by omega
    have q := at8 kvs.length hi
    rw [h8, List.getElem?_append_right (by rw [List.length_map]; omega), List.length_map, show kvs.length - xs.length = 0 by omega] at q
    injection q with q
    injection q with q1 q2
    exact ⟨by rw [← q1]; exact h6, by rw [← q2]; exact h7⟩
end
/-- the items of the odd dict at d -/
def ItO (o : Obj) (d : Addr) (kvs : List (List Key × V)) (k v : V) : It :=
  ⟨fun i H => OddW o H d kvs k v ∧ i < kvs.length + 1,
   fun i H x H' => ∃ (T : Addr) (a b : V), x = .ref T ∧ H T = none ∧ H' = upd H T (.tup [a, b]) ∧ ((∃ (q : Addr) (k' : List Key), kvs[i]? = some (k', b) ∧ H q = some (.tup (k'.map kV)) ∧ a = .ref q) ∨ (i = kvs.length ∧ a = k ∧ b = v)),
   fun i H => OddW o H d kvs k v ∧ kvs.length + 1 ≤ i⟩
theorem turn_itemsO {P : Program} {w : World} {K : PySem.W.Frag} {d : Addr} {o : Obj} {es : Array DictEntry} {ep : Nat} {kvs : List (List Key × V)} {k v : V} {elts : List Expr} {kk : Nat} {tpos : Pos} (it : Addr) (hod : o.data = .dict es ep) :
    Turn P w K (.Tuple elts kk tpos) (ItO o d kvs k v) [it] it (fun i h => ∃ ok ov, IsItemIter h it d i (kvs.length + 1) ep ok ov) where
  mem := by simp
  obj := fun i h ⟨ok, ov, e⟩ b hb => by
    rw [List.mem_singleton.mp hb]
    exact ⟨_, e, fun v z => nomatch z⟩
  keep := fun i h h' ⟨ok, ov, e⟩ k => ⟨ok, ov, k it (by simp) _ e⟩
  item := by
    rintro X rfl rfl rfl hc i pins s σ H E I hf ⟨ok, ov, he⟩ ⟨hd, hi⟩
    obtain ⟨_, es', ep', hdt, raw, hsz, ent, hlast, lk, lv⟩ := hd.entries I
    obtain ⟨rfl, rfl⟩ := dict_ep hod hdt
    have hi' : i < es'.size := by omega
    obtain ⟨a, b, ra, rb, hab⟩ : ∃ a b : V, RelV a es'[i].key ∧ RelV b es'[i].val ∧ ((∃ (q : Addr) (k' : List Key), kvs[i]? = some (k', b) ∧ H q = some (.tup (k'.map kV)) ∧ a = .ref q) ∨ (i = kvs.length ∧ a = k ∧ b = v)) := by
      by_cases c : i < kvs.length
      · obtain ⟨⟨k', v'⟩, hkv⟩ : ∃ p, kvs[i]? = some p := ⟨kvs[i], List.getElem?_eq_getElem c⟩
        obtain ⟨hi2, q, hkey, hq, rv⟩ := ent i k' v' hkv
        exact ⟨.ref q, v', hkey, rv, .inl ⟨q, k', hkv, hq, rfl⟩⟩
      · have e : i = kvs.length := by omega
        subst e
        exact ⟨k, v, lk, lv, .inr ⟨rfl, rfl, rfl⟩⟩
    rw [← hsz] at he
    have hlt : it < s.heap.objs.size := Heap.lt_size he
    refine DT.nextI he raw hi' fun h' out laid grown kept => ?_
    refine ⟨_, rfl, wpAny_letOwnedTupleGo_items (s := { s with heap := h' }) out fun h'' he' sb => ?_⟩
    have laid2 : h''.get? s.heap.objs.size = some { cls := .type "tuple", data := .seq #[es'[i].key, es'[i].val] } := (sb.2 _ (Nat.ne_of_gt hlt)).trans laid
    have pair : ObjOk X.prog X.w (upd H s.heap.objs.size (.tup [a, b])) h'' s.heap.objs.size (.tup [a, b]) :=
      ⟨by show 2 ≤ sizeLine; decide, [es'[i].key, es'[i].val], .cons ra (.cons rb .nil), ⟨_, laid2, rfl, _, rfl⟩⟩
    have I1 : Inv X pins σ (upd H s.heap.objs.size (.tup [a, b])) { s with heap := h'' } :=
      I.turnedNew (t' := s.toks) (ch := [it]) (fun b ob hb e => (sb.2 b (fun z => hb (List.mem_singleton.mpr z))).trans (kept b ob (fun z => hb (List.mem_singleton.mpr z)) e)) hf (Nat.le_refl _) pair
    refine ⟨.ref s.heap.objs.size, _, I1, rfl, ⟨_, a, b, rfl, I.hok.fresh (Nat.le_refl _), rfl, hab⟩, ⟨es'[i].key, es'[i].val, by rw [← hsz]; exact he'⟩, fun b hb => ?_⟩
    rw [List.mem_singleton.mp hb, upd_ne (Nat.ne_of_lt hlt)]
    exact (hf it (by simp)).1
  done := by
    rintro X rfl rfl rfl hc i pins s σ H E I hf ⟨ok, ov, he⟩ ⟨hd, hi⟩
    obtain ⟨f0, f1, f2, f3, f4, f5⟩ := hf it (by simp)
    obtain ⟨_, es', ep', hdt, raw, hsz, _⟩ := hd.entries I
    obtain ⟨rfl, rfl⟩ := dict_ep hod hdt
    rw [← hsz] at he
    exact DT.endI (I.ok.hd hc) he raw (by omega) fun h' eb => ⟨rfl, I.turned (t' := s.toks) (fun b ob hb e => eb b ob hb e) f0 f1 f3 f4 f5⟩
  self := fun A i s Q E ⟨_, _, e⟩ h => PySem.W.kcp_self e h
/-- for a, b in e.items(): e an odd dict -/
def iItemsO (td : TE) : TI := fun σ H R => td σ H fun x H1 => ∃ d o kvs k v, x = .ref d ∧ OddW o H1 d kvs k v ∧ R (ItO o d kvs k v) H1
theorem pi_itemsO {X : Cx} {e : Expr} {td : TE} {apos cpos : Pos} {elts : List Expr} {kk : Nat} {tpos : Pos} (he : PE X e td) (hbase : attributeBase e "items" X.env (eval e X.env) = eval e X.env := by rfl) (hline : (apos.endLine == cpos.line) = true := by rfl) :
    PI X (.Tuple elts kk tpos) (.Call (.Attribute e "items" apos) [] [] cpos) (iItemsO td) := by
  refine ⟨fun pins s σ H R I h => ?_⟩
  refine wpAny_Call_method (T := "dict") (id := "dict.items") hbase rfl hline F.plainAttrs_dict F.slot_dict_items F.type_dict_items (thn (he.run pins s σ H _ I h) fun u s1 ⟨x, H1, I1, rx, d, o, kvs, k, v, ex, hd, q⟩ => ?_)
  subst ex
  obtain rfl : u = Value.ref d := rx
  obtain ⟨notSys, es, ep, hdt, raw, hsz, ent, _⟩ := hd.entries I1
  refine ⟨raw.typeIs, fun b z => ?_, ?_⟩
  · cases z
    obtain ⟨ob, h1, h2, h3⟩ := raw
    exact ⟨ob, h1, h2.2.1⟩
  have I2 : Inv X pins σ H1 { s1 with heap := s1.heap.push { cls := .type "dict_items", data := .fields #[.ref d] } } := I1.kept (t' := s1.toks) fun b ob q => Heap.get?_push_of_some _ q
  have walk : wpAny (model X.prog X.w) X.A (pyIter (.ref s1.heap.objs.size)) (PIE X pins σ (.Tuple elts kk tpos) R) X.xe { s1 with heap := s1.heap.push { cls := .type "dict_items", data := .fields #[.ref d] } } := by
    refine DT.iterI (d := d) ⟨_, Heap.get?_push_size _ rfl, rfl, rfl⟩ (raw.push _) (pi_one (tk := s1.toks) I2 _ (turn_itemsO _ hdt) ⟨.none, .none, ?_⟩ q)
    rw [← hsz]
    exact Heap.get?_push_size _ rfl
  show wpAny _ _ (callWith cpos (.builtin "dict.items") [.ref d] [] []) _ X.xe s1
  exact method_meetsIn F.slot_dict_items F.entry_dict_items rfl (PySem.evalArgs_none ⟨rfl, raw.typeIs, F.args_dict_items_1 _, _, DT.meetsItems (es := es) (ep := ep) notSys, raw, walk⟩)
end L2

set_option Elab.async false
set_option maxRecDepth 100000
set_option maxHeartbeats 4000000
namespace PySem
section
variable {prog : Program} {w : World} {A : Around} {E : Value → Shared → Prop} {s : Shared}
theorem wpAny_len_body_raw {d : Addr} {es : Array DictEntry} {ep : Nat} {Q : Value → Shared → Prop} (hd : (d == sysModules) = false) (hm : s.heap.DictRaw d es ep) (hfit : (es.size : Int) < 2 ^ 63)
    (h : Q (.int es.size (s.toks + 1)) { s with toks := s.toks + 1 + 1 }) : wpAny (model prog w) A (Builtin.«len» ⟨[.ref d], []⟩) (fun fin s' => ∃ r, fin = .done (.ret r) ∧ Q r s') E s := by
  unfold Builtin.«len»
  refine wpAny_bind (m := oneArg "len" _) (wpAny_pure ?_)
  refine wpAny_bind (m := callSpecial? (.ref d) (Str.ofString "__len__")) (wpAny_callSpecial?_slot (name := Str.ofString "__len__") hm.typeIs F.slot_dict_len
    (call_len_raw hd hm ?_))
  show wpAny _ _ _ _ _ { s with toks := s.toks + 1 }
  refine wpAny_bind (wpAny_holding (wpAny_pure ?_))
  refine wpAny_bind (wpAny_letGo ?_)
  show wpAny _ _ (if ((es.size : Nat) : Int) < 0 then _ else _) _ _ _
  rw [if_neg (by omega)]
  show wpAny _ _ (if ((es.size : Nat) : Int) ≥ 2 ^ 63 then _ else _) _ _ _
  rw [if_neg (by omega)]
  exact wpAny_bind (wpAny_mkInt (wpAny_pure ⟨_, rfl, h⟩))
end
end PySem
namespace L2
open PySem PySem.Spec PyProof.Rows
set_option linter.unusedVariables false
section
variable {X : Cx} {pins : List (Addr × Obj)} {σ : L2.St} {H : Hp} {s : Shared}
def rLenO : List V → Hp → VK → Prop := fun xs H Q => ∃ (p : Addr) (kvs : List (List Key × V)) (k v : V), xs = [.ref p] ∧ OddAt H p kvs k v ∧ Q (.int ((kvs.length + 1 : Nat) : Int)) H
theorem call_len_O : CallR X (.builtin "len") rLenO := by
  intro pins s σ H xs us Q I r h
  obtain ⟨p, kvs, k, v, rfl, ⟨o, hp⟩, q⟩ := h
  obtain ⟨u, rfl, rx⟩ := vals1 r
  obtain rfl : u = .ref p := rx
  obtain ⟨z, es, ep, hdt, ⟨o', raw⟩, hsz, _⟩ := hp.entries I
  obtain ⟨es1, ep1, xs, uk, uv, h3, _, _, _, _, _, h9⟩ := hp.ex
  have e1 : es1 = es := by rw [hdt] at h3; cases h3; rfl
  subst e1
  refine Calls.call_function_entry kind_len plain_len entry_len (args_len1 _) (wpAny_len_body_raw z ⟨o', raw⟩ (by rw [sizeLine_eq] at h9; omega) ?_)
  rw [hsz]
  exact ⟨.int ((kvs.length + 1 : Nat) : Int), H, I.tok _, ⟨_, rfl⟩, q⟩
def rIsiO (K : PySem.W.Frag) : List V → Hp → VK → Prop := fun xs H Q => ∃ (p : Addr) (kvs : List (List Key × V)) (k v c : V) (u : Value) (b : Bool), xs = [.ref p, c] ∧ OddAt H p kvs k v ∧ ClsV c u ∧ PySem.W.kitOne K (.type "dict") u = some b ∧ Q (.bl b) H
theorem call_isiO : CallR X (.builtin "isinstance") (rIsiO X.K) := by
  intro pins s σ H xs us Q I r h
  obtain ⟨p, kvs, k, v, c, u, b, rfl, ⟨o, hp⟩, hc, e, q⟩ := h
  obtain ⟨u1, u2, rfl, r1, r2⟩ := vals2 r
  have e2 := hc.eq r2
  subst e2
  cases (show u1 = Value.ref p from r1)
  obtain ⟨z, es, ep, hdt, ⟨o', h1, h2, h3⟩, hsz, _⟩ := hp.entries I
  exact PySem.W.kia_one PySem.W.kitx_dict I.kIn ⟨o', h1, h2.1⟩ e (fun z => nomatch z) fun tk => ⟨.bl b, H, I.tok tk, rfl, q⟩
/-- d[y] = v, y perhaps no tuple -/
def sDPutO (td ty tv : TE) : TS := fun D σ H => tv σ H fun v H1 => td σ H1 fun x H2 => ty σ H2 fun y H3 => (∃ a H4, x = .ref a ∧ DPut H3 a y v H4 ∧ D.nx σ H4) ∨
  ∃ (a : Addr) (kvs : List (List Key × V)), x = .ref a ∧ H3 a = some (.dT kvs) ∧ (∀ kv ∈ kvs, IntK kv.1) ∧ kvs.length < sizeLine ∧ OddV y ∧ ∀ φ, OddAt (upd H3 a (.ext φ)) a kvs y v → D.nx σ (upd H3 a (.ext φ))
theorem ps_dputO {o i value : Expr} {td ty tv : TE} {pos pos' : Pos} (hu : X.A.units + 1 < cLine) (ho : PE X o td) (hi : PE X i ty) (hv : PE X value tv) (hs : swapsWith value (some (.Subscript o i pos')) pos.line X.env = pure false) :
    PS X (.Assign [.Subscript o i pos'] value pos) (sDPutO td ty tv) := by
  refine ⟨fun pins s σ H D I h => ?_⟩
  refine wpAny_Assign_Subscript (thn (hv.run pins s σ H _ I h) fun r s1 ⟨v, H1, I1, rv, q1⟩ => thn (ho.run pins s1 σ H1 _ I1 q1) fun u s2 ⟨x, H2, I2, rx, q2⟩ => thn (hi.run pins s2 σ H2 _ I2 q2) fun iv s3 ⟨y, H3, I3, ry, q3⟩ => ?_) hs
  rcases q3 with ⟨a, H4, ex, g, q3⟩ | ⟨a, kvs, ex, ha, hk, hz, hy, q3⟩
  · subst ex
    obtain rfl : u = Value.ref a := rx
    exact d_setItem hu I3 g ry rv fun s4 I4 => ⟨σ, H4, I4, q3⟩
  · subst ex
    obtain rfl : u = Value.ref a := rx
    exact put_odd I3 hu ha hk hz hy ry rv fun φ s4 od I4 => ⟨σ, _, I4, q3 φ od⟩
/-! what may be shown: an odd dict too -/
inductive DY (K : PySem.W.Frag) (H : Hp) : V → PyData → Prop
  | even {v : V} {d : PyData} : DX K H v d → DY K H v d
  | odd {a : Addr} {kvs : List (List Key × V)} {k v : V} {vs : List V} {ds : List PyData} {es : List (PyData × PyData)} {dk dv : PyData} : OddAt H a kvs k v → vs = kvs.map (·.2) → DXs K H vs ds → es.map (·.1) = kvs.map (fun kv => keyD kv.1) → es.map (·.2) = ds → Dp K H k dk → dk.hasDict = false → DX K H v dv → DY K H (.ref a) (.dict (es ++ [(dk, dv)]))
  | lst {a : Addr} {xs : List V} {ds : List PyData} : SqL K H a xs → xs.length = ds.length → (∀ (i : Nat) (x : V) (d : PyData), xs[i]? = some x → ds[i]? = some d → DY K H x d) → DY K H (.ref a) (.list ds)
  | tup {a : Addr} {xs : List V} {ds : List PyData} : SqT K H a xs → xs.length = ds.length → (∀ (i : Nat) (x : V) (d : PyData), xs[i]? = some x → ds[i]? = some d → DY K H x d) → DY K H (.ref a) (.tuple ds)
theorem shwS_of {P : Program} {w : World} {h : Heap} : ∀ {xs : List V} {us : List Value} {ds : List PyData}, Vals xs us → xs.length = ds.length → (∀ (i : Nat) (x : V) (d : PyData) (u : Value), xs[i]? = some x → ds[i]? = some d → RelV x u → Shw P w h u d) → ShwS P w h us ds
  | _, _, [], .nil, _, _ => shw_nil
  | _, _, d :: ds, .cons r rs, hl, g => shw_cons (g 0 _ d _ rfl rfl r) (shwS_of rs (by simpa using hl) fun i x d u hx hd hr => g (i + 1) x d u (by simpa using hx) (by simpa using hd) hr)
  | _, _, [], .cons r rs, hl, _ => by simp at hl
  | _, _, d :: ds, .nil, hl, _ => by simp at hl
theorem shwS_idx {P : Program} {w : World} {h : Heap} : ∀ {us : List Value} {ds : List PyData}, us.length = ds.length → (∀ (i : Nat) (u : Value) (d : PyData), us[i]? = some u → ds[i]? = some d → Shw P w h u d) → ShwS P w h us ds
  | [], [], _, _ => shw_nil
  | u :: us, d :: ds, hl, g => shw_cons (g 0 _ d rfl rfl) (shwS_idx (by simpa using hl) fun i u d hx hd => g (i + 1) u d (by simpa using hx) (by simpa using hd))
  | [], d :: ds, hl, _ => by simp at hl
  | u :: us, [], hl, _ => by simp at hl
theorem DXs.get {K : PySem.W.Frag} {H : Hp} : ∀ {vs : List V} {ds : List PyData} {i : Nat} {v : V}, DXs K H vs ds → vs[i]? = some v → ∃ d, ds[i]? = some d ∧ DX K H v d
  | _, _, 0, _, .cons a _, h => by
    cases h
    exact ⟨_, rfl, a⟩
  | _, _, i + 1, _, .cons _ b, h => by
    obtain ⟨d, h1, h2⟩ := DXs.get (i := i) b (by simpa using h)
    exact ⟨d, by simpa using h1, h2⟩
  | _, _, _, _, .nil, h => by simp at h
theorem DXs.len {K : PySem.W.Frag} {H : Hp} : ∀ {vs : List V} {ds : List PyData}, DXs K H vs ds → vs.length = ds.length
  | _, _, .nil => rfl
  | _, _, .cons _ b => by rw [List.length_cons, List.length_cons, DXs.len b]
theorem DY.shw (I : Inv X pins σ H s) {v : V} {d : PyData} (h : DY X.K H v d) : ∀ u : Value, RelV v u → Shw X.prog X.w s.heap u d := by
  induction h with
  | even h => exact fun u r => DX.shw I h u r
  | @lst a xs ds hq hl g ih =>
    intro u r
    obtain rfl : u = Value.ref _ := r
    obtain ⟨its, rv, ⟨o, n, ho, hc, _, hd⟩, _⟩ := I.list hq
    exact shw_lst ho hc hd (shwS_of rv hl fun i x d u hx hd hr => ih i x d hx hd u hr)
  | @tup a xs ds hq hl g ih =>
    intro u r
    obtain rfl : u = Value.ref _ := r
    obtain ⟨its, rv, ⟨o, ho, hc, n, hd⟩, _⟩ := I.tuple hq
    exact shw_tup ho hc hd (shwS_of rv hl fun i x d u hx hd hr => ih i x d hx hd u hr)
  | @odd a kvs k v vs ds es dk dv ho ev g ek ed hk nk hv =>
    intro u r
    obtain rfl : u = Value.ref a := r
    obtain ⟨o, hp⟩ := ho
    obtain ⟨z, es', ep, hdt, ⟨o', h1, h2, h3⟩, hsz, ent, hlast, lk, lv⟩ := hp.entries I
    have el : es.length = kvs.length := by
      have := congrArg List.length ek
      rwa [List.length_map, List.length_map] at this
    have at8 : ∀ {α : Type} (f : DictEntry → α) (i : Nat) (u : α), (es'.toList.map f)[i]? = some u → ∃ hi : i < es'.size, u = f es'[i] := fun f i u hu => by
      rw [List.getElem?_map] at hu
      obtain ⟨e, he, rfl⟩ := Option.map_eq_some_iff.mp hu
      rw [Array.getElem?_toList] at he
      obtain ⟨hi, rfl⟩ := Array.getElem?_eq_some_iff.mp he
      exact ⟨hi, rfl⟩
    have keys : ShwS X.prog X.w s.heap (es'.toList.map (·.key)) ((es ++ [(dk, dv)]).map (·.1)) := by
      refine shwS_idx (by rw [List.length_map, List.length_map, List.length_append, Array.length_toList, hsz, el]; rfl) fun i u d hu hd => ?_
      obtain ⟨hi, rfl⟩ := at8 _ i u hu
      rw [List.map_append] at hd
      by_cases c : i < kvs.length
      · rw [List.getElem?_append_left (by rw [List.length_map, el]; exact c), ek, List.getElem?_map, List.getElem?_eq_getElem c] at hd
        cases hd
        obtain ⟨_, q, e1, e2, _⟩ := ent i kvs[i].1 kvs[i].2 (List.getElem?_eq_getElem c)
        rw [e1]
        obtain ⟨as, ra⟩ := Dp.reads I (keyD kvs[i].1) (.ref q) (.ref q) (.tup (SqT.of e2) (keyD1_dp _)) rfl
        exact shw_seq ra (by unfold keyD; rw [PyData.hasDict]; exact keyD1_no _)
      · have ei : i = kvs.length := by omega
        subst ei
        rw [List.getElem?_append_right (by rw [List.length_map, el]; exact Nat.le_refl _), List.length_map, el, Nat.sub_self] at hd
        cases hd
        obtain ⟨as, ra⟩ := Dp.reads I dk k _ hk lk
        exact shw_seq ra nk
    have vals : ShwS X.prog X.w s.heap (es'.toList.map (·.val)) ((es ++ [(dk, dv)]).map (·.2)) := by
      refine shwS_idx (by rw [List.length_map, List.length_map, List.length_append, Array.length_toList, hsz, el]; rfl) fun i u d hu hd => ?_
      obtain ⟨hi, rfl⟩ := at8 _ i u hu
      rw [List.map_append] at hd
      by_cases c : i < kvs.length
      · rw [List.getElem?_append_left (by rw [List.length_map, el]; exact c), ed] at hd
        obtain ⟨_, q, e1, e2, e3⟩ := ent i kvs[i].1 kvs[i].2 (List.getElem?_eq_getElem c)
        obtain ⟨d', h4, h5⟩ := DXs.get g (i := i) (v := kvs[i].2) (by rw [ev, List.getElem?_map, List.getElem?_eq_getElem c]; rfl)
        rw [h4] at hd
        cases hd
        exact DX.shw I h5 _ e3
      · have ei : i = kvs.length := by omega
        subst ei
        rw [List.getElem?_append_right (by rw [List.length_map, el]; exact Nat.le_refl _), List.length_map, el, Nat.sub_self] at hd
        cases hd
        exact DX.shw I hv _ lv
    exact shw_dic h1 h2.1 h3 z keys vals
/-- repr of a tuple in which odd dicts may stand -/
def rReprY (K : PySem.W.Frag) : List V → Hp → VK → Prop := fun xs H Q => ∃ (a : Addr) (vs : List V) (ds : List PyData), xs = [.ref a] ∧ SqT K H a vs ∧ vs.length = ds.length ∧ (∀ (i : Nat) (x : V) (d : PyData), vs[i]? = some x → ds[i]? = some d → DY K H x d) ∧ (PyData.tuple ds).showable = true ∧ (PyData.tuple ds).depth ≤ 40 ∧ (PyData.tuple ds).shown.length ≤ sizeLine ∧ Q (.str (PyData.tuple ds).shown) H
theorem call_reprY (hg : X.A.guards = some []) (hu : X.A.units + 64 < cLine) : CallR X (.builtin "repr") (rReprY X.K) := by
  intro pins s σ H xs us Q I r h
  obtain ⟨a, vs, ds, rfl, hq, hl, g, hs, hd, hz, q⟩ := h
  obtain rfl := Vals.ref1 r
  obtain ⟨its, rv, ⟨o, ho, hc, n, hdd⟩, _⟩ := I.tuple hq
  obtain ⟨⟨as, ra⟩, gg⟩ := shwS_of rv hl fun i x d u hx hd hr => DY.shw I (g i x d hx hd) u hr
  have rd : Reads s.heap (.ref a) (.tuple ds) _ := .tuple ho hc hdd ra
  rw [PyData.showable] at hs
  rw [PyData.shown] at hz q
  rw [PyData.depth] at hd
  obtain ⟨bs, b1, b2⟩ := gg hs fun t m => Nat.le_trans (tupleText_mem_le m) hz
  have out : a ∉ bs := not_mem_of_deeper rd (by rw [PyData.depth]; omega) b1
  refine call_repr_slot (T := "tuple") (idr := "tuple.__repr__") (by omega) ⟨o, ho, hc⟩ F.slot_tuple_repr ?_
  exact call_tuple_reprK ho hc hdd out b2 (g := []) hg (fun b _ => Clear.nil b) (by show X.A.units + 1 + (PyData.depthAll ds + 1) < cLine; omega) (fun _ _ e => e) (fun h' u tk hk => ⟨_, _, rfl, .str _, H, I.kept (t' := tk) hk, ⟨_, rfl⟩, q⟩) hz
end
end L2

set_option Elab.async false
set_option maxRecDepth 100000
set_option maxHeartbeats 4000000
namespace L2
open PySem PySem.Spec PyProof.Rows PySem.SeqAt PySem.Calls PyProof.V PySem.W
set_option linter.unusedVariables false
/-! == of dicts with tuple keys -/
section
variable {prog : Program} {w : World} {K : Type} [DecidableEq K] {knd : HeapKind prog w K} {A : Around} {E : Value → Shared → Prop} {s : Shared}
inductive HitsH {K : Type} (prog : Program) (w : World) (A : Around) (s : Shared) (kb : List (K × Addr × Value)) : List (K × Addr × Value) → Bool → Prop
  | nil : HitsH prog w A s kb [] true
  | miss {k : K} {v : Addr × Value} {r : List (K × Addr × Value)} : (∀ (j : Nat) (p : Addr × Value), kb[j]? ≠ some (k, p)) → HitsH prog w A s kb ((k, v) :: r) false
  | hit {k : K} {v p : Addr × Value} {j : Nat} {r : List (K × Addr × Value)} {e b : Bool} : kb[j]? = some (k, p) → SeqAt.EqP prog w A s v.2 p.2 e → HitsH prog w A s kb r b → HitsH prog w A s kb ((k, v) :: r) (e && b)
theorem HitsH.inv {kb : List (K × Addr × Value)} {k : K} {v : Addr × Value} {r : List (K × Addr × Value)} {b : Bool} (h : HitsH prog w A s kb ((k, v) :: r) b) :
    ((∀ (j : Nat) (p : Addr × Value), kb[j]? ≠ some (k, p)) ∧ b = false) ∨ ∃ (j : Nat) (p : Addr × Value) (e b' : Bool), kb[j]? = some (k, p) ∧ SeqAt.EqP prog w A s v.2 p.2 e ∧ HitsH prog w A s kb r b' ∧ b = (e && b') := by
  cases h with
  | miss hn => exact .inl ⟨hn, rfl⟩
  | hit hy he hr => exact .inr ⟨_, _, _, _, hy, he, hr, rfl⟩
theorem samePairsH {nm : String} {a b : Addr} {ka kb : List (K × Addr × Value)} {r : Bool} {Q : Bool → Shared → Prop} (hu : knd.room A) (ha : (a == sysModules) = false) (hb : (b == sysModules) = false)
    (da : s.heap.DictOfH knd a ka) (db : s.heap.DictOfH knd b kb) (hits : ka.length = kb.length → HitsH prog w A s kb ka r) (h : Q (ka.length == kb.length && r) s) :
    wpAny (model prog w) A (Builtin.Dict.samePairs nm a b) Q E s := by
  obtain ⟨oa, es, ep, hoa, _, hda, hea, hia, hna⟩ := da
  obtain ⟨ob, es', ep', hob, _, hdb, heb, hib, hnb⟩ := db
  have hla : ka.length = es.size := (size_of_entries hea).symm
  have hlb : kb.length = es'.size := (size_of_entries heb).symm
  rw [hla, hlb] at h
  unfold Builtin.Dict.samePairs Builtin.Dict.showsAll
  rw [if_neg (show ¬ (a == sysModules) = true by rw [ha]; exact Bool.false_ne_true), if_neg (show ¬ (b == sysModules) = true by rw [hb]; exact Bool.false_ne_true)]
  refine wpAny_bind (wpAny_pure (wpAny_bind (wpAny_pure ?_)))
  refine wpAny_bind (wpAny_dictEntries hoa hda ?_)
  dsimp only
  refine wpAny_bind (wpAny_dictEntries hob hdb ?_)
  by_cases hsz : es.size = es'.size
  case neg =>
    rw [if_pos (by simpa using hsz)]
    have hbf : (es.size == es'.size) = false := by simpa using hsz
    rw [hbf, Bool.false_and] at h
    exact wpAny_bind (wpAny_rule (wpAny_pure h))
  case pos =>
    have h' : Q r s := by simpa [hsz] using h
    have hits' := hits (by rw [hla, hlb]; exact hsz)
    rw [if_neg (by rw [hsz]; simp)]
    refine wpAny_bind (wpAny_dictEpoch hoa hda ?_)
    refine wpAny_bind ?_
    rw [Std.Legacy.Range.forIn_eq_forIn_range']
    simp only [Std.Legacy.Range.size, Nat.sub_zero, Nat.add_sub_cancel, Nat.div_one]
    refine wpAny_forIn_list _
      (fun rest q s' => s' = s ∧ q = (none, ()) ∧ ∃ i, rest = List.range' i (es.size - i) ∧ i ≤ es.size ∧ HitsH prog w A s kb (ka.drop i) r)
      _ ?_ ?_ _ _ ⟨rfl, rfl, 0, by simp, Nat.zero_le _, hits'⟩
    · rintro x rest q s' ⟨rfl, rfl, i, hr, hi, hpre⟩
      have hlt : i < es.size := by
        rcases Nat.lt_or_ge i es.size with h | h
        · exact h
        · rw [Nat.sub_eq_zero_of_le h] at hr; simp at hr
      obtain ⟨rfl, hrest⟩ : x = i ∧ rest = List.range' (i + 1) (es.size - (i + 1)) := by
        have e : es.size - i = (es.size - (i + 1)) + 1 := by omega
        rw [e, List.range'_succ] at hr
        injection hr with h1 h2
        exact ⟨h1, h2⟩
      refine wpAny_bind (wpAny_dictEntries hoa hda ?_)
      rw [Array.getElem?_eq_getElem hlt]
      have hlt' : x < ka.length := by rw [hla]; exact hlt
      obtain ⟨k, v, hkv⟩ : ∃ k v, ka[x] = (k, v) := ⟨_, _, rfl⟩
      have hdrop : ka.drop x = (k, v) :: ka.drop (x + 1) := by rw [← hkv]; exact List.drop_eq_getElem_cons hlt'
      have hen : es[x] = entryOfKey knd (k, v) := by
        have q := entry_at hea x
        rw [Array.getElem?_eq_getElem hlt, List.getElem?_eq_getElem hlt', hkv] at q
        exact Option.some.inj q
      have hkm : knd.is s'.heap k v.1 := by
        have := hia ka[x] (List.getElem_mem hlt')
        rw [hkv] at this
        exact this
      rw [hdrop] at hpre
      rw [hen]
      show wpAny _ _ (holding [Value.ref v.1, v.2] _ >>= _) _ _ _
      refine wpAny_bind (wpAny_holding (wpAny_bind ?_))
      show wpAny _ _ (dictFind b (.ref v.1) (knd.hash k)) _ _ _
      refine wpAny_dictFind_heap hu hkm hob hdb heb hib hnb (fun hno => ?_) fun j p hj => ?_
      · rcases hpre.inv with ⟨_, er⟩ | ⟨j, y, _, _, hy, _⟩
        · rw [er] at h'
          refine wpAny_pure ?_
          show wpAny _ _ (if (!false) = true then _ else _) _ _ _
          rw [if_pos (by decide)]
          exact wpAny_pure (wpAny_pure h')
        · exact absurd hy (hno j y)
      · have hjlt : j < es'.size := by
          rw [← hlb]
          exact (List.getElem?_eq_some_iff.mp hj).1
        refine wpAny_bind (wpAny_dictEntries hob hdb ?_)
        rw [Array.getElem?_eq_getElem hjlt]
        rcases hpre.inv with ⟨hn, _⟩ | ⟨j2, y, e, b', hy, he, hrr, er⟩
        · exact absurd hj (hn j p)
        · have ejj : j = j2 := by
            obtain ⟨l1, e1⟩ := List.getElem?_eq_some_iff.mp hj
            obtain ⟨l2, e2⟩ := List.getElem?_eq_some_iff.mp hy
            have g1 : (kb.map (·.1))[j]'(by simpa using l1) = k := by rw [List.getElem_map, e1]
            have g2 : (kb.map (·.1))[j2]'(by simpa using l2) = k := by rw [List.getElem_map, e2]
            have pw := List.pairwise_iff_getElem.mp hnb
            rcases Nat.lt_trichotomy j j2 with c | c | c
            · exact absurd (g1.trans g2.symm) (pw j j2 (by simpa using l1) (by simpa using l2) c)
            · exact c
            · exact absurd (g2.trans g1.symm) (pw j2 j (by simpa using l2) (by simpa using l1) c)
          subst ejj
          rw [hj] at hy
          cases hy
          have ev : es'[j].val = p.2 := by
            have q := entry_at heb j
            rw [Array.getElem?_eq_getElem hjlt, hj] at q
            rw [Option.some.inj q]
            rfl
          show wpAny _ _ (holding [es'[j].val] (eqBool v.2 es'[j].val)) _ _ _
          rw [ev]
          refine wpAny_holding (he _ _ ?_)
          cases e with
          | false =>
            rw [er, Bool.false_and] at h'
            show wpAny _ _ (if (!false) = true then _ else _) _ _ _
            rw [if_pos (by decide)]
            exact wpAny_pure (wpAny_pure h')
          | true =>
            rw [Bool.true_and] at er
            rw [← er] at hrr
            show wpAny _ _ (if (!true) = true then _ else _) _ _ _
            rw [if_neg (by decide)]
            refine wpAny_bind (wpAny_dictEpoch hoa hda ?_)
            rw [if_neg (by simp)]
            exact wpAny_pure ⟨rfl, rfl, x + 1, hrest, hlt, hrr⟩
    · rintro q s' ⟨rfl, rfl, i, hr, hi, hpre⟩
      have hin : i = es.size := by
        rcases Nat.lt_or_ge i es.size with h | h
        · have e : es.size - i = (es.size - (i + 1)) + 1 := by omega
          rw [e, List.range'_succ] at hr; exact nomatch hr
        · exact Nat.le_antisymm hi h
      refine wpAny_pure ?_
      rw [hin, ← hla, List.drop_length] at hpre
      cases hpre
      exact h'
theorem DictOfH.ty {d : Addr} {xs : List (K × Addr × Value)} (h : s.heap.DictOfH knd d xs) : s.TypeIs (.ref d) "dict" := let ⟨o, _, _, ho, hc, _⟩ := h; ⟨o, ho, hc.1⟩
theorem rcH_dicts {a b : Addr} {ka kb : List (K × Addr × Value)} {r : Bool} (hr : knd.room A.in1) (ha : (a == sysModules) = false) (hb : (b == sysModules) = false)
    (da : s.heap.DictOfH knd a ka) (db : s.heap.DictOfH knd b kb) (hu : A.units < cLine) (hits : ka.length = kb.length → HitsH prog w A.in1 s kb ka r) (E Q : Value → Shared → Prop) (h : Q (.bool (ka.length == kb.length && r)) s) : wpAny (model prog w) A (richCompare .Eq (.ref a) (.ref b)) Q E s := by
  refine wpAny_richCompare_same_room (op := .Eq) (DictOfH.ty da) (DictOfH.ty db) PySem.F.slot_dict_eq (wpAny_call_entry PySem.F.slot_dict_eq (DictOfH.ty da) PySem.F.entry_dict_eq ?_ (PySem.F.args_dict_eq_2 _ _)) hu
  show wpAny _ _ (Builtin.Dict.dictSlotArgs "__eq__" ⟨[.ref a, .ref b], []⟩ >>= _) _ _ s
  refine wpAny_bind ?_
  unfold Builtin.Dict.dictSlotArgs
  refine wpAny_bind (wpAny_notOrdered_dict (DictOfH.ty da) ?_)
  show wpAny _ _ (pure (Value.ref a, Value.ref b)) _ _ s
  refine wpAny_pure ?_
  refine wpAny_bind (wpAny_isInstance (T := "dict") (DictOfH.ty db) PySem.F.sub_dict_dict ?_)
  simp only [Bool.not_true, Bool.false_eq_true, if_false]
  refine wpAny_bind (wpAny_pure (wpAny_bind (wpAny_pure ?_)))
  refine wpAny_bind (samePairsH hr ha hb da db hits ?_)
  refine wpAny_pure ⟨_, rfl, ?_, ?_⟩
  · exact fun x => nomatch x
  · simpa using h
theorem rcHN_dicts {a b : Addr} {ka kb : List (K × Addr × Value)} {r : Bool} (hr : knd.room A.in1) (ha : (a == sysModules) = false) (hb : (b == sysModules) = false)
    (da : s.heap.DictOfH knd a ka) (db : s.heap.DictOfH knd b kb) (hu : A.units < cLine) (hits : ka.length = kb.length → HitsH prog w A.in1 s kb ka r) (E Q : Value → Shared → Prop) (h : Q (.bool (!(ka.length == kb.length && r))) s) : wpAny (model prog w) A (richCompare .NotEq (.ref a) (.ref b)) Q E s := by
  refine wpAny_richCompare_same_room (op := .NotEq) (DictOfH.ty da) (DictOfH.ty db) PySem.F.slot_dict_ne (wpAny_call_entry PySem.F.slot_dict_ne (DictOfH.ty da) PySem.F.entry_dict_ne ?_ (PySem.F.args_dict_ne_2 _ _)) hu
  show wpAny _ _ (Builtin.Dict.dictSlotArgs "__ne__" ⟨[.ref a, .ref b], []⟩ >>= _) _ _ s
  refine wpAny_bind ?_
  unfold Builtin.Dict.dictSlotArgs
  refine wpAny_bind (wpAny_notOrdered_dict (DictOfH.ty da) ?_)
  show wpAny _ _ (pure (Value.ref a, Value.ref b)) _ _ s
  refine wpAny_pure ?_
  refine wpAny_bind (wpAny_isInstance (T := "dict") (DictOfH.ty db) PySem.F.sub_dict_dict ?_)
  simp only [Bool.not_true, Bool.false_eq_true, if_false]
  refine wpAny_bind (wpAny_pure (wpAny_bind (wpAny_pure ?_)))
  refine wpAny_bind (samePairsH hr ha hb da db hits ?_)
  refine wpAny_pure ⟨_, rfl, ?_, ?_⟩
  · exact fun x => nomatch x
  · simpa using h
end

section
variable {prog : Program} {w : World}
open AutoSeq1 (wpAny_loadPart')
theorem tuple_eqIn (l b : Addr) (items items2 : Array Value) (n n2 : Nat) (dd dd2 : Option Addr) (sl sl2 : Array (Option Value)) (e : Nat → Bool) :
    MeetsIn prog w (Builtin.«tuple.__eq__» ⟨[.ref l, .ref b], []⟩)
      (fun A R s => s.heap.get? l = some { cls := .type "tuple", dict := dd, data := .seq items n, slots := sl } ∧ s.heap.get? b = some { cls := .type "tuple", dict := dd2, data := .seq items2 n2, slots := sl2 } ∧
        (∀ j (h1 : j < items.size) (h2 : j < items2.size), SeqAt.EqP prog w A.in1 s items[j] items2[j] (e j)) ∧
        R (.ok (.ret (.bool ((List.range (min items.size items2.size)).all e && items.size == items2.size)))) s) :=
  .of_wp fun A R s h => by
    obtain ⟨hp, g, d, tk, os⟩ := s; obtain ⟨hl, hb, he, h⟩ := h
    have f2 := AutoSeq1.sub_tuple_tuple
    have hZ : (items.toList.zip items2.toList).length = min items.size items2.size := by simp
    wp_walk using wpAny_loadPart' hl, wpAny_loadPart' hb, wpAny_forIn_list _ (fun rest b s' => b.1 = none ∧ s' = ⟨hp, g, d, tk, os⟩ ∧ ∃ i, rest = (items.toList.zip items2.toList).drop i ∧
      R (.ok (.ret (.bool (((List.range (min items.size items2.size)).drop i).all e && items.size == items2.size)))) ⟨hp, g, d, tk, os⟩) _
    case turn =>
      rintro ⟨y, x⟩ rest b s' ⟨hb', rfl, i, hz, hR⟩
      have hlt : i < (items.toList.zip items2.toList).length := by
        rcases Nat.lt_or_ge i (items.toList.zip items2.toList).length with h' | h'
        · exact h'
        · rw [List.drop_of_length_le h'] at hz; cases hz
      have hm : i < min items.size items2.size := hZ ▸ hlt
      have h1 : i < items.size := Nat.lt_of_lt_of_le hm (Nat.min_le_left _ _)
      have h2 : i < items2.size := Nat.lt_of_lt_of_le hm (Nat.min_le_right _ _)
      rw [List.drop_eq_getElem_cons hlt] at hz
      injection hz with hyx hrest
      have hy : y = items[i] := by have := congrArg Prod.fst hyx; simpa using this
      have hx : x = items2[i] := by have := congrArg Prod.snd hyx; simpa using this
      subst hy hx
      have hd : (List.range (min items.size items2.size)).drop i = i :: (List.range (min items.size items2.size)).drop (i + 1) := by simp [List.drop_eq_getElem_cons, hm]
      rw [hd, List.all_cons] at hR
      refine wpAny_bind (he i h1 h2 _ _ ?_)
      cases hy : e i with
      | true =>
        rw [hy] at hR
        wp_walk
        exact ⟨rfl, rfl, i + 1, hrest, by simpa using hR⟩
      | false =>
        rw [hy] at hR
        wp_walk
        exact ⟨_, rfl, by simpa using hR⟩
    case fin =>
      rintro ⟨b1, b2⟩ s' ⟨hb', rfl, i, hz, hR⟩
      simp only at hb'
      subst hb'
      have hge : min items.size items2.size ≤ i := by
        rcases Nat.lt_or_ge i (items.toList.zip items2.toList).length with h' | h'
        · rw [List.drop_eq_getElem_cons h'] at hz; cases hz
        · exact hZ ▸ h'
      rw [List.drop_of_length_le (by simpa using hge)] at hR
      wp_walk
      exact ⟨_, rfl, by simpa [Builtin.Tuple.tupleCompareSizes] using hR⟩
    case h =>
      exact ⟨rfl, rfl, 0, rfl, by simpa using h⟩
theorem rcP_tups {A : Around} {s : Shared} {l b : Addr} {items items2 : Array Value} {e : Nat → Bool} (hl : s.heap.IsTuple l items) (hb : s.heap.IsTuple b items2) (hu : A.units < cLine)
    (he : ∀ j (h1 : j < items.size) (h2 : j < items2.size), SeqAt.EqP prog w A.in1 s items[j] items2[j] (e j)) (E Q : Value → Shared → Prop) (h : Q (.bool ((List.range (min items.size items2.size)).all e && items.size == items2.size)) s) : wpAny (model prog w) A (richCompare .Eq (.ref l) (.ref b)) Q E s := by
  obtain ⟨⟨cls, dd, data, sl⟩, ho, hc, n, hd⟩ := id hl
  obtain ⟨⟨cls2, dd2, data2, sl2⟩, ho2, hc2, n2, hd2⟩ := id hb
  simp only at hc hd hc2 hd2
  subst hc hd hc2 hd2
  have ta : s.TypeIs (.ref l) "tuple" := ⟨_, ho, rfl⟩
  have tb : s.TypeIs (.ref b) "tuple" := ⟨_, ho2, rfl⟩
  exact wpAny_richCompare_same_room (op := .Eq) ta tb F.slot_tuple_eq (call_meetsIn F.slot_tuple_eq ta F.entry_tuple_eq (F.args_tuple_eq_2 _ _) (tuple_eqIn l b items items2 n n2 dd dd2 sl sl2 e)
    ⟨ho, ho2, he, show Value.bool ((List.range (min items.size items2.size)).all e && items.size == items2.size) ≠ Value.notImplemented ∧ Q (.bool ((List.range (min items.size items2.size)).all e && items.size == items2.size)) s from ⟨(fun x => nomatch x), h⟩⟩) hu
theorem tuple_neIn (l b : Addr) (items items2 : Array Value) (n n2 : Nat) (dd dd2 : Option Addr) (sl sl2 : Array (Option Value)) (e : Nat → Bool) :
    MeetsIn prog w (Builtin.«tuple.__ne__» ⟨[.ref l, .ref b], []⟩)
      (fun A R s => s.heap.get? l = some { cls := .type "tuple", dict := dd, data := .seq items n, slots := sl } ∧ s.heap.get? b = some { cls := .type "tuple", dict := dd2, data := .seq items2 n2, slots := sl2 } ∧
        (∀ j (h1 : j < items.size) (h2 : j < items2.size), SeqAt.EqP prog w A.in1 s items[j] items2[j] (e j)) ∧
        R (.ok (.ret (.bool (!((List.range (min items.size items2.size)).all e && items.size == items2.size))))) s) :=
  .of_wp fun A R s h => by
    obtain ⟨hp, g, d, tk, os⟩ := s; obtain ⟨hl, hb, he, h⟩ := h
    have f2 := AutoSeq1.sub_tuple_tuple
    have hZ : (items.toList.zip items2.toList).length = min items.size items2.size := by simp
    wp_walk using wpAny_loadPart' hl, wpAny_loadPart' hb, wpAny_forIn_list _ (fun rest b s' => b.1 = none ∧ s' = ⟨hp, g, d, tk, os⟩ ∧ ∃ i, rest = (items.toList.zip items2.toList).drop i ∧
      R (.ok (.ret (.bool (!(((List.range (min items.size items2.size)).drop i).all e && items.size == items2.size))))) ⟨hp, g, d, tk, os⟩) _
    case turn =>
      rintro ⟨y, x⟩ rest b s' ⟨hb', rfl, i, hz, hR⟩
      have hlt : i < (items.toList.zip items2.toList).length := by
        rcases Nat.lt_or_ge i (items.toList.zip items2.toList).length with h' | h'
        · exact h'
        · rw [List.drop_of_length_le h'] at hz; cases hz
      have hm : i < min items.size items2.size := hZ ▸ hlt
      have h1 : i < items.size := Nat.lt_of_lt_of_le hm (Nat.min_le_left _ _)
      have h2 : i < items2.size := Nat.lt_of_lt_of_le hm (Nat.min_le_right _ _)
      rw [List.drop_eq_getElem_cons hlt] at hz
      injection hz with hyx hrest
      have hy : y = items[i] := by have := congrArg Prod.fst hyx; simpa using this
      have hx : x = items2[i] := by have := congrArg Prod.snd hyx; simpa using this
      subst hy hx
      have hd : (List.range (min items.size items2.size)).drop i = i :: (List.range (min items.size items2.size)).drop (i + 1) := by simp [List.drop_eq_getElem_cons, hm]
      rw [hd, List.all_cons] at hR
      refine wpAny_bind (he i h1 h2 _ _ ?_)
      cases hy : e i with
      | true =>
        rw [hy] at hR
        wp_walk
        exact ⟨rfl, rfl, i + 1, hrest, by simpa using hR⟩
      | false =>
        rw [hy] at hR
        wp_walk
        exact ⟨_, rfl, by simpa using hR⟩
    case fin =>
      rintro ⟨b1, b2⟩ s' ⟨hb', rfl, i, hz, hR⟩
      simp only at hb'
      subst hb'
      have hge : min items.size items2.size ≤ i := by
        rcases Nat.lt_or_ge i (items.toList.zip items2.toList).length with h' | h'
        · rw [List.drop_eq_getElem_cons h'] at hz; cases hz
        · exact hZ ▸ h'
      rw [List.drop_of_length_le (by simpa using hge)] at hR
      wp_walk
      exact ⟨_, rfl, by simpa [Builtin.Tuple.tupleCompareSizes, bne] using hR⟩
    case h =>
      exact ⟨rfl, rfl, 0, rfl, by simpa using h⟩
theorem rcN_tups {A : Around} {s : Shared} {l b : Addr} {items items2 : Array Value} {e : Nat → Bool} (hl : s.heap.IsTuple l items) (hb : s.heap.IsTuple b items2) (hu : A.units < cLine)
    (he : ∀ j (h1 : j < items.size) (h2 : j < items2.size), SeqAt.EqP prog w A.in1 s items[j] items2[j] (e j)) (E Q : Value → Shared → Prop) (h : Q (.bool (!((List.range (min items.size items2.size)).all e && items.size == items2.size))) s) : wpAny (model prog w) A (richCompare .NotEq (.ref l) (.ref b)) Q E s := by
  obtain ⟨⟨cls, dd, data, sl⟩, ho, hc, n, hd⟩ := id hl
  obtain ⟨⟨cls2, dd2, data2, sl2⟩, ho2, hc2, n2, hd2⟩ := id hb
  simp only at hc hd hc2 hd2
  subst hc hd hc2 hd2
  have ta : s.TypeIs (.ref l) "tuple" := ⟨_, ho, rfl⟩
  have tb : s.TypeIs (.ref b) "tuple" := ⟨_, ho2, rfl⟩
  exact wpAny_richCompare_same_room (op := .NotEq) ta tb F.slot_tuple_ne (call_meetsIn F.slot_tuple_ne ta F.entry_tuple_ne (F.args_tuple_ne_2 _ _) (tuple_neIn l b items items2 n n2 dd dd2 sl sl2 e)
    ⟨ho, ho2, he, show Value.bool (!((List.range (min items.size items2.size)).all e && items.size == items2.size)) ≠ Value.notImplemented ∧ Q (.bool (!((List.range (min items.size items2.size)).all e && items.size == items2.size))) s from ⟨(fun x => nomatch x), h⟩⟩) hu
end
end L2

set_option Elab.async false
set_option maxRecDepth 100000
set_option maxHeartbeats 4000000
namespace L2
open PySem PySem.Spec PyProof.Rows PySem.SeqAt PySem.Calls PyProof.V PySem.W
set_option linter.unusedVariables false
/-! == of nested data in which dicts with tuple keys stand -/
def RcX (K : PySem.W.Frag) (H : Hp) (F : V → V → Bool → Prop) (x y : V) (r : Bool) : Prop :=
  (∃ a b xs ys e, x = .ref a ∧ y = .ref b ∧ SqL K H a xs ∧ SqL K H b ys ∧ xs.length = ys.length ∧ (∀ (j : Nat) u v, xs[j]? = some u → ys[j]? = some v → F u v (e j)) ∧ r = (List.range xs.length).all e) ∨
  (∃ a b xs ys e, x = .ref a ∧ y = .ref b ∧ SqT K H a xs ∧ SqT K H b ys ∧ (∀ (j : Nat) u v, xs[j]? = some u → ys[j]? = some v → F u v (e j)) ∧ r = ((List.range (min xs.length ys.length)).all e && xs.length == ys.length)) ∨
  ∃ a b ks ls f, x = .ref a ∧ y = .ref b ∧ H a = some (.dT ks) ∧ H b = some (.dT ls) ∧ (ks.length = ls.length → ∀ p ∈ ks, (valV ls p.1 = none ∧ f p = false) ∨ ∃ u, valV ls p.1 = some u ∧ F p.2 u (f p)) ∧ r = (ks.length == ls.length && ks.all f)
def EqX (K : PySem.W.Frag) (H : Hp) : Nat → V → V → Bool → Prop
  | 0 => fun _ _ _ => False
  | n + 1 => fun x y r => (∃ d e, Dp K H x d ∧ Dp K H y e ∧ SeqAt.shaped d = true ∧ SeqAt.shaped e = true ∧ r = PyData.eqv d e) ∨ (∃ a, x = .ref a ∧ y = .ref a ∧ r = true) ∨ (RcX K H (EqX K H n) x y r ∧ (x = y → r = true))
theorem atKey_idx {xs : List (List Key × Addr × Value)} {k : List Key} {p : Addr × Value} (h : atKey xs k = some p) : ∃ j : Nat, xs[j]? = some (k, p) := by
  unfold atKey at h
  obtain ⟨q, hq, rfl⟩ := Option.map_eq_some_iff.mp h
  obtain ⟨j, hj⟩ := List.getElem?_of_mem (List.mem_of_find?_eq_some hq)
  have : q.1 = k := by simpa using List.find?_some hq
  exact ⟨j, by rw [hj, ← this]⟩
theorem atKey_no {xs : List (List Key × Addr × Value)} {k : List Key} (h : atKey xs k = none) : ∀ (j : Nat) (p : Addr × Value), xs[j]? ≠ some (k, p) := fun j p e => by
  unfold atKey at h
  have h := Option.map_eq_none_iff.mp h
  have := List.find?_eq_none.mp h (k, p) (List.mem_of_getElem? e)
  simp at this
theorem hitsH_run {P : Program} {w : World} {A : Around} {s : Shared} {H : Hp} {F : V → V → Bool → Prop} (ih : ∀ x y r v u, F x y r → RelV x v → RelV y u → SeqAt.EqP P w A s v u r) {ls : List (List Key × V)} {vb : List (List Key × Addr × Value)} (rb : KT H ls vb) {f : List Key × V → Bool} {ks : List (List Key × V)} {va : List (List Key × Addr × Value)}
    (ra : KT H ks va) : (∀ p ∈ ks, (valV ls p.1 = none ∧ f p = false) ∨ ∃ u, valV ls p.1 = some u ∧ F p.2 u (f p)) → HitsH P w A s vb va (ks.all f) := by
  induction ra with
  | nil => intro _; exact .nil
  | @cons p q ps qs h t k =>
    intro hp
    obtain ⟨h1, h2, h3⟩ := h
    obtain ⟨key, v⟩ := q
    have h1 : p.1 = key := h1
    have rv := rb.val p.1
    rw [List.all_cons]
    rcases hp p List.mem_cons_self with ⟨e, ef⟩ | ⟨u, e, fu⟩
    · rw [ef, Bool.false_and]
      rw [e] at rv
      have : atKey vb p.1 = none := by
        cases c : atKey vb p.1 with
        | none => rfl
        | some z => rw [c] at rv; exact False.elim rv
      rw [h1] at this
      exact .miss (atKey_no this)
    · rw [e] at rv
      obtain ⟨y, hy, ry⟩ := rv.some_of
      obtain ⟨z, hz, rfl⟩ := Option.map_eq_some_iff.mp hy
      rw [h1] at hz
      obtain ⟨j, hj⟩ := atKey_idx hz
      exact .hit hj (ih _ _ _ _ _ fu h3 ry) (k fun p' hm => hp p' (List.mem_cons_of_mem _ hm))
section
variable {X : Cx} {pins : List (Addr × Obj)} {σ : St} {H : Hp} {s : Shared}
theorem vals_at {xs : List V} {us : List Value} (r : Vals xs us) {j : Nat} (h : j < us.length) : ∃ x, xs[j]? = some x ∧ RelV x us[j] := by
  have hx : j < xs.length := by rw [r.length]; exact h
  obtain ⟨u, hu, ru⟩ := r.get (List.getElem?_eq_getElem hx)
  rw [List.getElem?_eq_getElem h] at hu
  cases hu
  exact ⟨_, List.getElem?_eq_getElem hx, ru⟩
section
open AutoSeq1 (wpAny_loadPart')
open MeetsSeq MeetsSeq2 MeetsSeq3 SeqRoads2
theorem ne_loopIn {prog : Program} {w : World} (l b : Addr) (items items2 : Array Value) (n n2 : Nat) (dd dd2 : Option Addr) (sl sl2 : Array (Option Value)) (hsz : items.size = items2.size) (e : Nat → Bool) (k : Nat) :
    ∀ i : Nat, items.size - i = k → MeetsIn prog w (Builtin.«list.__eq__.loop» ⟨[.ref l, .ref b, rawInt i, rawInt 3], []⟩)
      (fun A R s => s.heap.get? l = some { cls := .type "list", dict := dd, data := .seq items n, slots := sl } ∧ s.heap.get? b = some { cls := .type "list", dict := dd2, data := .seq items2 n2, slots := sl2 } ∧
        (∀ j (h1 : j < items.size) (h2 : j < items2.size), SeqAt.EqP prog w A.in1 s items[j] items2[j] (e j)) ∧
        R (.ok (.ret (.bool (!((List.range items.size).drop i).all e)))) s) := by
  induction k with
  | zero =>
    intro i hk A R s h
    obtain ⟨hp, g, d, tk, os⟩ := s; obtain ⟨hl, hb, he, h⟩ := h
    wp_walk using wpAny_loadPart' hl, wpAny_loadPart' hb
    have hi1 : items[((i : Nat) : Int).toNat]? = none := by simp; omega
    have hi2 : items2[((i : Nat) : Int).toNat]? = none := by simp; omega
    have hd : (List.range items.size).drop i = [] := by simp; omega
    rw [hd] at h
    rw [hi1, hi2]
    wp_walk using wpAny_loadPart' hl, wpAny_loadPart' hb
    show R (.ok (.ret (.bool (items.size != items2.size)))) _
    rw [hsz]
    simpa using h
  | succ k ih =>
    intro i hk A R s h
    obtain ⟨hp, g, d, tk, os⟩ := s; obtain ⟨hl, hb, he, h⟩ := h
    wp_walk using wpAny_loadPart' hl, wpAny_loadPart' hb
    have hlt : i < items.size := by omega
    have hlt2 : i < items2.size := by omega
    have hi1 : items[((i : Nat) : Int).toNat]? = some items[i] := by simp [hlt]
    have hi2 : items2[((i : Nat) : Int).toNat]? = some items2[i] := by simp [hlt2]
    have hd : (List.range items.size).drop i = i :: (List.range items.size).drop (i + 1) := by simp [List.drop_eq_getElem_cons, hlt]
    have hc : ((i : Int) + 1) = ((i + 1 : Nat) : Int) := by push_cast; rfl
    rw [hd, List.all_cons] at h
    rw [hi1, hi2]
    refine wpAny_bind (he i hlt hlt2 _ _ ?_)
    cases hb' : e i with
    | true =>
      rw [hb'] at h
      wp_walk
      rw [hc]
      exact ⟨plainId_quiet plain_eq_loop _, codeAny_builtin entry_eq_loop (by
        rw [Around.under_plainId plain_eq_loop _]
        exact ih (i + 1) (by omega) A R _ ⟨hl, hb, he, by simpa using h⟩)⟩
    | false =>
      rw [hb'] at h
      wp_walk using wpAny_loadPart' hl, wpAny_loadPart' hb
      rw [hi1, hi2]
      wp_walk
      simpa using h

theorem list_neIn {prog : Program} {w : World} (l b : Addr) (items items2 : Array Value) (n n2 : Nat) (dd dd2 : Option Addr) (sl sl2 : Array (Option Value)) (hsz : items.size = items2.size) (e : Nat → Bool) :
    MeetsIn prog w (Builtin.«list.__ne__» ⟨[.ref l, .ref b], []⟩)
      (fun A R s => s.heap.get? l = some { cls := .type "list", dict := dd, data := .seq items n, slots := sl } ∧ s.heap.get? b = some { cls := .type "list", dict := dd2, data := .seq items2 n2, slots := sl2 } ∧
        (∀ j (h1 : j < items.size) (h2 : j < items2.size), SeqAt.EqP prog w A.in1 s items[j] items2[j] (e j)) ∧
        R (.ok (.ret (.bool (!(List.range items.size).all e)))) s) := by
  intro A R s h
  obtain ⟨hp, g, d, tk, os⟩ := s; obtain ⟨hl, hb, he, h⟩ := h
  have f3 := AutoSeq1.sub_list_list
  have hne : ¬ (items.size != items2.size) = true := by simp [hsz]
  wp_walk using wpAny_loadPart' hl, wpAny_loadPart' hb
  exact ⟨plainId_quiet plain_eq_loop _, codeAny_builtin entry_eq_loop (by
    rw [Around.under_plainId plain_eq_loop _]
    exact ne_loopIn l b items items2 n n2 dd dd2 sl sl2 hsz e _ 0 rfl A R _ ⟨hl, hb, he, by simpa using h⟩)⟩

theorem rcN_lists {prog : Program} {w : World} {A : Around} {s : Shared} {l b : Addr} {items items2 : Array Value} {e : Nat → Bool} (hl : s.heap.IsList l items) (hb : s.heap.IsList b items2) (hsz : items.size = items2.size) (hu : A.units < cLine)
    (he : ∀ j (h1 : j < items.size) (h2 : j < items2.size), SeqAt.EqP prog w A.in1 s items[j] items2[j] (e j)) (E Q : Value → Shared → Prop) (h : Q (.bool (!(List.range items.size).all e)) s) : wpAny (model prog w) A (richCompare .NotEq (.ref l) (.ref b)) Q E s := by
  obtain ⟨⟨cls, dd, data, sl⟩, ho, hc, n, hd⟩ := id hl
  obtain ⟨⟨cls2, dd2, data2, sl2⟩, ho2, hc2, n2, hd2⟩ := id hb
  simp only at hc hd hc2 hd2
  subst hc hd hc2 hd2
  have ta : s.TypeIs (.ref l) "list" := ⟨_, ho, rfl⟩
  have tb : s.TypeIs (.ref b) "list" := ⟨_, ho2, rfl⟩
  exact wpAny_richCompare_same_room (op := .NotEq) ta tb F.slot_list_ne (call_meetsIn F.slot_list_ne ta F.entry_list_ne (F.args_list_ne_2 _ _) (list_neIn l b items items2 n n2 dd dd2 sl sl2 hsz e)
    ⟨ho, ho2, he, show Value.bool (!(List.range items.size).all e) ≠ Value.notImplemented ∧ Q (.bool (!(List.range items.size).all e)) s from ⟨(fun x => nomatch x), h⟩⟩) hu
end
theorem rcX_run (I : Inv X pins σ H s) {A : Around} {F : V → V → Bool → Prop} (hu : A.units + 4 < cLine) (ih : ∀ x y r v u, F x y r → RelV x v → RelV y u → SeqAt.EqP X.prog X.w A.in1 s v u r) {x y : V} {r : Bool} {v u : Value} (h : RcX X.K H F x y r) (rx : RelV x v) (ry : RelV y u)
    (E Q : Value → Shared → Prop) (q : Q (.bool r) s) : wpAny (model X.prog X.w) A (richCompare .Eq v u) Q E s := by
  rcases h with ⟨a, b, xs, ys, e, rfl, rfl, ha, hb, hl, he, rfl⟩ | ⟨a, b, xs, ys, e, rfl, rfl, ha, hb, he, rfl⟩ | ⟨a, b, ks, ls, f, rfl, rfl, ha, hb, hp, rfl⟩
  · cases (show v = Value.ref a from rx)
    cases (show u = Value.ref b from ry)
    obtain ⟨us, r1, p1, _⟩ := I.list ha
    obtain ⟨ws, r2, p2, _⟩ := I.list hb
    have hsz : us.toArray.size = ws.toArray.size := by
      rw [List.size_toArray, List.size_toArray, ← r1.length, ← r2.length]
      exact hl
    refine SeqAt.rcP_lists (e := e) p1.isList p2.isList hsz (by omega) (fun j h1 h2 => ?_) E Q ?_
    · obtain ⟨x1, g1, q1⟩ := vals_at r1 (j := j) (by simpa using h1)
      obtain ⟨x2, g2, q2⟩ := vals_at r2 (j := j) (by simpa using h2)
      have k := ih _ _ _ _ _ (he j _ _ g1 g2) q1 q2
      simpa using k
    · rw [List.size_toArray, ← r1.length]
      exact q
  · cases (show v = Value.ref a from rx)
    cases (show u = Value.ref b from ry)
    obtain ⟨us, r1, p1, _⟩ := I.tuple ha
    obtain ⟨ws, r2, p2, _⟩ := I.tuple hb
    refine rcP_tups (e := e) p1 p2 (by omega) (fun j h1 h2 => ?_) E Q ?_
    · obtain ⟨x1, g1, q1⟩ := vals_at r1 (j := j) (by simpa using h1)
      obtain ⟨x2, g2, q2⟩ := vals_at r2 (j := j) (by simpa using h2)
      have k := ih _ _ _ _ _ (he j _ _ g1 g2) q1 q2
      simpa using k
    · rw [List.size_toArray, List.size_toArray, ← r1.length, ← r2.length]
      exact q
  · cases (show v = Value.ref a from rx)
    cases (show u = Value.ref b from ry)
    obtain ⟨_, ya, va, ra, da⟩ := dt_of I.hok ha
    obtain ⟨_, yb, vb, rb, db⟩ := dt_of I.hok hb
    refine rcH_dicts (knd := tupleKind (mixKind X.prog X.w)) (tupleKind_room_in1 (by omega)) ya yb da db (by omega) (fun hl => hitsH_run ih rb ra (hp (by rw [ra.length, rb.length]; exact hl))) E Q ?_
    rw [← ra.length, ← rb.length]
    exact q
theorem rcXN_run (I : Inv X pins σ H s) {A : Around} {F : V → V → Bool → Prop} (hu : A.units + 4 < cLine) (ih : ∀ x y r v u, F x y r → RelV x v → RelV y u → SeqAt.EqP X.prog X.w A.in1 s v u r) {x y : V} {r : Bool} {v u : Value} (h : RcX X.K H F x y r) (rx : RelV x v) (ry : RelV y u)
    (E Q : Value → Shared → Prop) (q : Q (.bool (!r)) s) : wpAny (model X.prog X.w) A (richCompare .NotEq v u) Q E s := by
  rcases h with ⟨a, b, xs, ys, e, rfl, rfl, ha, hb, hl, he, rfl⟩ | ⟨a, b, xs, ys, e, rfl, rfl, ha, hb, he, rfl⟩ | ⟨a, b, ks, ls, f, rfl, rfl, ha, hb, hp, rfl⟩
  · cases (show v = Value.ref a from rx)
    cases (show u = Value.ref b from ry)
    obtain ⟨us, r1, p1, _⟩ := I.list ha
    obtain ⟨ws, r2, p2, _⟩ := I.list hb
    have hsz : us.toArray.size = ws.toArray.size := by
      rw [List.size_toArray, List.size_toArray, ← r1.length, ← r2.length]
      exact hl
    refine rcN_lists (e := e) p1.isList p2.isList hsz (by omega) (fun j h1 h2 => ?_) E Q ?_
    · obtain ⟨x1, g1, q1⟩ := vals_at r1 (j := j) (by simpa using h1)
      obtain ⟨x2, g2, q2⟩ := vals_at r2 (j := j) (by simpa using h2)
      have k := ih _ _ _ _ _ (he j _ _ g1 g2) q1 q2
      simpa using k
    · rw [List.size_toArray, ← r1.length]
      exact q
  · cases (show v = Value.ref a from rx)
    cases (show u = Value.ref b from ry)
    obtain ⟨us, r1, p1, _⟩ := I.tuple ha
    obtain ⟨ws, r2, p2, _⟩ := I.tuple hb
    refine rcN_tups (e := e) p1 p2 (by omega) (fun j h1 h2 => ?_) E Q ?_
    · obtain ⟨x1, g1, q1⟩ := vals_at r1 (j := j) (by simpa using h1)
      obtain ⟨x2, g2, q2⟩ := vals_at r2 (j := j) (by simpa using h2)
      have k := ih _ _ _ _ _ (he j _ _ g1 g2) q1 q2
      simpa using k
    · rw [List.size_toArray, List.size_toArray, ← r1.length, ← r2.length]
      exact q
  · cases (show v = Value.ref a from rx)
    cases (show u = Value.ref b from ry)
    obtain ⟨_, ya, va, ra, da⟩ := dt_of I.hok ha
    obtain ⟨_, yb, vb, rb, db⟩ := dt_of I.hok hb
    refine rcHN_dicts (knd := tupleKind (mixKind X.prog X.w)) (tupleKind_room_in1 (by omega)) ya yb da db (by omega) (fun hl => hitsH_run ih rb ra (hp (by rw [ra.length, rb.length]; exact hl))) E Q ?_
    rw [← ra.length, ← rb.length]
    exact q

theorem eqX_run (I : Inv X pins σ H s) : ∀ (n : Nat) (A : Around), A.units + n + 64 < cLine → ∀ (x y : V) (r : Bool) (v u : Value), EqX X.K H n x y r → RelV x v → RelV y u → SeqAt.EqP X.prog X.w A s v u r
  | 0, _, _, _, _, _, _, _, h, _, _ => (show False from h).elim
  | n + 1, A, hu, x, y, r, v, u, h, rx, ry => by
    rcases h with ⟨d, e, hd, he, sd, se, rfl⟩ | ⟨a, rfl, rfl, rfl⟩ | ⟨h, hs⟩
    · obtain ⟨as, r1⟩ := Dp.reads I d x v hd rx
      obtain ⟨bs, r2⟩ := Dp.reads I e y u he ry
      exact (SeqAt.eqAt_reads d e A s v u as bs r1 r2 (SeqAt.canLay_of_shaped sd) (SeqAt.canLay_of_shaped se) (SeqAt.room_of_shaped sd (by omega))).eqP
    · cases (show v = Value.ref a from rx)
      cases (show u = Value.ref a from ry)
      exact (SeqAt.EqAt.same _).eqP
    · have step := rcX_run I (A := A) (by omega) (eqX_run I n A.in1 (by show A.units + 1 + n + 64 < cLine; omega)) h rx ry
      obtain ⟨a, b, rfl, rfl⟩ : ∃ a b, x = .ref a ∧ y = .ref b := by
        rcases h with ⟨a, b, _, _, _, e1, e2, _⟩ | ⟨a, b, _, _, _, e1, e2, _⟩ | ⟨a, b, _, _, _, e1, e2, _⟩
        · exact ⟨a, b, e1, e2⟩
        · exact ⟨a, b, e1, e2⟩
        · exact ⟨a, b, e1, e2⟩
      cases (show v = Value.ref a from rx)
      cases (show u = Value.ref b from ry)
      by_cases e : a = b
      · subst e
        rw [hs rfl]
        exact (SeqAt.EqAt.same _).eqP
      · exact SeqAt.eqP_refs e step
end
section
variable {X : Cx}
/-- a == b of such data -/
def rEqX (K : PySem.W.Frag) : R2 := fun x y H Q => ∃ n r, n ≤ 60 ∧ RcX K H (EqX K H n) x y r ∧ Q (.bl r) H
def rNeX (K : PySem.W.Frag) : R2 := fun x y H Q => ∃ n r, n ≤ 60 ∧ RcX K H (EqX K H n) x y r ∧ Q (.bl (!r)) H
theorem op_eqX (hu : X.A.units + 140 < cLine) : OpR X (compareOp .Eq) (rEqX X.K) := by
  intro pins s σ H x y v u Q I rx ry h
  obtain ⟨n, r, hn, h, q⟩ := h
  exact rcX_run I (A := X.A) (by omega) (eqX_run I n X.A.in1 (by show X.A.units + 1 + n + 64 < cLine; omega)) h rx ry _ _ ⟨.bl r, H, I, rfl, q⟩
theorem op_neX (hu : X.A.units + 140 < cLine) : OpR X (compareOp .NotEq) (rNeX X.K) := by
  intro pins s σ H x y v u Q I rx ry h
  obtain ⟨n, r, hn, h, q⟩ := h
  exact rcXN_run I (A := X.A) (by omega) (eqX_run I n X.A.in1 (by show X.A.units + 1 + n + 64 < cLine; omega)) h rx ry _ _ ⟨.bl (!r), H, I, rfl, q⟩
end
end L2

set_option Elab.async false
set_option maxRecDepth 100000
set_option maxHeartbeats 4000000
namespace PySem.W
open PySem PySem.Calls PyProof.Rows PyProof.V PySem.Spec
set_option linter.unusedVariables false
section
variable {prog : Program} {w : World} {A : Around} {E : Value → Shared → Prop} {s : Shared} {K : Frag} {x C L f : Addr} {h₀ : Heap} {m : Str → Option Value} {ox : Obj} {od : Option Obj} {name : Str} {b tb : Value}
theorem ifBound_KB {M : Model} {id : String} {args : List Value} {Q : Option Value → Shared → Prop} (X : K.In s.heap) (I : InstAt s.heap x ox C od) (hs : findIn K (.ref C) name = some (some (.builtin id))) (S : Slot "object" name id)
    (h : wpAny M A (call (.builtin id) (.ref x :: args)) (fun v => Q (some v)) E s) : wpAny M A (callSpecialIfBound? (.ref x) name args) Q E s := by
  simp only [callSpecialIfBound?, bindSpecialIfBound?]
  refine wpAny_holding (wpAny_bind (wpAny_bind (wpAny_bind (I.type.here ((looks_findIn X hs).here ?_)))))
  simp only [S.bind]
  refine wpAny_bind (wpAny_askSetting (wpAny_ite ?_))
  have fin : wpAny M A (call (.builtin id) ([.ref x] ++ args) >>= fun v => pure (some v)) Q E s := wpAny_bind (wpAny_mono h (fun v s' h' => wpAny_pure h') fun _ _ h' => h')
  split
  · exact wpAny_bind (wpAny_pure (wpAny_pure fin))
  · exact wpAny_tryCatch (wpAny_bind (wpAny_pure (wpAny_pure fin)))
theorem check_ne_K {M : Model} {rest : List Value} {Q : Unit → Shared → Prop} (X : K.In s.heap) (I : InstAt s.heap x ox C od) (hob : subIn K (.ref C) (.type "object") = some true) (ha : argsOk "object.__ne__" ⟨.ref x :: rest, []⟩) (hq : Q () s) :
    wpAny M A (checkBuiltinCall "object.__ne__" ⟨.ref x :: rest, []⟩) Q E s := by
  simp only [checkBuiltinCall, PySem.F.cmpKind_ne, PySem.F.cmpSplit_ne]
  refine wpAny_bind (wpAny_bind (I.type.here ((looks_subIn X hob).here ?_)))
  simp only [Bool.not_true, Bool.false_eq_true, if_false]
  cases hsig : Manifest.signature? "object.__ne__" with
  | none => exact wpAny_pure hq
  | some sig =>
    have ha' := ha
    unfold argsOk at ha'
    rw [hsig] at ha'
    have h2 : Bind.checkArgs "object.__ne__" sig ⟨.ref x :: rest, []⟩ = pure () := ha'
    show wpAny M A (Bind.checkArgs "object.__ne__" sig ⟨.ref x :: rest, []⟩) Q E s
    rw [h2]
    exact wpAny_pure hq
/-- x != y by the class's own == -/
theorem cmp_neK {Q : Value → Shared → Prop} (hu : A.units + 1 < cLine) (F : Fr h₀ L s.heap m) (X₀ : K.In h₀) (I : InstAt s.heap x ox C od) (hb : Looks (model prog w) s.heap (typeOf b) tb) (hn : notFirst K C tb = true)
    (hs : findIn K (.ref C) "__ne__" = some (some (.builtin "object.__ne__"))) (hob : subIn K (.ref C) (.type "object") = some true) (he : findIn K (.ref C) "__eq__" = some (some (.ref f))) (hf : isFn K (.ref f) = true)
    (h : wpAny (model prog w) A.in1 (call (.ref f) [.ref x, b]) (fun v s' => ∃ r, v = .bool r ∧ Q (.bool (!r)) s') E s) : wpAny (model prog w) A (richCompare .NotEq (.ref x) b) Q E s := by
  have X := X₀.keeps F.keep
  have body : ∀ {Q2 : Fin → Shared → Prop}, (∀ r s', Q (.bool (!r)) s' → Q2 (.done (.ret (.bool (!r)))) s') → wpAny (model prog w) A.in1 (Builtin.«object.__ne__» ⟨[.ref x, b], []⟩) Q2 E s := fun {Q2} k => by
    unfold Builtin.«object.__ne__»
    repeat (first
      | with_reducible refine wpAny_cRoomFor (show A.in1.units < cLine from hu) ?_
      | (refine wpAny_bind (m := callSpecialIfBound? (.ref x) (Str.ofString "__eq__") [b]) (ifBound_K X I he hf (wpAny_mono h (fun r s' hr => by
          obtain ⟨b, rfl, hq⟩ := hr
          have hq := k b s' hq
          repeat (first | exact hq | exact wpAny_pure hq | exact wpAny_truthy_bool hq | (refine wpAny_bind (m := truthy (.bool _)) (wpAny_truthy_bool ?_)) | wp_step)) fun _ _ e => e)))
      | wp_step)
  have one : wpAny (model prog w) A (tryCompare (.ref x) "__ne__" b) (fun r s' => ∃ v, r = some v ∧ Q v s') E s := by
    unfold tryCompare
    refine wpAny_bind (ifBound_KB X I hs PySem.F.cmp_object.ne (wpAny_call (codeAny_call_builtin PySem.F.cmp_object.ne.plain PySem.F.cmpEntry_ne (check_ne_K X I hob (PySem.F.cmpArgs_ne _ _) (body fun r s' hq => ?_)))))
    first | exact ⟨.bool (!r), rfl, hq⟩ | exact wpAny_pure ⟨_, rfl, hq⟩ | exact wpAny_pure (wpAny_pure ⟨_, rfl, hq⟩)
  unfold richCompare
  simp only [oneThing_ref]
  refine wpAny_holding (wpAny_bind (wpAny_cRoomFor (Nat.lt_of_succ_lt hu) ?_))
  refine wpAny_bind (I.type.here (wpAny_bind (hb.here ?_)))
  split
  · rename_i q
    have e : subIn K tb (.ref C) = some false := by
      rcases Bool.or_eq_true_iff.mp hn with e | e
      · rw [beq_iff_eq.mp e] at q; simp at q
      · exact beq_iff_eq.mp e
    refine wpAny_bind ((looks_subIn X e).here ?_)
    simp only [Bool.false_eq_true, if_false]
    refine wpAny_bind (wpAny_mono one (fun r s' z => ?_) fun _ _ e => e)
    obtain ⟨v, rfl, hq⟩ := z
    exact wpAny_pure hq
  · refine wpAny_bind (wpAny_pure ?_)
    simp only [Bool.false_eq_true, if_false]
    refine wpAny_bind (wpAny_mono one (fun r s' z => ?_) fun _ _ e => e)
    obtain ⟨v, rfl, hq⟩ := z
    exact wpAny_pure hq
end
end PySem.W
namespace L2
open PySem PySem.Spec PyProof.Rows
set_option linter.unusedVariables false
section
variable {X : Cx} {CX : CXT} {k n : Nat} {f C : Addr} {fd : FuncData} {ps ks : List Str} {sp : Sp} {E : XK} {x : Str} {p pos : Pos} {kws : List Keyword} {tk : TA} {g : List Value → List Value → List Value} {gV : List V → List V → List V}
/-- f(k = v, ..) -/
theorem pe_callN0 (F : FnOk X.prog X.w X.K X.mg X.base CX k f fd ps sp) (hr : Room k X.A) (hg : Gl X x) (hm : X.mg x = some (.ref f)) (hk : PySem.W.keepIn X.K (.ref f) = true) (hb : KBn X.K fd ps 0 ks g gV) (hx : Passes CX X E) (hkw : PK X kws tk)
    (hall : (backToKw pos (keywordEach kws X.env)).all (·.1.isSome) = true := by rfl) (hks : (backToKw pos (keywordEach kws X.env)).filterMap (·.1) = ks := by rfl) (hdb : (x == ("__debug__" : Str)) = false := by decide)
    (hpl : ((backTo pos (starEach [] X.env)).any (·.1) || (backToKw pos (keywordEach kws X.env)).any (·.1.isNone)) = false := by rfl) :
    PE X (.Call (.Name x p) [] kws pos) (tCallN 0 ks.length sp gV E tNil tk) := by
  refine ⟨fun pins s σ H Q I h => ?_⟩
  refine wpAny_Call_Name_kw (ld_glob I hg hm ?_ hdb)
  refine PySem.W.callWith_KW0 (h₀ := X.base) I.ok.mod.kin hk hall ?_ hpl
  refine thn (hkw.run pos pins s σ H _ I h) fun ws s2 ⟨zs, H2, I2, rz, l1, l2, q2⟩ => ⟨I2.kIn, ?_⟩
  rw [hks]
  exact run_fnN (us := []) (vs := []) F hr hb hx I2 .nil rz rfl l2 q2
/-- x == y by the own == of x's class: what it tells -/
def rEqO (C : Addr) (sp : Sp) (E : XK) : R2 := fun x y H Q => ∃ a dx fs b dy gs, x = .ref a ∧ y = .ref b ∧ H a = some (.ins C dx fs) ∧ H b = some (.ins C dy gs) ∧ sp [x, y] H (fun v H' => ∃ r, v = .bl r ∧ Q (.bl r) H') E
def rNeO (C : Addr) (sp : Sp) (E : XK) : R2 := fun x y H Q => ∃ a dx fs b dy gs, x = .ref a ∧ y = .ref b ∧ H a = some (.ins C dx fs) ∧ H b = some (.ins C dy gs) ∧ sp [x, y] H (fun v H' => ∃ r, v = .bl r ∧ Q (.bl (!r)) H') E
theorem op_eqO (F : FnOk X.prog X.w X.K X.mg X.base CX n f fd ps sp) (hs : PySem.W.findIn X.K (.ref C) "__eq__" = some (some (.ref f))) (hf : PySem.W.isFn X.K (.ref f) = true) (hb : Binds X.K fd ps []) (hr : Room n X.A) (hx : Passes CX X E) : OpR X (compareOp .Eq) (rEqO C sp E) := by
  intro pins s σ H x y v u Q I rx ry h
  obtain ⟨a, dx, fs, b, dy, gs, rfl, rfl, ha, hb', hsp⟩ := h
  cases (show v = Value.ref a from rx)
  cases (show u = Value.ref b from ry)
  obtain ⟨mA, J, _⟩ := ins_get I.hok ha
  obtain ⟨mB, J', _⟩ := ins_get I.hok hb'
  obtain ⟨od, J, _⟩ := J.look
  obtain ⟨od', J', _⟩ := J'.look
  obtain ⟨m, hF⟩ := I.fr
  show wpAny (model X.prog X.w) X.A (richCompare .Eq (.ref a) (.ref b)) (EP X pins σ Q) X.xe s
  refine PySem.W.cmp_K (op := .Eq) (tb := .ref C) hr.units0 hF I.ok.mod.kin J J'.type (by simp [PySem.W.notFirst]) hs hf ?_
  have hl := F.len _ _ _ _ hsp
  have r2 : Vals [V.ref a, V.ref b] [Value.ref a, Value.ref b] := .cons rfl (.cons rfl .nil)
  refine wpAny_call (codeAny_mono (F.run X.A X.stack s H ⟨[.ref a, .ref b], []⟩ [.ref a, .ref b] [.ref a, .ref b] _ E hr I.env0 (by
    have := hb s [.ref a, .ref b] I.kIn (by simpa using hl)
    simpa using this) r2 hsp) fun r s' hq => ?_)
  cases r with
  | error e => exact hx pins σ H s e s' I hq
  | ok fl =>
    cases fl with
    | ret w =>
      obtain ⟨z, H', I', rz, r, ez, q⟩ := I.after hq
      subst ez
      cases rz
      exact ⟨.bl r, H', I', rfl, q⟩
    | next => exact False.elim hq
    | brk => exact False.elim hq
    | cont => exact False.elim hq
theorem op_neO (F : FnOk X.prog X.w X.K X.mg X.base CX n f fd ps sp) (hs : PySem.W.findIn X.K (.ref C) "__eq__" = some (some (.ref f))) (hne : PySem.W.findIn X.K (.ref C) "__ne__" = some (some (.builtin "object.__ne__"))) (hob : PySem.W.subIn X.K (.ref C) (.type "object") = some true)
    (hf : PySem.W.isFn X.K (.ref f) = true) (hb : Binds X.K fd ps []) (hr : Room (n + 1) X.A) (hx : Passes CX X E) : OpR X (compareOp .NotEq) (rNeO C sp E) := by
  intro pins s σ H x y v u Q I rx ry h
  obtain ⟨a, dx, fs, b, dy, gs, rfl, rfl, ha, hb', hsp⟩ := h
  cases (show v = Value.ref a from rx)
  cases (show u = Value.ref b from ry)
  obtain ⟨mA, J, _⟩ := ins_get I.hok ha
  obtain ⟨mB, J', _⟩ := ins_get I.hok hb'
  obtain ⟨od, J, _⟩ := J.look
  obtain ⟨od', J', _⟩ := J'.look
  obtain ⟨m, hF⟩ := I.fr
  show wpAny (model X.prog X.w) X.A (richCompare .NotEq (.ref a) (.ref b)) (EP X pins σ Q) X.xe s
  refine PySem.W.cmp_neK (tb := .ref C) (by have := hr.un; omega) hF I.ok.mod.kin J J'.type (by simp [PySem.W.notFirst]) hne hob hs hf ?_
  have hl := F.len _ _ _ _ hsp
  have r2 : Vals [V.ref a, V.ref b] [Value.ref a, Value.ref b] := .cons rfl (.cons rfl .nil)
  have e0 : Env0 X.prog X.w X.K X.mg X.base X.A.in1 X.stack s H := I.env0.in1
  refine wpAny_call (codeAny_mono (F.run X.A.in1 X.stack s H ⟨[.ref a, .ref b], []⟩ [.ref a, .ref b] [.ref a, .ref b] _ E hr.in1 e0 (by
    have := hb s [.ref a, .ref b] I.kIn (by simpa using hl)
    simpa using this) r2 hsp) fun r s' hq => ?_)
  cases r with
  | error e => exact hx pins σ H s e s' I hq
  | ok fl =>
    cases fl with
    | ret w =>
      obtain ⟨z, H', I', rz, r, ez, q⟩ := I.after hq
      subst ez
      cases rz
      exact ⟨r, rfl, .bl (!r), H', I', rfl, q⟩
    | next => exact False.elim hq
    | brk => exact False.elim hq
    | cont => exact False.elim hq
end
end L2

set_option Elab.async false
set_option maxRecDepth 100000
set_option maxHeartbeats 4000000
namespace L2
open PySem PySem.Spec PyProof.Rows
set_option linter.unusedVariables false
/-! dict(xs) of a list of pairs whose keys are tuples -/
def rDictPT (K : PySem.W.Frag) : List V → Hp → VK → Prop := fun xs H Q => ∃ (a : Addr) (ps : List Addr) (kvs : List (List Key × V)), xs = [.ref a] ∧ SqL K H a (ps.map V.ref) ∧ Paired (fun p kv => ∃ b, SqT K H p [.ref b, kv.2] ∧ H b = some (.tup (kv.1.map kV))) ps kvs ∧
    ∀ p, H p = none → Q (.ref p) (upd H p (.dT (mergeT [] kvs)))
section
variable {X : Cx} {pins : List (Addr × Obj)} {σ : St} {H : Hp} {s : Shared}
theorem pairsT_of (I : Inv X pins σ H s) : ∀ {ps : List Addr} {kvs : List (List Key × V)}, Paired (fun p kv => ∃ b, SqT X.K H p [.ref b, kv.2] ∧ H b = some (.tup (kv.1.map kV))) ps kvs →
    ∃ rs : List (List Key × Addr × Value), KT H kvs rs ∧ rs.length = ps.length ∧ ∀ (j : Nat) (q : List Key × Addr × Value), rs[j]? = some q → ∃ p, ps[j]? = some p ∧ s.heap.IsTuple p #[.ref q.2.1, q.2.2]
  | _, _, .nil => ⟨[], .nil, rfl, fun j q e => by simp at e⟩
  | _, _, .cons (a := p) (b := kv) h t => by
    obtain ⟨rs, r, hl, hp⟩ := pairsT_of I t
    obtain ⟨b, h, hb⟩ := h
    obtain ⟨its, rv, ht, _⟩ := I.tuple h
    obtain ⟨u, y, ei, ru, ry⟩ := vals2 rv
    subst ei
    cases (show u = Value.ref b from ru)
    refine ⟨(kv.1, b, y) :: rs, .cons ⟨rfl, hb, ry⟩ r, by rw [List.length_cons, List.length_cons, hl], fun j q e => ?_⟩
    cases j with
    | zero =>
      have e' : (kv.1, b, y) = q := Option.some.inj e
      subst e'
      exact ⟨p, rfl, ht⟩
    | succ j =>
      obtain ⟨c, e1, e2⟩ := hp j q (by simpa using e)
      exact ⟨c, by simpa using e1, e2⟩
end
theorem KT.len {H : Hp} {kvs : List (List Key × V)} {rs : List (List Key × Addr × Value)} (r : KT H kvs rs) : kvs.length = rs.length := Paired.length r
theorem KT.at {H : Hp} : ∀ {kvs : List (List Key × V)} {rs : List (List Key × Addr × Value)}, KT H kvs rs → ∀ x ∈ rs, H x.2.1 = some (.tup (x.1.map kV))
  | _, _, .nil, _, m => (nomatch m)
  | _, _, .cons h t, x, m => by
    rcases List.mem_cons.mp m with rfl | m
    · rw [← h.1]; exact h.2.1
    · exact KT.at t x m
theorem call_dictPT {X : Cx} (hcalm : X.calm = true) (hu : X.A.units + 2 < cLine) : CallR X (.type "dict") (rDictPT X.K) := by
  intro pins s σ H xs us Q I r q
  obtain ⟨a, ps, kvs, ex, hq, hp, q⟩ := q
  subst ex
  obtain ⟨u, eu, rx⟩ := vals1 r
  subst eu
  cases rx
  obtain ⟨its, rv, pl, hz⟩ := I.list hq
  have ei := refs_at rv
  subst ei
  rw [List.length_map] at hz
  obtain ⟨rs, rel, hl, hpr⟩ := pairsT_of I hp
  obtain ⟨o, n, ho, hc, hd, hdat⟩ := pl
  have hlr : (rs.map fun q => (Value.ref q.2.1, q.2.2)).length = ps.length := by rw [List.length_map, hl]
  have hitem : PairItems s.heap (ps.map Value.ref).toArray (fun j => ps.getD j 0) (rs.map fun q => (Value.ref q.2.1, q.2.2)) := by
    refine ⟨by simp [hl], fun j k v e => ?_⟩
    rw [List.getElem?_map] at e
    obtain ⟨x, hx, ex⟩ := Option.map_eq_some_iff.mp e
    injection ex with e1 e2
    subst e1 e2
    obtain ⟨p, e1, e2⟩ := hpr j x hx
    have eg : ps.getD j 0 = p := by rw [List.getD_eq_getElem?_getD, e1]; rfl
    refine ⟨?_, .inl ?_⟩
    · show _ = some (Value.ref (ps.getD j 0))
      rw [List.getElem?_toArray, List.getElem?_map, e1, eg]
      rfl
    · show s.heap.IsTuple (ps.getD j 0) _
      rw [eg]
      exact e2
  refine call_dict_pairsH (knd := tupleKind (mixKind X.prog X.w)) (ps := rs) (PairArg.list a (ps.map Value.ref).toArray (fun j => ps.getD j 0) (rs.map fun q => (Value.ref q.2.1, q.2.2))) (I.ok.hd hcalm) (show X.A.units + 2 < cLine from hu) ⟨⟨o, n, ho, hc, hd, hdat⟩, hitem⟩ ⟨by rw [hlr, hl], fun i key v e => ?_⟩ (fun h' hk x hx => ?_) (by rw [hlr]; exact hz) fun h' tk hd' hk => ?_
  · have e : (rs.map fun q => (Value.ref q.2.1, q.2.2))[i]? = some (key, v) := e
    rw [List.getElem?_map] at e
    obtain ⟨x, hx, ex⟩ := Option.map_eq_some_iff.mp e
    injection ex with e1 e2
    exact ⟨x.1, x.2.1, by rw [hx, ← e2], e1.symm⟩
  · obtain ⟨o1, its, m, h1, h2, h3, h4⟩ := (show IsTupleKey (mixKind X.prog X.w) s.heap x.1 x.2.1 from key_of I.hok (rel.at x hx))
    exact ⟨o1, its, m, hk _ _ (Nat.ne_of_lt (Heap.lt_size h1)) (fun c => nomatch c) h1, h2, h3, h4⟩
  · have hm : (s.heap.objs.size == sysModules) = false := beq_eq_false_iff_ne.mpr (Nat.ne_of_gt I.big)
    have hf := I.hok.fresh (Nat.le_refl s.heap.objs.size)
    have hlen : (mergeT [] kvs).length ≤ sizeLine := by
      have h1 := length_mergeT kvs []
      rw [List.length_nil, Nat.zero_add] at h1
      have := rel.len
      omega
    obtain ⟨o1, es, ep, h1, h2, h3, h4, _, h6⟩ := hd'
    exact ⟨.ref s.heap.objs.size, upd H s.heap.objs.size (.dT (mergeT [] kvs)), I.laid (t' := tk) (fun b u e => hk b u (fun c => nomatch c) e) (Nat.le_refl _)
      (show ObjOk X.prog X.w _ _ _ (.dT (mergeT [] kvs)) from ⟨hlen, hm, _, (rel.merge .nil).keeps (fun c ys ec => (by rw [upd_ne (ne_of_none ec hf)]; exact ec)), o1, es, ep, h1, h2, h3, h4, h6⟩), rfl, q _ hf⟩
end L2

set_option Elab.async false
set_option maxRecDepth 100000
set_option maxHeartbeats 4000000
/-! t[::-1], t a tuple of two -/
namespace HT
open PySem PySem.Calls PyProof.Rows
section
variable {prog : Program} {w : World} {A : Around} {E : Value → Shared → Prop} {s : Shared}
theorem turned_two {sl : Addr} {vl vu vs : Value} {R : Int × Int × Nat → Shared → Prop} (sh : s.heap.IsSliceOf sl vl vu vs) (pl : IsPart vl none) (pu : IsPart vu none) (ps : IsPart vs (some (-1))) (fin : R (1, -1, 2) s) :
    wpAny (model prog w) A (Builtin.Slice.sliceApplied (.ref sl) (pure ((2 : Nat) : Int))) R E s := by
  obtain ⟨o, ho, hc, hd⟩ := id sh
  unfold Builtin.Slice.sliceApplied Builtin.Slice.sliceFields
  refine wpAny_bind (wpAny_bind (wpAny_field ho hd (x := vl) rfl (wpAny_bind (wpAny_field ho hd (x := vu) rfl (wpAny_bind (wpAny_field ho hd (x := vs) rfl (wpAny_pure ?_)))))))
  refine wpAny_bind (slicePart_ ps ?_)
  show wpAny _ _ (if ((-1 : Int) == 0) = true then _ else _) _ _ s
  rw [if_neg (show ¬ ((-1 : Int) == 0) = true by decide)]
  refine wpAny_bind (slicePart_ pl (wpAny_bind (slicePart_ pu (wpAny_bind (wpAny_pure (wpAny_pure ?_))))))
  exact fin
theorem pair_turned {t sl : Addr} {v0 v1 vl vu vs : Value} {R : Value → Shared → Prop} (ht : IsTup s.heap t #[v0, v1]) (sh : s.heap.IsSliceOf sl vl vu vs) (pl : IsPart vl none) (pu : IsPart vu none) (ps : IsPart vs (some (-1)))
    (fin : R (.ref s.heap.objs.size) { s with heap := s.heap.push { cls := .type "tuple", data := .seq #[v1, v0] } }) : wpAny (model prog w) A (getItem (.ref t) (.ref sl)) R E s := by
  have fits : sizeOk (.seq #[v1, v0]) := by
    show 2 ≤ sizeLine
    decide
  obtain ⟨o, ho, hc, hd⟩ := id sh
  have isSl : s.TypeIs (.ref sl) "slice" := ⟨o, ho, hc⟩
  unfold getItem
  try with_reducible refine wpAny_holding ?_
  first | refine wpAny_bind (wpAny_pure ?_) | skip
  refine wpAny_bind (wpAny_sequenceKey ht.typeIs (by decide) ?_)
  refine wpAny_bind (wpAny_callSpecial?_slot (name := Str.ofString "__getitem__") ht.typeIs PyProof.Rows.slot_tuple_getitem (wpAny_call_entry PyProof.Rows.slot_tuple_getitem ht.typeIs entry_tuple_getitem ?_ (args_tuple_getitem _ _)))
  show wpAny _ _ (Builtin.Tuple.tupleItemsOf (.ref t) >>= _) _ _ s
  refine wpAny_bind (tupleItemsOf_ ht (wpAny_bind (wpAny_typeOf isSl ?_)))
  rw [if_pos (by decide)]
  refine wpAny_bind (turned_two sh pl pu ps ?_)
  show wpAny _ _ (if ((1 : Int) == 0 && (-1 : Int) == 1 && (2 : Nat) == 2) = true then _ else _) _ _ s
  rw [if_neg (by decide)]
  first
    | exact wpAny_bind (m := Builtin.Tuple.tupleExact _) (wpAny_newObj_type (wpAny_pure ⟨_, rfl, wpAny_pure fin⟩) fits)
    | exact wpAny_bind (m := Builtin.Tuple.tupleExact _) (wpAny_newObj_type (wpAny_bind (wpAny_pure (wpAny_pure ⟨_, rfl, wpAny_pure fin⟩))) fits)
    | exact wpAny_bind (wpAny_bind (m := Builtin.Tuple.tupleExact _) (wpAny_newObj_type (wpAny_pure (wpAny_pure ⟨_, rfl, wpAny_pure fin⟩)) fits))
    | exact wpAny_bind (wpAny_bind (m := Builtin.Tuple.tupleExact _) (wpAny_newObj_type (wpAny_pure ⟨_, rfl, wpAny_pure fin⟩) fits))
end
end HT
namespace L2
open PySem PySem.Spec PyProof.Rows
variable {X : Cx}
def tRevT (K : PySem.W.Frag) (te : TE) : TE := fun σ H Q => te σ H fun x H1 => ∃ a y z, x = .ref a ∧ SqT K H1 a [y, z] ∧ ∀ p, H1 p = none → Q (.ref p) (upd H1 p (.tup [z, y]))
theorem pe_revT {e : Expr} {te : TE} {k : Nat} {p1 p2 p3 pos : Pos} (he : PE X e te) : PE X (.Subscript e (.Slice none none (some (.UnaryOp .USub (.Constant (.int 1) k p1) p2)) p3) pos) (tRevT X.K te) := by
  refine ⟨fun pins s σ H Q I h => ?_⟩
  refine Subscript_ (thn (he.run pins s σ H _ I h) fun v s1 ⟨x, H1, I1, r1, q1⟩ => ?_)
  obtain ⟨a, y, z, rfl, hx, q⟩ := q1
  cases r1
  have back : PO X (some (.UnaryOp .USub (.Constant (.int 1) k p1) p2)) (tPart (tUn (rU fun i => .int (-i)) (tC (.int 1)))) := po_some (pe_un un_neg pe_int)
  refine wpAny_Slice (thn (po_none.run pins s1 σ H1 (fun o H2 => o = none ∧ H2 = H1) I1 ⟨rfl, rfl⟩) fun vl s2 ⟨l, H2, I2, pl, el, e2⟩ => ?_)
  subst el e2
  refine thn (po_none.run pins s2 σ H2 (fun o H3 => o = none ∧ H3 = H2) I2 ⟨rfl, rfl⟩) fun vu s3 ⟨u, H3, I3, pu, eu, e3⟩ => ?_
  subst eu e3
  refine thn (back.run pins s3 σ H3 (fun o H4 => o = some (-1) ∧ H4 = H3) I3 ⟨1, rfl, -1, rfl, rfl, rfl⟩) fun vs s4 ⟨o, H4, I4, ps, eo, e4⟩ => ?_
  subst eo e4
  have I5 : Inv X pins σ H4 { s4 with heap := s4.heap.push { cls := .type "slice", data := .fields #[vl, vu, vs] } } := I4.kept (t' := s4.toks) fun _ _ q => Heap.get?_push_of_some _ q
  obtain ⟨its, r, ht, hz⟩ := I5.tuple hx
  obtain ⟨v0, v1, rfl, r0, r1⟩ : ∃ v0 v1, its = [v0, v1] ∧ RelV y v0 ∧ RelV z v1 := by
    cases r with
    | cons a0 r => cases r with
      | cons a1 r => cases r; exact ⟨_, _, rfl, a0, a1⟩
  show wpAny (model X.prog X.w) X.A (subscriptTail e (.Slice none none (some (.UnaryOp .USub (.Constant (.int 1) k p1) p2)) p3) (.ref a) (.ref s4.heap.objs.size)) (EP X pins σ Q) X.xe { s4 with heap := s4.heap.push { cls := .type "slice", data := .fields #[vl, vu, vs] } }
  refine tail_any (ops := [.ref a, .ref s4.heap.objs.size]) ht.typeIs (PyProof.Rows.slot_tuple_getitem.lookup) ?_ (by with_unfolding_all rfl)
  refine HT.pair_turned ht (Heap.IsSliceOf.new _ vl vu vs) pl pu ps ?_
  refine ⟨.ref _, _, I5.laid (t' := s4.toks) (o := .tup [z, y]) (fun _ _ q => Heap.get?_push_of_some _ q) (Nat.le_refl _) ?_, rfl, q _ (I5.hok.fresh (Nat.le_refl _))⟩
  exact ⟨(by show 2 ≤ sizeLine; decide), _, .cons r1 (.cons r0 .nil), IsTup.new _ _⟩
end L2

set_option Elab.async false
set_option maxRecDepth 100000
set_option maxHeartbeats 4000000
namespace L2
open PySem PySem.Spec PyProof.Rows
set_option linter.unusedVariables false
/-! name = {k: e for ..} on one line, the name a local -/
theorem sw_trueD {kx vx : Expr} {gs : List Comprehension} {scope : Scope} {pos py : Pos} {y : PySem.Str} {l : Nat} {env : Env} (hk : env.scope.kind = .function) (hy : env.scope.names.lookup y = some .local) (hl : (py.line == pos.line) = true)
    (ha : (scope.names.any fun (n, k) => n == y && (k == .local || k == .cell)) = false) : swapsWith (.DictComp kx vx gs scope pos) (some (.Name y py)) l env = pure true := by
  have ky : env.kindOf y = some .local := hy
  have hb : env.blockKind = .function := by unfold Env.blockKind; rw [hk]; rfl
  unfold swapsWith
  simp only [hb, ky, ha, Expr.pos, hl]
  rfl
section
variable {X : Cx}
theorem ps_setDcT {i : Nat} {y : PySem.Str} {py : Pos} {kx vx tg iter : Expr} {ifs : List Expr} {scope : Scope} {own : List (PySem.Str × Nat)} {pos spos : Pos} {wi : TI} {g : TG} {tt : TT} {tk tv : TE} (hu : X.A.units + 1 < cLine) (hc : X.calm = true) (hN : X.N.Nodup) (hy : X.N[i]? = some y) (hyl : X.env.scope.names.lookup y = some .local)
    (hsw : swapsWith (.DictComp kx vx [⟨tg, iter, ifs, 0⟩] scope pos) (some (.Name y py)) spos.line X.env = pure true) (hi : PI X tg iter wi) (ok : BlkOk X.N X.env.scope scope own)
    (hg : ∀ (s : Shared) (H : Hp) (C : Addr) (cl : List (PySem.Str × Addr)) (fp : List Addr), PG (X.blk s H scope (compEnvC scope cl C X.env) fp) tg g)
    (ht : ∀ (s : Shared) (H : Hp) (C : Addr) (cl : List (PySem.Str × Addr)) (fp : List Addr), PTs (X.blk s H scope (compEnvC scope cl C X.env) fp) ifs tt)
    (hk : ∀ (s : Shared) (H : Hp) (C : Addr) (cl : List (PySem.Str × Addr)) (fp : List Addr), PE (X.blk s H scope (compEnvC scope cl C X.env) fp) kx tk)
    (he : ∀ (s : Shared) (H : Hp) (C : Addr) (cl : List (PySem.Str × Addr)) (fp : List Addr), PE (X.blk s H scope (compEnvC scope cl C X.env) fp) vx tv)
    (hs : ∀ x, foldedSetIterable iter X.env x = pure x := by intro _; rfl) :
    PS X (.Assign [.Name y py] (.DictComp kx vx [⟨tg, iter, ifs, 0⟩] scope pos) spos) (tAsg (tGather (fun _ => .dT []) wi g tt (addT tk tv) (own.map (·.2))) (gName i)) := by
  refine ⟨fun pins s σ H D I h => ?_⟩
  rw [exec_Assign_Name_used _ _ _ _ hsw]
  refine wpAny_bind (wpAny_standAt (wpAny_bind ?_))
  show wpAny _ X.A (do let _ ← comprehension (.DictComp kx vx [⟨tg, iter, ifs, 0⟩] scope pos) scope X.env (firstIterPos [⟨tg, iter, ifs, 0⟩] pos) newDict false (eval iter X.env) (some (assign (.Name y py) X.env))) _ _ s
  have h : tGather (fun _ => .dT []) wi g tt (addT tk tv) (own.map (·.2)) σ H (fun x H1 => gName i x σ H1 D.nx) := h
  refine wpAny_bind (thn (gather_core (Qf := fun _ s' => SP X pins D .next s') (use := some (assign (.Name y py) X.env)) (ob := { cls := .type "dict", data := .dict #[] }) (mk := newDict) (o0 := fun _ => .dT []) (add := addT tk tv)
    (Body := fun acc env R back s => match acc with
      | .ref D => wpAny (model X.prog X.w) X.A (eval kx env) (fun kv s4 => wpAny (model X.prog X.w) X.A (eval vx env) (fun vv s5 => wpAny (model X.prog X.w) X.A (dictSet D kv vv) (fun _ s6 => back s6) (notedBy (model X.prog X.w) X.A env fun e s' => R (.error e) s') s5)
          (notedBy (model X.prog X.w) X.A env fun e s' => R (.error e) s') s4) (notedBy (model X.prog X.w) X.A env fun e s' => R (.error e) s') s
      | _ => False)
    hc hN I hi ok rfl (fun A E s Q q => wpAny_newObj_type q) (fun h H hb => dt_empty h hb) (fun it D env R I turn n s => compLoop_anyD I turn n) (fun it acc env R s a b => codeAny_compStart_dict a b) hg ht ?_ hs h ?_) fun _ s' hq => wpAny_pure (wpAny_pure hq))
  · intro s H C cl fp D R Nx back pins' σ2 H3 s3 I3 q3 k
    refine thnF ((hk s H C cl fp).run _ s3 σ2 H3 _ I3 q3) fun z s4 ⟨yk, H4, I4, r4, q4⟩ => ?_
    refine thnF ((he s H C cl fp).run _ s4 σ2 H4 _ I4 q4) fun z2 s5 ⟨yv, H5, I5, r5, kvs, ks, b, ey, hb, hD, hz, nx⟩ => ?_
    subst ey
    cases (show z = Value.ref b from r4)
    obtain ⟨hl, hd, xs, rel, dd⟩ := dt_of I5.hok hD
    have hz' : xs.length ≤ sizeLine := by rw [← Paired.length rel]; exact hl
    have grown : (putK kvs ks yv).length ≤ sizeLine := by have := length_putK kvs ks yv; omega
    refine wpAny_dictSet_heap (hsz := hz') (show X.A.units < cLine by omega) (key_of I5.hok hb) dd fun h' dd' same => k _ _ ?_ nx
    obtain ⟨q, es, ep, hq, h2, h3, h4, _, h5⟩ := dd'
    refine d_write I5 (by rw [hD]; exact True.intro) same ⟨q, hq⟩ ⟨grown, hd, _, (rel.put ks hb r5).keeps fun c ys ec => ?_, q, es, ep, hq, h2, h3, h4, h5⟩
    rw [upd_ne (ne_of ec hD (fun z => nomatch z))]
    exact ec
  · intro L C s' m H' I' q hn f
    show wpAny _ _ (assign (.Name y py) X.env (.ref L)) _ _ _
    refine wpAny_assign_Name (store_ok2 (v := V.ref L) I' hN hy (.inl hyl) rfl (fun s2 I2 ⟨a, sb, ha⟩ => ?_) (.inr hyl))
    obtain ⟨f0, f1, f2, f3, f4, f5⟩ := f
    have haC : C ≠ a := by
      rcases ha with z | z
      · rw [z]; exact f1
      · exact fun e => f4 y a z e.symm
    refine ⟨m, hn.sameBut sb haC, fun h3 sb3 => ?_⟩
    exact ⟨_, H', I2.turned (t' := s2.toks) (fun b o hb e => (sb3.2 b hb).trans e) f0 f1 f3 f4 f5, q⟩
end
end L2

set_option Elab.async false
set_option maxRecDepth 100000
set_option maxHeartbeats 4000000
namespace DT
open PySem PySem.W PySem.Calls PyProof.Rows PyProof.V PySem.Spec
set_option linter.unusedVariables false
/-! sorted(d.items()), the keys pairs of two ints, no two alike, the values of any kind -/
abbrev P2 := Int × Int
abbrev nsP (y : P2) : List Int := [y.1, y.2]
theorem nsP_inj {y z : P2} (h : nsP y = nsP z) : y = z := by
  injection h with h1 h2
  injection h2 with h2 _
  exact Prod.ext h1 h2
theorem lex_code {y z : P2} (hy : TS.Bd 64 (nsP y)) (hz : TS.Bd 64 (nsP z)) : HT.lexLt (nsP y) (nsP z) = decide (TS.code 64 (nsP y) < TS.code 64 (nsP z)) := by
  obtain ⟨a, b⟩ := y
  obtain ⟨c, d⟩ := z
  rw [HT.lexLt_cons]
  split
  · rename_i e
    have e : a = c := e
    subst e
    rw [HT.lexLt_cons]
    split
    · rename_i e2
      have e2 : b = d := e2
      subst e2
      rw [HT.lexLt_nil_nil]
      exact (decide_eq_false (Int.lt_irrefl _)).symm
    · rename_i e2
      have e2 : ¬ b = d := e2
      refine decide_eq_decide.mpr ?_
      rw [TS.code_same (d := a) (r := [b]) (q := [d]) rfl]
      refine ⟨fun h => TS.code_lt (r := []) (q := []) rfl (fun _ hm => nomatch hm) (fun _ hm => nomatch hm) h, fun h => ?_⟩
      rcases Int.lt_trichotomy b d with k | k | k
      · exact k
      · exact absurd k e2
      · have := TS.code_lt (B := 64) (r := []) (q := []) rfl (fun _ hm => nomatch hm) (fun _ hm => nomatch hm) k
        omega
  · rename_i e
    have e : ¬ a = c := e
    refine decide_eq_decide.mpr ⟨fun h => TS.code_lt (r := [b]) (q := [d]) rfl hy.tail hz.tail h, fun h => ?_⟩
    rcases Int.lt_trichotomy a c with k | k | k
    · exact k
    · exact absurd k e
    · exact absurd h (Int.lt_asymm (TS.code_lt (B := 64) (r := [d]) (q := [b]) rfl hz.tail hy.tail k))
/-- the ints of a pair's key, read off the heap -/
def keyNs (h : Heap) (v : Value) : List Int := TS.intsOf h (.ref (refOf (seqAt0 h (refOf (some v)))))
/-- v is a tuple of a pair of ints, y, and the value u -/
def PairV (h : Heap) (v : Value) (y : P2) (u : Value) : Prop := ∃ (a k : Addr) (t t' : Tok), v = .ref a ∧ IsTup h a #[.ref k, u] ∧ IsTup h k #[.int y.1 t, .int y.2 t']
theorem tup_ints {h : Heap} {k : Addr} {y : P2} {t t' : Tok} (x : IsTup h k #[.int y.1 t, .int y.2 t']) : TS.TupInts h (.ref k) (nsP y) := ⟨k, _, rfl, x, .cons _ _ (.cons _ _ .nil)⟩
theorem PairV.ns {h : Heap} {v : Value} {y : P2} {u : Value} (x : PairV h v y u) : keyNs h v = nsP y := by
  obtain ⟨a, k, t, t', rfl, h1, h2⟩ := x
  show TS.intsOf h (.ref (refOf (seqAt0 h a))) = nsP y
  rw [seqAt0_of h1]
  show TS.intsOf h (.ref k) = nsP y
  exact (tup_ints h2).ints
theorem firsts_ofV {h : Heap} {M : P2 → Value} : ∀ vs : List Value, (∀ v ∈ vs, ∃ y, PairV h v y (M y)) → ∃ fs : List Value, KatTups h vs fs ∧ fs.length = vs.length ∧ ∀ f ∈ fs, ∃ (q : Addr) (o : Obj), f = Value.ref q ∧ h.get? q = some o ∧ o.cls = .type "tuple"
  | [], _ => ⟨[], KatTups.nil, rfl, fun f hf => nomatch hf⟩
  | v :: vs, x => by
    obtain ⟨fs, k, hl, hi⟩ := firsts_ofV vs fun u hu => x u (List.mem_cons_of_mem _ hu)
    obtain ⟨y, a, q, t, t', rfl, ⟨o, ho, hc, n, hd⟩, ⟨o2, ho2, hc2, _⟩⟩ := x v (List.mem_cons_self ..)
    refine ⟨.ref q :: fs, KatTups.cons ho hc hd rfl k, by rw [List.length_cons, List.length_cons, hl], fun f hf => ?_⟩
    rcases List.mem_cons.mp hf with rfl | hf
    · exact ⟨q, o2, rfl, ho2, hc2⟩
    · exact hi f hf
section
variable {prog : Program} {w : World} {A : Around} {E : Value → Shared → Prop} {s : Shared}
theorem key_ints {k : Addr} {y : P2} {t t' : Tok} (x : IsTup s.heap k #[.int y.1 t, .int y.2 t']) : IsTupleKey (L2.mixKind prog w) s.heap [Sum.inl y.1, Sum.inl y.2] k := by
  obtain ⟨o, ho, hc, n, hd⟩ := x
  exact ⟨o, _, n, ho, hc, hd, .cons (L2.mixKind_int prog w _ _) (.cons (L2.mixKind_int prog w _ _) .nil)⟩
theorem kind_tv {vs : List Value} {M : P2 → Value} (h2 : 2 ≤ vs.length) (hu : A.units < cLine) (x : ∀ v ∈ vs, ∃ y, PairV s.heap v y (M y) ∧ TS.Bd 64 (nsP y)) (Q : SortKind → Shared → Prop)
    (h : ∀ κ, TS.Cmp prog w A s κ (pairsOf vs) (fun v => TS.code 64 (keyNs s.heap v)) → Q κ s) : wpAny (model prog w) A (keyKind' vs.toArray) Q E s := by
  obtain ⟨fs, k, hl, hi⟩ := firsts_ofV (M := M) vs fun v hv => let ⟨y, p, _⟩ := x v hv; ⟨y, p⟩
  refine kat_kind (T := Value.type "tuple") k (by omega) (fun f hf => ?_) rfl (h _ ?_)
  · obtain ⟨q, o, rfl, ho, hc⟩ := hi f hf
    have z : PySem.W.Looks (model prog w) s.heap (typeOf (.ref q)) o.cls := (PySem.W.Looks.ld ho).andThen .now
    rw [hc] at z
    exact z
  · have hb : (Value.type "tuple" != Value.type "tuple") = false := by simp
    rw [hb]
    intro p q hp hq Q' E' hQ
    rw [pairsOf_toList] at hp hq
    have mp := (mem_zip_self hp).2
    have mq := (mem_zip_self hq).2
    obtain ⟨y, py, by_⟩ := x _ mp
    obtain ⟨z, pz, bz⟩ := x _ mq
    have hQ' : Q' (HT.lexLt (nsP y) (nsP z)) s := by
      rw [lex_code by_ bz]
      have hQ2 : Q' (decide (TS.code 64 (keyNs s.heap p.1) < TS.code 64 (keyNs s.heap q.1))) s := hQ
      rw [py.ns, pz.ns] at hQ2
      exact hQ2
    obtain ⟨a, ka, t, t2, e1, ⟨o, ho, hc, n, hd⟩, g⟩ := py
    obtain ⟨a', kb, u, u2, e2, ⟨o', ho', hc', n', hd'⟩, g'⟩ := pz
    rw [e1, e2]
    refine kat_lt ho hd ho' hd' ?_
    show KatLex prog w A false false Q' [(Value.ref ka, Value.ref kb), (M y, M z)] 0 s
    by_cases e : y = z
    · subst e
      have irr : HT.lexLt (nsP y) (nsP y) = false := by rw [lex_code by_ by_]; exact decide_eq_false (Int.lt_irrefl _)
      rw [irr] at hQ'
      refine kat_cons (wpAny_eqBool_tuple hu (key_ints g) (key_ints g') ?_)
      refine kat_go (fun _ => ?_) (fun e0 => absurd rfl (of_decide_eq_false e0))
      refine kat_yes (kat_cons (SeqAt.EqAt.same (A := A) (s := s) (M y) prog w _ _ ?_))
      exact kat_yes (kat_nil hQ')
    · refine kat_cons (wpAny_eqBool_tuple hu (key_ints g) (key_ints g') ?_)
      refine kat_go (fun e0 => ?_) (fun _ => ?_)
      · exfalso
        have z0 := of_decide_eq_true e0
        injection z0 with z1 z2
        injection z1 with z1
        injection z2 with z2 _
        injection z2 with z2
        exact e (Prod.ext z1 z2)
      · refine kat_no ?_
        show wpAny _ _ (oneLt' false _ _) _ _ _
        obtain ⟨_, _, r1, r2, r3⟩ := tup_ints g
        obtain ⟨_, _, r1', r2', r3'⟩ := tup_ints g'
        injection r1 with r1
        injection r1' with r1'
        subst r1 r1'
        exact kat_one _ _ (HT.lt_tupInts r2 r2' r3 r3' hu hQ')
end
end DT
namespace L2
open PySem PySem.Spec PyProof.Rows L2.DX
set_option linter.unusedVariables false
abbrev entI (e : DT.P2 × V) : List L2.Key × V := ([Sum.inl e.1.1, Sum.inl e.1.2], e.2)
/-- sorted(d.items()) by keys of two ints; the values refs -/
def rSortIV : List V → Hp → VK → Prop := fun vs H Q => ∃ (p a : Addr) (ks : List (DT.P2 × Addr)), vs = [.ref p] ∧ H p = some (itemsO p a) ∧ H a = some (.dT (ks.map fun e => entI (e.1, .ref e.2))) ∧ ks.length < 64 ∧
  (ks.map (·.1)).Nodup ∧ (∀ e ∈ ks, TS.Bd 64 (DT.nsP e.1)) ∧
  ∀ (H' : Hp) (l : Addr) (ps : List (Addr × DT.P2 × Addr)), (∀ b o, H b = some o → H' b = some o) → H l = none → (ps.map (·.2)).Perm ks → (ps.map (·.2)).Pairwise (fun e f => TS.code 64 (DT.nsP e.1) ≤ TS.code 64 (DT.nsP f.1)) → H' l = some (.lst (ps.map fun z => V.ref z.1)) →
    (∀ z ∈ ps, ∃ q, H' z.1 = some (.tup [.ref q, .ref z.2.2]) ∧ H' q = some (.tup [.int z.2.1.1, .int z.2.1.2])) → Q (.ref l) H'
def look (ks : List (DT.P2 × Addr)) (y : DT.P2) : Addr := (ks.lookup y).getD 0
theorem look_at : ∀ {ks : List (DT.P2 × Addr)}, (ks.map (·.1)).Nodup → ∀ e ∈ ks, look ks e.1 = e.2
  | [], _, _, h => nomatch h
  | x :: ks, hn, e, h => by
    rw [List.map_cons, List.nodup_cons] at hn
    unfold look
    rcases List.mem_cons.mp h with rfl | h
    · simp [List.lookup]
    · have ne : (e.1 == x.1) = false := beq_eq_false_iff_ne.mpr fun z => hn.1 (by rw [← z]; exact List.mem_map.mpr ⟨e, h, rfl⟩)
      rw [List.lookup_cons, ne]
      exact look_at hn.2 e h
theorem cr_sortedIV {X : Cx} (hc : X.calm = true) (hu : X.A.units + 64 < cLine) : CallR X (.builtin "sorted") rSortIV := by
  intro pins s σ H xs us Q I r h
  obtain ⟨p, a, ks, rfl, hp, ha, h64, hnd, hbd, q⟩ := h
  obtain rfl := Vals.ref1 r
  have view : s.heap.IsItemsView p a := (show ObjOk X.prog X.w H s.heap p (itemsO p a) from I.hok p _ hp).1
  obtain ⟨z, hd, xs', rel, o, es, ep, ho, hx, hdat, hes, his, hn⟩ := dt_of I.hok ha
  have l1 : (ks.map fun e => entI (e.1, V.ref e.2)).length = xs'.length := Paired.length rel
  rw [List.length_map] at l1
  have l2 : es.size = xs'.length := size_of_entries hes
  have hh : X.A.handled = none := I.ok.hd hc
  refine DT.sortedI (es := es) (ep := ep) hh view ⟨o, ho, hx, hdat⟩ (by rw [sizeLine_eq]; omega) fun h' tk as hk hlt hl hG => ?_
  have lak : as.length = ks.length := by omega
  have nd : as.Nodup := List.Pairwise.imp (fun h => Nat.ne_of_lt h) hG.rise
  have pr : ∀ (j : Nat) (b : Addr), as[j]? = some b → ∃ (e : DT.P2 × Addr) (kq : Addr), ks[j]? = some e ∧ H kq = some (.tup [.int e.1.1, .int e.1.2]) ∧ h'.get? b = some { cls := .type "tuple", data := .seq #[Value.ref kq, Value.ref e.2] } := by
    intro j b hj
    obtain ⟨en, he, hg⟩ := hG.pairs j b hj
    rw [entry_at hes j] at he
    cases hxj : xs'[j]? with
    | none =>
      rw [hxj] at he
      exact nomatch (show (none : Option DictEntry) = some en from he)
    | some x =>
      rw [hxj] at he
      have een : entryOfKey (tupleKind (mixKind X.prog X.w)) x = en := Option.some.inj he
      obtain ⟨e0, he0, r1, r2, r3⟩ := pget rel hxj
      rw [List.getElem?_map] at he0
      cases hkj : ks[j]? with
      | none =>
        rw [hkj] at he0
        exact nomatch (show (none : Option (List L2.Key × V)) = some e0 from he0)
      | some e =>
        rw [hkj] at he0
        have ee : entI (e.1, V.ref e.2) = e0 := Option.some.inj he0
        rw [← ee] at r2 r3
        have r3' : x.2.2 = Value.ref e.2 := r3
        refine ⟨e, x.2.1, rfl, r2, ?_⟩
        rw [hg, ← een, ← r3']
        all_goals rfl
  have hob : (h'.push { cls := .type "list", data := .seq (as.map Value.ref).toArray }).get? h'.objs.size = some (seqObj "list" (as.map Value.ref).toArray 0) := Heap.get?_push_size _ rfl
  have kb : ∀ b o, s.heap.get? b = some o → (h'.push { cls := .type "list", data := .seq (as.map Value.ref).toArray }).get? b = some o := fun b o e => Heap.get?_push_of_some _ (hk b o e)
  have ne0 : ∀ b o, h'.get? b = some o → b ≠ h'.objs.size := fun b o e => Nat.ne_of_lt (Heap.lt_size e)
  generalize hh2 : h'.push { cls := .type "list", data := .seq (as.map Value.ref).toArray } = h2 at hob kb ⊢
  have ka : ∀ b o, h'.get? b = some o → h2.get? b = some o := fun b o e => by rw [← hh2]; exact Heap.get?_push_of_some _ e
  have pin : ∀ (j : Nat) (b : Addr), as[j]? = some b → ∃ e : DT.P2 × Addr, ks[j]? = some e ∧ DT.PairV (TS.midHeap h2 h'.objs.size (as.map Value.ref)) (.ref b) e.1 (.ref (look ks e.1)) := by
    intro j b hj
    obtain ⟨e, kq, he, hkq, hg⟩ := pr j b hj
    obtain ⟨_, its, rv, ot, hot, hct, nt, hdt⟩ := (show ObjOk X.prog X.w H s.heap kq (.tup [.int e.1.1, .int e.1.2]) from I.hok kq _ hkq)
    obtain ⟨t, t', rfl⟩ : ∃ t t', its = [Value.int e.1.1 t, Value.int e.1.2 t'] := by
      cases rv with
      | cons r1 r2 =>
        cases r2 with
        | cons r2 r3 =>
          cases r3
          obtain ⟨t, rfl⟩ := r1
          obtain ⟨t', rfl⟩ := r2
          exact ⟨t, t', rfl⟩
    refine ⟨e, he, ?_⟩
    rw [look_at hnd e (List.mem_of_getElem? he)]
    exact ⟨b, kq, t, t', rfl, ⟨_, TS.midHeap_old (ne0 _ _ hg) (ka _ _ hg), rfl, 0, rfl⟩, ⟨ot, TS.midHeap_old (ne0 _ _ (hk _ _ hot)) (kb _ _ hot), hct, nt, hdt⟩⟩
  have tx : ∀ (j : Nat) (b : Addr) (e : DT.P2 × Addr), as[j]? = some b → ks[j]? = some e → DT.keyNs (TS.midHeap h2 h'.objs.size (as.map Value.ref)) (.ref b) = DT.nsP e.1 := by
    intro j b e hj he
    obtain ⟨e', he', hp'⟩ := pin j b hj
    have ee : e' = e := Option.some.inj (he'.symm.trans he)
    rw [← ee]
    exact hp'.ns
  have at_ : ∀ v ∈ as.map Value.ref, ∃ (j : Nat) (b : Addr) (e : DT.P2 × Addr), v = .ref b ∧ as[j]? = some b ∧ ks[j]? = some e := by
    intro v hv'
    obtain ⟨b, hb, rfl⟩ := List.mem_map.mp hv'
    obtain ⟨j, hj⟩ := List.mem_iff_getElem?.mp hb
    obtain ⟨e, _, he, _⟩ := pr j b hj
    exact ⟨j, b, e, rfl, hj, he⟩
  refine wpAny_call_entry PyProof.Rows.slot_list_sort ⟨_, hob, rfl⟩ PyProof.Rows.entry_list_sort
    (SK.plain_sort (s := { s with heap := h2, toks := tk }) (r := fun v => TS.code 64 (DT.keyNs (TS.midHeap h2 h'.objs.size (as.map Value.ref)) v)) hob (by rw [List.length_map]; omega) (fun h2' Qk hQk => ?_) fun ps out o1 o2 o3 => ⟨.none, rfl, ?_⟩) (PyProof.Rows.args_list_sort _)
  · refine DT.kind_tv (s := { s with heap := TS.midHeap h2 h'.objs.size (as.map Value.ref), toks := tk }) (M := fun y => .ref (look ks y)) h2' (by show X.A.units + 1 + 1 < cLine; omega) (fun v hv' => ?_) Qk hQk
    obtain ⟨j, b, e, rfl, hj, he⟩ := at_ v hv'
    obtain ⟨e', he', hp'⟩ := pin j b hj
    exact ⟨e'.1, hp', hbd e' (List.mem_of_getElem? he')⟩
  · show EP X pins σ Q (.ref h'.objs.size) { s with heap := sortedHeap h2 h'.objs.size (as.map Value.ref) out, toks := tk }
    obtain ⟨zs, pz, ez⟩ := perm_lift (fun z : Addr × DT.P2 × Addr => (Value.ref z.1, Value.ref z.1)) o2 (as.zip ks) (zip_self Value.ref as ks lak)
    have idx : ∀ z ∈ zs, ∃ j : Nat, as[j]? = some z.1 ∧ ks[j]? = some z.2 := by
      intro z' hz'
      obtain ⟨j, hj⟩ := List.mem_iff_getElem?.mp (pz.mem_iff.mp hz')
      exact ⟨j, List.getElem?_zip_eq_some.mp hj⟩
    have hout : out.toList = zs.map fun z => Value.ref z.1 := by
      rw [o1, ← ez, List.map_map]
      all_goals rfl
    have hperm : (zs.map (·.2)).Perm ks := by
      have e := pz.map (·.2)
      have m2 : (as.zip ks).map (·.2) = ks := List.map_snd_zip (by rw [lak]; exact Nat.le_refl _)
      rw [m2] at e
      exact e
    have hsort : (zs.map (·.2)).Pairwise (fun e f => TS.code 64 (DT.nsP e.1) ≤ TS.code 64 (DT.nsP f.1)) := by
      rw [← ez, List.pairwise_map] at o3
      rw [List.pairwise_map]
      refine List.Pairwise.imp_of_mem (fun {x y} hx hy h => ?_) o3
      obtain ⟨j, j1, j2⟩ := idx x hx
      obtain ⟨i, i1, i2⟩ := idx y hy
      have h' : TS.code 64 (DT.keyNs (TS.midHeap h2 h'.objs.size (as.map Value.ref)) (.ref x.1)) ≤ TS.code 64 (DT.keyNs (TS.midHeap h2 h'.objs.size (as.map Value.ref)) (.ref y.1)) := h
      rw [tx j _ _ j1 j2, tx i _ _ i1 i2] at h'
      exact h'
    have kF : ∀ b o, b ≠ h'.objs.size → h2.get? b = some o → (sortedHeap h2 h'.objs.size (as.map Value.ref) out).get? b = some o := fun b o hb e => (PyProof.Rows.sortedHeap_old hb (Heap.lt_size e)).trans e
    have kS : ∀ b o, s.heap.get? b = some o → (sortedHeap h2 h'.objs.size (as.map Value.ref) out).get? b = some o := fun b o e => kF b o (ne0 _ _ (hk b o e)) (kb b o e)
    obtain ⟨eF, heF⟩ := PyProof.Rows.sortedHeap_at (vs := as.map Value.ref) (out := out) hob
    have I1 : Inv X pins σ H { s with heap := sortedHeap h2 h'.objs.size (as.map Value.ref) out, toks := tk } := I.kept (t' := tk) kS
    have hn0 : H h'.objs.size = none := I.hok.fresh (Nat.le_of_lt hlt)
    have hlen : (zs.map fun z => V.ref z.1).length ≤ sizeLine := by
      have e := hperm.length_eq
      rw [List.length_map] at e
      rw [List.length_map, sizeLine_eq]
      omega
    have rv : Vals (zs.map fun z => V.ref z.1) out.toList := by
      rw [hout]
      exact vals_maps (fun z : Addr × DT.P2 × Addr => V.ref z.1) (fun z => Value.ref z.1) zs fun _ _ => rfl
    have I2 : Inv X pins σ (upd H h'.objs.size (.lst (zs.map fun z => V.ref z.1))) { s with heap := sortedHeap h2 h'.objs.size (as.map Value.ref) out, toks := tk } :=
      I1.take (h' := sortedHeap h2 h'.objs.size (as.map Value.ref) out) (t' := tk) (fun b ob _ e => e) (I.fpOk (Nat.le_of_lt hlt) hn0) ⟨hlen, out.toList, eF, rv, heF⟩
    obtain ⟨H2, I3, g, qt⟩ := takeT (P := fun b vs => ∃ (j : Nat) (e : DT.P2 × Addr) (kq : Addr), as[j]? = some b ∧ ks[j]? = some e ∧ vs = [.ref kq, .ref e.2] ∧ H kq = some (.tup [.int e.1.1, .int e.1.2])) I as _ I2 nd fun b hb => by
      obtain ⟨j, hj⟩ := List.mem_iff_getElem?.mp hb
      obtain ⟨e, kq, he, hkq, hg⟩ := pr j b hj
      have hbl : s.heap.objs.size ≤ b := Nat.le_of_lt (hG.above b hb)
      refine ⟨hbl, ?_, [.ref kq, .ref e.2], ⟨j, e, kq, hj, he, rfl, hkq⟩, fun H3 => ⟨(by rw [sizeLine_eq]; show 2 ≤ 16777216; omega), [Value.ref kq, Value.ref e.2], .cons rfl (.cons rfl .nil), ⟨_, kF _ _ (ne0 _ _ hg) (ka _ _ hg), rfl, 0, rfl⟩⟩⟩
      rw [upd_ne (ne0 _ _ hg)]
      exact I.hok.fresh hbl
    have gr : ∀ b o, H b = some o → H2 b = some o := fun b o e => g b o (by rw [upd_ne (ne_of_none e hn0)]; exact e)
    refine ⟨.ref h'.objs.size, H2, I3, rfl, q H2 h'.objs.size zs gr hn0 hperm hsort (g _ _ upd_same) fun z' hz' => ?_⟩
    obtain ⟨i, i1, i2⟩ := idx z' hz'
    obtain ⟨vs, ⟨j, e, kq, j1, j2, ev, hkq⟩, hH⟩ := qt z'.1 (List.mem_of_getElem? i1)
    have eij : i = j := (List.getElem?_inj (List.getElem?_eq_some_iff.mp i1).1 nd).mp (i1.trans j1.symm)
    subst eij
    have ee : e = z'.2 := Option.some.inj (j2.symm.trans i2)
    rw [ev, ee] at hH
    rw [ee] at hkq
    exact ⟨kq, hH, gr _ _ hkq⟩
end L2

set_option Elab.async false
set_option maxRecDepth 100000
set_option maxHeartbeats 4000000
/-! x in [..], x of a class with its own ==, no item equal to it -/
namespace PySem.W
open PySem PySem.Calls PyProof.Rows PyProof.V PySem.Spec
set_option linter.unusedVariables false
section
variable {prog : Program} {w : World} {A : Around} {E : Value → Shared → Prop} {s : Shared} {K : Frag} {x C L f : Addr} {h₀ : Heap} {m : Str → Option Value} {ox : Obj} {od : Option Obj}
theorem rc_back {T id : String} {y : Value} {Q : Value → Shared → Prop} (hu : A.units < cLine) (F : Fr h₀ L s.heap m) (X₀ : K.In h₀) (I : InstAt s.heap x ox C od) (hT : s.TypeIs y T) (hsub : subIn K (.ref C) (.type T) = some false) (slot : Slot T "__eq__" id)
    (hc : wpAny (model prog w) A (call (.builtin id) [y, .ref x]) (fun v s1 => v = .notImplemented ∧ s1 = s) E s)
    (hs : findIn K (.ref C) "__eq__" = some (some (.ref f))) (hf : isFn K (.ref f) = true)
    (h : wpAny (model prog w) A (call (.ref f) [.ref x, y]) (CmpBack Q) E s) : wpAny (model prog w) A (richCompare .Eq y (.ref x)) Q E s := by
  have X := X₀.keeps F.keep
  have one : wpAny (model prog w) A (tryCompare (.ref x) "__eq__" y) (fun r s' => ∃ v, r = some v ∧ Q v s') E s := by
    unfold tryCompare
    refine wpAny_bind (ifBound_K X I hs hf (wpAny_mono h (fun v s' hv => ?_) fun _ _ e => e))
    cases v <;> first | exact hv.elim | exact wpAny_pure ⟨_, rfl, hv⟩
  have hne : (Value.type T != Value.ref C) = true := by simp
  unfold richCompare
  simp only [hT.oneThing_none, cmpInfo]
  refine wpAny_holding (wpAny_bind (wpAny_cRoomFor hu ?_))
  refine wpAny_bind (wpAny_typeOf hT (wpAny_bind (I.type.here ?_)))
  simp only [hne, if_true]
  refine wpAny_bind ((looks_subIn X hsub).here ?_)
  simp only [Bool.false_eq_true, if_false, Bool.not_false, if_true]
  refine wpAny_bind (m := tryCompare y _ (.ref x)) (wpAny_tryCompare_declines hT slot (wpAny_mono hc (fun v s1 h1 => ⟨h1.1, ?_⟩) fun _ _ e => e))
  obtain ⟨_, rfl⟩ := h1
  refine wpAny_bind (wpAny_mono one (fun r s' z => ?_) fun _ _ e => e)
  obtain ⟨v, rfl, hq⟩ := z
  exact wpAny_pure hq
end
end PySem.W
namespace GQ
open PySem PySem.SeqAt
open AutoSeq1 (wpAny_loadPart')
open MeetsSeq MeetsSeq2 MeetsSeq3 SeqRoads2
set_option linter.unusedVariables false
section
variable {prog : Program} {w : World} {A : Around} {R : Result → Shared → Prop} {s : Shared}
theorem list_decl {l : Addr} {x : Value} (hi : PySem.W.Looks (model prog w) s.heap (isInstance x (.type "list")) false) (h : R (.ok (.ret .notImplemented)) s) :
    wpAny (model prog w) A.in1 (Builtin.«list.__eq__» ⟨[.ref l, x], []⟩) (FinOf prog w A R) (fun e s' => R (.error e) s') s := by
  have hi' := @PySem.W.Looks.here
  unfold Builtin.«list.__eq__»
  repeat (first
    | exact h
    | (refine wpAny_bind (m := isInstance x (.type "list")) (hi.here ?_))
    | wp_step)
theorem tuple_decl {l : Addr} {x : Value} (hi : PySem.W.Looks (model prog w) s.heap (isInstance x (.type "tuple")) false) (h : R (.ok (.ret .notImplemented)) s) :
    wpAny (model prog w) A.in1 (Builtin.«tuple.__eq__» ⟨[.ref l, x], []⟩) (FinOf prog w A R) (fun e s' => R (.error e) s') s := by
  unfold Builtin.«tuple.__eq__»
  repeat (first
    | exact h
    | (refine wpAny_bind (m := isInstance x (.type "tuple")) (hi.here ?_))
    | wp_step)
theorem dict_decl {l : Addr} {x : Value} (hT : s.TypeIs (.ref l) "dict") (hi : PySem.W.Looks (model prog w) s.heap (isInstance x (.type "dict")) false) (h : R (.ok (.ret .notImplemented)) s) :
    wpAny (model prog w) A.in1 (Builtin.«dict.__eq__» ⟨[.ref l, x], []⟩) (FinOf prog w A R) (fun e s' => R (.error e) s') s := by
  unfold Builtin.«dict.__eq__»
  repeat (first
    | exact h
    | (refine wpAny_bind (m := isInstance x (.type "dict")) (hi.here ?_))
    | wp_step)
theorem none_decl {x : Addr} (h : R (.ok (.ret .notImplemented)) s) :
    wpAny (model prog w) A.in1 (Builtin.«NoneType.__eq__» ⟨[.none, .ref x], []⟩) (FinOf prog w A R) (fun e s' => R (.error e) s') s := by
  unfold Builtin.«NoneType.__eq__»
  repeat (first
    | exact h
    | wp_step)
/-- no item equal: the loop ends with False -/
theorem contains_loopF (l : Addr) (x : Value) (N : Nat) (I : Shared → Prop)
    (hl : ∀ s, I s → ∃ (items : Array Value) (n : Nat), s.heap.get? l = some { cls := .type "list", data := .seq items n } ∧ items.size = N ∧ ∀ (i : Nat) (h1 : i < items.size), wpAny (model prog w) A.in1 (eqBool items[i] x) (fun r s' => r = false ∧ I s') (fun e s' => R (.error e) s') s)
    (fin : ∀ s, I s → R (.ok (.ret (.bool false))) s) (k : Nat) :
    ∀ i : Nat, N - i = k → i ≤ N → ∀ s, I s → wpAny (model prog w) A.in1 (Builtin.«list.__contains__.loop» ⟨[.ref l, x, rawInt i], []⟩) (FinOf prog w A R) (fun e s' => R (.error e) s') s := by
  induction k with
  | zero =>
    intro i hk hi s h
    obtain ⟨items, n, hl1, hs1, _⟩ := hl _ h
    have hR : R (.ok (.ret (.bool false))) s := fin s h
    obtain ⟨hp, g, d, tk, os⟩ := s
    wp_walk using wpAny_loadPart' hl1
    have hi1 : items[((i : Nat) : Int).toNat]? = none := by simp; omega
    rw [hi1]
    wp_walk using wpAny_loadPart' hl1
    exact hR
  | succ k ih =>
    intro i hk hi s h
    obtain ⟨items, n, hl1, hs1, turn⟩ := hl _ h
    have hlt : i < items.size := by omega
    have ht := turn i hlt
    obtain ⟨hp, g, d, tk, os⟩ := s
    wp_walk using wpAny_loadPart' hl1
    have hi1 : items[((i : Nat) : Int).toNat]? = some items[i] := by simp [hlt]
    have hc : ((i : Int) + 1) = ((i + 1 : Nat) : Int) := by omega
    rw [hi1]
    refine wpAny_bind (wpAny_mono ht (fun r s2 h2 => ?_) fun _ _ x => x)
    obtain ⟨hr, h2⟩ := h2
    subst hr
    have hrec := ih (i + 1) (by omega) (by omega) s2 h2
    obtain ⟨hp2, g2, d2, tk2, os2⟩ := s2
    wp_walk
    rw [hc]
    exact ⟨plainId_quiet plain_contains_loop _, codeAny_builtin entry_contains_loop (by
      rw [Around.under_plainId plain_contains_loop _]
      exact hrec)⟩
theorem list_containsF (l : Addr) (x : Value) (N : Nat) (I : Shared → Prop)
    (hl : ∀ s, I s → ∃ (items : Array Value) (n : Nat), s.heap.get? l = some { cls := .type "list", data := .seq items n } ∧ items.size = N ∧ ∀ (i : Nat) (h1 : i < items.size), wpAny (model prog w) A.in1 (eqBool items[i] x) (fun r s' => r = false ∧ I s') (fun e s' => R (.error e) s') s)
    (fin : ∀ s, I s → R (.ok (.ret (.bool false))) s) (h : I s) :
    wpAny (model prog w) A.in1 (Builtin.«list.__contains__» ⟨[.ref l, x], []⟩) (FinOf prog w A R) (fun e s' => R (.error e) s') s := by
  obtain ⟨items, n, hl1, hs1, _⟩ := hl _ h
  have hrec := contains_loopF (A := A) (R := R) l x N I hl fin _ 0 rfl (Nat.zero_le _) s h
  obtain ⟨hp, g, d, tk, os⟩ := s
  wp_walk using wpAny_loadPart' hl1
  exact ⟨plainId_quiet plain_contains_loop _, codeAny_builtin entry_contains_loop (by
    rw [Around.under_plainId plain_contains_loop _]
    exact hrec)⟩
end
end GQ

set_option Elab.async false
set_option maxRecDepth 100000
set_option maxHeartbeats 4000000
namespace L2
open PySem PySem.Spec PyProof.Rows
set_option linter.unusedVariables false
/-- None, a list, a tuple or a dict with tuple keys -/
def NoTk (H : Hp) (v : V) : Prop := v = .non ∨ ∃ a, v = .ref a ∧ ((∃ xs, H a = some (.lst xs)) ∨ (∃ xs, H a = some (.tup xs)) ∨ ∃ kvs, H a = some (.dT kvs))
/-- the own class lies below none of the four -/
structure Beside (K : PySem.W.Frag) (C : Addr) : Prop where
  n : PySem.W.subIn K (.ref C) (.type "NoneType") = some false
  l : PySem.W.subIn K (.ref C) (.type "list") = some false
  t : PySem.W.subIn K (.ref C) (.type "tuple") = some false
  d : PySem.W.subIn K (.ref C) (.type "dict") = some false
def rInOwn (C : Addr) (sp : Sp) (E : XK) : R2 := fun x y H Q => ∃ a dx fs l ys, x = .ref a ∧ y = .ref l ∧ H a = some (.ins C dx fs) ∧ H l = some (.lst ys) ∧ (∀ v ∈ ys, NoTk H v ∧ sp [.ref a, v] H (fun r H' => r = .bl false ∧ H' = H) E) ∧ Q (.bl false) H
section
variable {X : Cx} {CX : CXT} {n : Nat} {f C : Addr} {fd : FuncData} {ps : List Str} {sp : Sp} {E : XK}
theorem eqBool_back {prog : Program} {w : World} {A : Around} {E : Value → Shared → Prop} {s : Shared} {y : Value} {x : Addr} {Q : Bool → Shared → Prop} (hy : y = .none ∨ ∃ b, y = .ref b ∧ b ≠ x)
    (h : wpAny (model prog w) A (richCompare .Eq y (.ref x)) (fun v s' => ∃ r, v = .bool r ∧ Q r s') E s) : wpAny (model prog w) A (eqBool y (.ref x)) Q E s := by
  rcases hy with rfl | ⟨b, rfl, hne⟩
  · unfold eqBool
    refine wpAny_holding ?_
    refine wpAny_ite_split (fun hab => absurd (eq_of_beq hab) (fun z => nomatch z)) (fun _ => ?_)
    refine wpAny_bind (wpAny_mono h (fun v s' hv => ?_) fun _ _ x => x)
    obtain ⟨r, rfl, q⟩ := hv
    exact wpAny_truthy_bool q
  · exact GQ.eqBool_refG hne h
theorem op_inOwn (G : FnOk X.prog X.w X.K X.mg X.base CX n f fd ps sp) (hs : PySem.W.findIn X.K (.ref C) "__eq__" = some (some (.ref f))) (hf : PySem.W.isFn X.K (.ref f) = true) (hb : Binds X.K fd ps []) (hB : Beside X.K C) (hr : Room (n + 1) X.A) (hx : Passes CX X E) : OpR X (compareOp .In) (rInOwn C sp E) := by
  intro pins s σ H x y v u Q I rx ry h
  obtain ⟨a, dx, fs, l, ys, rfl, rfl, ha, hl, hall, q⟩ := h
  cases (show v = Value.ref a from rx)
  cases (show u = Value.ref l from ry)
  have hu1 : X.A.in1.units < cLine := hr.in1.units0
  show wpAny (model X.prog X.w) X.A (do return .bool (← contains (.ref l) (.ref a))) (EP X pins σ Q) X.xe s
  obtain ⟨z0, its0, k0, r0, e0⟩ := I.hok l _ hl
  refine wpAny_bind (wpAny_contains_slot (T := "list") ⟨_, e0, rfl⟩ F.slot_list_contains (wpAny_mono (Q := fun v s' => v = .bool false ∧ Inv X pins σ H s') (GQ.call_here F.slot_list_contains ⟨_, e0, rfl⟩ F.entry_list_contains (F.args_list_contains_2 _ _) ?_) (fun v s' hv => ?_) fun _ _ e => e))
  case refine_2 =>
    obtain ⟨rfl, I'⟩ := hv
    exact wpAny_truthy_bool (wpAny_pure ⟨.bl false, H, I', rfl, q⟩)
  refine GQ.list_containsF l (.ref a) ys.length (fun s' => Inv X pins σ H s') (fun s' I' => ?_) (fun s' I' => ⟨rfl, I'⟩) I
  obtain ⟨z, its, k, r, e⟩ := I'.hok l _ hl
  refine ⟨its.toArray, k, e, by rw [List.size_toArray, ← r.length], fun i h1 => ?_⟩
  have h1' : i < its.length := by simpa using h1
  have k1 : i < ys.length := by rw [r.length]; exact h1'
  obtain ⟨u, hu, ru⟩ := r.get (List.getElem?_eq_getElem k1)
  have eu : its.toArray[i] = u := by
    have g1 : its[i]? = some its.toArray[i] := by
      rw [List.getElem?_eq_getElem h1'] <;> simp
    exact Option.some.inj (g1.symm.trans hu)
  rw [eu]
  obtain ⟨hn, hsp⟩ := hall _ (List.getElem_mem k1)
  generalize ys[i] = y at hn hsp ru
  obtain ⟨mA, J, _⟩ := ins_get I'.hok ha
  obtain ⟨od, J, _⟩ := J.look
  obtain ⟨m, hF⟩ := I'.fr
  have XK := I'.ok.mod.kin.keeps hF.keep
  -- the own ==
  have own : wpAny (model X.prog X.w) X.A.in1 (call (.ref f) [.ref a, u]) (PySem.W.CmpBack fun v s' => ∃ r, v = .bool r ∧ (r = false ∧ Inv X pins σ H s')) X.xe s' := by
    have hl := G.len _ _ _ _ hsp
    have r2 : Vals [V.ref a, y] [Value.ref a, u] := .cons rfl (.cons ru .nil)
    have e0 : Env0 X.prog X.w X.K X.mg X.base X.A.in1 X.stack s' H := I'.env0.in1
    refine wpAny_call (codeAny_mono (G.run X.A.in1 X.stack s' H ⟨[.ref a, u], []⟩ [.ref a, u] [.ref a, y] _ E hr.in1 e0 (by
      have := hb s' [.ref a, u] I'.kIn (by simpa using hl)
      simpa using this) r2 hsp) fun r s2 hq => ?_)
    cases r with
    | error e => exact hx pins σ H s' e s2 I' hq
    | ok fl =>
      cases fl with
      | ret w =>
        obtain ⟨z, H', I2, rz, ez, eh⟩ := I'.after hq
        subst ez
        subst eh
        cases rz
        exact ⟨false, rfl, rfl, I2⟩
      | next => exact False.elim hq
      | brk => exact False.elim hq
      | cont => exact False.elim hq
  rcases hn with rfl | ⟨b, rfl, ⟨xs, hb'⟩ | ⟨xs, hb'⟩ | ⟨kvs, hb'⟩⟩
  · cases ru
    exact eqBool_back (.inl rfl) (PySem.W.rc_back (T := "NoneType") hu1 hF I'.ok.mod.kin J rfl hB.n F.slot_NoneType_eq (GQ.call_here F.slot_NoneType_eq rfl F.entry_NoneType_eq (F.args_NoneType_eq_2 _ _) (GQ.none_decl ⟨rfl, rfl⟩)) hs hf own)
  all_goals
    cases ru
    have nba : Value.ref b = .none ∨ ∃ b', Value.ref b = .ref b' ∧ b' ≠ a := .inr ⟨b, rfl, ne_of hb' ha (fun z => by cases z)⟩
  · obtain ⟨_, its2, k2, _, e2⟩ := I'.hok b _ hb'
    exact eqBool_back nba (PySem.W.rc_back (T := "list") hu1 hF I'.ok.mod.kin J ⟨_, e2, rfl⟩ hB.l F.slot_list_eq (GQ.call_here F.slot_list_eq ⟨_, e2, rfl⟩ F.entry_list_eq (F.args_list_eq_2 _ _) (GQ.list_decl (J.type.andThen (PySem.W.looks_subIn XK hB.l)) ⟨rfl, rfl⟩)) hs hf own)
  · obtain ⟨_, _, _, o, e2, c2, _⟩ := (show ObjOk X.prog X.w H s'.heap b (.tup xs) from I'.hok b _ hb')
    exact eqBool_back nba (PySem.W.rc_back (T := "tuple") hu1 hF I'.ok.mod.kin J ⟨_, e2, c2⟩ hB.t F.slot_tuple_eq (GQ.call_here F.slot_tuple_eq ⟨_, e2, c2⟩ F.entry_tuple_eq (F.args_tuple_eq_2 _ _) (GQ.tuple_decl (J.type.andThen (PySem.W.looks_subIn XK hB.t)) ⟨rfl, rfl⟩)) hs hf own)
  · obtain ⟨_, _, _, _, o, es, ep, e2, c2, _⟩ := (show ObjOk X.prog X.w H s'.heap b (.dT kvs) from I'.hok b _ hb')
    exact eqBool_back nba (PySem.W.rc_back (T := "dict") hu1 hF I'.ok.mod.kin J ⟨_, e2, c2.1⟩ hB.d F.slot_dict_eq (GQ.call_here F.slot_dict_eq ⟨_, e2, c2.1⟩ F.entry_dict_eq (F.args_dict_eq_2 _ _) (GQ.dict_decl ⟨_, e2, c2.1⟩ (J.type.andThen (PySem.W.looks_subIn XK hB.d)) ⟨rfl, rfl⟩)) hs hf own)
end
end L2

set_option Elab.async false
set_option maxRecDepth 100000
set_option maxHeartbeats 4000000
namespace TA
open PySem L2 PyProof.Rows
set_option linter.unusedVariables false
def top (i : Nat) : Stmt := PySem.Challenge.pw_twoalone_k01_tasks_told.main.body.getD i (.Pass ⟨0, 0, 0, 0⟩)
abbrev sWhole : Stmt := top 2
abbrev sWithin : Stmt := top 3
abbrev sHand : Stmt := top 4
abbrev s_is_rising : Stmt := top 5
abbrev s_AloneError : Stmt := top 7
abbrev s_NoTask : Stmt := top 8
abbrev s_NoHand : Stmt := top 9
abbrev s_is_output : Stmt := top 12
abbrev s_is_outputs : Stmt := top 13
abbrev s_is_rows : Stmt := top 14
abbrev s_is_alone : Stmt := top 15
abbrev s_is_output_pair : Stmt := top 16
abbrev s_is_let : Stmt := top 17
abbrev s_is_input_pair : Stmt := top 18
abbrev s_each_comes : Stmt := top 19
abbrev s_is_both : Stmt := top 20
abbrev s_Task : Stmt := top 21
abbrev sCell : Stmt := top 23
abbrev s__law_digit : Stmt := top 24
abbrev s__law_few : Stmt := top 25
abbrev s__law_outs : Stmt := top 26
abbrev s__law_parts : Stmt := top 27
abbrev s__law_no_hand : Stmt := top 28
abbrev s__law_changed : Stmt := top 29
abbrev sLaw : Stmt := top 30
structure Def (P : Program) (w : World) (K : PySem.W.Frag) (mg : Str → Option Value) (base : Heap) (x : Str) (ps : List Str) (k : Nat) (sp : Sp) (f : Addr) (fd : FuncData) : Prop where
  G : FnOk P w K mg base CX0 k f fd ps sp
  b : Binds K fd ps []
  k : PySem.W.keepIn K (.ref f) = true
  m : mg x = some (.ref f)
def isN : PyData → Bool
  | .none => true
  | _ => false
structure Txt (K : PySem.W.Frag) (mg : Str → Option Value) : Prop where
  isi : mg "isinstance" = none
  int : mg "int" = none
  bool : mg "bool" = none
  len : mg "len" = none
  range : mg "range" = none
  list : mg "list" = none
  tuple : mg "tuple" = none
  all : mg "all" = none
  sum : mg "sum" = none
  min : mg "min" = none
theorem same_new {H : Hp} {p : Addr} (h : H p = none) (o : HO) : Same H (upd H p o) := fun b u q => by rw [upd_ne (ne_of_none q h)]; exact q

theorem iteT' {c : Bool} {A B : Prop} (e : c = true) (a : A) : if c = true then A else B := by rw [if_pos e]; exact a
theorem iteF' {c : Bool} {A B : Prop} (e : c = false) (b : B) : if c = true then A else B := by rw [e]; exact b
theorem join2 {b : Bool} {X : Prop} {R : L2.St → Hp → Prop} {σ : L2.St} {H : Hp} (Iv : L2.St → Hp → Prop) (h0 : Iv σ H) (k : ∀ σ Hc, Iv σ Hc → R σ Hc) (h1 : b = true → (∀ σ Hc, Iv σ Hc → R σ Hc) → X) : if b = true then X else R σ H := by
  cases b with
  | false => exact iteF (k σ H h0)
  | true => exact iteT (h1 rfl k)
/-! things of any kind, by their data -/
def tyN : PyData → String
  | .none => "NoneType"
  | .bool _ => "bool"
  | .int _ => "int"
  | .str _ => "str"
  | .list _ => "list"
  | .tuple _ => "tuple"
  | .dict _ => "dict"
theorem sqT_ty {K : PySem.W.Frag} {H : Hp} {a : Addr} {xs : List V} (h : SqT K H a xs) : TyX K H (.ref a) (.type "tuple") := by
  rcases h with h | ⟨o, its, n, h1, h2, _⟩
  · rcases h with h | ⟨o, h⟩
    · exact .base (.tup h)
    · exact .fTuple h
  · exact .kTuple h1 h2
theorem sqL_ty {K : PySem.W.Frag} {H : Hp} {a : Addr} {xs : List V} (h : SqL K H a xs) : TyX K H (.ref a) (.type "list") := by
  rcases h with h | ⟨o, its, n, h1, h2, _⟩
  · rcases h with h | ⟨o, h⟩
    · exact .base (.lst h)
    · exact .base (.frz h)
  · exact .kList h1 h2
theorem dp_ty {K : PySem.W.Frag} {H : Hp} {v : V} {d : PyData} (h : Dp K H v d) : TyX K H v (.type (tyN d)) := by
  cases h with
  | non => exact .base .non
  | bl b => exact .base (.bl b)
  | int i => exact .base (.int i)
  | str x => exact .base (.str x)
  | lst h _ => exact sqL_ty h
  | tup h _ => exact sqT_ty h
theorem dp_non {K : PySem.W.Frag} {H : Hp} {v : V} {d : PyData} (h : Dp K H v d) : decide (v = .non) = isN d := by
  cases h <;> rfl
def isWholeD : PyData → Bool
  | .int _ => true
  | _ => false
def isTupD : PyData → Bool
  | .tuple _ => true
  | _ => false
def within : PyData → Int → Int → Bool
  | .int n, lo, hi => decide (lo ≤ n ∧ n ≤ hi)
  | _, _, _ => false
theorem kit_int (d : PyData) {K : PySem.W.Frag} : ∃ b1 b2, PySem.W.kitOne K (.type (tyN d)) (.type "int") = some b1 ∧ PySem.W.kitOne K (.type (tyN d)) (.type "bool") = some b2 ∧ isWholeD d = (b1 && !b2) := by
  cases d with
  | none => exact ⟨false, false, kit_ty (a := "NoneType") (b := "int") (by decide +kernel), kit_ty (a := "NoneType") (b := "bool") (by decide +kernel), rfl⟩
  | bool b => exact ⟨true, true, kit_ty (a := "bool") (b := "int") (by decide +kernel), kit_ty (a := "bool") (b := "bool") (by decide +kernel), rfl⟩
  | int i => exact ⟨true, false, kit_ty (a := "int") (b := "int") (by decide +kernel), kit_ty (a := "int") (b := "bool") (by decide +kernel), rfl⟩
  | str s => exact ⟨false, false, kit_ty (a := "str") (b := "int") (by decide +kernel), kit_ty (a := "str") (b := "bool") (by decide +kernel), rfl⟩
  | list l => exact ⟨false, false, kit_ty (a := "list") (b := "int") (by decide +kernel), kit_ty (a := "list") (b := "bool") (by decide +kernel), rfl⟩
  | tuple l => exact ⟨false, false, kit_ty (a := "tuple") (b := "int") (by decide +kernel), kit_ty (a := "tuple") (b := "bool") (by decide +kernel), rfl⟩
  | dict l => exact ⟨false, false, kit_ty (a := "dict") (b := "int") (by decide +kernel), kit_ty (a := "dict") (b := "bool") (by decide +kernel), rfl⟩
theorem kit_tup (d : PyData) {K : PySem.W.Frag} : PySem.W.kitOne K (.type (tyN d)) (.type "tuple") = some (isTupD d) := by
  cases d with
  | none => exact (show PySem.W.kitOne K (.type "NoneType") (.type "tuple") = some false from kit_ty (a := "NoneType") (b := "tuple") (by decide +kernel))
  | bool b => exact (show PySem.W.kitOne K (.type "bool") (.type "tuple") = some false from kit_ty (a := "bool") (b := "tuple") (by decide +kernel))
  | int i => exact (show PySem.W.kitOne K (.type "int") (.type "tuple") = some false from kit_ty (a := "int") (b := "tuple") (by decide +kernel))
  | str s => exact (show PySem.W.kitOne K (.type "str") (.type "tuple") = some false from kit_ty (a := "str") (b := "tuple") (by decide +kernel))
  | list l => exact (show PySem.W.kitOne K (.type "list") (.type "tuple") = some false from kit_ty (a := "list") (b := "tuple") (by decide +kernel))
  | tuple l => exact (show PySem.W.kitOne K (.type "tuple") (.type "tuple") = some true from kit_ty (a := "tuple") (b := "tuple") (by decide +kernel))
  | dict l => exact (show PySem.W.kitOne K (.type "dict") (.type "tuple") = some false from kit_ty (a := "dict") (b := "tuple") (by decide +kernel))
theorem dp_tup {K : PySem.W.Frag} {H : Hp} {v : V} {ds : List PyData} (h : Dp K H v (.tuple ds)) : ∃ a xs, v = .ref a ∧ SqT K H a xs ∧ DpAll K H xs ds := by
  cases h with
  | tup h1 h2 => exact ⟨_, _, rfl, h1, h2⟩
theorem dpAll_len {K : PySem.W.Frag} {H : Hp} : ∀ {vs : List V} {ds : List PyData}, DpAll K H vs ds → vs.length = ds.length
  | _, _, .nil => rfl
  | _, _, .cons _ b => congrArg (· + 1) (dpAll_len b)
theorem rd_mono {H H' : Hp} (s : Same H H') {a : Addr} {o : HO} (h : Rd H a o) : Rd H' a o := by
  rcases h with h | ⟨ob, h⟩
  · exact .inl (s _ _ h)
  · exact .inr ⟨ob, s _ _ h⟩
theorem seqT_mono {K : PySem.W.Frag} {H H' : Hp} (s : Same H H') {a : Addr} {xs : List V} (h : SqT K H a xs) : SqT K H' a xs := by
  rcases h with h | h
  · exact .inl (rd_mono s h)
  · exact .inr h
mutual
theorem dp_mono {K : PySem.W.Frag} {H H' : Hp} (s : Same H H') : ∀ (d : PyData) (v : V), Dp K H v d → Dp K H' v d
  | .none, _, h => by cases h; exact .non
  | .bool b, _, h => by cases h; exact .bl b
  | .int i, _, h => by cases h; exact .int i
  | .str x, _, h => by cases h; exact .str x
  | .list ds, _, h => by
    cases h with
    | lst a b => exact .lst (s.seq a) (dpAll_mono s ds _ b)
  | .tuple ds, _, h => by
    cases h with
    | tup a b => exact .tup (seqT_mono s a) (dpAll_mono s ds _ b)
  | .dict _, _, h => by cases h
theorem dpAll_mono {K : PySem.W.Frag} {H H' : Hp} (s : Same H H') : ∀ (ds : List PyData) (vs : List V), DpAll K H vs ds → DpAll K H' vs ds
  | [], _, h => by cases h; exact .nil
  | d :: ds, _, h => by
    cases h with
    | cons a b => exact .cons (dp_mono s d _ a) (dpAll_mono s ds _ b)
end
def spWholeG (K : PySem.W.Frag) : Sp := fun vs H Q _ => ∃ (v : V) (d : PyData), vs = [v] ∧ Dp K H v d ∧ Q (.bl (isWholeD d)) H
def spWithinG (K : PySem.W.Frag) : Sp := fun vs H Q _ => ∃ (v : V) (d : PyData) (lo hi : Int), vs = [v, .int lo, .int hi] ∧ Dp K H v d ∧ Q (.bl (within d lo hi)) H
def spHandG (K : PySem.W.Frag) : Sp := fun vs H Q _ => ∃ (v : V) (d : PyData), vs = [v] ∧ Dp K H v d ∧ Q (.bl (within d 0 1)) H
/-! a walk of n turns, whatever is walked: the word Pv is kept from turn to turn -/
theorem turns {J : It} (n : Nat) {H0 : Hp} {Qd : Hp → Prop} {B : (Hp → Prop) → V → Hp → Prop} (Pv : Nat → Hp → Prop) (start : Pv 0 H0) (last : ∀ H, Pv n H → J.stop n H ∧ Qd H)
    (turn : ∀ i H, i < n → Pv i H → J.go i H ∧ ∀ x H', J.yld i H x H' → B (Pv (i + 1)) x H') :
    ∃ W : Nat → Nat → Hp → Prop, (∃ m, W 0 m H0) ∧ ∀ i m H, W i m H →
      (J.stop i H ∧ Qd H) ∨ (J.go i H ∧ ∃ Nx : Hp → Prop, (∀ H', Nx H' → ∃ m', m' < m ∧ W (i + 1) m' H') ∧ ∀ x H', J.yld i H x H' → B Nx x H') := by
  refine ⟨fun i m H => i + m = n ∧ Pv i H, ⟨n, by omega, start⟩, fun i m H h => ?_⟩
  obtain ⟨hm, word⟩ := h
  cases m with
  | zero =>
    have hin : i = n := by omega
    rw [hin] at word ⊢
    exact Or.inl (last H word)
  | succ m =>
    obtain ⟨go, step⟩ := turn i H (by omega) word
    exact Or.inr ⟨go, Pv (i + 1), fun H' w' => ⟨m, by omega, by omega, w'⟩, step⟩
theorem list_turns {K : PySem.W.Frag} {a : Addr} {xs : List V} {H0 : Hp} {Qd : Hp → Prop} {B : (Hp → Prop) → V → Hp → Prop} (Pv : Nat → Hp → Prop) (start : Pv 0 H0) (still : ∀ i H, i ≤ xs.length → Pv i H → SqL K H a xs)
    (turn : ∀ i x H, xs[i]? = some x → Pv i H → B (Pv (i + 1)) x H) (last : ∀ H, Pv xs.length H → Qd H) :
    ∃ W : Nat → Nat → Hp → Prop, (∃ m, W 0 m H0) ∧ ∀ i m H, W i m H →
      ((Itl K a).stop i H ∧ Qd H) ∨ ((Itl K a).go i H ∧ ∃ Nx : Hp → Prop, (∀ H', Nx H' → ∃ m', m' < m ∧ W (i + 1) m' H') ∧ ∀ x H', (Itl K a).yld i H x H' → B Nx x H') :=
  turns xs.length Pv start (fun H w => ⟨⟨xs, still _ H (Nat.le_refl _) w, Nat.le_refl _⟩, last H w⟩) fun i H hi w =>
    have there := still i H (Nat.le_of_lt hi) w
    ⟨⟨xs, xs[i], there, List.getElem?_eq_getElem hi⟩, fun x H' ⟨same, given⟩ => by rw [same]; exact turn i x H (given xs there) w⟩
theorem tup_turns {K : PySem.W.Frag} {a : Addr} {xs : List V} {H0 : Hp} {Qd : Hp → Prop} {B : (Hp → Prop) → V → Hp → Prop} (Pv : Nat → Hp → Prop) (start : Pv 0 H0) (still : ∀ i H, i ≤ xs.length → Pv i H → SqT K H a xs)
    (turn : ∀ i x H, xs[i]? = some x → Pv i H → B (Pv (i + 1)) x H) (last : ∀ H, Pv xs.length H → Qd H) :
    ∃ W : Nat → Nat → Hp → Prop, (∃ m, W 0 m H0) ∧ ∀ i m H, W i m H →
      ((Itt K a).stop i H ∧ Qd H) ∨ ((Itt K a).go i H ∧ ∃ Nx : Hp → Prop, (∀ H', Nx H' → ∃ m', m' < m ∧ W (i + 1) m' H') ∧ ∀ x H', (Itt K a).yld i H x H' → B Nx x H') :=
  turns xs.length Pv start (fun H w => ⟨⟨xs, still _ H (Nat.le_refl _) w, Nat.le_refl _⟩, last H w⟩) fun i H hi w =>
    have there := still i H (Nat.le_of_lt hi) w
    ⟨⟨xs, xs[i], there, List.getElem?_eq_getElem hi⟩, fun x H' ⟨same, given⟩ => by rw [same]; exact turn i x H (given xs there) w⟩
theorem range_turns {lo : Int} {n : Nat} {H0 : Hp} {Qd : Hp → Prop} {B : (Hp → Prop) → V → Hp → Prop} (Pv : Nat → Hp → Prop) (start : Pv 0 H0)
    (turn : ∀ i H, i < n → Pv i H → B (Pv (i + 1)) (.int (lo + i)) H) (last : ∀ H, Pv n H → Qd H) :
    ∃ W : Nat → Nat → Hp → Prop, (∃ m, W 0 m H0) ∧ ∀ i m H, W i m H →
      ((Itr lo n).stop i H ∧ Qd H) ∨ ((Itr lo n).go i H ∧ ∃ Nx : Hp → Prop, (∀ H', Nx H' → ∃ m', m' < m ∧ W (i + 1) m' H') ∧ ∀ x H', (Itr lo n).yld i H x H' → B Nx x H') :=
  turns n Pv start (fun H w => ⟨Nat.le_refl _, last H w⟩) fun i H hi w => ⟨hi, fun x H' ⟨same, given⟩ => by rw [same, given]; exact turn i H hi w⟩
theorem small13 {n : Nat} (h : n ≤ 100000) : n ≤ sizeLine := Nat.le_trans h (by decide)

section
variable {P : Program} {w : World} {K : PySem.W.Frag} {mg : Str → Option Value} {base : Heap}
theorem scWhole : FnScope ["thing"] ["thing"] (defScope sWhole) := ⟨rfl, rfl, rfl, by decide +kernel, rfl, by decide +kernel, by decide +kernel⟩
theorem scWithin : FnScope ["thing", "least", "most"] ["thing", "least", "most"] (defScope sWithin) := ⟨rfl, rfl, rfl, by decide +kernel, rfl, by decide +kernel, by decide +kernel⟩
theorem scHand : FnScope ["thing"] ["thing"] (defScope sHand) := ⟨rfl, rfl, rfl, by decide +kernel, rfl, by decide +kernel, by decide +kernel⟩
theorem ok_wholeG {f : Addr} {fd : FuncData} (F : Fun K "is_whole" "is_whole" sWhole f fd) (T : Txt K mg) : FnOk P w K mg base CX0 1 f fd ["thing"] (spWholeG K) := by
  refine F.ok scWhole (fun vs H Q E h => ?_) (fun cdv A outer s H vs Q E hr h => ?_)
  · obtain ⟨v, d, rfl, _⟩ := h
    rfl
  obtain ⟨v, d, rfl, hk, q⟩ := h
  refine ⟨_, pss_one (ps_ret (pe_and (pe_callB call_isi (by rfl) T.isi boot_isinstance (pa_cons (pv 0) (pa_cons (pe_bltn (v := .ty "int") (by rfl) T.int boot_int rfl) pa_nil)))
    (pe_one (pe_not (pe_callB call_isi (by rfl) T.isi boot_isinstance (pa_cons (pv 0) (pa_cons (pe_bltn (v := .ty "bool") (by rfl) T.bool boot_bool rfl) pa_nil))))))), ?_⟩
  obtain ⟨b1, b2, e1, e2, e3⟩ := kit_int d (K := K)
  rw [e3] at q
  refine ⟨_, rfl, v, V.ty "int", _, _, b1, rfl, .ty "int", (dp_ty hk), e1, b1, rfl, ?_⟩
  cases b1 with
  | false => exact iteF q
  | true => exact iteT ⟨_, rfl, v, V.ty "bool", _, _, b2, rfl, .ty "bool", (dp_ty hk), e2, b2, rfl, q⟩
theorem ok_withinG {f g : Addr} {fd gd : FuncData} (F : Fun K "is_whole_within" "is_whole_within" sWithin f fd) (W : Def P w K mg base "is_whole" ["thing"] 1 (spWholeG K) g gd) : FnOk P w K mg base CX0 2 f fd ["thing", "least", "most"] (spWithinG K) := by
  refine F.ok scWithin (fun vs H Q E h => ?_) (fun cdv A outer s H vs Q E hr h => ?_)
  · obtain ⟨v, d, lo, hi, rfl, _⟩ := h
    rfl
  obtain ⟨v, d, lo, hi, rfl, hk, q⟩ := h
  refine ⟨_, pss_one (ps_ret (pe_and (pe_call W.G hr rfl W.m W.k W.b .nil pass0 (pa_cons (pv 0) pa_nil)) (pe_one (pe_chain op_le op_le (pv 1) (pv 0) (pv 2))))), ?_⟩
  refine ⟨_, rfl, v, d, rfl, hk, isWholeD d, rfl, ?_⟩
  by_cases hw : ∃ n, d = .int n
  · obtain ⟨n, rfl⟩ := hw
    have ev : v = .int n := by
      cases hk; rfl
    subst ev
    refine iteT ⟨_, rfl, _, rfl, _, _, rfl, rfl, _, rfl, ?_⟩
    by_cases h1 : lo ≤ n
    · rw [decide_eq_true h1]
      refine iteT ⟨_, rfl, _, _, rfl, rfl, ?_⟩
      have e : within (.int n) lo hi = decide (n ≤ hi) := by unfold within; simp [h1]
      rw [e] at q
      exact q
    · rw [decide_eq_false h1]
      refine iteF ?_
      have e : within (.int n) lo hi = false := by unfold within; simp [h1]
      rw [e] at q
      exact q
  · have e1 : isWholeD d = false := by
      cases d with
      | int n => exact absurd ⟨n, rfl⟩ hw
      | _ => rfl
    have e2 : within d lo hi = false := by
      cases d with
      | int n => exact absurd ⟨n, rfl⟩ hw
      | _ => rfl
    rw [e1]
    rw [e2] at q
    exact iteF q
theorem ok_handG {f g : Addr} {fd gd : FuncData} (F : Fun K "is_hand" "is_hand" sHand f fd) (W : Def P w K mg base "is_whole_within" ["thing", "least", "most"] 2 (spWithinG K) g gd) : FnOk P w K mg base CX0 3 f fd ["thing"] (spHandG K) := by
  refine F.ok scHand (fun vs H Q E h => ?_) (fun cdv A outer s H vs Q E hr h => ?_)
  · obtain ⟨v, d, rfl, _⟩ := h
    rfl
  obtain ⟨v, d, rfl, hk, q⟩ := h
  refine ⟨_, pss_one (ps_ret (pe_call W.G hr rfl W.m W.k W.b .nil pass0 (pa_cons (pv 0) (pa_cons pe_int (pa_cons pe_int pa_nil))))), ?_⟩
  exact ⟨_, rfl, v, d, 0, 1, rfl, hk, q⟩
end
end TA

set_option Elab.async false
set_option maxRecDepth 100000
set_option maxHeartbeats 4000000
namespace TA
open PySem L2 PyProof.Rows
set_option linter.unusedVariables false
/-! a task's parts, of any data -/
theorem dpAll_get {K : PySem.W.Frag} {H : Hp} : ∀ {vs : List V} {ds : List PyData} {i : Nat} {x : V}, DpAll K H vs ds → vs[i]? = some x → ∃ d, ds[i]? = some d ∧ Dp K H x d
  | _, _, _, _, .nil, e => by simp at e
  | _, _, 0, _, .cons a b, e => ⟨_, rfl, by simp at e; rw [← e]; exact a⟩
  | _, _, i + 1, x, .cons a b, e => by
    obtain ⟨d, h1, h2⟩ := dpAll_get (i := i) (x := x) b (by simpa using e)
    exact ⟨d, by simpa using h1, h2⟩
theorem same_upd {H0 H : Hp} {p : Addr} {o : HO} (s : Same H0 H) (f : H0 p = none) : Same H0 (upd H p o) := fun b u e => by
  rw [upd_ne (ne_of_none e f)]
  exact s _ _ e
theorem take_bl (bs : List Bool) {i : Nat} {b : Bool} (h : bs[i]? = some b) : (bs.take i).map V.bl ++ [V.bl b] = (bs.take (i + 1)).map V.bl := by
  rw [List.take_add_one, h, List.map_append]
  rfl
def isLstD : PyData → Bool
  | .list _ => true
  | _ => false
theorem kit_lst (d : PyData) {K : PySem.W.Frag} : PySem.W.kitOne K (.type (tyN d)) (.type "list") = some (isLstD d) := by
  cases d with
  | none => exact (show PySem.W.kitOne K (.type "NoneType") (.type "list") = some false from kit_ty (by decide +kernel))
  | bool b => exact (show PySem.W.kitOne K (.type "bool") (.type "list") = some false from kit_ty (by decide +kernel))
  | int b => exact (show PySem.W.kitOne K (.type "int") (.type "list") = some false from kit_ty (by decide +kernel))
  | str b => exact (show PySem.W.kitOne K (.type "str") (.type "list") = some false from kit_ty (by decide +kernel))
  | list b => exact (show PySem.W.kitOne K (.type "list") (.type "list") = some true from kit_ty (by decide +kernel))
  | tuple b => exact (show PySem.W.kitOne K (.type "tuple") (.type "list") = some false from kit_ty (by decide +kernel))
  | dict b => exact (show PySem.W.kitOne K (.type "dict") (.type "list") = some false from kit_ty (by decide +kernel))
/-- what stands in a list of ints, one behind the other -/
def risI (ns : List Int) : Bool := ((List.range (ns.length - 1)).map fun i => decide (ns.getD i 0 < ns.getD (i + 1) 0)).all id
def intsOf : List PyData → List Int := List.map fun d => match d with
  | .int i => i
  | _ => 0
def outB (d : PyData) : Bool := within d 0 63
def outsB : PyData → Bool
  | .list ds => decide (0 < ds.length) && ((ds.map outB).all id && risI (intsOf ds))
  | _ => false
def rowsB : PyData → Bool
  | .list ds => decide (0 < ds.length) && (ds.map outsB).all id
  | _ => false
def aloneB : PyData → Bool
  | .list ds => decide (ds.length = 2) && (ds.map rowsB).all id
  | _ => false
theorem outs_ints {K : PySem.W.Frag} {H : Hp} : ∀ {ds : List PyData} {vs : List V}, DpAll K H vs ds → (ds.map outB).all id = true → vs = (intsOf ds).map V.int
  | [], _, h, _ => by cases h; rfl
  | d :: ds, _, h, a => by
    rw [List.map_cons, List.all_cons] at a
    obtain ⟨a1, a2⟩ := Bool.and_eq_true_iff.mp a
    cases h with
    | cons h1 h2 =>
      cases d with
      | int i =>
        cases h1
        rw [outs_ints h2 a2]
        rfl
      | _ => exact Bool.noConfusion (show false = true from a1)
def spOut (K : PySem.W.Frag) : Sp := fun vs H Q _ => ∃ (v : V) (d : PyData), vs = [v] ∧ Dp K H v d ∧ Q (.bl (outB d)) H
def spRisI (K : PySem.W.Frag) : Sp := fun vs H Q _ => ∃ (p : Addr) (ns : List Int), vs = [.ref p] ∧ SqL K H p (ns.map V.int) ∧ 1 ≤ ns.length ∧ ns.length ≤ 1000 ∧ ∀ H', Same H H' → Q (.bl (risI ns)) H'
def small (d : PyData) : Prop := ∀ ds, d = .list ds → ds.length ≤ 1000
def spOuts (K : PySem.W.Frag) : Sp := fun vs H Q _ => ∃ (v : V) (d : PyData), vs = [v] ∧ Dp K H v d ∧ small d ∧ ∀ H', Same H H' → Q (.bl (outsB d)) H'
def spRows (K : PySem.W.Frag) : Sp := fun vs H Q _ => ∃ (v : V) (d : PyData), vs = [v] ∧ Dp K H v d ∧ small d ∧ (∀ ds, d = .list ds → ∀ e ∈ ds, small e) ∧ ∀ H', Same H H' → Q (.bl (rowsB d)) H'
def spAlone (K : PySem.W.Frag) : Sp := fun vs H Q _ => ∃ (v : V) (d : PyData), vs = [v] ∧ Dp K H v d ∧ small d ∧ (∀ ds, d = .list ds → ∀ e ∈ ds, small e ∧ ∀ es, e = .list es → ∀ g ∈ es, small g) ∧ ∀ H', Same H H' → Q (.bl (aloneB d)) H'
section
variable {P : Program} {w : World} {K : PySem.W.Frag} {mg : Str → Option Value} {base : Heap}
theorem scOut : FnScope ["thing"] ["thing"] (defScope s_is_output) := ⟨rfl, rfl, rfl, by decide +kernel, rfl, by decide +kernel, by decide +kernel⟩
theorem ok_out {f g : Addr} {fd gd : FuncData} {t63 : Tok} (F : Fun K "is_output" "is_output" s_is_output f fd) (m63 : mg "MOST_OUTPUT" = some (.int 63 t63)) (W : Def P w K mg base "is_whole_within" ["thing", "least", "most"] 2 (spWithinG K) g gd) : FnOk P w K mg base CX0 3 f fd ["thing"] (spOut K) := by
  refine F.ok scOut (fun vs H Q E h => ?_) (fun cdv A outer s H vs Q E hr h => ?_)
  · obtain ⟨v, d, rfl, _⟩ := h
    rfl
  obtain ⟨v, d, rfl, hk, q⟩ := h
  refine ⟨_, pss_one (ps_ret (pe_call W.G hr rfl W.m W.k W.b .nil pass0 (pa_cons (pv 0) (pa_cons pe_int (pa_cons (pe_glob (v := .int 63) rfl m63 ⟨_, rfl⟩) pa_nil))))), ?_⟩
  exact ⟨_, rfl, v, d, 0, 63, rfl, hk, q⟩
theorem scRis : FnScope ["things", "at"] ["things"] (defScope s_is_rising) := ⟨rfl, rfl, rfl, by decide +kernel, rfl, by decide +kernel, by decide +kernel⟩
theorem ok_risI {f : Addr} {fd : FuncData} (F : Fun K "is_rising" "is_rising" s_is_rising f fd) (T : Txt K mg) : FnOk P w K mg base CX0 1 f fd ["things"] (spRisI K) := by
  refine F.ok scRis (fun vs H Q E h => ?_) (fun cdv A outer s H vs Q E hr h => ?_)
  · obtain ⟨p, ns, rfl, _⟩ := h
    rfl
  obtain ⟨p, ns, rfl, hS, n1, n2, q⟩ := h
  have nd := scRis.nd
  refine ⟨_, pss_one (ps_ret (pe_callB (cr_all rfl) (by rfl) T.all (by decide +kernel) (pa_cons
      (pe_lc (own := [("at", 1)]) (g := gName 1) (tt := tYes) (te := tOp (rI0 fun i j => .bl (decide (i < j))) (tOp (rIxL K) (tVar 0) (tVar 1)) (tOp (rIxL K) (tVar 0) (tOp (rI0 fun i j => .int (i + j)) (tVar 1) (tC (.int 1))))) rfl nd
        (pi_range1 (by rfl) T.range (pa_cons (pe_op op_sub (pe_callB call_len_seq (by rfl) T.len PySem.boot_len (pa_cons (pv 0) pa_nil)) pe_int) pa_nil))
        (blkOk_by (N := ["things", "at"]) (sc := defScope s_is_rising) (by decide +kernel)) (fun _ _ _ _ _ => pg_name (i := 1) nd rfl (Or.inl rfl)) (fun _ _ _ _ _ => pts_nil)
        (fun _ _ _ _ _ => (by refine pe_cmpR op_lt ?_ ?_ (nomark _); (exact pe_ix ix_list (pv 0) (pv 1) (fun _ _ => rfl)); (exact pe_ix ix_list (pv 0) (pe_op op_add (pv 1) pe_int) (fun _ _ => rfl))))) pa_nil))), ?_⟩
  refine ⟨_, rfl, p, _, rfl, .inl hS, _, _, rfl, rfl, ?_⟩
  rw [List.length_map]
  have e1 : ((ns.length : Nat) : Int) - 1 = ((ns.length - 1 : Nat) : Int) := by omega
  refine ⟨((ns.length - 1 : Nat) : Int), congrArg (fun z => [V.int z]) e1, by omega, by omega, fun D hD => ?_⟩
  refine range_turns (n := ns.length - 1) (fun i H' => Same H H' ∧ H' D = some (.lst ((((List.range (ns.length - 1)).map fun i => decide (ns.getD i 0 < ns.getD (i + 1) 0)).take i).map V.bl))) ⟨same_new hD _, upd_same⟩ ?_ ?_
  · rintro i H' hi ⟨s1, h1⟩
    have ei : (0 : Int) + (i : Int) = (i : Int) := by omega
    rw [ei]
    have g0 : ns[i]? = some (ns.getD i 0) := by rw [List.getD_eq_getElem?_getD, List.getElem?_eq_getElem (by omega)]; rfl
    have g1 : ns[i + 1]? = some (ns.getD (i + 1) 0) := by rw [List.getD_eq_getElem?_getD, List.getElem?_eq_getElem (by omega)]; rfl
    have hb : ((List.range (ns.length - 1)).map fun i => decide (ns.getD i 0 < ns.getD (i + 1) 0))[i]? = some (decide (ns.getD i 0 < ns.getD (i + 1) 0)) := by
      rw [List.getElem?_map, List.getElem?_range hi]; rfl
    refine ⟨rfl, _, rfl, _, rfl, p, _, _, _, rfl, rfl, s1.seq hS, atI_nat (by rw [List.getElem?_map, g0]; rfl), _, rfl, _, rfl, _, _, rfl, rfl, p, _, _, _, rfl, rfl, s1.seq hS, (by rw [show (i : Int) + 1 = ((i + 1 : Nat) : Int) by omega]; exact atI_nat (by rw [List.getElem?_map, g1]; rfl)), _, _, rfl, rfl, _, h1, ?_, same_upd s1 hD, by rw [upd_same, take_bl _ hb]⟩
    rw [List.length_map]
    exact Nat.lt_of_le_of_lt (List.length_take_le _ _) (Nat.lt_of_lt_of_le hi (Nat.le_trans (by omega) (show 1000 ≤ sizeLine by decide)))
  · rintro H' ⟨s1, h1⟩
    rw [List.take_of_length_le (by rw [List.length_map, List.length_range]; exact Nat.le_refl _)] at h1
    exact ⟨D, _, rfl, SqL.of h1, q _ s1⟩
theorem scOuts : FnScope ["thing", "x"] ["thing"] (defScope s_is_outputs) := ⟨rfl, rfl, rfl, by decide +kernel, rfl, by decide +kernel, by decide +kernel⟩
theorem ok_outs {f g1 g2 : Addr} {fd d1 d2 : FuncData} (F : Fun K "is_outputs" "is_outputs" s_is_outputs f fd) (T : Txt K mg) (W : Def P w K mg base "is_output" ["thing"] 3 (spOut K) g1 d1) (R : Def P w K mg base "is_rising" ["things"] 1 (spRisI K) g2 d2) : FnOk P w K mg base CX0 4 f fd ["thing"] (spOuts K) := by
  refine F.ok scOuts (fun vs H Q E h => ?_) (fun cdv A outer s H vs Q E hr h => ?_)
  · obtain ⟨v, d, rfl, _⟩ := h
    rfl
  obtain ⟨v, d, rfl, hk, hz, q⟩ := h
  have nd := scOuts.nd
  refine ⟨_, pss_one (ps_ret (pe_and (pe_callB call_isi (by rfl) T.isi boot_isinstance (pa_cons (pv 0) (pa_cons (pe_bltn (v := .ty "list") (by rfl) T.list boot_list rfl) pa_nil)))
    (pe_and (pe_cmpR op_gt (pe_callB call_len_seq (by rfl) T.len PySem.boot_len (pa_cons (pv 0) pa_nil)) pe_int (nomark _))
    (pe_and (pe_callB (cr_all rfl) (by rfl) T.all (by decide +kernel) (pa_cons
      (pe_lc (own := [("x", 1)]) (g := gName 1) (tt := tYes) (te := tCall (spOut K) [] E0 (tCons (tVar 1) tNil)) rfl nd (pi_list (pv 0)) (blkOk_by (N := ["thing", "x"]) (sc := defScope s_is_outputs) (by decide +kernel)) (fun _ _ _ _ _ => pg_name (i := 1) nd rfl (Or.inl rfl)) (fun _ _ _ _ _ => pts_nil)
        (fun _ _ _ _ _ => (by exact pe_call W.G hr rfl W.m W.k W.b .nil pass0 (pa_cons (pv 1) pa_nil)))) pa_nil))
    (pe_one (pe_call R.G (hr.mono (by decide)) rfl R.m R.k R.b .nil pass0 (pa_cons (pv 0) pa_nil))))))), ?_⟩
  refine ⟨_, rfl, v, .ty "list", _, _, isLstD d, rfl, .ty "list", dp_ty hk, kit_lst d, _, rfl, ?_⟩
  cases cl : isLstD d with
  | false =>
    have : outsB d = false := by cases d <;> first | rfl | cases cl
    rw [this] at q
    exact iteF (q _ (Same.refl H))
  | true =>
    obtain ⟨ds, rfl⟩ : ∃ ds, d = .list ds := by cases d <;> first | exact ⟨_, rfl⟩ | cases cl
    obtain ⟨p, vs, rfl, hS, hD⟩ : ∃ t vs, v = .ref t ∧ SqL K H t vs ∧ DpAll K H vs ds := by
      cases hk with
      | lst a b => exact ⟨_, _, rfl, a, b⟩
    have hl := dpAll_len hD
    have hds := hz ds rfl
    have eO : outsB (.list ds) = (decide (0 < ds.length) && ((ds.map outB).all id && risI (intsOf ds))) := rfl
    refine iteT ⟨_, rfl, p, _, rfl, .inl hS, _, _, rfl, rfl, ?_⟩
    by_cases c : 0 < ds.length
    case neg =>
      rw [eO, decide_eq_false c, Bool.false_and] at q
      refine ⟨_, rfl, iteF' (decide_eq_false (by omega)) ?_⟩
      exact q _ (Same.refl H)
    rw [eO, decide_eq_true c, Bool.true_and] at q
    refine ⟨_, rfl, iteT' (decide_eq_true (by omega)) ?_⟩
    refine ⟨_, rfl, p, rfl, ⟨_, hS⟩, fun D hD' => ?_⟩
    refine list_turns (xs := vs) (fun i H' => Same H H' ∧ H' D = some (.lst (((ds.map outB).take i).map V.bl))) ⟨same_new hD' _, upd_same⟩ (fun i H' _ h => h.1.seq hS) ?_ ?_
    · rintro i x H' hx ⟨s1, h1⟩
      obtain ⟨di, hdi, hxi⟩ := dpAll_get hD hx
      have hi : i < ds.length := (List.getElem?_eq_some_iff.mp hdi).1
      have hb : (ds.map outB)[i]? = some (outB di) := by rw [List.getElem?_map, hdi]; rfl
      refine ⟨rfl, _, rfl, x, di, rfl, dp_mono s1 _ _ hxi, _, h1, ?_, same_upd s1 hD', by rw [upd_same, take_bl _ hb]⟩
      rw [List.length_map]
      exact Nat.lt_of_le_of_lt (List.length_take_le _ _) (Nat.lt_of_lt_of_le hi (Nat.le_trans hds (by decide)))
    · rintro H1 ⟨s1, h1⟩
      rw [hl, ← List.length_map (f := outB), List.take_length] at h1
      refine ⟨D, _, rfl, SqL.of h1, _, rfl, ?_⟩
      cases ca : (ds.map outB).all id with
      | false =>
        rw [ca, Bool.false_and] at q
        exact iteF (q _ s1)
      | true =>
        rw [ca, Bool.true_and] at q
        have ev := outs_ints hD ca
        have hS' : SqL K H1 p ((intsOf ds).map V.int) := by rw [← ev]; exact s1.seq hS
        have li : (intsOf ds).length = ds.length := List.length_map _
        exact iteT ⟨_, rfl, p, intsOf ds, rfl, hS', by omega, by omega, fun H2 s2 => q _ (s1.trans s2)⟩
theorem sc_rows : FnScope ["thing", "outputs"] ["thing"] (defScope s_is_rows) := ⟨rfl, rfl, rfl, by decide +kernel, rfl, by decide +kernel, by decide +kernel⟩
theorem ok_rows {f g1 : Addr} {fd d1 : FuncData} (F : Fun K "is_rows" "is_rows" s_is_rows f fd) (T : Txt K mg) (W : Def P w K mg base "is_outputs" ["thing"] 4 (spOuts K) g1 d1) : FnOk P w K mg base CX0 5 f fd ["thing"] (spRows K) := by
  refine F.ok sc_rows (fun vs H Q E h => ?_) (fun cdv A outer s H vs Q E hr h => ?_)
  · obtain ⟨v, d, rfl, _⟩ := h
    rfl
  obtain ⟨v, d, rfl, hk, hz, hin, q⟩ := h
  have nd := sc_rows.nd
  refine ⟨_, pss_one (ps_ret (pe_and (pe_callB call_isi (by rfl) T.isi boot_isinstance (pa_cons (pv 0) (pa_cons (pe_bltn (v := .ty "list") (by rfl) T.list boot_list rfl) pa_nil)))
    (pe_and (pe_cmpR op_gt (pe_callB call_len_seq (by rfl) T.len PySem.boot_len (pa_cons (pv 0) pa_nil)) pe_int (nomark _))
    (pe_one (pe_callB (cr_all rfl) (by rfl) T.all (by decide +kernel) (pa_cons
      (pe_lc (own := [("outputs", 1)]) (g := gName 1) (tt := tYes) (te := tCall (spOuts K) [] E0 (tCons (tVar 1) tNil)) rfl nd (pi_list (pv 0)) (blkOk_by (N := ["thing", "outputs"]) (sc := defScope s_is_rows) (by decide +kernel)) (fun _ _ _ _ _ => pg_name (i := 1) nd rfl (Or.inl rfl)) (fun _ _ _ _ _ => pts_nil)
        (fun _ _ _ _ _ => (by exact pe_call W.G hr rfl W.m W.k W.b .nil pass0 (pa_cons (pv 1) pa_nil)))) pa_nil)))))), ?_⟩
  refine ⟨_, rfl, v, .ty "list", _, _, isLstD d, rfl, .ty "list", dp_ty hk, kit_lst d, _, rfl, ?_⟩
  cases cl : isLstD d with
  | false =>
    have : rowsB d = false := by cases d <;> first | rfl | cases cl
    rw [this] at q
    exact iteF (q _ (Same.refl H))
  | true =>
    obtain ⟨ds, rfl⟩ : ∃ ds, d = .list ds := by cases d <;> first | exact ⟨_, rfl⟩ | cases cl
    obtain ⟨p, vs, rfl, hS, hD⟩ : ∃ t vs, v = .ref t ∧ SqL K H t vs ∧ DpAll K H vs ds := by
      cases hk with
      | lst a b => exact ⟨_, _, rfl, a, b⟩
    have hl := dpAll_len hD
    have hds := hz ds rfl
    have eO : rowsB (.list ds) = (decide (0 < ds.length) && (ds.map outsB).all id) := rfl
    refine iteT ⟨_, rfl, p, _, rfl, .inl hS, _, _, rfl, rfl, ?_⟩
    by_cases c : 0 < ds.length
    case neg =>
      rw [eO, decide_eq_false c, Bool.false_and] at q
      refine ⟨_, rfl, iteF' (decide_eq_false (by omega)) ?_⟩
      exact q _ (Same.refl H)
    rw [eO, decide_eq_true c, Bool.true_and] at q
    refine ⟨_, rfl, iteT' (decide_eq_true (by omega)) ?_⟩
    refine ⟨_, rfl, p, rfl, ⟨_, hS⟩, fun D hD' => ?_⟩
    refine list_turns (xs := vs) (fun i H' => Same H H' ∧ H' D = some (.lst (((ds.map outsB).take i).map V.bl))) ⟨same_new hD' _, upd_same⟩ (fun i H' _ h => h.1.seq hS) ?_ ?_
    · rintro i x H' hx ⟨s1, h1⟩
      obtain ⟨di, hdi, hxi⟩ := dpAll_get hD hx
      have hi : i < ds.length := (List.getElem?_eq_some_iff.mp hdi).1
      have hb : (ds.map outsB)[i]? = some (outsB di) := by rw [List.getElem?_map, hdi]; rfl
      refine ⟨rfl, _, rfl, x, di, rfl, dp_mono s1 _ _ hxi, hin ds rfl di (List.mem_of_getElem? hdi), fun H2 s2 => ⟨_, s2 _ _ h1, ?_, same_upd (s1.trans s2) hD', by rw [upd_same, take_bl _ hb]⟩⟩
      rw [List.length_map]
      exact Nat.lt_of_le_of_lt (List.length_take_le _ _) (Nat.lt_of_lt_of_le hi (Nat.le_trans hds (by decide)))
    · rintro H1 ⟨s1, h1⟩
      rw [hl, ← List.length_map (f := outsB), List.take_length] at h1
      exact ⟨D, _, rfl, SqL.of h1, q _ s1⟩
theorem sc_alone : FnScope ["thing", "rows"] ["thing"] (defScope s_is_alone) := ⟨rfl, rfl, rfl, by decide +kernel, rfl, by decide +kernel, by decide +kernel⟩
theorem ok_alone {f g1 : Addr} {fd d1 : FuncData} (F : Fun K "is_alone" "is_alone" s_is_alone f fd) (T : Txt K mg) (W : Def P w K mg base "is_rows" ["thing"] 5 (spRows K) g1 d1) : FnOk P w K mg base CX0 6 f fd ["thing"] (spAlone K) := by
  refine F.ok sc_alone (fun vs H Q E h => ?_) (fun cdv A outer s H vs Q E hr h => ?_)
  · obtain ⟨v, d, rfl, _⟩ := h
    rfl
  obtain ⟨v, d, rfl, hk, hz, hin, q⟩ := h
  have nd := sc_alone.nd
  refine ⟨_, pss_one (ps_ret (pe_and (pe_callB call_isi (by rfl) T.isi boot_isinstance (pa_cons (pv 0) (pa_cons (pe_bltn (v := .ty "list") (by rfl) T.list boot_list rfl) pa_nil)))
    (pe_and (pe_cmpR op_eq (pe_callB call_len_seq (by rfl) T.len PySem.boot_len (pa_cons (pv 0) pa_nil)) pe_int (nomark _))
    (pe_one (pe_callB (cr_all rfl) (by rfl) T.all (by decide +kernel) (pa_cons
      (pe_lc (own := [("rows", 1)]) (g := gName 1) (tt := tYes) (te := tCall (spRows K) [] E0 (tCons (tVar 1) tNil)) rfl nd (pi_list (pv 0)) (blkOk_by (N := ["thing", "rows"]) (sc := defScope s_is_alone) (by decide +kernel)) (fun _ _ _ _ _ => pg_name (i := 1) nd rfl (Or.inl rfl)) (fun _ _ _ _ _ => pts_nil)
        (fun _ _ _ _ _ => (by exact pe_call W.G hr rfl W.m W.k W.b .nil pass0 (pa_cons (pv 1) pa_nil)))) pa_nil)))))), ?_⟩
  refine ⟨_, rfl, v, .ty "list", _, _, isLstD d, rfl, .ty "list", dp_ty hk, kit_lst d, _, rfl, ?_⟩
  cases cl : isLstD d with
  | false =>
    have : aloneB d = false := by cases d <;> first | rfl | cases cl
    rw [this] at q
    exact iteF (q _ (Same.refl H))
  | true =>
    obtain ⟨ds, rfl⟩ : ∃ ds, d = .list ds := by cases d <;> first | exact ⟨_, rfl⟩ | cases cl
    obtain ⟨p, vs, rfl, hS, hD⟩ : ∃ t vs, v = .ref t ∧ SqL K H t vs ∧ DpAll K H vs ds := by
      cases hk with
      | lst a b => exact ⟨_, _, rfl, a, b⟩
    have hl := dpAll_len hD
    have hds := hz ds rfl
    have eO : aloneB (.list ds) = (decide (ds.length = 2) && (ds.map rowsB).all id) := rfl
    refine iteT ⟨_, rfl, p, _, rfl, .inl hS, rfl, _, rfl, ?_⟩
    by_cases c : ds.length = 2
    case neg =>
      rw [eO, decide_eq_false c, Bool.false_and] at q
      refine iteF' (decide_eq_false fun e => by injection e with e; omega) ?_
      exact q _ (Same.refl H)
    rw [eO, decide_eq_true c, Bool.true_and] at q
    refine iteT' (decide_eq_true (by rw [hl, c]; rfl)) ?_
    refine ⟨_, rfl, p, rfl, ⟨_, hS⟩, fun D hD' => ?_⟩
    refine list_turns (xs := vs) (fun i H' => Same H H' ∧ H' D = some (.lst (((ds.map rowsB).take i).map V.bl))) ⟨same_new hD' _, upd_same⟩ (fun i H' _ h => h.1.seq hS) ?_ ?_
    · rintro i x H' hx ⟨s1, h1⟩
      obtain ⟨di, hdi, hxi⟩ := dpAll_get hD hx
      have hi : i < ds.length := (List.getElem?_eq_some_iff.mp hdi).1
      have hb : (ds.map rowsB)[i]? = some (rowsB di) := by rw [List.getElem?_map, hdi]; rfl
      refine ⟨rfl, _, rfl, x, di, rfl, dp_mono s1 _ _ hxi, (hin ds rfl di (List.mem_of_getElem? hdi)).1, (hin ds rfl di (List.mem_of_getElem? hdi)).2, fun H2 s2 => ⟨_, s2 _ _ h1, ?_, same_upd (s1.trans s2) hD', by rw [upd_same, take_bl _ hb]⟩⟩
      rw [List.length_map]
      exact Nat.lt_of_le_of_lt (List.length_take_le _ _) (Nat.lt_of_lt_of_le hi (Nat.le_trans hds (by decide)))
    · rintro H1 ⟨s1, h1⟩
      rw [hl, ← List.length_map (f := rowsB), List.take_length] at h1
      exact ⟨D, _, rfl, SqL.of h1, q _ s1⟩
end
end TA

set_option Elab.async false
set_option maxRecDepth 100000
set_option maxHeartbeats 4000000
namespace TA
open PySem L2 PyProof.Rows
set_option linter.unusedVariables false
def pairB : PyData → Bool
  | .tuple ds => decide (ds.length = 2) && (ds.map outB).all id
  | _ => false
def pairOf : PyData → List Int
  | .tuple ds => intsOf ds
  | _ => []
def risP (ps : List (List Int)) : Bool := ((List.range (ps.length - 1)).map fun i => HT.lexLt (ps.getD i []) (ps.getD (i + 1) [])).all id
def letB : PyData → Bool
  | .list ds => decide (0 < ds.length) && ((ds.map pairB).all id && risP (ds.map pairOf))
  | _ => false
def spPairB (K : PySem.W.Frag) : Sp := fun vs H Q _ => ∃ (v : V) (d : PyData), vs = [v] ∧ Dp K H v d ∧ ∀ H', Same H H' → Q (.bl (pairB d)) H'
/-- pairs of ints stand at these places -/
def PairsAt (K : PySem.W.Frag) (H : Hp) (xs : List V) (ps : List (List Int)) : Prop := xs.length = ps.length ∧ ∀ i : Nat, i < ps.length → ∃ a, xs[i]? = some (.ref a) ∧ SqT K H a ((ps.getD i []).map V.int)
def spRisP (K : PySem.W.Frag) : Sp := fun vs H Q _ => ∃ (p : Addr) (xs : List V) (ps : List (List Int)), vs = [.ref p] ∧ SqL K H p xs ∧ PairsAt K H xs ps ∧ 1 ≤ ps.length ∧ ps.length ≤ 1000 ∧ ∀ H', Same H H' → Q (.bl (risP ps)) H'
def spLetB (K : PySem.W.Frag) : Sp := fun vs H Q _ => ∃ (v : V) (d : PyData), vs = [v] ∧ Dp K H v d ∧ small d ∧ ∀ H', Same H H' → Q (.bl (letB d)) H'
theorem pairs_at {K : PySem.W.Frag} {H : Hp} {ds : List PyData} {vs : List V} (h : DpAll K H vs ds) (a : (ds.map pairB).all id = true) : PairsAt K H vs (ds.map pairOf) := by
  refine ⟨by rw [List.length_map]; exact dpAll_len h, fun i hi => ?_⟩
  rw [List.length_map] at hi
  have hl := dpAll_len h
  obtain ⟨d, hd, hx⟩ := dpAll_get h (List.getElem?_eq_getElem (show i < vs.length by omega))
  have hb : pairB d = true := by
    have := List.all_eq_true.mp a (pairB d) (List.mem_map.mpr ⟨d, List.mem_of_getElem? hd, rfl⟩)
    exact this
  cases d with
  | tuple es =>
    obtain ⟨_, b2⟩ := Bool.and_eq_true_iff.mp (show (decide (es.length = 2) && (es.map outB).all id) = true from hb)
    obtain ⟨t, xs, ex, ht, hes⟩ := dp_tup hx
    refine ⟨t, by rw [List.getElem?_eq_getElem (show i < vs.length by omega), ex], ?_⟩
    have e : (ds.map pairOf).getD i [] = intsOf es := by
      rw [List.getD_eq_getElem?_getD, List.getElem?_map, hd]; rfl
    rw [e, ← outs_ints hes b2]
    exact ht
  | _ => cases hb
section
variable {P : Program} {w : World} {K : PySem.W.Frag} {mg : Str → Option Value} {base : Heap}
theorem sc_outpair : FnScope ["thing", "x"] ["thing"] (defScope s_is_output_pair) := ⟨rfl, rfl, rfl, by decide +kernel, rfl, by decide +kernel, by decide +kernel⟩
theorem ok_outpair {f g1 : Addr} {fd d1 : FuncData} (F : Fun K "is_output_pair" "is_output_pair" s_is_output_pair f fd) (T : Txt K mg) (W : Def P w K mg base "is_output" ["thing"] 3 (spOut K) g1 d1) : FnOk P w K mg base CX0 4 f fd ["thing"] (spPairB K) := by
  refine F.ok sc_outpair (fun vs H Q E h => ?_) (fun cdv A outer s H vs Q E hr h => ?_)
  · obtain ⟨v, d, rfl, _⟩ := h
    rfl
  obtain ⟨v, d, rfl, hk, q⟩ := h
  have nd := sc_outpair.nd
  refine ⟨_, pss_one (ps_ret (pe_and (pe_callB call_isi (by rfl) T.isi boot_isinstance (pa_cons (pv 0) (pa_cons (pe_bltn (v := .ty "tuple") (by rfl) T.tuple boot_tuple rfl) pa_nil)))
    (pe_and (pe_cmpR op_eq (pe_callB call_len_seq (by rfl) T.len PySem.boot_len (pa_cons (pv 0) pa_nil)) pe_int (nomark _))
    (pe_one (pe_callB (cr_all rfl) (by rfl) T.all (by decide +kernel) (pa_cons
      (pe_lc (own := [("x", 1)]) (g := gName 1) (tt := tYes) (te := tCall (spOut K) [] E0 (tCons (tVar 1) tNil)) rfl nd (pi_tup (pv 0)) (blkOk_by (N := ["thing", "x"]) (sc := defScope s_is_output_pair) (by decide +kernel)) (fun _ _ _ _ _ => pg_name (i := 1) nd rfl (Or.inl rfl)) (fun _ _ _ _ _ => pts_nil)
        (fun _ _ _ _ _ => (by exact pe_call W.G hr rfl W.m W.k W.b .nil pass0 (pa_cons (pv 1) pa_nil)))) pa_nil)))))), ?_⟩
  refine ⟨_, rfl, v, .ty "tuple", _, _, isTupD d, rfl, .ty "tuple", dp_ty hk, kit_tup d, _, rfl, ?_⟩
  cases cl : isTupD d with
  | false =>
    have : pairB d = false := by cases d <;> first | rfl | cases cl
    rw [this] at q
    exact iteF (q _ (Same.refl H))
  | true =>
    obtain ⟨ds, rfl⟩ : ∃ ds, d = .tuple ds := by cases d <;> first | exact ⟨_, rfl⟩ | cases cl
    obtain ⟨p, vs, rfl, hS, hD⟩ := dp_tup hk
    have hl := dpAll_len hD
    have eO : pairB (.tuple ds) = (decide (ds.length = 2) && (ds.map outB).all id) := rfl
    refine iteT ⟨_, rfl, p, _, rfl, .inr hS, rfl, _, rfl, ?_⟩
    by_cases c : ds.length = 2
    case neg =>
      rw [eO, decide_eq_false c, Bool.false_and] at q
      refine iteF' (decide_eq_false fun e => by injection e with e; omega) ?_
      exact q _ (Same.refl H)
    rw [eO, decide_eq_true c, Bool.true_and] at q
    refine iteT' (decide_eq_true (by rw [hl, c]; rfl)) ?_
    refine ⟨_, rfl, p, rfl, ⟨_, hS⟩, fun D hD' => ?_⟩
    refine tup_turns (xs := vs) (fun i H' => Same H H' ∧ H' D = some (.lst (((ds.map outB).take i).map V.bl))) ⟨same_new hD' _, upd_same⟩ (fun i H' _ h => seqT_mono h.1 hS) ?_ ?_
    · rintro i x H' hx ⟨s1, h1⟩
      obtain ⟨di, hdi, hxi⟩ := dpAll_get hD hx
      have hi : i < ds.length := (List.getElem?_eq_some_iff.mp hdi).1
      have hb : (ds.map outB)[i]? = some (outB di) := by rw [List.getElem?_map, hdi]; rfl
      refine ⟨rfl, _, rfl, x, di, rfl, dp_mono s1 _ _ hxi, _, h1, ?_, same_upd s1 hD', by rw [upd_same, take_bl _ hb]⟩
      rw [List.length_map]
      exact Nat.lt_of_le_of_lt (List.length_take_le _ _) (Nat.lt_of_lt_of_le hi (by rw [c]; decide))
    · rintro H1 ⟨s1, h1⟩
      rw [hl, ← List.length_map (f := outB), List.take_length] at h1
      exact ⟨D, _, rfl, SqL.of h1, q _ s1⟩
theorem ok_risP {f : Addr} {fd : FuncData} (F : Fun K "is_rising" "is_rising" s_is_rising f fd) (T : Txt K mg) : FnOk P w K mg base CX0 1 f fd ["things"] (spRisP K) := by
  refine F.ok scRis (fun vs H Q E h => ?_) (fun cdv A outer s H vs Q E hr h => ?_)
  · obtain ⟨p, xs, ps, rfl, _⟩ := h
    rfl
  obtain ⟨p, xs, ps, rfl, hS, ⟨hl, hp⟩, n1, n2, q⟩ := h
  have nd := scRis.nd
  refine ⟨_, pss_one (ps_ret (pe_callB (cr_all rfl) (by rfl) T.all (by decide +kernel) (pa_cons
      (pe_lc (own := [("at", 1)]) (g := gName 1) (tt := tYes) (te := tOp (rLtT K) (tOp (rIxL K) (tVar 0) (tVar 1)) (tOp (rIxL K) (tVar 0) (tOp (rI0 fun i j => .int (i + j)) (tVar 1) (tC (.int 1))))) rfl nd
        (pi_range1 (by rfl) T.range (pa_cons (pe_op op_sub (pe_callB call_len_seq (by rfl) T.len PySem.boot_len (pa_cons (pv 0) pa_nil)) pe_int) pa_nil))
        (blkOk_by (N := ["things", "at"]) (sc := defScope s_is_rising) (by decide +kernel)) (fun _ _ _ _ _ => pg_name (i := 1) nd rfl (Or.inl rfl)) (fun _ _ _ _ _ => pts_nil)
        (fun _ _ _ _ _ => (by refine pe_cmpR (op_ltT ?_) ?_ ?_ (nomark _); (have := hr.un; show (A.deeper (envOfC "is_rising" (defScope s_is_rising) s.heap.objs.size f cdv)).units < cLine; omega); (exact pe_ix ix_list (pv 0) (pv 1) (fun _ _ => rfl)); (exact pe_ix ix_list (pv 0) (pe_op op_add (pv 1) pe_int) (fun _ _ => rfl))))) pa_nil))), ?_⟩
  refine ⟨_, rfl, p, _, rfl, .inl hS, _, _, rfl, rfl, ?_⟩
  rw [hl]
  have e1 : ((ps.length : Nat) : Int) - 1 = ((ps.length - 1 : Nat) : Int) := by omega
  refine ⟨((ps.length - 1 : Nat) : Int), congrArg (fun z => [V.int z]) e1, by omega, by omega, fun D hD => ?_⟩
  refine range_turns (n := ps.length - 1) (fun i H' => Same H H' ∧ H' D = some (.lst ((((List.range (ps.length - 1)).map fun i => HT.lexLt (ps.getD i []) (ps.getD (i + 1) [])).take i).map V.bl))) ⟨same_new hD _, upd_same⟩ ?_ ?_
  · rintro i H' hi ⟨s1, h1⟩
    have ei : (0 : Int) + (i : Int) = (i : Int) := by omega
    rw [ei]
    obtain ⟨a0, g0, t0⟩ := hp i (by omega)
    obtain ⟨a1, g1, t1⟩ := hp (i + 1) (by omega)
    have hb : ((List.range (ps.length - 1)).map fun i => HT.lexLt (ps.getD i []) (ps.getD (i + 1) []))[i]? = some (HT.lexLt (ps.getD i []) (ps.getD (i + 1) [])) := by
      rw [List.getElem?_map, List.getElem?_range hi]; rfl
    refine ⟨rfl, _, rfl, _, rfl, p, _, _, _, rfl, rfl, s1.seq hS, atI_nat g0, _, rfl, _, rfl, _, _, rfl, rfl, p, _, _, _, rfl, rfl, s1.seq hS, (by rw [show (i : Int) + 1 = ((i + 1 : Nat) : Int) by omega]; exact atI_nat g1), a0, a1, _, _, rfl, rfl, seqT_mono s1 t0, seqT_mono s1 t1, _, h1, ?_, same_upd s1 hD, by rw [upd_same, take_bl _ hb]⟩
    rw [List.length_map]
    exact Nat.lt_of_le_of_lt (List.length_take_le _ _) (Nat.lt_of_lt_of_le hi (Nat.le_trans (by omega) (show 1000 ≤ sizeLine by decide)))
  · rintro H' ⟨s1, h1⟩
    rw [List.take_of_length_le (by rw [List.length_map, List.length_range]; exact Nat.le_refl _)] at h1
    exact ⟨D, _, rfl, SqL.of h1, q _ s1⟩
end
end TA

set_option Elab.async false
set_option maxRecDepth 100000
set_option maxHeartbeats 4000000
namespace TA
open PySem L2 PyProof.Rows
set_option linter.unusedVariables false
section
variable {P : Program} {w : World} {K : PySem.W.Frag} {mg : Str → Option Value} {base : Heap}
theorem sc_let : FnScope ["thing", "x"] ["thing"] (defScope s_is_let) := ⟨rfl, rfl, rfl, by decide +kernel, rfl, by decide +kernel, by decide +kernel⟩
theorem ok_let {f g1 g2 : Addr} {fd d1 d2 : FuncData} (F : Fun K "is_let" "is_let" s_is_let f fd) (T : Txt K mg) (W : Def P w K mg base "is_output_pair" ["thing"] 4 (spPairB K) g1 d1) (R : Def P w K mg base "is_rising" ["things"] 1 (spRisP K) g2 d2) : FnOk P w K mg base CX0 5 f fd ["thing"] (spLetB K) := by
  refine F.ok sc_let (fun vs H Q E h => ?_) (fun cdv A outer s H vs Q E hr h => ?_)
  · obtain ⟨v, d, rfl, _⟩ := h
    rfl
  obtain ⟨v, d, rfl, hk, hz, q⟩ := h
  have nd := sc_let.nd
  refine ⟨_, pss_one (ps_ret (pe_and (pe_callB call_isi (by rfl) T.isi boot_isinstance (pa_cons (pv 0) (pa_cons (pe_bltn (v := .ty "list") (by rfl) T.list boot_list rfl) pa_nil)))
    (pe_and (pe_cmpR op_gt (pe_callB call_len_seq (by rfl) T.len PySem.boot_len (pa_cons (pv 0) pa_nil)) pe_int (nomark _))
    (pe_and (pe_callB (cr_all rfl) (by rfl) T.all (by decide +kernel) (pa_cons
      (pe_lc (own := [("x", 1)]) (g := gName 1) (tt := tYes) (te := tCall (spPairB K) [] E0 (tCons (tVar 1) tNil)) rfl nd (pi_list (pv 0)) (blkOk_by (N := ["thing", "x"]) (sc := defScope s_is_let) (by decide +kernel)) (fun _ _ _ _ _ => pg_name (i := 1) nd rfl (Or.inl rfl)) (fun _ _ _ _ _ => pts_nil)
        (fun _ _ _ _ _ => (by exact pe_call W.G hr rfl W.m W.k W.b .nil pass0 (pa_cons (pv 1) pa_nil)))) pa_nil))
    (pe_one (pe_call R.G (hr.mono (by decide)) rfl R.m R.k R.b .nil pass0 (pa_cons (pv 0) pa_nil))))))), ?_⟩
  refine ⟨_, rfl, v, .ty "list", _, _, isLstD d, rfl, .ty "list", dp_ty hk, kit_lst d, _, rfl, ?_⟩
  cases cl : isLstD d with
  | false =>
    have : letB d = false := by cases d <;> first | rfl | cases cl
    rw [this] at q
    exact iteF (q _ (Same.refl H))
  | true =>
    obtain ⟨ds, rfl⟩ : ∃ ds, d = .list ds := by cases d <;> first | exact ⟨_, rfl⟩ | cases cl
    obtain ⟨p, vs, rfl, hS, hD⟩ : ∃ t vs, v = .ref t ∧ SqL K H t vs ∧ DpAll K H vs ds := by
      cases hk with
      | lst a b => exact ⟨_, _, rfl, a, b⟩
    have hl := dpAll_len hD
    have hds := hz ds rfl
    have eO : letB (.list ds) = (decide (0 < ds.length) && ((ds.map pairB).all id && risP (ds.map pairOf))) := rfl
    refine iteT ⟨_, rfl, p, _, rfl, .inl hS, _, _, rfl, rfl, ?_⟩
    by_cases c : 0 < ds.length
    case neg =>
      rw [eO, decide_eq_false c, Bool.false_and] at q
      refine ⟨_, rfl, iteF' (decide_eq_false (by omega)) ?_⟩
      exact q _ (Same.refl H)
    rw [eO, decide_eq_true c, Bool.true_and] at q
    refine ⟨_, rfl, iteT' (decide_eq_true (by omega)) ?_⟩
    refine ⟨_, rfl, p, rfl, ⟨_, hS⟩, fun D hD' => ?_⟩
    refine list_turns (xs := vs) (fun i H' => Same H H' ∧ H' D = some (.lst (((ds.map pairB).take i).map V.bl))) ⟨same_new hD' _, upd_same⟩ (fun i H' _ h => h.1.seq hS) ?_ ?_
    · rintro i x H' hx ⟨s1, h1⟩
      obtain ⟨di, hdi, hxi⟩ := dpAll_get hD hx
      have hi : i < ds.length := (List.getElem?_eq_some_iff.mp hdi).1
      have hb : (ds.map pairB)[i]? = some (pairB di) := by rw [List.getElem?_map, hdi]; rfl
      refine ⟨rfl, _, rfl, x, di, rfl, dp_mono s1 _ _ hxi, fun H2 s2 => ⟨_, s2 _ _ h1, ?_, same_upd (s1.trans s2) hD', by rw [upd_same, take_bl _ hb]⟩⟩
      rw [List.length_map]
      exact Nat.lt_of_le_of_lt (List.length_take_le _ _) (Nat.lt_of_lt_of_le hi (Nat.le_trans hds (by decide)))
    · rintro H1 ⟨s1, h1⟩
      rw [hl, ← List.length_map (f := pairB), List.take_length] at h1
      refine ⟨D, _, rfl, SqL.of h1, _, rfl, ?_⟩
      cases ca : (ds.map pairB).all id with
      | false =>
        rw [ca, Bool.false_and] at q
        exact iteF (q _ s1)
      | true =>
        rw [ca, Bool.true_and] at q
        have hp := pairs_at (dpAll_mono s1 _ _ hD) ca
        have li : (ds.map pairOf).length = ds.length := List.length_map _
        exact iteT ⟨_, rfl, p, vs, ds.map pairOf, rfl, s1.seq hS, hp, by omega, by omega, fun H2 s2 => q _ (s1.trans s2)⟩
end
end TA

set_option Elab.async false
set_option maxRecDepth 100000
set_option maxHeartbeats 4000000
namespace TA
open PySem L2 PyProof.Rows
set_option linter.unusedVariables false
/-- a pair of inputs, so many of each hand -/
def inB (n0 n1 : Nat) : PyData → Bool
  | .tuple [x, y] => within x 0 ((n0 : Int) - 1) && within y 0 ((n1 : Int) - 1)
  | _ => false
theorem inB_no {n0 n1 : Nat} {d : PyData} (h : ∀ x y, d ≠ .tuple [x, y]) : inB n0 n1 d = false := by
  match d, h with
  | .tuple [x, y], h => exact absurd rfl (h x y)
  | .tuple [], _ | .tuple [_], _ | .tuple (_ :: _ :: _ :: _), _ | .none, _ | .bool _, _ | .int _, _ | .str _, _ | .list _, _ | .dict _, _ => rfl
theorem tup_cases (d : PyData) : (∃ x y, d = .tuple [x, y]) ∨ (∀ x y, d ≠ .tuple [x, y]) := by
  match d with
  | .tuple [x, y] => exact .inl ⟨x, y, rfl⟩
  | .tuple [] | .tuple [_] | .tuple (_ :: _ :: _ :: _) | .none | .bool _ | .int _ | .str _ | .list _ | .dict _ => exact .inr (fun x y e => by cases e)
theorem dp_pair {K : PySem.W.Frag} {H : Hp} {v : V} {d : PyData} (h : Dp K H v d) : (∃ a x y e f, v = .ref a ∧ d = .tuple [e, f] ∧ SqT K H a [x, y] ∧ Dp K H x e ∧ Dp K H y f) ∨ ((∀ x y, d ≠ .tuple [x, y]) ∧ (isTupD d = false ∨ (isTupD d = true ∧ ∃ a xs, v = .ref a ∧ SqT K H a xs ∧ xs.length ≠ 2))) := by
  rcases tup_cases d with ⟨e, f, rfl⟩ | hn
  · left
    obtain ⟨a, xs, rfl, hs, ha⟩ := dp_tup h
    cases ha with
    | cons h1 h2 =>
      cases h2 with
      | cons h2 h3 =>
        cases h3
        exact ⟨_, _, _, _, _, rfl, rfl, hs, h1, h2⟩
  · right
    refine ⟨hn, ?_⟩
    cases h with
    | @tup a xs ds h1 h2 =>
      refine .inr ⟨rfl, a, xs, rfl, h1, fun e => ?_⟩
      have el := dpAll_len h2
      rw [e] at el
      match ds, el, hn with
      | [x, y], _, hn => exact hn x y rfl
    | _ => exact .inl rfl
/-- the outputs let alone, as two lists of rows -/
structure AloneAt (K : PySem.W.Frag) (H : Hp) (al : Addr) (n0 n1 : Nat) : Prop where
  ex : ∃ (r0 r1 : Addr) (xs0 xs1 : List V), SqL K H al [.ref r0, .ref r1] ∧ SqL K H r0 xs0 ∧ SqL K H r1 xs1 ∧ xs0.length = n0 ∧ xs1.length = n1
theorem AloneAt.mono {K : PySem.W.Frag} {H H' : Hp} {al : Addr} {n0 n1 : Nat} (s : Same H H') (h : AloneAt K H al n0 n1) : AloneAt K H' al n0 n1 := by
  obtain ⟨r0, r1, xs0, xs1, a, b, c, d⟩ := h.ex
  exact ⟨r0, r1, xs0, xs1, s.seq a, s.seq b, s.seq c, d⟩
def spInp (K : PySem.W.Frag) : Sp := fun vs H Q _ => ∃ (v : V) (d : PyData) (al : Addr) (n0 n1 : Nat), vs = [v, .ref al] ∧ Dp K H v d ∧ AloneAt K H al n0 n1 ∧ ∀ H', Same H H' → Q (.bl (inB n0 n1 d)) H'
structure TxtH (K : PySem.W.Frag) (mg : Str → Option Value) : Prop where
  hands : ∃ hA, mg "HANDS" = some (.ref hA) ∧ ∀ H, SqT K H hA [.int 0, .int 1]
section
variable {P : Program} {w : World} {K : PySem.W.Frag} {mg : Str → Option Value} {base : Heap}
abbrev nInp : List Str := ["thing", "alone", "hand"]
theorem sc_inp : FnScope nInp ["thing", "alone"] (defScope s_is_input_pair) := ⟨rfl, rfl, rfl, by decide +kernel, rfl, by decide +kernel, by decide +kernel⟩
theorem ok_inp {f g1 : Addr} {fd d1 : FuncData} (F : Fun K "is_input_pair" "is_input_pair" s_is_input_pair f fd) (T : Txt K mg) (U : TxtH K mg) (W : Def P w K mg base "is_whole_within" ["thing", "least", "most"] 2 (spWithinG K) g1 d1) : FnOk P w K mg base CX0 3 f fd ["thing", "alone"] (spInp K) := by
  refine F.ok sc_inp (fun vs H Q E h => ?_) (fun cdv A outer s H vs Q E hr h => ?_)
  · obtain ⟨v, d, al, n0, n1, rfl, _⟩ := h
    rfl
  obtain ⟨v, d, al, n0, n1, rfl, hk, hA, q⟩ := h
  obtain ⟨hT, mH, hH⟩ := U.hands
  have nd := sc_inp.nd
  refine ⟨_, pss_one (ps_ret (pe_and (pe_callB call_isi (by rfl) T.isi boot_isinstance (pa_cons (pv 0) (pa_cons (pe_bltn (v := .ty "tuple") (by rfl) T.tuple boot_tuple rfl) pa_nil)))
    (pe_and (pe_cmpR op_eq (pe_callB call_len_seq (by rfl) T.len PySem.boot_len (pa_cons (pv 0) pa_nil)) pe_int (nomark _))
    (pe_one (pe_callB (cr_all rfl) (by rfl) T.all (by decide +kernel) (pa_cons
      (pe_lc (own := [("hand", 2)]) (g := gName 2) (tt := tYes) (te := tCall (spWithinG K) [] E0 (tCons (tOp (rIxT K) (tVar 0) (tVar 2)) (tCons (tC (.int 0)) (tCons (tOp (rI0 fun i j => .int (i - j)) (tCB (fun xs H Q => ∃ p ys, xs = [.ref p] ∧ (SqL K H p ys ∨ SqT K H p ys) ∧ Q (.int ys.length) H) (tCons (tOp (rIxL K) (tVar 1) (tVar 2)) tNil)) (tC (.int 1))) tNil)))) rfl nd
        (pi_tup (pe_glob (v := .ref hT) rfl mH rfl)) (blkOk_by (N := nInp) (sc := defScope s_is_input_pair) (by decide +kernel)) (fun _ _ _ _ _ => pg_name (i := 2) nd rfl (Or.inl rfl)) (fun _ _ _ _ _ => pts_nil)
        (fun _ _ _ _ _ => (by refine pe_call W.G hr rfl W.m W.k W.b .nil pass0 (pa_cons ?_ (pa_cons pe_int (pa_cons (pe_op op_sub ?_ pe_int) pa_nil))); (exact pe_ix ix_tup (pv 0) (pv 2) (fun _ _ => rfl)); (refine pe_callB call_len_seq (by rfl) T.len PySem.boot_len (pa_cons ?_ pa_nil); (exact pe_ix ix_list (pv 1) (pv 2) (fun _ _ => rfl)))))) pa_nil)))))), ?_⟩
  rcases dp_pair hk with ⟨a, x, y, e, g, rfl, rfl, ha, hx, hy⟩ | ⟨hn, c2 | ⟨c2, a, xs, rfl, ha, hl⟩⟩
  case inr.inl =>
    rw [inB_no hn] at q
    exact ⟨_, rfl, v, V.ty "tuple", _, _, false, rfl, .ty "tuple", dp_ty hk, (by rw [kit_tup, c2]), _, rfl, iteF (q _ (Same.refl H))⟩
  case inr.inr =>
    rw [inB_no hn] at q
    refine ⟨_, rfl, V.ref a, V.ty "tuple", _, _, true, rfl, .ty "tuple", dp_ty hk, (by rw [kit_tup, c2]), _, rfl, iteT ?_⟩
    refine ⟨_, rfl, a, _, rfl, .inr ha, rfl, _, rfl, iteF' (decide_eq_false fun e => hl (by injection e with e; omega)) ?_⟩
    exact q _ (Same.refl H)
  refine ⟨_, rfl, V.ref a, V.ty "tuple", _, _, true, rfl, .ty "tuple", dp_ty hk, kit_tup _, _, rfl, iteT ?_⟩
  refine ⟨_, rfl, a, _, rfl, .inr ha, rfl, _, rfl, iteT ?_⟩
  obtain ⟨r0, r1, xs0, xs1, k1, k2, k3, rfl, rfl⟩ := hA.ex
  refine ⟨hT, rfl, ⟨_, hH H⟩, fun D hD => ?_⟩
  refine tup_turns (xs := [V.int 0, V.int 1]) (fun i H' => Same H H' ∧ H' D = some (.lst (([within e 0 ((xs0.length : Int) - 1), within g 0 ((xs1.length : Int) - 1)].take i).map V.bl))) ⟨same_new hD _, upd_same⟩ (fun i H' _ _ => hH H') ?_ ?_
  · rintro i z H' hz ⟨s1, h1⟩
    rcases i with _ | _ | i
    · obtain rfl : z = .int 0 := by simpa using hz.symm
      exact ⟨rfl, _, rfl, _, rfl, a, _, _, _, rfl, rfl, seqT_mono s1 ha, (by rfl), _, rfl, _, rfl, al, _, _, _, rfl, rfl, s1.seq k1, (by rfl), r0, _, rfl, .inl (s1.seq k2), _, _, rfl, rfl, x, e, 0, _, rfl, dp_mono s1 _ _ hx, _, h1, (by show 0 < sizeLine; decide), same_upd s1 hD, by rw [upd_same]; rfl⟩
    · obtain rfl : z = .int 1 := by simpa using hz.symm
      exact ⟨rfl, _, rfl, _, rfl, a, _, _, _, rfl, rfl, seqT_mono s1 ha, (by rfl), _, rfl, _, rfl, al, _, _, _, rfl, rfl, s1.seq k1, (by rfl), r1, _, rfl, .inl (s1.seq k3), _, _, rfl, rfl, y, g, 0, _, rfl, dp_mono s1 _ _ hy, _, h1, (by show 1 < sizeLine; decide), same_upd s1 hD, by rw [upd_same]; rfl⟩
    · simp at hz
  · rintro H' ⟨s1, h1⟩
    refine ⟨D, _, rfl, SqL.of h1, ?_⟩
    have z := q _ s1
    have e2 : inB xs0.length xs1.length (.tuple [e, g]) = (within e 0 ((xs0.length : Int) - 1) && within g 0 ((xs1.length : Int) - 1)) := rfl
    rw [e2] at z
    show Q (.bl (_ && (_ && true))) H'
    rw [Bool.and_true]
    exact z
end
end TA

set_option Elab.async false
set_option maxRecDepth 100000
set_option maxHeartbeats 4000000
namespace TA
open PySem L2 PyProof.Rows
set_option linter.unusedVariables false
/-! a task's things in the heap -/
inductive A2 {α β : Type} (R : α → β → Prop) : List α → List β → Prop
  | nil : A2 R [] []
  | cons {x y xs ys} : R x y → A2 R xs ys → A2 R (x :: xs) (y :: ys)
theorem A2.len {α β : Type} {R : α → β → Prop} : ∀ {xs : List α} {ys : List β}, A2 R xs ys → xs.length = ys.length
  | _, _, .nil => rfl
  | _, _, .cons _ b => congrArg (· + 1) b.len
theorem A2.imp {α β : Type} {R S : α → β → Prop} (f : ∀ x y, R x y → S x y) : ∀ {xs : List α} {ys : List β}, A2 R xs ys → A2 S xs ys
  | _, _, .nil => .nil
  | _, _, .cons a b => .cons (f _ _ a) (b.imp f)
theorem A2.get {α β : Type} {R : α → β → Prop} : ∀ {xs : List α} {ys : List β} {i : Nat} {x : α}, A2 R xs ys → xs[i]? = some x → ∃ y, ys[i]? = some y ∧ R x y
  | _, _, i, _, .nil, e => by simp at e
  | _, _, 0, _, .cons a _, e => ⟨_, rfl, by simp at e; rw [← e]; exact a⟩
  | _, _, i + 1, x, .cons _ b, e => by
    obtain ⟨y, h1, h2⟩ := A2.get (i := i) (x := x) b (by simpa using e)
    exact ⟨y, by simpa using h1, h2⟩
theorem A2.at {α β : Type} {R : α → β → Prop} {xs : List α} {ys : List β} {i : Nat} {y : β} (h : A2 R xs ys) (e : ys[i]? = some y) : ∃ x, xs[i]? = some x ∧ R x y := by
  have hi : i < xs.length := by rw [h.len]; exact (List.getElem?_eq_some_iff.mp e).1
  obtain ⟨y', h1, h2⟩ := h.get (List.getElem?_eq_getElem hi)
  rw [e] at h1
  cases h1
  exact ⟨_, List.getElem?_eq_getElem hi, h2⟩
theorem A2.snoc {α β : Type} {R : α → β → Prop} : ∀ {xs : List α} {ys : List β} {x : α} {y : β}, A2 R xs ys → R x y → A2 R (xs ++ [x]) (ys ++ [y])
  | _, _, _, _, .nil, h => .cons h .nil
  | _, _, _, _, .cons a b, h => .cons a (b.snoc h)
theorem A2.mem {α β : Type} {R : α → β → Prop} {xs : List α} {ys : List β} {x : α} (h : A2 R xs ys) (m : x ∈ xs) : ∃ y, y ∈ ys ∧ R x y := by
  obtain ⟨i, e⟩ := List.getElem?_of_mem m
  obtain ⟨y, e2, r⟩ := h.get e
  exact ⟨y, List.mem_of_getElem? e2, r⟩
theorem A2.ofMap {α β γ : Type} {R : α → β → Prop} (f : γ → α) (g : γ → β) : ∀ (zs : List γ), (∀ z ∈ zs, R (f z) (g z)) → A2 R (zs.map f) (zs.map g)
  | [], _ => .nil
  | z :: zs, h => .cons (h z List.mem_cons_self) (A2.ofMap f g zs fun x m => h x (List.mem_cons_of_mem _ m))
/-- a pair of ints, a list of ints, rows of these, what is let alone, pairs let -/
def TpAt (H : Hp) (v : V) (p : Int × Int) : Prop := ∃ t, v = .ref t ∧ H t = some (.tup [.int p.1, .int p.2])
def RowAt (H : Hp) (v : V) (row : List Int) : Prop := ∃ t, v = .ref t ∧ H t = some (.lst (row.map .int))
def RowsAt (H : Hp) (v : V) (rows : List (List Int)) : Prop := ∃ t xs, v = .ref t ∧ H t = some (.lst xs) ∧ A2 (RowAt H) xs rows
def AlAt (H : Hp) (v : V) (al : Nat → List (List Int)) : Prop := ∃ t x0 x1, v = .ref t ∧ H t = some (.lst [x0, x1]) ∧ RowsAt H x0 (al 0) ∧ RowsAt H x1 (al 1)
def LetAt (H : Hp) (v : V) (l : List (Int × Int)) : Prop := ∃ t xs, v = .ref t ∧ H t = some (.lst xs) ∧ A2 (TpAt H) xs l
/-- pairs of inputs -/
abbrev IP := Nat × Nat
def kI (p : IP) : List Key := [.inl (p.1 : Int), .inl (p.2 : Int)]
def iI (p : IP) : Int × Int := ((p.1 : Int), (p.2 : Int))
abbrev BD := List (IP × List (Int × Int))
def EnAt (H : Hp) (e : List Key × V) (b : IP × List (Int × Int)) : Prop := e.1 = kI b.1 ∧ LetAt H e.2 b.2
def BoAt (H : Hp) (d : Addr) (bo : BD) : Prop := ∃ kvs, H d = some (.dT kvs) ∧ A2 (EnAt H) kvs bo
/-- what is no dict stands as it stood -/
def flatO (o : HO) : Prop := (∃ xs, o = .lst xs) ∨ (∃ xs, o = .tup xs)
def Kp (H H' : Hp) : Prop := ∀ b o, flatO o → H b = some o → H' b = some o
theorem Kp.lst {H H' : Hp} (s : Kp H H') {b xs} (e : H b = some (.lst xs)) : H' b = some (.lst xs) := s _ _ (.inl ⟨_, rfl⟩) e
theorem Kp.tup {H H' : Hp} (s : Kp H H') {b xs} (e : H b = some (.tup xs)) : H' b = some (.tup xs) := s _ _ (.inr ⟨_, rfl⟩) e
theorem Kp.refl (H : Hp) : Kp H H := fun _ _ _ e => e
theorem Kp.trans {H H1 H2 : Hp} (s : Kp H H1) (t : Kp H1 H2) : Kp H H2 := fun b o f e => t b o f (s b o f e)
theorem Kp.same {H H' : Hp} (s : Same H H') : Kp H H' := fun b o _ e => s b o e
theorem Kp.put {H : Hp} {d : Addr} {u : HO} {o : HO} (e : H d = some u) (n : ¬ flatO u) : Kp H (upd H d o) := fun b x f h => by
  by_cases c : b = d
  · subst c
    rw [e] at h
    cases h
    exact absurd f n
  · rw [upd_ne c]; exact h
theorem nf_dT {k : List (List Key × V)} : ¬ flatO (.dT k) := by rintro (⟨_, h⟩ | ⟨_, h⟩) <;> cases h
theorem nf_frz {o u} : ¬ flatO (.frz o u) := by rintro (⟨_, h⟩ | ⟨_, h⟩) <;> cases h
theorem TpAt.mono {H H' : Hp} (s : Kp H H') {v : V} {p : Int × Int} (h : TpAt H v p) : TpAt H' v p := by
  obtain ⟨t, e, h⟩ := h
  exact ⟨t, e, s.tup h⟩
theorem RowAt.mono {H H' : Hp} (s : Kp H H') {v : V} {p} (h : RowAt H v p) : RowAt H' v p := by
  obtain ⟨t, e, h⟩ := h
  exact ⟨t, e, s.lst h⟩
theorem RowsAt.mono {H H' : Hp} (s : Kp H H') {v : V} {p} (h : RowsAt H v p) : RowsAt H' v p := by
  obtain ⟨t, xs, e, h, a⟩ := h
  exact ⟨t, xs, e, s.lst h, a.imp fun _ _ r => r.mono s⟩
theorem AlAt.mono {H H' : Hp} (s : Kp H H') {v : V} {p} (h : AlAt H v p) : AlAt H' v p := by
  obtain ⟨t, x0, x1, e, h, a, b⟩ := h
  exact ⟨t, x0, x1, e, s.lst h, a.mono s, b.mono s⟩
theorem LetAt.mono {H H' : Hp} (s : Kp H H') {v : V} {p} (h : LetAt H v p) : LetAt H' v p := by
  obtain ⟨t, xs, e, h, a⟩ := h
  exact ⟨t, xs, e, s.lst h, a.imp fun _ _ r => r.mono s⟩
theorem EnAt.mono {H H' : Hp} (s : Kp H H') {v} {p} (h : EnAt H v p) : EnAt H' v p := ⟨h.1, h.2.mono s⟩
theorem BoAt.mono {H H' : Hp} (s : Same H H') {v} {p} (h : BoAt H v p) : BoAt H' v p := by
  obtain ⟨kvs, h, a⟩ := h
  exact ⟨kvs, s _ _ h, a.imp fun _ _ r => r.mono (.same s)⟩
def But (a : Addr) (H H' : Hp) : Prop := ∀ b o, b ≠ a → H b = some o → H' b = some o
theorem But.trans {a : Addr} {H H1 H2 : Hp} (h : But a H H1) (g : But a H1 H2) : But a H H2 := fun b o e q => g b o e (h b o e q)
theorem But.same {a : Addr} {H H' : Hp} (s : Same H H') : But a H H' := fun b o _ q => s b o q
theorem But.at {a : Addr} {H : Hp} {o : HO} : But a H (upd H a o) := fun b u nb e => by rw [upd_ne nb]; exact e
theorem But.kp {d : Addr} {H H' : Hp} {u : HO} (e : H d = some u) (n : ¬ flatO u) (s : But d H H') : Kp H H' := fun b x f h => s b x (fun c => by subst c; rw [e] at h; cases h; exact n f) h
/-- a dict that was locked and is unlocked again -/
theorem But.unlock {d : Addr} {H H' : Hp} {u : HO} (e : H d = some u) (s : But d H H') : Same H (upd H' d u) := fun b x h => by
  by_cases c : b = d
  · subst c
    rw [e] at h
    cases h
    exact upd_same
  · rw [upd_ne c]; exact s b x c h
theorem But.new {d p : Addr} {H0 H : Hp} {o : HO} (s : But d H0 H) (f : H0 p = none) : But d H0 (upd H p o) := fun b u nb e => by
  rw [upd_ne (ne_of_none e f)]
  exact s b u nb e
/-! the same as data -/
def pairD (p : Int × Int) : PyData := .tuple [.int p.1, .int p.2]
def rowD (row : List Int) : PyData := .list (row.map .int)
def rowsD (rows : List (List Int)) : PyData := .list (rows.map rowD)
def alD (al : Nat → List (List Int)) : PyData := .list [rowsD (al 0), rowsD (al 1)]
def letD (l : List (Int × Int)) : PyData := .list (l.map pairD)
theorem dp_ints {K : PySem.W.Frag} {H : Hp} : ∀ (row : List Int), DpAll K H (row.map V.int) (row.map PyData.int)
  | [] => .nil
  | i :: r => .cons (.int i) (dp_ints r)
theorem A2.dp {K : PySem.W.Frag} {H : Hp} {α : Type} {R : V → α → Prop} (f : α → PyData) (g : ∀ x y, R x y → Dp K H x (f y)) : ∀ {xs : List V} {ys : List α}, A2 R xs ys → DpAll K H xs (ys.map f)
  | _, _, .nil => .nil
  | _, _, .cons a b => .cons (g _ _ a) (b.dp f g)
theorem TpAt.dp {K : PySem.W.Frag} {H : Hp} {v : V} {p} (h : TpAt H v p) : Dp K H v (pairD p) := by
  obtain ⟨t, rfl, h⟩ := h
  exact .tup (SqT.of h) (.cons (.int _) (.cons (.int _) .nil))
theorem RowAt.dp {K : PySem.W.Frag} {H : Hp} {v : V} {p} (h : RowAt H v p) : Dp K H v (rowD p) := by
  obtain ⟨t, rfl, h⟩ := h
  exact .lst (SqL.of h) (dp_ints p)
theorem RowsAt.dp {K : PySem.W.Frag} {H : Hp} {v : V} {p} (h : RowsAt H v p) : Dp K H v (rowsD p) := by
  obtain ⟨t, xs, rfl, h, a⟩ := h
  exact .lst (SqL.of h) (a.dp rowD fun _ _ r => r.dp)
theorem AlAt.dp {K : PySem.W.Frag} {H : Hp} {v : V} {p} (h : AlAt H v p) : Dp K H v (alD p) := by
  obtain ⟨t, x0, x1, rfl, h, a, b⟩ := h
  exact .lst (SqL.of h) (.cons a.dp (.cons b.dp .nil))
theorem LetAt.dp {K : PySem.W.Frag} {H : Hp} {v : V} {p} (h : LetAt H v p) : Dp K H v (letD p) := by
  obtain ⟨t, xs, rfl, h, a⟩ := h
  exact .lst (SqL.of h) (a.dp pairD fun _ _ r => r.dp)
/-! what is drawn -/
def ltP (p q : Int × Int) : Prop := p.1 < q.1 ∨ (p.1 = q.1 ∧ p.2 < q.2)
def ltN (p q : IP) : Prop := p.1 < q.1 ∨ (p.1 = q.1 ∧ p.2 < q.2)
def okOut (x : Int) : Prop := 0 ≤ x ∧ x ≤ 63
def okRow (row : List Int) : Prop := 1 ≤ row.length ∧ row.length ≤ 60 ∧ row.Pairwise (· < ·) ∧ ∀ x ∈ row, okOut x
def okLet (l : List (Int × Int)) : Prop := 1 ≤ l.length ∧ l.length ≤ 60 ∧ l.Pairwise ltP ∧ ∀ p ∈ l, okOut p.1 ∧ okOut p.2
structure TD where
  al : Nat → List (List Int)
  bo : BD
structure WF (T : TD) : Prop where
  n0 : ∀ h, h < 2 → 1 ≤ (T.al h).length ∧ (T.al h).length ≤ 20
  row : ∀ h, h < 2 → ∀ r ∈ T.al h, okRow r
  srt : (T.bo.map (·.1)).Pairwise (· ≠ ·)
  rng : ∀ e ∈ T.bo, e.1.1 < (T.al 0).length ∧ e.1.2 < (T.al 1).length
  lets : ∀ e ∈ T.bo, okLet e.2
  com0 : ∀ a, a < (T.al 0).length → ∃ e ∈ T.bo, e.1.1 = a
  com1 : ∀ a, a < (T.al 1).length → ∃ e ∈ T.bo, e.1.2 = a
  many : T.bo.length ≤ 60
/-! the checks say yes to what is drawn -/
theorem risI_yes {ns : List Int} (h : ns.Pairwise (· < ·)) : risI ns = true := by
  unfold risI
  rw [List.all_eq_true]
  intro b hb
  obtain ⟨i, hi, rfl⟩ := List.mem_map.mp hb
  have hi := List.mem_range.mp hi
  have h1 : i < ns.length := by omega
  have h2 : i + 1 < ns.length := by omega
  show decide _ = true
  rw [decide_eq_true_eq, List.getD_eq_getElem?_getD, List.getD_eq_getElem?_getD, List.getElem?_eq_getElem h1, List.getElem?_eq_getElem h2]
  exact List.pairwise_iff_getElem.mp h i (i + 1) h1 h2 (by omega)
theorem out_yes {x : Int} (h : okOut x) : outB (.int x) = true := by
  unfold outB within
  exact decide_eq_true h
theorem intsOf_ints : ∀ row : List Int, intsOf (row.map PyData.int) = row
  | [] => rfl
  | x :: r => by
    have := intsOf_ints r
    unfold intsOf at this ⊢
    rw [List.map_cons, List.map_cons, this]
theorem outs_yes {row : List Int} (h : okRow row) : outsB (rowD row) = true := by
  show (decide (0 < (row.map PyData.int).length) && (((row.map PyData.int).map outB).all id && risI (intsOf (row.map PyData.int)))) = true
  rw [intsOf_ints, risI_yes h.2.2.1, List.length_map, decide_eq_true (show 0 < row.length by have := h.1; omega), Bool.and_true, Bool.true_and, List.all_eq_true]
  intro b hb
  obtain ⟨d, hd, rfl⟩ := List.mem_map.mp hb
  obtain ⟨x, hx, rfl⟩ := List.mem_map.mp hd
  exact out_yes (h.2.2.2 x hx)
theorem rows_yes {rows : List (List Int)} (h0 : 1 ≤ rows.length) (h : ∀ r ∈ rows, okRow r) : rowsB (rowsD rows) = true := by
  show (decide (0 < (rows.map rowD).length) && ((rows.map rowD).map outsB).all id) = true
  rw [List.length_map, decide_eq_true (show 0 < rows.length by omega), Bool.true_and, List.all_eq_true]
  intro b hb
  obtain ⟨d, hd, rfl⟩ := List.mem_map.mp hb
  obtain ⟨x, hx, rfl⟩ := List.mem_map.mp hd
  exact outs_yes (h x hx)
theorem alone_yes {T : TD} (W : WF T) : aloneB (alD T.al) = true := by
  show (decide (2 = 2) && [rowsB (rowsD (T.al 0)), rowsB (rowsD (T.al 1))].all id) = true
  rw [rows_yes (W.n0 0 (by decide)).1 (W.row 0 (by decide)), rows_yes (W.n0 1 (by decide)).1 (W.row 1 (by decide))]
  rfl
theorem lex_yes {p q : Int × Int} (h : ltP p q) : HT.lexLt [p.1, p.2] [q.1, q.2] = true := by
  rcases h with h | ⟨h1, h2⟩
  · have : ¬ p.1 = q.1 := by omega
    simp [HT.lexLt, h, this]
  · have : ¬ p.2 = q.2 := by omega
    simp [HT.lexLt, h1, h2, this]
theorem risP_yes {l : List (Int × Int)} (h : l.Pairwise ltP) : risP ((l.map pairD).map pairOf) = true := by
  unfold risP
  rw [List.all_eq_true]
  intro b hb
  obtain ⟨i, hi, rfl⟩ := List.mem_map.mp hb
  have hi := List.mem_range.mp hi
  rw [List.length_map, List.length_map] at hi
  have h1 : i < l.length := by omega
  have h2 : i + 1 < l.length := by omega
  have e : ∀ j (hj : j < l.length), ((l.map pairD).map pairOf).getD j [] = [l[j].1, l[j].2] := fun j hj => by
    rw [List.getD_eq_getElem?_getD, List.getElem?_map, List.getElem?_map, List.getElem?_eq_getElem hj]
    rfl
  show HT.lexLt _ _ = true
  rw [e i h1, e (i + 1) h2]
  exact lex_yes (List.pairwise_iff_getElem.mp h i (i + 1) h1 h2 (by omega))
theorem pair_yes {p : Int × Int} (h : okOut p.1 ∧ okOut p.2) : pairB (pairD p) = true := by
  show (decide (2 = 2) && [outB (.int p.1), outB (.int p.2)].all id) = true
  rw [out_yes h.1, out_yes h.2]
  rfl
theorem let_yes {l : List (Int × Int)} (h : okLet l) : letB (letD l) = true := by
  show (decide (0 < (l.map pairD).length) && (((l.map pairD).map pairB).all id && risP ((l.map pairD).map pairOf))) = true
  rw [risP_yes h.2.2.1, List.length_map, decide_eq_true (show 0 < l.length by have := h.1; omega), Bool.and_true, Bool.true_and, List.all_eq_true]
  intro b hb
  obtain ⟨d, hd, rfl⟩ := List.mem_map.mp hb
  obtain ⟨x, hx, rfl⟩ := List.mem_map.mp hd
  exact pair_yes (h.2.2.2 x hx)
theorem in_yes {n0 n1 : Nat} {p : IP} (h : p.1 < n0 ∧ p.2 < n1) : inB n0 n1 (pairD (iI p)) = true := by
  show (decide ((0 : Int) ≤ (p.1 : Int) ∧ (p.1 : Int) ≤ (n0 : Int) - 1) && decide ((0 : Int) ≤ (p.2 : Int) ∧ (p.2 : Int) ≤ (n1 : Int) - 1)) = true
  rw [decide_eq_true (show (0 : Int) ≤ (p.1 : Int) ∧ (p.1 : Int) ≤ (n0 : Int) - 1 by omega), decide_eq_true (show (0 : Int) ≤ (p.2 : Int) ∧ (p.2 : Int) ≤ (n1 : Int) - 1 by omega)]
  rfl
theorem small_row {row : List Int} (h : okRow row) : small (rowD row) := fun ds e => by
  cases e
  rw [List.length_map]
  have := h.2.1
  omega
end TA

set_option Elab.async false
set_option maxRecDepth 100000
set_option maxHeartbeats 4000000
namespace TA
open PySem L2 PyProof.Rows
set_option linter.unusedVariables false
structure Txt2 (K : PySem.W.Frag) (mg : Str → Option Value) : Prop where
  sorted : mg "sorted" = none
  set : mg "set" = none
  max : mg "max" = none
  zip : mg "zip" = none
  dict : mg "dict" = none
theorem hu65_of {A : Around} {k : Nat} (hr : Room k A) : A.units + 65 < cLine := by have := hr.un; omega
theorem keyT_turns {d : Addr} {o : Obj} {kvs : List (List Key × V)} {H0 : Hp} {Qd : Hp → Prop} {B : (Hp → Prop) → V → Hp → Prop} (Pv : Nat → Hp → Prop) (start : Pv 0 H0) (still : ∀ i H, Pv i H → H d = some (.frz o (.dT kvs)))
    (turn : ∀ i k v q H, kvs[i]? = some (k, v) → H q = some (.tup (k.map kV)) → Pv i H → B (Pv (i + 1)) (.ref q) H) (last : ∀ H, Pv kvs.length H → Qd H) :
    ∃ W : Nat → Nat → Hp → Prop, (∃ m, W 0 m H0) ∧ ∀ i m H, W i m H →
      ((Itkt d o kvs).stop i H ∧ Qd H) ∨ ((Itkt d o kvs).go i H ∧ ∃ Nx : Hp → Prop, (∀ H', Nx H' → ∃ m', m' < m ∧ W (i + 1) m' H') ∧ ∀ x H', (Itkt d o kvs).yld i H x H' → B Nx x H') :=
  turns kvs.length Pv start (fun H w => ⟨⟨still _ H w, Nat.le_refl _⟩, last H w⟩) fun i H hi w => ⟨⟨still i H w, hi⟩, fun x H' ⟨e, k, v, q, e1, e2, e3⟩ => by rw [e, e2]; exact turn i k v q H e1 e3 w⟩
theorem itemT_turns {d : Addr} {o : Obj} {kvs : List (List Key × V)} {H0 : Hp} {Qd : Hp → Prop} {B : (Hp → Prop) → V → Hp → Prop} (Pv : Nat → Hp → Prop) (start : Pv 0 H0) (still : ∀ i H, Pv i H → H d = some (.frz o (.dT kvs)))
    (turn : ∀ i k v q T H, kvs[i]? = some (k, v) → H q = some (.tup (k.map kV)) → H T = none → Pv i H → B (Pv (i + 1)) (.ref T) (upd H T (.tup [.ref q, v]))) (last : ∀ H, Pv kvs.length H → Qd H) :
    ∃ W : Nat → Nat → Hp → Prop, (∃ m, W 0 m H0) ∧ ∀ i m H, W i m H →
      ((Itit d o kvs).stop i H ∧ Qd H) ∨ ((Itit d o kvs).go i H ∧ ∃ Nx : Hp → Prop, (∀ H', Nx H' → ∃ m', m' < m ∧ W (i + 1) m' H') ∧ ∀ x H', (Itit d o kvs).yld i H x H' → B Nx x H') :=
  turns kvs.length Pv start (fun H w => ⟨⟨still _ H w, Nat.le_refl _⟩, last H w⟩) fun i H hi w => ⟨⟨still i H w, hi⟩, fun x H' ⟨T, q, k, v, e1, e2, e3, e4, e5⟩ => by rw [e3, e5]; exact turn i k v q T H e1 e2 e4 w⟩
/-! what comes, each once -/
def sel (h : Nat) (p : IP) : Nat := if h = 0 then p.1 else p.2
def distStep (acc : List Int) (x : Int) : List Int := if x ∈ acc then acc else acc ++ [x]
def dist (l : List Int) : List Int := l.foldl distStep []
theorem dist_snoc (l : List Int) (x : Int) : dist (l ++ [x]) = distStep (dist l) x := by
  unfold dist
  rw [List.foldl_append]
  rfl
theorem dist_mem_aux (x : Int) : ∀ (l acc : List Int), x ∈ l.foldl distStep acc ↔ x ∈ acc ∨ x ∈ l
  | [], acc => by simp
  | y :: l, acc => by
    rw [List.foldl_cons, dist_mem_aux x l]
    unfold distStep
    split
    · rename_i h
      constructor
      · rintro (a | a)
        · exact .inl a
        · exact .inr (List.mem_cons_of_mem _ a)
      · rintro (a | a)
        · exact .inl a
        · rcases List.mem_cons.mp a with rfl | a
          · exact .inl h
          · exact .inr a
    · rw [List.mem_append, List.mem_singleton, List.mem_cons]
      constructor
      · rintro ((a | a) | a)
        · exact .inl a
        · exact .inr (.inl a)
        · exact .inr (.inr a)
      · rintro (a | a | a)
        · exact .inl (.inl a)
        · exact .inl (.inr a)
        · exact .inr a
theorem dist_mem {l : List Int} {x : Int} : x ∈ dist l ↔ x ∈ l := by
  unfold dist
  rw [dist_mem_aux]
  simp
theorem dist_nd_aux : ∀ (l acc : List Int), acc.Nodup → (l.foldl distStep acc).Nodup
  | [], _, h => h
  | y :: l, acc, h => by
    rw [List.foldl_cons]
    refine dist_nd_aux l _ ?_
    unfold distStep
    split
    · exact h
    · rename_i c
      exact List.nodup_append.mpr ⟨h, by simp, fun a ha b hb e => by rw [List.mem_singleton] at hb; subst hb; subst e; exact c ha⟩
theorem dist_nd (l : List Int) : (dist l).Nodup := dist_nd_aux l [] List.nodup_nil
theorem nodup_sub : ∀ {xs ys : List Int}, xs.Nodup → (∀ x ∈ xs, x ∈ ys) → xs.length ≤ ys.length
  | [], _, _, _ => Nat.zero_le _
  | x :: xs, ys, h, s => by
    have hx := s x List.mem_cons_self
    obtain ⟨h1, h2⟩ := List.nodup_cons.mp h
    have r := nodup_sub (xs := xs) (ys := ys.erase x) h2 fun y hy => by
      have ne : y ≠ x := fun e => h1 (e ▸ hy)
      exact (List.mem_erase_of_ne ne).mpr (s y (List.mem_cons_of_mem _ hy))
    rw [List.length_erase_of_mem hx] at r
    have : 0 < ys.length := List.length_pos_of_mem hx
    rw [List.length_cons]
    omega
/-- all below n come, nothing else does -/
theorem dist_all {l : List Int} {n : Nat} (h1 : ∀ x ∈ l, ∃ a : Nat, a < n ∧ x = (a : Int)) (h2 : ∀ a : Nat, a < n → (a : Int) ∈ l) : (dist l).length = n := by
  have e : ((List.range n).map fun (a : Nat) => (a : Int)).length = n := by rw [List.length_map, List.length_range]
  have nd : ((List.range n).map fun (a : Nat) => (a : Int)).Nodup := List.Pairwise.map _ (fun a b (h : a ≠ b) => by show (a : Int) ≠ (b : Int); omega) List.nodup_range
  refine Nat.le_antisymm ?_ ?_
  · rw [← e]
    refine nodup_sub (dist_nd l) fun x hx => ?_
    obtain ⟨a, ha, rfl⟩ := h1 x (dist_mem.mp hx)
    exact List.mem_map.mpr ⟨a, List.mem_range.mpr ha, rfl⟩
  · have r := nodup_sub (xs := (List.range n).map fun (a : Nat) => (a : Int)) (ys := dist l) nd fun x hx => by
      obtain ⟨a, ha, rfl⟩ := List.mem_map.mp hx
      exact dist_mem.mpr (h2 a (List.mem_range.mp ha))
    rw [e] at r
    exact r
theorem dist_len_le (l : List Int) : (dist l).length ≤ l.length := nodup_sub (dist_nd l) fun x hx => dist_mem.mp hx
/-- row h of what is let alone -/
theorem AlAt.row {H : Hp} {v : V} {al : Nat → List (List Int)} (h : AlAt H v al) : ∃ t x0 x1, v = .ref t ∧ H t = some (.lst [x0, x1]) ∧ ∀ k, k < 2 → ∃ x, ([x0, x1] : List V)[k]? = some x ∧ RowsAt H x (al k) := by
  obtain ⟨t, x0, x1, e, h, a, b⟩ := h
  refine ⟨t, x0, x1, e, h, fun k hk => ?_⟩
  obtain rfl | rfl : k = 0 ∨ k = 1 := by omega
  · exact ⟨x0, rfl, a⟩
  · exact ⟨x1, rfl, b⟩
theorem kI_at {p : IP} {h : Nat} (hh : h < 2) : ((kI p).map kV)[h]? = some (.int (sel h p : Int)) := by
  obtain rfl | rfl : h = 0 ∨ h = 1 := by omega
  · rfl
  · rfl
theorem dec_nat {a b : Nat} : decide (V.int (a : Int) = V.int (b : Int)) = decide (a = b) := by
  by_cases c : a = b
  · rw [decide_eq_true c, c]; exact decide_eq_true rfl
  · rw [decide_eq_false c]; exact decide_eq_false fun e => by injection e with e; omega
def spEach (K : PySem.W.Frag) : Sp := fun vs H Q _ => ∃ (d : Addr) (v : V) (h : Nat) (kvs : List (List Key × V)) (ips : List IP) (al : Nat → List (List Int)), vs = [.ref d, v, .int (h : Int)] ∧ h < 2 ∧ H d = some (.dT kvs) ∧ kvs.map (·.1) = ips.map kI ∧ AlAt H v al ∧ ips.length ≤ 60 ∧
  ∀ H', Same H H' → Q (.bl (decide ((dist (ips.map fun p => ((sel h p : Nat) : Int))).length = (al h).length))) H'
section
variable {P : Program} {w : World} {K : PySem.W.Frag} {mg : Str → Option Value} {base : Heap}
abbrev nEach : List Str := ["both", "alone", "hand", "pair"]
theorem sc_each : FnScope nEach ["both", "alone", "hand"] (defScope s_each_comes) := ⟨rfl, rfl, rfl, by decide +kernel, rfl, by decide +kernel, by decide +kernel⟩
theorem ok_each {f : Addr} {fd : FuncData} (F : Fun K "each_comes" "each_comes" s_each_comes f fd) (T : Txt K mg) (T2 : Txt2 K mg) : FnOk P w K mg base CX0 1 f fd ["both", "alone", "hand"] (spEach K) := by
  refine F.ok sc_each (fun vs H Q E h => ?_) (fun cdv A outer s H vs Q E hr h => ?_)
  · obtain ⟨d, v, h, kvs, ips, al, rfl, _⟩ := h
    rfl
  obtain ⟨d, v, h, kvs, ips, al, rfl, hh, hd, hk, hA, hn, q⟩ := h
  have nd := sc_each.nd
  refine ⟨_, (pss_one (ps_ret (pe_cmpR op_eq (pe_callB call_len_SI (by rfl) T.len PySem.boot_len (pa_cons (pe_lock (pe_scI (own := [("pair", 3)]) (g := (gName 3)) (tt := tYes) (te := (tOp (rIxT K) (tVar 3) (tVar 2))) rfl nd (pi_keys (pv 0)) (blkOk_by (N := nEach) (sc := defScope s_each_comes) (by decide +kernel)) (fun _ _ _ _ _ => (by exact (pg_name (i := 3) nd rfl (Or.inl rfl)))) (fun _ _ _ _ _ => pts_nil) (fun _ _ _ _ _ => (by exact (pe_ix ix_tup (pv 3) (pv 2) (fun _ _ => rfl)))))) pa_nil)) (pe_callB call_len_seq (by rfl) T.len PySem.boot_len (pa_cons (pe_ix ix_list (pv 1) (pv 2) (fun _ _ => rfl)) pa_nil)) (nomark _)))), ?_⟩
  have hkl : kvs.length = ips.length := by
    have := congrArg List.length hk
    rwa [List.length_map, List.length_map] at this
  refine ⟨d, _, hd, trivial, fun od => ?_⟩
  have hd1 : (upd H d (.frz od (.dT kvs))) d = some (.frz od (.dT kvs)) := upd_same
  refine ⟨_, rfl, d, od, rfl, .inr ⟨kvs, hd1, fun D hD => ?_⟩⟩
  have nD : d ≠ D := ne_of_none hd1 hD
  refine keyT_turns (fun i H' => But d H H' ∧ H' d = some (.frz od (.dT kvs)) ∧ H' D = some (SetO w D (fun j => decide (j ∈ dist ((ips.take i).map fun p => ((sel h p : Nat) : Int)))) (dist ((ips.take i).map fun p => ((sel h p : Nat) : Int))).length)) ?_ (fun i H' h => h.2.1) ?_ ?_
  · refine ⟨But.at.trans (.same (same_new hD _)), by rw [upd_ne nD]; exact hd1, ?_⟩
    rw [upd_same]
    exact congrArg (fun z => some (SetO w D z 0)) (funext fun j => by simp [dist])
  · rintro i k v' qa H' hi hq ⟨b1, e1, e2⟩
    have hi2 : i < ips.length := by rw [← hkl]; exact (List.getElem?_eq_some_iff.mp hi).1
    have ek : k = kI ips[i] := by
      have z : (kvs.map (·.1))[i]? = some k := by rw [List.getElem?_map, hi]; rfl
      rw [hk, List.getElem?_map, List.getElem?_eq_getElem hi2] at z
      exact (Option.some.inj z).symm
    subst ek
    refine ⟨rfl, _, rfl, _, rfl, qa, _, _, _, rfl, rfl, SqT.of hq, atI_nat (kI_at hh), _, _, _, rfl, e2, ?_, ?_⟩
    · have := dist_len_le ((ips.take i).map fun p => ((sel h p : Nat) : Int))
      rw [List.length_map, List.length_take] at this
      unfold scanBound
      omega
    · have hDn : H D = none := by
        cases e : H D with
        | none => rfl
        | some o =>
          have z := But.at (H := H) (o := .frz od (.dT kvs)) D o (Ne.symm nD) e
          rw [z] at hD
          cases hD
      refine ⟨b1.new hDn, by rw [upd_ne nD]; exact e1, ?_⟩
      have et : (ips.take (i + 1)).map (fun p => ((sel h p : Nat) : Int)) = (ips.take i).map (fun p => ((sel h p : Nat) : Int)) ++ [((sel h ips[i] : Nat) : Int)] := by
        rw [List.take_add_one, List.getElem?_eq_getElem hi2, List.map_append]
        rfl
      rw [upd_same, et, dist_snoc]
      generalize dist ((ips.take i).map fun p => ((sel h p : Nat) : Int)) = L
      generalize ((sel h ips[i] : Nat) : Int) = x
      unfold distStep
      by_cases c : x ∈ L
      · rw [if_pos c, if_pos (decide_eq_true c)]
        refine congrArg (fun z => some (SetO w D z L.length)) (funext fun j => ?_)
        by_cases cj : j = x
        · subst cj; simp [c]
        · simp [cj]
      · rw [if_neg c, if_neg (by simp [c])]
        rw [List.length_append]
        refine congrArg (fun z => some (SetO w D z (L.length + 1))) (funext fun j => ?_)
        by_cases cj : j = x
        · subst cj; simp
        · simp [cj]
  · rintro H1 ⟨b1, e1, e2⟩
    rw [hkl, List.take_length] at e2
    have s1 : Same H (upd H1 d (.dT kvs)) := b1.unlock hd
    refine ⟨e1, D, _, _, rfl, (by rw [upd_ne (Ne.symm nD)]; exact e2), ?_⟩
    obtain ⟨t, x0, x1, rfl, ht, hrow⟩ := hA.row
    obtain ⟨x, hx, r, xs, rfl, hr2, ha2⟩ := hrow h hh
    refine ⟨_, rfl, _, rfl, t, _, _, _, rfl, rfl, SqL.of (s1 _ _ ht), atI_nat hx, r, xs, rfl, .inl (SqL.of (s1 _ _ hr2)), rfl, ?_⟩
    rw [dec_nat, ha2.len]
    exact q _ s1
end
end TA

set_option Elab.async false
set_option maxRecDepth 100000
set_option maxHeartbeats 4000000
namespace TA
open PySem L2 PyProof.Rows
set_option linter.unusedVariables false
theorem AlAt.at2 {K : PySem.W.Frag} {H : Hp} {v : V} {al : Nat → List (List Int)} (h : AlAt H v al) : ∃ t, v = .ref t ∧ AloneAt K H t (al 0).length (al 1).length := by
  obtain ⟨t, x0, x1, e, h, ⟨r0, xs0, rfl, h0, a0⟩, ⟨r1, xs1, rfl, h1, a1⟩⟩ := h
  exact ⟨t, e, ⟨r0, r1, xs0, xs1, SqL.of h, SqL.of h0, SqL.of h1, a0.len, a1.len⟩⟩
theorem all_true (n : Nat) : (List.replicate n true).all id = true := by
  rw [List.all_eq_true]
  intro b hb
  exact (List.mem_replicate.mp hb).2
theorem rep_snoc {n : Nat} : (List.replicate n true).map V.bl ++ [V.bl true] = (List.replicate (n + 1) true).map V.bl := by
  rw [List.replicate_succ', List.map_append]
  rfl
theorem comes_all {T : TD} (W : WF T) {h : Nat} (hh : h < 2) : (dist ((T.bo.map (·.1)).map fun p => ((sel h p : Nat) : Int))).length = (T.al h).length := by
  refine dist_all (fun x hx => ?_) (fun a ha => ?_)
  · obtain ⟨p, hp, rfl⟩ := List.mem_map.mp hx
    obtain ⟨e, he, rfl⟩ := List.mem_map.mp hp
    refine ⟨_, ?_, rfl⟩
    obtain ⟨r1, r2⟩ := W.rng e he
    obtain rfl | rfl : h = 0 ∨ h = 1 := by omega
    · exact r1
    · exact r2
  · obtain rfl | rfl : h = 0 ∨ h = 1 := by omega
    · obtain ⟨e, he, rfl⟩ := W.com0 a ha
      exact List.mem_map.mpr ⟨e.1, List.mem_map.mpr ⟨e, he, rfl⟩, rfl⟩
    · obtain ⟨e, he, rfl⟩ := W.com1 a ha
      exact List.mem_map.mpr ⟨e.1, List.mem_map.mpr ⟨e, he, rfl⟩, rfl⟩
theorem small_let {l : List (Int × Int)} (h : okLet l) : small (letD l) := fun ds e => by
  cases e
  rw [List.length_map]
  have := h.2.1
  omega
theorem keys_of {H : Hp} : ∀ {kvs : List (List Key × V)} {bo : BD}, A2 (EnAt H) kvs bo → kvs.map (·.1) = (bo.map (·.1)).map kI
  | _, _, .nil => rfl
  | _, _, .cons a b => by rw [List.map_cons, List.map_cons, List.map_cons, keys_of b, a.1]
theorem kI_tp {H : Hp} {q : Addr} {p : IP} (h : H q = some (.tup ((kI p).map kV))) : TpAt H (.ref q) (iI p) := ⟨q, rfl, h⟩
def spBoth (K : PySem.W.Frag) : Sp := fun vs H Q _ => ∃ (d : Addr) (v : V) (T : TD), vs = [.ref d, v] ∧ BoAt H d T.bo ∧ AlAt H v T.al ∧ WF T ∧ ∀ H', Same H H' → Q (.bl true) H'
section
variable {P : Program} {w : World} {K : PySem.W.Frag} {mg : Str → Option Value} {base : Heap}
abbrev nBoth : List Str := ["thing", "alone", "pair", "let", "hand"]
theorem sc_both : FnScope nBoth ["thing", "alone"] (defScope s_is_both) := ⟨rfl, rfl, rfl, by decide +kernel, rfl, by decide +kernel, by decide +kernel⟩
theorem ok_both {f g1 g2 g3 : Addr} {fd d1 d2 d3 : FuncData} (F : Fun K "is_both" "is_both" s_is_both f fd) (T : Txt K mg) (T2 : Txt2 K mg) (U : TxtH K mg) (W1 : Def P w K mg base "is_input_pair" ["thing", "alone"] 3 (spInp K) g1 d1)
    (W2 : Def P w K mg base "is_let" ["thing"] 5 (spLetB K) g2 d2) (W3 : Def P w K mg base "each_comes" ["both", "alone", "hand"] 1 (spEach K) g3 d3) : FnOk P w K mg base CX0 6 f fd ["thing", "alone"] (spBoth K) := by
  refine F.ok sc_both (fun vs H Q E h => ?_) (fun cdv A outer s H vs Q E hr h => ?_)
  · obtain ⟨d, v, D, rfl, _⟩ := h
    rfl
  obtain ⟨d, v, D, rfl, ⟨kvs, hd, ha⟩, hA, hW, q⟩ := h
  obtain ⟨hT, mH, hH⟩ := U.hands
  have nd := sc_both.nd
  refine ⟨_, (pss_one (ps_ret (pe_and (pe_callB call_isi (by rfl) T.isi boot_isinstance (pa_cons (pv 0) (pa_cons (pe_bltn (v := .ty "dict") (by rfl) T2.dict boot_dict rfl) pa_nil))) (pe_and (pe_callB (cr_all rfl) (by rfl) T.all (by decide +kernel) (pa_cons (pe_lock (pe_lc (own := [("pair", 2), ("let", 3)]) (g := (gTup K 2 (gCons (gName 2) (gCons (gName 3) gNil)))) (tt := tYes) (te := (tAndV (tCall (spInp K) [] E0 (tCons (tVar 2) (tCons (tVar 1) tNil))) (tCall (spLetB K) [] E0 (tCons (tVar 3) tNil)))) rfl nd (pi_itemsT (pv 0)) (blkOk_by (N := nBoth) (sc := defScope s_is_both) (by decide +kernel)) (fun _ _ _ _ _ => (by exact (pg_tup (by rfl) (pgs_cons (pg_name (i := 2) nd rfl (Or.inl rfl)) (pgs_cons (pg_name (i := 3) nd rfl (Or.inl rfl)) pgs_nil))))) (fun _ _ _ _ _ => pts_nil) (fun _ _ _ _ _ => (by exact (pe_and (pe_call W1.G (hr.mono (by decide)) rfl W1.m W1.k W1.b .nil pass0 (pa_cons (pv 2) (pa_cons (pv 1) pa_nil))) (pe_one (pe_call W2.G (hr.mono (by decide)) rfl W2.m W2.k W2.b .nil pass0 (pa_cons (pv 3) pa_nil)))))))) pa_nil)) (pe_one (pe_callB (cr_all rfl) (by rfl) T.all (by decide +kernel) (pa_cons (pe_lc (own := [("hand", 4)]) (g := (gName 4)) (tt := tYes) (te := (tCall (spEach K) [] E0 (tCons (tVar 0) (tCons (tVar 1) (tCons (tVar 4) tNil))))) rfl nd (pi_tup (pe_glob (v := .ref hT) rfl mH rfl)) (blkOk_by (N := nBoth) (sc := defScope s_is_both) (by decide +kernel)) (fun _ _ _ _ _ => (by exact (pg_name (i := 4) nd rfl (Or.inl rfl)))) (fun _ _ _ _ _ => pts_nil) (fun _ _ _ _ _ => (by exact (pe_call W3.G (hr.mono (by decide)) rfl W3.m W3.k W3.b .nil pass0 (pa_cons (pv 0) (pa_cons (pv 1) (pa_cons (pv 4) pa_nil))))))) pa_nil))))))), ?_⟩
  have hkl := ha.len
  refine ⟨_, rfl, V.ref d, .ty "dict", .type "dict", .type "dict", true, rfl, .ty "dict", .base (.dT hd), kit_ty (by decide +kernel), _, rfl, iteT ?_⟩
  refine ⟨d, _, hd, trivial, fun od => ?_⟩
  have hd1 : (upd H d (.frz od (.dT kvs))) d = some (.frz od (.dT kvs)) := upd_same
  refine ⟨_, rfl, d, od, kvs, rfl, hd1, fun L hL => ?_⟩
  have nL : d ≠ L := ne_of_none hd1 hL
  have hLn : H L = none := by
    cases e : H L with
    | none => rfl
    | some o =>
      have z := But.at (H := H) (o := .frz od (.dT kvs)) L o (Ne.symm nL) e
      rw [z] at hL
      cases hL
  refine itemT_turns (fun i H' => But d H H' ∧ H' d = some (.frz od (.dT kvs)) ∧ H' L = some (.lst ((List.replicate i true).map V.bl))) ⟨But.at.trans (.same (same_new hL _)), by rw [upd_ne nL]; exact hd1, upd_same⟩ (fun i H' h => h.2.1) ?_ ?_
  · rintro i k x qa Tt H' hi hq hTn ⟨b1, e1, e2⟩
    obtain ⟨eb, hbi, ek, hx⟩ := ha.get hi
    have hm := List.mem_of_getElem? hbi
    dsimp only at ek hx
    subst ek
    have s1 := same_new hTn (.tup [V.ref qa, x])
    have kp : Kp H (upd H' Tt (.tup [V.ref qa, x])) := (b1.kp hd nf_dT).trans (.same s1)
    obtain ⟨al, rfl, hAl⟩ := (hA.mono kp).at2 (K := K)
    have hi2 : i < kvs.length := (List.getElem?_eq_some_iff.mp hi).1
    refine ⟨Tt, _, rfl, SqT.of upd_same, rfl, _, _, rfl, _, _, rfl, rfl, rfl, _, rfl, _, rfl, _, _, al, _, _, rfl, (kI_tp (s1 _ _ hq)).dp, hAl, fun H2 s2 => ?_⟩
    rw [in_yes (hW.rng eb hm)]
    refine ⟨_, rfl, iteT ⟨_, rfl, _, _, rfl, ((hx.mono kp).mono (.same s2)).dp, small_let (hW.lets eb hm), fun H3 s3 => ?_⟩⟩
    rw [let_yes (hW.lets eb hm)]
    have s13 := (s1.trans s2).trans s3
    refine ⟨_, s13 _ _ e2, ?_, (b1.trans (.same s13)).new hLn, by rw [upd_ne nL]; exact s13 _ _ e1, by rw [upd_same, rep_snoc]⟩
    rw [List.length_map, List.length_replicate]
    have := hW.many
    exact Nat.lt_of_lt_of_le (show i < 100 by omega) (by decide)
  · rintro H1 ⟨b1, e1, e2⟩
    have s1 : Same H (upd H1 d (.dT kvs)) := b1.unlock hd
    refine ⟨e1, L, _, rfl, SqL.of (by rw [upd_ne (Ne.symm nL)]; exact e2), ?_⟩
    rw [all_true]
    refine ⟨_, rfl, iteT ⟨hT, rfl, ⟨_, hH _⟩, fun L2 hL2 => ?_⟩⟩
    generalize upd H1 d (.dT kvs) = H2 at s1 hL2 ⊢
    refine tup_turns (xs := [V.int 0, V.int 1]) (fun i H' => Same H H' ∧ H' L2 = some (.lst ((List.replicate i true).map V.bl))) ⟨s1.trans (same_new hL2 _), upd_same⟩ (fun i H' _ _ => hH H') ?_ ?_
    · rintro i z H' hz ⟨s3, h3⟩
      have hi : i < 2 := (List.getElem?_eq_some_iff.mp hz).1
      obtain rfl : z = .int (i : Int) := by
        obtain rfl | rfl : i = 0 ∨ i = 1 := by omega
        · simpa using hz.symm
        · simpa using hz.symm
      obtain ⟨al, x0, x1, rfl, _⟩ := id hA
      refine ⟨rfl, _, rfl, _, rfl, _, rfl, d, _, i, kvs, D.bo.map (·.1), D.al, rfl, hi, s3 _ _ hd, keys_of ha, hA.mono (.same s3), by rw [List.length_map]; exact hW.many, fun H4 s4 => ?_⟩
      rw [comes_all hW hi, decide_eq_true rfl]
      have hL2n : H L2 = none := by
        cases e : H L2 with
        | none => rfl
        | some o => rw [s1 _ _ e] at hL2; cases hL2
      refine ⟨_, s4 _ _ h3, ?_, same_upd (s3.trans s4) hL2n, by rw [upd_same, rep_snoc]⟩
      rw [List.length_map, List.length_replicate]
      exact Nat.lt_of_lt_of_le (show i < 100 by omega) (by decide)
    · rintro H3 ⟨s3, h3⟩
      refine ⟨L2, _, rfl, SqL.of h3, ?_⟩
      rw [all_true]
      exact q _ s3
end
end TA

set_option Elab.async false
set_option maxRecDepth 100000
set_option maxHeartbeats 4000000
namespace TA
open PySem L2 PyProof.Rows
set_option linter.unusedVariables false
abbrev s_init : Stmt := inClass s_Task 0
abbrev s_eq : Stmt := inClass s_Task 1
abbrev s_inputs : Stmt := inClass s_Task 2
abbrev s_pairs : Stmt := inClass s_Task 3
theorem kfld : ¬ (("alone" : Str) = "both") := by decide +kernel
/-- a task's fields -/
def flds (a d : Addr) : List (Str × V) := putF "both" (.ref d) (putF "alone" (.ref a) [])
theorem flds_eq (a d : Addr) : flds a d = ([("alone", V.ref a), ("both", V.ref d)] : List (Str × V)) := by
  show (if ("alone" : Str) = "both" then [(("alone" : Str), V.ref d)] else (("alone" : Str), V.ref a) :: putF "both" (V.ref d) []) = ([("alone", V.ref a), ("both", V.ref d)] : List (Str × V))
  rw [if_neg kfld]
  all_goals rfl
theorem flds_alone (a d : Addr) : (flds a d).lookup ("alone" : Str) = some (.ref a) := by
  unfold flds
  rw [lookup_putF, if_neg kfld, lookup_putF, if_pos rfl]
theorem flds_both (a d : Addr) : (flds a d).lookup ("both" : Str) = some (.ref d) := by
  unfold flds
  rw [lookup_putF, if_pos rfl]
theorem flds_no (a d : Addr) {m : Str} (h1 : ¬ m = "both") (h2 : ¬ m = "alone") : (flds a d).lookup m = none := by
  unfold flds
  rw [lookup_putF, if_neg h1, lookup_putF, if_neg h2]
  all_goals rfl
/-- a task stands at p -/
def TaskAt (C : Addr) (H : Hp) (p : Addr) (T : TD) : Prop := ∃ dx a d, H p = some (.ins C dx (flds a d)) ∧ AlAt H (.ref a) T.al ∧ BoAt H d T.bo
theorem TaskAt.mono {C : Addr} {H H' : Hp} (s : Same H H') {p : Addr} {T : TD} (h : TaskAt C H p T) : TaskAt C H' p T := by
  obtain ⟨dx, a, d, h1, h2, h3⟩ := h
  exact ⟨dx, a, d, s _ _ h1, h2.mono (.same s), h3.mono s⟩
/-- a task whose dict is perhaps walked just now -/
def BoR (H : Hp) (d : Addr) (bo : BD) : Prop := ∃ kvs, Rd H d (.dT kvs) ∧ A2 (EnAt H) kvs bo
def TaskR (C : Addr) (H : Hp) (p : Addr) (T : TD) : Prop := ∃ dx a d, H p = some (.ins C dx (flds a d)) ∧ AlAt H (.ref a) T.al ∧ BoR H d T.bo
theorem rd_same {H H' : Hp} (s : Same H H') {a : Addr} {u : HO} (h : Rd H a u) : Rd H' a u := by
  rcases h with h | ⟨o, h⟩
  · exact .inl (s _ _ h)
  · exact .inr ⟨o, s _ _ h⟩
theorem rd_some {H : Hp} {a : Addr} {u : HO} (h : Rd H a u) : H a ≠ none := by
  rcases h with h | ⟨o, h⟩ <;> rw [h] <;> exact fun c => by cases c
theorem BoR.mono {H H' : Hp} (s : Same H H') {v} {p} (h : BoR H v p) : BoR H' v p := by
  obtain ⟨kvs, h, a⟩ := h
  exact ⟨kvs, rd_same s h, a.imp fun _ _ r => r.mono (.same s)⟩
theorem TaskAt.r {C : Addr} {H : Hp} {p : Addr} {T : TD} (h : TaskAt C H p T) : TaskR C H p T := by
  obtain ⟨dx, a, d, h1, h2, kvs, h3, h4⟩ := h
  exact ⟨dx, a, d, h1, h2, kvs, .inl h3, h4⟩
theorem TaskR.mono {C : Addr} {H H' : Hp} (s : Same H H') {p : Addr} {T : TD} (h : TaskR C H p T) : TaskR C H' p T := by
  obtain ⟨dx, a, d, h1, h2, h3⟩ := h
  exact ⟨dx, a, d, s _ _ h1, h2.mono (.same s), h3.mono s⟩
theorem dget_rd {H : Hp} {a b : Addr} {kvs : List (List Key × V)} {k : List Key} (e : Rd H a (.dT kvs)) (eb : H b = some (.tup (k.map kV))) : DGet H a (.ref b) (valV kvs k) := .inr ⟨kvs, k, b, e, rfl, eb, rfl⟩
def rLenTR : List V → Hp → VK → Prop := fun xs H Q => ∃ (p : Addr) (kvs : List (List Key × V)), xs = [.ref p] ∧ Rd H p (.dT kvs) ∧ Q (.int ((kvs.length : Nat) : Int)) H
theorem len_dTR {X : Cx} : CallR X (.builtin "len") rLenTR := by
  intro pins s σ H xs us Q I r h
  obtain ⟨p, kvs, rfl, hp, q⟩ := h
  obtain ⟨u, rfl, rx⟩ := vals1 r
  obtain rfl : u = .ref p := rx
  obtain ⟨z, hd, ys, rel, dd⟩ := dt_rd I.hok hp
  have hl : kvs.length = ys.length := Paired.length rel
  refine call_len_dictH hd dd (by rw [← hl]; rw [sizeLine_eq] at z; omega) ?_
  rw [← hl]
  exact ⟨.int ((kvs.length : Nat) : Int), H, I.tok _, ⟨_, rfl⟩, q⟩
structure TxtC (K : PySem.W.Frag) (mg : Str → Option Value) (C : Addr) : Prop where
  cl : Cls K C
  nA : NoAttr K C "alone"
  nB : NoAttr K C "both"
  mg : mg "Task" = some (.ref C)
structure MDef (P : Program) (w : World) (K : PySem.W.Frag) (mg : Str → Option Value) (base : Heap) (C : Addr) (m : Str) (ps : List Str) (k : Nat) (sp : Sp) (f : Addr) (fd : FuncData) : Prop where
  G : FnOk P w K mg base CX0 k f fd ps sp
  b : Binds K fd ps []
  M : Meth K C m f
/-- what is new in H' behind H0, but for D -/
def nwx (H0 : Hp) (D : Addr) (H' : Hp) : Hp := fun b => if H0 b = none ∧ b ≠ D then H' b else none
theorem nwx_some {H0 : Hp} {D : Addr} {H' : Hp} {b : Addr} {o : HO} (h : nwx H0 D H' b = some o) : H0 b = none ∧ b ≠ D ∧ H' b = some o := by
  unfold nwx at h
  split at h
  · rename_i c
    exact ⟨c.1, c.2, h⟩
  · cases h
theorem nwx_put {H0 : Hp} {D : Addr} {H' : Hp} {b : Addr} {o : HO} (h0 : H0 b = none) (hD : b ≠ D) (h : H' b = some o) : nwx H0 D H' b = some o := by
  unfold nwx
  rw [if_pos ⟨h0, hD⟩, h]
theorem kp_nwx {H0 : Hp} {D : Addr} {H' : Hp} : Kp (nwx H0 D H') H' := fun b o _ h => (nwx_some h).2.2
theorem kp_nwx_but {H0 : Hp} {D : Addr} {H H' : Hp} (s : But D H H') : Kp (nwx H0 D H) (nwx H0 D H') := fun b o _ h => by
  obtain ⟨h1, h2, h3⟩ := nwx_some h
  exact nwx_put h1 h2 (s b o h2 h3)
theorem none_of_same {H H' : Hp} (s : Same H H') {b : Addr} (h : H' b = none) : H b = none := by
  cases e : H b with
  | none => rfl
  | some o => rw [s _ _ e] at h; cases h
theorem none_of_but {d : Addr} {H H' : Hp} (s : But d H H') {b : Addr} (n : b ≠ d) (h : H' b = none) : H b = none := by
  cases e : H b with
  | none => rfl
  | some o => rw [s _ _ n e] at h; cases h
theorem kp_nwx_in {H0 H1 : Hp} {D D1 : Addr} {H2 : Hp} (s : Same H0 H1) {o1 : HO} (e1 : H1 D1 = some o1) : Kp (nwx H1 D H2) (nwx H0 D1 H2) := fun b o _ h => by
  obtain ⟨h1, h2, h3⟩ := nwx_some h
  exact nwx_put (none_of_same s h1) (fun c => by subst c; rw [e1] at h1; cases h1) h3
/-- pairs let in a new list, the pairs' tuples anywhere -/
def Let2 (Hl H : Hp) (v : V) (l : List (Int × Int)) : Prop := ∃ t xs, v = .ref t ∧ Hl t = some (.lst xs) ∧ A2 (TpAt H) xs l
theorem Let2.mono {Hl Hl' H H' : Hp} (s : Kp Hl Hl') (s' : Kp H H') {v : V} {p} (h : Let2 Hl H v p) : Let2 Hl' H' v p := by
  obtain ⟨t, xs, e, h, a⟩ := h
  exact ⟨t, xs, e, s.lst h, a.imp fun _ _ r => r.mono s'⟩
def En2 (Hl H : Hp) (e : List Key × V) (b : IP × List (Int × Int)) : Prop := e.1 = kI b.1 ∧ Let2 Hl H e.2 b.2
theorem En2.mono {Hl Hl' H H' : Hp} (s : Kp Hl Hl') (s' : Kp H H') {v} {p} (h : En2 Hl H v p) : En2 Hl' H' v p := ⟨h.1, h.2.mono s s'⟩
theorem En2.en {Hl H : Hp} (s : Kp Hl H) {v} {p} (h : En2 Hl H v p) : EnAt H v p := by
  obtain ⟨e, t, xs, e2, h, a⟩ := h
  exact ⟨e, t, xs, e2, s.lst h, a⟩
theorem kI_inj {p q : IP} (h : kI p = kI q) : p = q := by
  unfold kI at h
  injection h with h1 h2
  injection h2 with h2 _
  injection h1 with h1
  injection h2 with h2
  have a : p.1 = q.1 := by omega
  have b : p.2 = q.2 := by omega
  exact Prod.ext a b
theorem valV_noneP : ∀ {kvs : List (List Key × V)} {k : List Key}, (∀ e ∈ kvs, e.1 ≠ k) → valV kvs k = none
  | [], _, _ => rfl
  | e :: r, k, h => by
    rw [valV_neg (h e List.mem_cons_self)]
    exact valV_noneP fun x hx => h x (List.mem_cons_of_mem _ hx)
theorem ltN_ne {p q : IP} (h : ltN p q) : p ≠ q := by
  rintro rfl
  rcases h with h | ⟨_, h⟩ <;> omega
/-- what a new task holds: its lists are new, all of them -/
def NewAt (C : Addr) (H H' : Hp) (p : Addr) (T : TD) : Prop := ∃ dx a d kvs, H' p = some (.ins C dx (flds a d)) ∧ AlAt (nwx H p H') (.ref a) T.al ∧ H d = none ∧ H' d = some (.dT kvs) ∧ A2 (En2 (nwx H p H') H') kvs T.bo
theorem NewAt.task {C : Addr} {H H' : Hp} {p : Addr} {T : TD} (h : NewAt C H H' p T) : TaskAt C H' p T := by
  obtain ⟨dx, a, d, kvs, h1, h2, _, h3, h4⟩ := h
  exact ⟨dx, a, d, h1, h2.mono kp_nwx, kvs, h3, h4.imp fun _ _ r => r.en kp_nwx⟩
def spInit (K : PySem.W.Frag) (C : Addr) : Sp := fun vs H Q _ => ∃ (p dx a d : Addr) (T : TD), vs = [.ref p, .ref a, .ref d] ∧ H p = some (.ins C dx []) ∧ AlAt H (.ref a) T.al ∧ BoAt H d T.bo ∧ WF T ∧
  ∀ H', But p H H' → NewAt C H H' p T → Q .non H'
theorem al_rows {H : Hp} {v : V} {al : Nat → List (List Int)} (h : AlAt H v al) : ∃ t xs, v = .ref t ∧ H t = some (.lst xs) ∧ A2 (RowsAt H) xs [al 0, al 1] := by
  obtain ⟨t, x0, x1, e, h, a, b⟩ := h
  exact ⟨t, _, e, h, .cons a (.cons b .nil)⟩
theorem al_of {H : Hp} {t : Addr} {xs : List V} {al : Nat → List (List Int)} (h : H t = some (.lst xs)) (a : A2 (RowsAt H) xs [al 0, al 1]) : AlAt H (.ref t) al := by
  cases a with
  | cons a b =>
    cases b with
    | cons b c =>
      cases c
      exact ⟨t, _, _, rfl, h, a, b⟩
theorem small_rows {T : TD} (W : WF T) {h : Nat} (hh : h < 2) : ∀ e ∈ (T.al h).map rowD, small e := fun e he => by
  obtain ⟨r, hr, rfl⟩ := List.mem_map.mp he
  exact small_row (W.row h hh r hr)
theorem take_get {α : Type} {l : List α} {i : Nat} {x : α} (h : l[i]? = some x) : l.take (i + 1) = l.take i ++ [x] := by
  rw [List.take_add_one, h]
  rfl
section
variable {P : Program} {w : World} {K : PySem.W.Frag} {mg : Str → Option Value} {base : Heap}
abbrev nInit : List Str := ["self", "alone", "both", "rows", "outputs", "pair", "let"]
theorem sc_init : FnScope nInit ["self", "alone", "both"] (defScope s_init) := ⟨rfl, rfl, rfl, by decide +kernel, rfl, by decide +kernel, by decide +kernel⟩
theorem ok_init {f g4 g5 C : Addr} {fd d4 d5 : FuncData} (F : Fun K "__init__" "Task.__init__" s_init f fd) (T : Txt K mg) (T2 : Txt2 K mg) (Z : TxtC K mg C) (W4 : Def P w K mg base "is_alone" ["thing"] 6 (spAlone K) g4 d4)
    (W5 : Def P w K mg base "is_both" ["thing", "alone"] 6 (spBoth K) g5 d5) : FnOk P w K mg base CX0 7 f fd ["self", "alone", "both"] (spInit K C) := by
  refine F.ok sc_init (fun vs H Q E h => ?_) (fun cdv A outer s H vs Q E hr h => ?_)
  · obtain ⟨p, dx, a, d, D, rfl, _⟩ := h
    rfl
  obtain ⟨p, dx, a, d, D, rfl, hp, hA, hB, hW, q⟩ := h
  have nd := sc_init.nd
  have hu := hu_of hr
  refine ⟨_, (pss_cons (ps_if (pt_not (pt_val (pe_call W4.G (hr.mono (by decide)) rfl W4.m W4.k W4.b .nil pass0 (pa_cons (pv 1) pa_nil))))
      pss_never
      pss_nil)
    (pss_cons (ps_if (pt_not (pt_val (pe_call W5.G (hr.mono (by decide)) rfl W5.m W5.k W5.b .nil pass0 (pa_cons (pv 2) (pa_cons (pv 1) pa_nil)))))
      pss_never
      pss_nil)
    (pss_cons (ps_fld (pv 0) (pe_lc (own := [("rows", 3)]) (g := (gName 3)) (tt := tYes) (te := (tLc (iList K (tVar 3)) (gName 4) tYes (tCB (fun xs H Q => ∃ p ys, xs = [.ref p] ∧ (SqL K H p ys ∨ SqT K H p ys) ∧ ∀ l, H l = none → Q (.ref l) (upd H l (.lst ys))) (tCons (tVar 4) tNil)) [4])) rfl nd (pi_list (pv 1)) (blkOk_by (N := nInit) (sc := defScope s_init) (by decide +kernel)) (fun _ _ _ _ _ => (by exact (pg_name (i := 3) nd rfl (Or.inl rfl)))) (fun _ _ _ _ _ => pts_nil) (fun _ _ _ _ _ => (by exact (pe_lc (own := [("outputs", 4)]) (g := (gName 4)) (tt := tYes) (te := (tCB (fun xs H Q => ∃ p ys, xs = [.ref p] ∧ (SqL K H p ys ∨ SqT K H p ys) ∧ ∀ l, H l = none → Q (.ref l) (upd H l (.lst ys))) (tCons (tVar 4) tNil))) rfl nd (pi_list (pv 3)) (blkOk_by (N := nInit)  (by kernel_rfl)) (fun _ _ _ _ _ => (by exact (pg_name (i := 4) nd rfl (Or.inl rfl)))) (fun _ _ _ _ _ => pts_nil) (fun _ _ _ _ _ => (by exact (pe_callTy call_list_of (by rfl) T.list boot_list (pa_cons (pv 4) pa_nil)))))))) rfl)
    (pss_one (ps_fld (pv 0) (pe_lock (pe_dcT (own := [("pair", 5), ("let", 6)]) (g := (gTup K 2 (gCons (gName 5) (gCons (gName 6) gNil)))) (tt := tYes) (tk := (tVar 5)) (tv := (tCB (fun xs H Q => ∃ p ys, xs = [.ref p] ∧ (SqL K H p ys ∨ SqT K H p ys) ∧ ∀ l, H l = none → Q (.ref l) (upd H l (.lst ys))) (tCons (tVar 6) tNil))) hu rfl nd (pi_itemsT (pv 2)) (blkOk_by (N := nInit) (sc := defScope s_init) (by decide +kernel)) (fun _ _ _ _ _ => (by exact (pg_tup (by rfl) (pgs_cons (pg_name (i := 5) nd rfl (Or.inl rfl)) (pgs_cons (pg_name (i := 6) nd rfl (Or.inl rfl)) pgs_nil))))) (fun _ _ _ _ _ => pts_nil) (fun _ _ _ _ _ => (by exact (pv 5))) (fun _ _ _ _ _ => (by exact (pe_callTy call_list_of (by rfl) T.list boot_list (pa_cons (pv 6) pa_nil)))))) rfl))))), ?_⟩
  refine ⟨_, rfl, _, _, rfl, hA.dp, (fun ds e => by cases e; exact (by decide : 2 ≤ 1000)), ?_, fun H1 s1 => ?_⟩
  · rintro ds e z hz
    cases e
    rcases List.mem_cons.mp hz with rfl | hz
    · refine ⟨fun es e => ?_, fun es e => ?_⟩
      · cases e
        rw [List.length_map]
        have := hW.n0 0 (by decide); omega
      · cases e
        exact small_rows hW (by decide)
    · obtain rfl := List.mem_singleton.mp hz
      refine ⟨fun es e => ?_, fun es e => ?_⟩
      · cases e
        rw [List.length_map]
        have := hW.n0 1 (by decide); omega
      · cases e
        exact small_rows hW (by decide)
  rw [alone_yes hW]
  refine ⟨true, rfl, iteF ?_⟩
  refine ⟨_, rfl, _, rfl, d, _, D, rfl, hB.mono s1, hA.mono (.same s1), hW, fun H2 s2 => ⟨true, rfl, iteF ?_⟩⟩
  have s12 := s1.trans s2
  obtain ⟨al, xs, e, hal, hrows⟩ := al_rows (hA.mono (.same s12))
  obtain rfl : a = al := by injection e
  clear e
  refine ⟨_, rfl, a, rfl, ⟨_, SqL.of hal⟩, fun D1 hD1 => ?_⟩
  have hD1n : H D1 = none := none_of_same s12 hD1
  refine list_turns (xs := xs) (fun i H' => Same H2 H' ∧ ∃ ys, H' D1 = some (.lst ys) ∧ A2 (RowsAt (nwx H2 D1 H')) ys ([D.al 0, D.al 1].take i)) ⟨same_new hD1 _, [], upd_same, .nil⟩ (fun i H' _ h => h.1.seq (SqL.of hal)) ?_ ?_
  · rintro i x H' hx ⟨s3, ys, hy, ay⟩
    obtain ⟨rows, hr1, t, zs, rfl, ht, az⟩ := hrows.get hx
    have ht3 := s3 _ _ ht
    have hsz : rows.length ≤ 20 := by
      have hi : i < 2 := (List.getElem?_eq_some_iff.mp hr1).1
      obtain rfl | rfl : i = 0 ∨ i = 1 := by omega
      · obtain rfl : D.al 0 = rows := by simpa using hr1
        exact (hW.n0 0 (by decide)).2
      · obtain rfl : D.al 1 = rows := by simpa using hr1
        exact (hW.n0 1 (by decide)).2
    refine ⟨rfl, _, rfl, t, rfl, ⟨_, SqL.of ht3⟩, fun D2 hD2 => ?_⟩
    refine list_turns (xs := zs) (fun j H4 => Same H' H4 ∧ ∃ us, H4 D2 = some (.lst us) ∧ A2 (RowAt (nwx H' D2 H4)) us (rows.take j)) ⟨same_new hD2 _, [], upd_same, .nil⟩ (fun j H4 _ h => h.1.seq (SqL.of ht3)) ?_ ?_
    · rintro j z H4 hz ⟨s4, us, hu4, au⟩
      obtain ⟨row, hr2, tt, rfl, htt⟩ := az.get hz
      have htt4 := s4 _ _ (s3 _ _ htt)
      refine ⟨rfl, _, rfl, tt, _, rfl, .inl (SqL.of htt4), fun l hl => ?_⟩
      have s5 := same_new hl (.lst (row.map V.int))
      have nl : l ≠ D2 := (ne_of_none hu4 hl).symm
      have hjr : us.length < rows.length := by
        rw [au.len, List.length_take]
        have := (List.getElem?_eq_some_iff.mp hr2).1
        omega
      refine ⟨us, s5 _ _ hu4, Nat.lt_of_lt_of_le (show us.length < 100 by omega) (by decide), ?_⟩
      refine ⟨same_upd (s4.trans s5) hD2, _, upd_same, ?_⟩
      rw [take_get hr2]
      refine A2.snoc (au.imp fun _ _ r => r.mono (kp_nwx_but ((But.same s5).trans But.at))) ⟨l, rfl, nwx_put (none_of_same s4 hl) nl ?_⟩
      rw [upd_ne nl]
      exact upd_same
    · rintro H4 ⟨s4, us, hu4, au⟩
      have hzl := az.len
      rw [hzl, List.take_length] at au
      have ne : D2 ≠ D1 := (ne_of_none hy hD2).symm
      refine ⟨ys, s4 _ _ hy, ?_, ?_⟩
      · rw [ay.len, List.length_take]
        exact Nat.lt_of_le_of_lt (Nat.min_le_right _ _) (by show 2 < sizeLine; decide)
      refine ⟨same_upd (s3.trans s4) hD1, _, upd_same, ?_⟩
      rw [take_get hr1]
      refine A2.snoc (ay.imp fun _ _ r => r.mono (kp_nwx_but ((But.same s4).trans But.at))) ?_
      have r0 : RowsAt (nwx H2 D1 H4) (.ref D2) rows := ⟨D2, us, rfl, nwx_put (none_of_same s3 hD2) ne hu4, au.imp fun _ _ r => r.mono (kp_nwx_in s3 hy)⟩
      exact r0.mono (kp_nwx_but But.at)
  · rintro H3 ⟨s3, ys, hy, ay⟩
    have hxl := hrows.len
    rw [hxl, List.take_length] at ay
    have hp3 := s3 _ _ (s12 _ _ hp)
    refine ⟨_, rfl, p, C, dx, _, rfl, hp3, Z.cl, Z.nA, (by show 0 < 1000; decide), ?_⟩
    have npD1 : D1 ≠ p := (ne_of_none (s12 _ _ hp) hD1).symm
    generalize hH5 : upd H3 p (.ins C dx (putF "alone" (.ref D1) [])) = H5
    have b5 : But p H H5 := by rw [← hH5]; exact (But.same (s12.trans s3)).trans But.at
    have hp5 : H5 p = some (.ins C dx (putF "alone" (.ref D1) [])) := by rw [← hH5]; exact upd_same
    have hD15 : H5 D1 = some (.lst ys) := by rw [← hH5, upd_ne npD1]; exact hy
    have ay5 : A2 (RowsAt (nwx H p H5)) ys [D.al 0, D.al 1] := ay.imp fun _ _ r => r.mono fun b o _ h => by
      obtain ⟨h1, h2, h3⟩ := nwx_some h
      have hb : b ≠ p := fun c => by subst c; rw [s12 _ _ hp] at h1; cases h1
      refine nwx_put (none_of_same s12 h1) hb ?_
      rw [← hH5, upd_ne hb]; exact h3
    obtain ⟨kvs, hd, ha⟩ := hB
    have ndp : d ≠ p := ne_of hd hp (fun z => by cases z)
    have hd5 : H5 d = some (.dT kvs) := b5 _ _ ndp hd
    have ha5 : A2 (EnAt H5) kvs D.bo := ha.imp fun _ _ r => r.mono (b5.kp hp (by rintro (⟨_, h⟩ | ⟨_, h⟩) <;> cases h))
    refine ⟨d, _, hd5, trivial, fun od => ?_⟩
    have hd6 : (upd H5 d (.frz od (.dT kvs))) d = some (.frz od (.dT kvs)) := upd_same
    refine ⟨_, rfl, d, od, kvs, rfl, hd6, fun L hL => ?_⟩
    have nL : d ≠ L := ne_of_none hd6 hL
    have hLn : H5 L = none := none_of_but But.at (Ne.symm nL) hL
    refine itemT_turns (fun i H' => But d H5 H' ∧ H' d = some (.frz od (.dT kvs)) ∧ ∃ ks, H' L = some (.dT ks) ∧ A2 (En2 (nwx H5 L H') H') ks (D.bo.take i)) ⟨But.at.trans (.same (same_new hL _)), by rw [upd_ne nL]; exact hd6, [], upd_same, .nil⟩ (fun i H' h => h.2.1) ?_ ?_
    · rintro i k x qa Tt H' hi hq hTn ⟨b1, e1, ks, e2, as⟩
      obtain ⟨eb, hbi, ek, hx⟩ := ha5.get hi
      dsimp only at ek hx
      subst ek
      have s1 := same_new hTn (.tup [V.ref qa, x])
      have kp : Kp H5 (upd H' Tt (.tup [V.ref qa, x])) := (b1.kp hd5 nf_dT).trans (.same s1)
      obtain ⟨t, xs2, rfl, ht, at2⟩ := hx.mono kp
      refine ⟨Tt, _, rfl, SqT.of upd_same, rfl, _, _, rfl, _, _, rfl, rfl, rfl, _, rfl, _, rfl, t, _, rfl, .inl (SqL.of ht), fun l hl => ?_⟩
      have s2 := same_new hl (.lst xs2)
      have hil : i < D.bo.length := (List.getElem?_eq_some_iff.mp hbi).1
      have hks : ks.length < 100 := by
        rw [as.len, List.length_take]
        have := hW.many
        omega
      refine ⟨ks, _, qa, rfl, s2 _ _ (s1 _ _ hq), s2 _ _ (s1 _ _ e2), Nat.lt_of_lt_of_le hks (by decide), ?_⟩
      have nl : l ≠ L := (ne_of_none (s1 _ _ e2) hl).symm
      have hvn : valV ks (kI eb.1) = none := valV_noneP fun e he c => by
        obtain ⟨y, hy1, hy2, _⟩ := as.mem he
        rw [hy2] at c
        have c := kI_inj c
        obtain ⟨j, hj⟩ := List.getElem?_of_mem hy1
        have hjl : j < i := by
          have := (List.getElem?_eq_some_iff.mp hj).1
          rw [List.length_take] at this
          omega
        rw [List.getElem?_take_of_lt hjl] at hj
        have sr := List.pairwise_iff_getElem.mp hW.srt j i (by rw [List.length_map]; omega) (by rw [List.length_map]; exact hil) hjl
        rw [List.getElem_map, List.getElem_map, (List.getElem?_eq_some_iff.mp hj).2, (List.getElem?_eq_some_iff.mp hbi).2] at sr
        exact sr c
      rw [putK_new _ hvn]
      have s12' := s1.trans s2
      have kpl : Kp (upd (upd H' Tt (.tup [V.ref qa, V.ref t])) l (.lst xs2)) (upd (upd (upd H' Tt (.tup [V.ref qa, V.ref t])) l (.lst xs2)) L (.dT (ks ++ [(kI eb.1, V.ref l)]))) := .put (s12' _ _ e2) nf_dT
      refine ⟨(b1.trans (.same s12')).new hLn, by rw [upd_ne nL]; exact s12' _ _ e1, _, upd_same, ?_⟩
      rw [take_get hbi]
      refine A2.snoc (as.imp fun _ _ r => r.mono (kp_nwx_but ((But.same s12').trans But.at)) ((Kp.same s12').trans kpl)) ⟨rfl, l, xs2, rfl, nwx_put ?_ nl ?_, at2.imp fun _ _ r => r.mono ((Kp.same s2).trans kpl)⟩
      · refine none_of_but (b1.trans (.same s1)) (fun c => ?_) hl
        subst c
        rw [s1 _ _ e1] at hl
        cases hl
      · rw [upd_ne nl]; exact upd_same
    · rintro H6 ⟨b1, e1, ks, e2, as⟩
      rw [ha5.len, List.take_length] at as
      have s6 : Same H5 (upd H6 d (.dT kvs)) := b1.unlock hd5
      generalize hH7 : upd H6 d (.dT kvs) = H7 at s6
      have e27 : H7 L = some (.dT ks) := by rw [← hH7, upd_ne (Ne.symm nL)]; exact e2
      have kp67 : Kp H6 H7 := by rw [← hH7]; exact .put e1 nf_frz
      refine ⟨e1, ?_⟩
      have hp7 := s6 _ _ hp5
      refine ⟨_, rfl, p, C, dx, _, rfl, hp7, Z.cl, Z.nB, (by show 1 < 1000; decide), ?_⟩
      have npL : L ≠ p := fun c => by subst c; rw [hp5] at hLn; cases hLn
      have nLp : H L = none := none_of_but b5 npL hLn
      have b7 : But p H (upd H7 p (.ins C dx (flds D1 L))) := (b5.trans (.same s6)).trans But.at
      refine q _ b7 ⟨dx, D1, L, ks, upd_same, al_of (nwx_put hD1n npD1 ?_) (ay5.imp fun _ _ r => r.mono (kp_nwx_but ((But.same s6).trans But.at))), nLp, ?_, as.imp fun _ _ r => r.mono (fun b o _ h => ?_) ?_⟩
      · rw [upd_ne npD1]; exact s6 _ _ hD15
      · rw [upd_ne npL]; exact e27
      · obtain ⟨h1, h2, h3⟩ := nwx_some h
        have hb : b ≠ p := fun c => by subst c; rw [hp5] at h1; cases h1
        have hbd : b ≠ d := fun c => by subst c; rw [hd5] at h1; cases h1
        refine nwx_put (none_of_but b5 hb h1) hb ?_
        rw [upd_ne hb, ← hH7, upd_ne hbd]
        exact h3
      · exact kp67.trans (.put hp7 (by rintro (⟨_, h⟩ | ⟨_, h⟩) <;> cases h))
end
end TA

set_option Elab.async false
set_option maxRecDepth 100000
set_option maxHeartbeats 4000000
namespace TA
open PySem L2 PyProof.Rows
set_option linter.unusedVariables false
theorem inV_int (x : Int) (fs : List Int) : inV (.int x) (fs.map V.int) = decide (x ∈ fs) := by
  induction fs with
  | nil => rfl
  | cons y r ih =>
    show (eqV (.int y) (.int x) || inV (.int x) (r.map V.int)) = _
    rw [ih]
    by_cases c : y = x
    · subst c
      rw [show eqV (.int y) (.int y) = true from by simp [eqV]]
      simp
    · rw [show eqV (.int y) (.int x) = false from by simp [eqV, c]]
      by_cases m : x ∈ r
      · simp [m]
      · have : ¬ x = y := fun e => c e.symm
        simp [m, this]
theorem flat_ints (fs : List Int) : (fs.map V.int).all flatV = true := by
  rw [List.all_eq_true]
  intro v hv
  obtain ⟨x, _, rfl⟩ := List.mem_map.mp hv
  rfl
def hasK (bo : BD) (xy : Int × Int) : Bool := bo.any fun e => decide (iI e.1 = xy)
theorem hasK_yes {bo : BD} {e : IP × List (Int × Int)} (h : e ∈ bo) : hasK bo (iI e.1) = true := List.any_eq_true.mpr ⟨e, h, decide_eq_true rfl⟩
def k2 (xy : Int × Int) : List Key := [.inl xy.1, .inl xy.2]
theorem k2_iff {p : IP} {xy : Int × Int} : kI p = k2 xy ↔ iI p = xy := by
  unfold kI k2 iI
  constructor
  · intro h
    injection h with h1 h2
    injection h2 with h2 _
    injection h1 with h1
    injection h2 with h2
    exact Prod.ext h1 h2
  · intro h
    rw [← h]
theorem some_hasK {H : Hp} : ∀ {kvs : List (List Key × V)} {bo : BD}, A2 (EnAt H) kvs bo → ∀ xy, (valV kvs (k2 xy)).isSome = hasK bo xy
  | _, _, .nil, _ => rfl
  | (k, v) :: kvs, b :: bo, .cons a r, xy => by
    obtain ⟨ek, _⟩ := a
    dsimp only at ek
    subst ek
    show _ = (decide (iI b.1 = xy) || hasK bo xy)
    by_cases c : iI b.1 = xy
    · rw [valV_pos (k2_iff.mpr c), decide_eq_true c]
      rfl
    · rw [valV_neg (fun h => c (k2_iff.mp h)), some_hasK r xy, decide_eq_false c, Bool.false_or]
theorem iI_inj {p q : IP} (h : iI p = iI q) : p = q := by
  unfold iI at h
  injection h with h1 h2
  exact Prod.ext (by omega) (by omega)
/-- what the dict holds at a pair that comes -/
theorem val_at {H : Hp} : ∀ {kvs : List (List Key × V)} {bo : BD}, A2 (EnAt H) kvs bo → (bo.map (·.1)).Pairwise (· ≠ ·) → ∀ e ∈ bo, ∃ v, valV kvs (kI e.1) = some v ∧ LetAt H v e.2
  | _, _, .nil, _, e, m => by cases m
  | (k, v) :: kvs, b :: bo, .cons a r, s, e, m => by
    obtain ⟨ek, hl⟩ := a
    dsimp only at ek hl
    subst ek
    rw [List.map_cons, List.pairwise_cons] at s
    rcases List.mem_cons.mp m with rfl | m
    · exact ⟨v, valV_pos rfl, hl⟩
    · rw [valV_neg (fun h => s.1 _ (List.mem_map.mpr ⟨e, m, rfl⟩) (kI_inj h))]
      exact val_at r s.2 e m
/-- the pairs in order -/
def leN (p q : IP × List (Int × Int)) : Bool := decide (p.1.1 < q.1.1 ∨ (p.1.1 = q.1.1 ∧ p.1.2 ≤ q.1.2))
def sb (T : TD) : BD := T.bo.mergeSort leN
theorem sb_perm (T : TD) : (sb T).Perm T.bo := List.mergeSort_perm _ _
theorem sb_mem {T : TD} {e : IP × List (Int × Int)} : e ∈ sb T ↔ e ∈ T.bo := (sb_perm T).mem_iff
theorem sb_sorted (T : TD) : (sb T).Pairwise fun a b => leN a b = true := by
  refine List.pairwise_mergeSort (fun a b c h1 h2 => ?_) (fun a b => ?_) _
  · have h1 := of_decide_eq_true h1
    have h2 := of_decide_eq_true h2
    refine decide_eq_true ?_
    omega
  · unfold leN
    rw [Bool.or_eq_true, decide_eq_true_eq, decide_eq_true_eq]
    omega
def rowB (d : PyData) (m : Nat) : Bool := match d with
  | .list ds => decide (ds.length = m) && (ds.map outB).all id
  | _ => false
def chosenB (d : PyData) (n0 n1 : Nat) : Bool := match d with
  | .list [d0, d1] => rowB d0 n0 && rowB d1 n1
  | _ => false
def okA (T : TD) (ch : Nat → List Int) (h a : Nat) : Prop := (ch h).getD a 0 ∈ (T.al h).getD a []
instance {T : TD} {ch : Nat → List Int} {h a : Nat} : Decidable (okA T ch h a) := by unfold okA; exact inferInstance
def spInputs (K : PySem.W.Frag) (C : Addr) : Sp := fun vs H Q _ => ∃ (p : Addr) (h : Nat) (T : TD), vs = [.ref p, .int (h : Int)] ∧ h < 2 ∧ TaskR C H p T ∧ Q (.int ((T.al h).length : Int)) H
def spPairs (K : PySem.W.Frag) (C : Addr) : Sp := fun vs H Q _ => ∃ (p : Addr) (T : TD), vs = [.ref p] ∧ TaskAt C H p T ∧ WF T ∧ ∀ (r : Addr) (xs : List V), H r = none → A2 (TpAt H) xs ((sb T).map fun e => iI e.1) → Q (.ref r) (upd H r (.lst xs))
def spPair (K : PySem.W.Frag) (C : Addr) : Sp := fun vs H Q _ => ∃ (p : Addr) (v : V) (T : TD) (xy : Int × Int), vs = [.ref p, v] ∧ TaskR C H p T ∧ WF T ∧ TpAt H v xy ∧ ∀ H', Same H H' → Q (.bl (hasK T.bo xy)) H'
def spRow (K : PySem.W.Frag) : Sp := fun vs H Q _ => ∃ (v : V) (d : PyData) (m : Nat), vs = [v, .int (m : Int)] ∧ Dp K H v d ∧ small d ∧ ∀ H', Same H H' → Q (.bl (rowB d m)) H'
def spChosen (K : PySem.W.Frag) (C : Addr) : Sp := fun vs H Q _ => ∃ (p : Addr) (v : V) (d : PyData) (T : TD), vs = [.ref p, v] ∧ TaskR C H p T ∧ Dp K H v d ∧ (∀ ds, d = .list ds → ∀ e ∈ ds, small e) ∧ ∀ H', Same H H' → Q (.bl (chosenB d (T.al 0).length (T.al 1).length)) H'
/-- what alone_fault tells -/
def AloneRes (T : TD) (ch : Nat → List Int) (fv : V) (H' : Hp) : Prop := (fv = .non ∧ ∀ h a, h < 2 → a < (T.al h).length → okA T ch h a) ∨
  ∃ r h a, fv = .ref r ∧ H' r = some (.tup [.str "alone", .int ((h : Nat) : Int), .int ((a : Nat) : Int)]) ∧ h < 2 ∧ a < (T.al h).length ∧ ¬ okA T ch h a ∧ ∀ h' a', h' < 2 → a' < (T.al h').length → (h' < h ∨ (h' = h ∧ a' < a)) → okA T ch h' a'
def spAloneF (K : PySem.W.Frag) (C : Addr) : Sp := fun vs H Q _ => ∃ (p : Addr) (v : V) (T : TD) (ch : Nat → List Int), vs = [.ref p, v] ∧ TaskAt C H p T ∧ WF T ∧ RowsAt H v [ch 0, ch 1] ∧ (∀ h, h < 2 → (ch h).length = (T.al h).length) ∧
  ∀ fv H', Same H H' → AloneRes T ch fv H' → Q fv H'
section
variable {P : Program} {w : World} {K : PySem.W.Frag} {mg : Str → Option Value} {base : Heap}
abbrev nInputs : List Str := ["self", "hand"]
theorem sc_inputs : FnScope nInputs nInputs (defScope s_inputs) := ⟨rfl, rfl, rfl, by decide +kernel, rfl, by decide +kernel, by decide +kernel⟩
theorem within_hand {h : Nat} (hh : h < 2) : within (.int (h : Int)) 0 1 = true := by
  show decide ((0 : Int) ≤ (h : Int) ∧ (h : Int) ≤ 1) = true
  exact decide_eq_true (by omega)
theorem ok_inputs {f g C : Addr} {fd gd : FuncData} (F : Fun K "inputs" "Task.inputs" s_inputs f fd) (T : Txt K mg) (Z : TxtC K mg C) (WH : Def P w K mg base "is_hand" ["thing"] 3 (spHandG K) g gd) : FnOk P w K mg base CX0 4 f fd nInputs (spInputs K C) := by
  refine F.ok sc_inputs (fun vs H Q E h => ?_) (fun cdv A outer s H vs Q E hr h => ?_)
  · obtain ⟨p, h, D, rfl, _⟩ := h
    rfl
  obtain ⟨p, h, D, rfl, hh, hT, q⟩ := h
  refine ⟨_, (pss_cons (ps_if (pt_not (pt_val (pe_call WH.G (hr.mono (by decide)) rfl WH.m WH.k WH.b .nil pass0 (pa_cons (pv 1) pa_nil))))
      pss_never
      pss_nil)
    (pss_one (ps_ret (pe_callB call_len_seq (by rfl) T.len PySem.boot_len (pa_cons (pe_ix ix_list (pe_fld (pv 0) rfl) (pv 1) (fun _ _ => rfl)) pa_nil))))), ?_⟩
  obtain ⟨dx, a, d, hp, hA, _⟩ := hT
  obtain ⟨t, x0, x1, e, ht, hrow⟩ := hA.row
  obtain rfl : a = t := by injection e
  obtain ⟨x, hx, r, xs, rfl, hr2, ha2⟩ := hrow h hh
  refine ⟨_, rfl, _, _, rfl, .int _, ?_⟩
  rw [within_hand hh]
  refine ⟨true, rfl, iteF ?_⟩
  refine ⟨_, rfl, p, C, dx, _, _, rfl, hp, Z.cl, Z.nA, flds_alone _ _, _, rfl, a, _, _, _, rfl, rfl, SqL.of ht, atI_nat hx, r, xs, rfl, .inl (SqL.of hr2), ?_⟩
  rw [ha2.len]
  exact q
abbrev nPairs : List Str := ["self"]
theorem sc_pairs : FnScope nPairs nPairs (defScope s_pairs) := ⟨rfl, rfl, rfl, by decide +kernel, rfl, by decide +kernel, by decide +kernel⟩
theorem keys_sorted {T : TD} (W : WF T) {L : List (Addr × List Int)} (h1 : (L.map (·.2)).Perm (T.bo.map fun e => [((e.1.1 : Nat) : Int), ((e.1.2 : Nat) : Int)])) (h2 : L.Pairwise (fun q r => TS.code 64 q.2 ≤ TS.code 64 r.2)) :
    L.map (·.2) = (sb T).map fun e => [((e.1.1 : Nat) : Int), ((e.1.2 : Nat) : Int)] := by
  have n0 := (W.n0 0 (by decide)).2
  have n1 := (W.n0 1 (by decide)).2
  have bd : ∀ x ∈ T.bo.map (fun e => [((e.1.1 : Nat) : Int), ((e.1.2 : Nat) : Int)]), ∃ a b : Nat, a < 20 ∧ b < 20 ∧ x = [(a : Int), (b : Int)] := fun x hx => by
    obtain ⟨e, he, rfl⟩ := List.mem_map.mp hx
    have := W.rng e he
    exact ⟨e.1.1, e.1.2, by omega, by omega, rfl⟩
  have hp := (sb_perm T).map (fun e => [((e.1.1 : Nat) : Int), ((e.1.2 : Nat) : Int)])
  have h3 := h1.trans hp.symm
  refine List.Perm.eq_of_pairwise (le := fun a b => TS.code 64 a ≤ TS.code 64 b) (fun a b ha hb h h' => ?_) (List.pairwise_map.mpr h2) ?_ h3
  · obtain ⟨a1, a2, _, _, rfl⟩ := bd a (h1.mem_iff.mp ha)
    obtain ⟨b1, b2, _, _, rfl⟩ := bd b (hp.mem_iff.mp hb)
    rw [code_pair, code_pair] at h h'
    have e1 : a1 = b1 := by omega
    have e2 : a2 = b2 := by omega
    rw [e1, e2]
  · rw [List.pairwise_map]
    refine (sb_sorted T).imp_of_mem fun {a b} ha hb h => ?_
    have := W.rng a (sb_mem.mp ha)
    have := W.rng b (sb_mem.mp hb)
    rw [code_pair, code_pair]
    have h := of_decide_eq_true h
    rcases h with h | ⟨h, h'⟩
    · omega
    · omega
theorem ok_pairs {f C : Addr} {fd : FuncData} (F : Fun K "pairs" "Task.pairs" s_pairs f fd) (T2 : Txt2 K mg) (Z : TxtC K mg C) : FnOk P w K mg base CX0 1 f fd nPairs (spPairs K C) := by
  refine F.ok sc_pairs (fun vs H Q E h => ?_) (fun cdv A outer s H vs Q E hr h => ?_)
  · obtain ⟨p, D, rfl, _⟩ := h
    rfl
  obtain ⟨p, D, rfl, hT, hW, q⟩ := h
  refine ⟨_, (pss_one (ps_ret (pe_callB (cr_sortedDT (d := 2) (B := 64) (by decide) rfl) (by rfl) T2.sorted (by decide +kernel) (pa_cons (pe_fld (pv 0) rfl) pa_nil)))), ?_⟩
  obtain ⟨dx, a, d, hp, hA, kvs, hd, ha⟩ := hT
  refine ⟨_, rfl, p, C, dx, _, _, rfl, hp, Z.cl, Z.nB, flds_both _ _, d, kvs, D.bo.map (fun e => [((e.1.1 : Nat) : Int), ((e.1.2 : Nat) : Int)]), rfl, .inl hd, ?_, ?_, ?_, fun L r h1 h2 h3 hr0 => ?_⟩
  · rw [keys_of ha, List.map_map, List.map_map]
    rfl
  · rw [List.length_map]
    have := hW.many
    omega
  · intro ns hns
    obtain ⟨e, he, rfl⟩ := List.mem_map.mp hns
    have := hW.rng e he
    have := (hW.n0 0 (by decide)).2
    have := (hW.n0 1 (by decide)).2
    refine ⟨rfl, fun m hm => ?_⟩
    rcases List.mem_cons.mp hm with rfl | hm
    · omega
    · obtain rfl := List.mem_singleton.mp hm
      omega
  · refine q r _ hr0 ?_
    have e := keys_sorted hW h1 h2
    clear h1 h2 q
    generalize sb D = bo at e
    induction L generalizing bo with
    | nil =>
      cases bo with
      | nil => exact .nil
      | cons _ _ => cases e
    | cons x L ih =>
      cases bo with
      | nil => cases e
      | cons b bo =>
        rw [List.map_cons, List.map_cons] at e
        injection e with e1 e2
        refine .cons ⟨x.1, rfl, ?_⟩ (ih (fun y hy => h3 y (List.mem_cons_of_mem _ hy)) bo e2)
        rw [h3 x List.mem_cons_self, e1]
        rfl
end
end TA

set_option Elab.async false
set_option maxRecDepth 100000
set_option maxHeartbeats 4000000
namespace TA
open PySem L2 PyProof.Rows
set_option linter.unusedVariables false
def WellAt (H : Hp) (a : Addr) (n : Int) : Prop := ∃ x y z : Int, H a = some (.lst [.int x, .int y, .int z]) ∧ 0 ≤ x ∧ 0 ≤ y ∧ y < 2147483647 ∧ 0 ≤ z ∧ z ≤ n
theorem WellAt.same {H H' : Hp} {a : Addr} {n : Int} (s : Same H H') (w : WellAt H a n) : WellAt H' a n := by
  obtain ⟨x, y, z, h, r⟩ := w
  exact ⟨x, y, z, s _ _ h, r⟩
theorem join3 {b : Bool} {X : Prop} {R : L2.St → Hp → Prop} {σ : L2.St} {H : Hp} (Iv : L2.St → Hp → Prop) (h0 : b = false → Iv σ H) (k : ∀ σ Hc, Iv σ Hc → R σ Hc) (h1 : b = true → (∀ σ Hc, Iv σ Hc → R σ Hc) → X) : if b = true then X else R σ H := by
  cases b with
  | false => exact iteF (k σ H (h0 rfl))
  | true => exact iteT (h1 rfl k)
def spCell (K : PySem.W.Frag) : Sp := fun vs H Q _ => ∃ (a : Addr) (ns : List Int) (k : Int), vs = [.ref a, .int k] ∧ SqL K H a (ns.map V.int) ∧ ns.length ≤ 1000 ∧ 0 ≤ k ∧ ∀ c : Int, Q (.int c) H
def spDigit : Sp := fun vs H Q _ => ∃ (a : Addr) (n m : Int), vs = [.ref a, .int m] ∧ ((∃ x : Int, H a = some (.lst [.int x])) ∨ WellAt H a n) ∧ 0 ≤ n ∧ n < 999999 ∧ 0 < m ∧ m < 1000 ∧ ∀ (r : Int) (H' : Hp), 0 ≤ r → r < m → But a H H' → WellAt H' a (n + 1) → Q (.int r) H'
theorem WellAt.but {H H' : Hp} {a d : Addr} {n : Int} (w : WellAt H a n) (ne : a ≠ d) (s : But d H H') : WellAt H' a n := by
  obtain ⟨x, y, z, h, r⟩ := w
  exact ⟨x, y, z, s _ _ ne h, r⟩
theorem WellAt.up {H : Hp} {a : Addr} {n m : Int} (w : WellAt H a n) (h : n ≤ m) : WellAt H a m := by
  obtain ⟨x, y, z, h0, a1, a2, a3, a4, a5⟩ := w
  exact ⟨x, y, z, h0, a1, a2, a3, a4, by omega⟩
theorem WellAt.ne {H : Hp} {a b : Addr} {n : Int} (w : WellAt H a n) (h : H b = none) : a ≠ b := by
  obtain ⟨x, y, z, h0, _⟩ := w
  exact ne_of_none h0 h
/-- a well that is drawn from, or not yet -/
def Dr (H : Hp) (a : Addr) (n : Int) : Prop := (∃ x : Int, H a = some (.lst [.int x])) ∨ WellAt H a n
def spFew : Sp := fun vs H Q _ => ∃ (a : Addr) (n g m : Int), vs = [.ref a, .int g, .int m] ∧ Dr H a n ∧ 0 ≤ n ∧ n < 999900 ∧ 0 < g ∧ g < 64 ∧ 0 < m ∧ m ≤ 4 ∧
  ∀ (p : Addr) (ns : List Int) (H' : Hp), But a H H' → H p = none → H' p = some (.lst (ns.map V.int)) → WellAt H' a (n + 5) → 1 ≤ ns.length → ns.length ≤ 4 → ns.Pairwise (· < ·) → (∀ x ∈ ns, 0 ≤ x ∧ x < g) → Q (.ref p) H'
section
variable {P : Program} {w : World} {K : PySem.W.Frag} {mg : Str → Option Value} {base : Heap}
theorem scCell : FnScope ["_law_script", "_law_k"] ["_law_script", "_law_k"] (defScope sCell) := ⟨rfl, rfl, rfl, by decide +kernel, rfl, by decide +kernel, by decide +kernel⟩
theorem ok_cell {f : Addr} {fd : FuncData} (F : Fun K "_law_cell_at" "_law_cell_at" sCell f fd) (T : Txt K mg) : FnOk P w K mg base CX0 1 f fd ["_law_script", "_law_k"] (spCell K) := by
  refine F.ok scCell (fun vs H Q E h => ?_) (fun cdv A outer s H vs Q E hr h => ?_)
  · obtain ⟨a, ns, k, rfl, _⟩ := h
    rfl
  obtain ⟨a, ns, k, rfl, hS, hn, hk, q⟩ := h
  refine ⟨_, pss_cons (ps_if (pt_cmpR op_lt (pv 1) (pe_callB call_len_seq (by rfl) T.len PySem.boot_len (pa_cons (pv 0) pa_nil)) (nomark _)) (pss_one (ps_ret (pe_ix ix_list (pv 0) (pv 1) (fun _ _ => rfl)))) pss_nil)
    (pss_one (ps_ret pe_int)), ?_⟩
  refine ⟨_, rfl, _, rfl, a, _, rfl, .inl hS, _, _, rfl, rfl, _, rfl, ?_⟩
  refine ite2 (fun c => ?_) (fun c => ?_)
  · have c' : k < (((ns.map V.int).length : Nat) : Int) := of_decide_eq_true c
    rw [List.length_map] at c'
    have hk' : k.toNat < ns.length := by omega
    have ek : k = ((k.toNat : Nat) : Int) := by omega
    have g : atI (ns.map V.int) ((k.toNat : Nat) : Int) = some (.int ns[k.toNat]) := atI_nat (by rw [List.getElem?_map, List.getElem?_eq_getElem hk'] <;> rfl)
    rw [← ek] at g
    exact ⟨_, rfl, _, rfl, a, _, _, _, rfl, rfl, hS, g, q _⟩
  · exact q 0
theorem scDigit : FnScope ["_law_state", "_law_base", "_law_cell", "_law_found", "_law_number"] ["_law_state", "_law_base"] (defScope s__law_digit) := ⟨rfl, rfl, rfl, by decide +kernel, rfl, by decide +kernel, by decide +kernel⟩
theorem ok_digit {f : Addr} {fd : FuncData} (F : Fun K "_law_digit" "_law_digit" s__law_digit f fd) (T : Txt K mg) : FnOk P w K mg base CX0 1 f fd ["_law_state", "_law_base"] spDigit := by
  refine F.ok scDigit (fun vs H Q E h => ?_) (fun cdv A outer s H vs Q E hr h => ?_)
  · obtain ⟨a, n, m, rfl, _⟩ := h
    rfl
  obtain ⟨a, n, m, rfl, hst, hn0, hn, hm, hm2, q⟩ := h
  have nd := scDigit.nd
  have ix : ∀ {X : Cx} {e1 e2 : Expr} {t1 t2 : TE} {p : Pos}, PE X e1 t1 → PE X e2 t2 → PlainIx e2 → PE X (.Subscript e1 e2 p) (tOp (rIxL X.K) t1 t2) := fun h1 h2 h3 => pe_ix ix_list h1 h2 h3
  refine ⟨_, pss_cons (ps_if (pt_cmpR op_eq (pe_callB call_len_seq (by rfl) T.len PySem.boot_len (pa_cons (pv 0) pa_nil)) pe_int (nomark _))
      (pss_cons (ps_set (i := 2) nd rfl (Or.inl rfl) (pe_ix ix_list (pv 0) pe_int (fun _ _ => rfl)))
      (pss_cons (ps_asg (pe_ix ix_list (pe_lst (pa_cons pe_int (pa_cons (pv 2) pa_nil))) (pe_callTy call_int1 (by rfl) T.int boot_int (pa_cons (pe_cmpR op_ge (pv 2) (pe_op op_pow pe_int pe_int) (nomark _)) pa_nil)) (fun _ _ => rfl)) (pg_sub (pv 0) pe_int set_list))
      (pss_one (ps_expr (pe_bm PySem.F.plainAttrs_list PySem.F.slot_list_extend PySem.F.type_list_extend mt_extend (pv 0) (pa_cons (pe_lst (pa_cons (pe_op op_mod (pv 2) pe_int) (pa_cons pe_int pa_nil))) pa_nil)))))) pss_nil)
    (pss_cons (ps_if (pt_cmpR op_gt (pe_ix ix_list (pv 0) pe_int (fun _ _ => rfl)) pe_int (nomark _))
      (pss_cons (ps_set (i := 3) nd rfl (Or.inl rfl) (pe_op op_mod (pe_ix ix_list (pv 0) pe_int (fun _ _ => rfl)) (pv 1)))
      (pss_cons (ps_asg (pe_op op_fdiv (pe_ix ix_list (pv 0) pe_int (fun _ _ => rfl)) (pv 1)) (pg_sub (pv 0) pe_int set_list))
      (pss_one (ps_ret (pv 3))))) pss_nil)
    (pss_cons (ps_asg (pe_op op_add (pe_ix ix_list (pv 0) pe_int (fun _ _ => rfl)) pe_int) (pg_sub (pv 0) pe_int set_list))
    (pss_cons (ps_set (i := 4) nd rfl (Or.inl rfl) (pe_op op_mod (pe_op op_mul (pe_op op_add (pe_op op_add (pe_ix ix_list (pv 0) pe_int (fun _ _ => rfl)) (pe_op op_mul pe_int (pe_ix ix_list (pv 0) pe_int (fun _ _ => rfl)))) pe_int) pe_int) pe_int))
    (pss_cons (ps_set (i := 4) nd rfl (Or.inl rfl) (pe_op op_mod (pe_op op_mul (pv 4) (pe_op op_add (pe_op op_fdiv (pv 4) pe_int) pe_int)) pe_int))
    (pss_one (ps_ret (pe_op op_mod (pe_op op_mod (pe_op op_mul (pv 4) (pe_op op_add (pe_op op_fdiv (pv 4) pe_int) pe_int)) pe_int) (pv 1)))))))), ?_⟩
  obtain ⟨xs, hxs, hlen⟩ : ∃ xs, H a = some (.lst xs) ∧ ((xs.length = 1 ∧ ∃ x : Int, xs = [.int x]) ∨ (xs.length = 3 ∧ WellAt H a n)) := by
    rcases hst with ⟨x, h⟩ | ⟨x, y, z, h, r⟩
    · exact ⟨_, h, .inl ⟨rfl, x, rfl⟩⟩
    · exact ⟨_, h, .inr ⟨rfl, x, y, z, h, r⟩⟩
  refine ⟨_, rfl, a, xs, rfl, .inl (SqL.of hxs), rfl, _, rfl, ?_⟩
  refine join3 (fun σ Hc => ∃ g, σ = [some (.ref a), some (.int m), g, none, none] ∧ But a H Hc ∧ WellAt Hc a n) ?_ ?_ ?_
  · intro hb
    rcases hlen with ⟨h1, _⟩ | ⟨_, hw⟩
    · rw [h1] at hb
      cases hb
    · exact ⟨none, rfl, fun b o _ e => e, hw⟩
  · rintro σ Hc ⟨g, rfl, b, x, y, z, hL, hx, hy, hy2, hz, hz2⟩
    refine ⟨_, rfl, a, _, _, _, rfl, rfl, SqL.of hL, rfl, _, _, rfl, rfl, _, rfl, ?_⟩
    refine ite2 (fun c => ?_) (fun c => ?_)
    · refine ⟨_, rfl, a, _, _, _, rfl, rfl, SqL.of hL, rfl, _, rfl, _, _, rfl, rfl, hm, ?_⟩
      refine ⟨_, rfl, a, _, _, _, rfl, rfl, SqL.of hL, rfl, _, rfl, _, _, rfl, rfl, ⟨hm, by omega⟩, ?_⟩
      refine ⟨_, rfl, a, _, _, 0, rfl, rfl, hL, rfl, _, rfl, ?_⟩
      exact q _ _ (Int.emod_nonneg _ (by omega)) (Int.emod_lt_of_pos _ hm) (b.trans But.at) ⟨_, y, z, upd_same, Int.ediv_nonneg hx (by omega), hy, hy2, hz, by omega⟩
    · have hL2 : (upd Hc a (.lst [.int x, .int y, .int (z + 1)])) a = some (.lst [.int x, .int y, .int (z + 1)]) := upd_same
      refine ⟨_, rfl, a, _, _, _, rfl, rfl, SqL.of hL, rfl, _, _, rfl, rfl, ?_⟩
      refine ⟨_, rfl, a, _, _, 2, rfl, rfl, hL, rfl, ?_⟩
      refine ⟨_, rfl, a, _, _, _, rfl, rfl, SqL.of hL2, rfl, _, rfl, a, _, _, _, rfl, rfl, SqL.of hL2, rfl, _, _, rfl, rfl, .inl ⟨by decide, by decide⟩, _, _, rfl, rfl, _, _, rfl, rfl, _, _, rfl, rfl, .inr ⟨by decide, by decide⟩, _, _, rfl, rfl, (by show (0 : Int) < 2147483647; decide), ?_⟩
      have n0 := Int.emod_nonneg ((y + 7919 * (z + 1) + 1) * 48271) (show (2147483647 : Int) ≠ 0 by decide)
      have n1 := Int.emod_lt_of_pos ((y + 7919 * (z + 1) + 1) * 48271) (show (0 : Int) < 2147483647 by decide)
      generalize ((y + 7919 * (z + 1) + 1) * 48271) % 2147483647 = i at n0 n1 ⊢
      refine ⟨_, rfl, _, rfl, _, _, rfl, rfl, ⟨by decide, by decide⟩, _, _, rfl, rfl, _, _, rfl, rfl, .inl ⟨by omega, by omega⟩, _, _, rfl, rfl, (by show (0 : Int) < 2147483647; decide), ?_⟩
      have k0 := Int.emod_nonneg (i * (i / 1009 + 69621)) (show (2147483647 : Int) ≠ 0 by decide)
      have k1 := Int.emod_lt_of_pos (i * (i / 1009 + 69621)) (show (0 : Int) < 2147483647 by decide)
      generalize (i * (i / 1009 + 69621)) % 2147483647 = j at k0 k1 ⊢
      refine ⟨_, rfl, _, rfl, _, _, rfl, rfl, ⟨by decide, by decide⟩, _, _, rfl, rfl, _, _, rfl, rfl, .inl ⟨by omega, by omega⟩, _, _, rfl, rfl, (by show (0 : Int) < 2147483399; decide), _, rfl, _, _, rfl, rfl, hm, ?_⟩
      exact q _ _ (Int.emod_nonneg _ (by omega)) (Int.emod_lt_of_pos _ hm) (b.trans But.at) ⟨x, y, z + 1, upd_same, hx, hy, hy2, by omega, by omega⟩
  · intro hb k
    obtain ⟨x, rfl⟩ : ∃ x : Int, xs = [.int x] := by
      rcases hlen with ⟨_, h⟩ | ⟨h3, _⟩
      · exact h
      · rw [h3] at hb
        cases hb
    refine ⟨_, rfl, a, _, _, _, rfl, rfl, SqL.of hxs, rfl, ?_⟩
    refine ⟨_, rfl, (by show 2 ≤ sizeLine; decide), fun l hl => ?_⟩
    have s1 := same_new hl (.lst [V.int 0, V.int x])
    refine ⟨_, rfl, _, _, rfl, rfl, ⟨by decide, by decide, by decide⟩, _, _, rfl, rfl, .inr ⟨_, rfl, ?_⟩⟩
    obtain ⟨y, hy, y0⟩ : ∃ y : Int, atI [V.int 0, V.int x] (if decide (x ≥ 10 ^ (18 : Int).toNat) = true then 1 else 0) = some (.int y) ∧ 0 ≤ y := by
      by_cases c : x ≥ 10 ^ (18 : Int).toNat
      · rw [decide_eq_true c]
        have : (0 : Int) ≤ 10 ^ (18 : Int).toNat := by decide
        exact ⟨x, rfl, by omega⟩
      · rw [decide_eq_false c]
        exact ⟨0, rfl, Int.le_refl 0⟩
    refine ⟨l, _, _, _, rfl, rfl, SqL.of upd_same, hy, _, rfl, a, [.int x], _, 0, rfl, rfl, s1 _ _ hxs, rfl, ?_⟩
    have hL : (upd (upd H l (.lst [V.int 0, V.int x])) a (.lst ([V.int x].set 0 (.int y)))) a = some (.lst [.int y]) := upd_same
    refine ⟨_, rfl, .inl ⟨rfl, _, SqL.of hL⟩, _, rfl, _, _, rfl, rfl, (by show (0 : Int) < 2147483647; decide), (by show 2 ≤ sizeLine; decide), fun l2 hl2 => ?_⟩
    have nl : a ≠ l2 := ne_of_none hL hl2
    refine ⟨a, l2, [.int y], _, rfl, rfl, (by rw [upd_ne nl]; exact hL), upd_same, (by show 3 ≤ sizeLine; decide), ?_⟩
    refine k _ _ ⟨_, rfl, ?_, y, x % 2147483647, 0, upd_same, y0, Int.emod_nonneg _ (by decide), Int.emod_lt_of_pos _ (by decide), Int.le_refl 0, hn0⟩
    exact (((But.same s1).trans But.at).trans (But.same (same_new hl2 _))).trans But.at
abbrev nFew : List Str := ["_law_state", "_law_great", "_law_most", "_law_k"]
theorem sc_few : FnScope nFew ["_law_state", "_law_great", "_law_most"] (defScope s__law_few) := ⟨rfl, rfl, rfl, by decide +kernel, rfl, by decide +kernel, by decide +kernel⟩
theorem ok_few {f g1 : Addr} {fd d1 : FuncData} (F : Fun K "_law_few" "_law_few" s__law_few f fd) (T : Txt K mg) (T2 : Txt2 K mg) (Dg : Def P w K mg base "_law_digit" ["_law_state", "_law_base"] 1 spDigit g1 d1) : FnOk P w K mg base CX0 2 f fd ["_law_state", "_law_great", "_law_most"] spFew := by
  refine F.ok sc_few (fun vs H Q E h => ?_) (fun cdv A outer s H vs Q E hr h => ?_)
  · obtain ⟨a, n, g, m, rfl, _⟩ := h
    rfl
  obtain ⟨a, n, g, m, rfl, hD, hn0, hn, hg0, hg, hm0, hm, q⟩ := h
  have nd := sc_few.nd
  refine ⟨_, (pss_one (ps_ret (pe_callB (cr_sortedSet rfl) (by rfl) T2.sorted (by decide +kernel) (pa_cons (pe_callTy (cr_setOfI rfl) (by rfl) T2.set (by decide +kernel) (pa_cons (pe_lc (own := [("_law_k", 3)]) (g := (gName 3)) (tt := tYes) (te := (tCall spDigit [] E0 (tCons (tVar 0) (tCons (tVar 1) tNil)))) rfl nd (pi_range1 (by rfl) T.range (pa_cons (pe_op op_add pe_int (pe_call Dg.G (hr.mono (by decide)) rfl Dg.m Dg.k Dg.b .nil pass0 (pa_cons (pv 0) (pa_cons (pv 2) pa_nil)))) pa_nil)) (blkOk_by (N := nFew) (sc := defScope s__law_few) (by decide +kernel)) (fun _ _ _ _ _ => (by exact (pg_name (i := 3) nd rfl (Or.inl rfl)))) (fun _ _ _ _ _ => pts_nil) (fun _ _ _ _ _ => (by exact (pe_call Dg.G (hr.mono (by decide)) rfl Dg.m Dg.k Dg.b .nil pass0 (pa_cons (pv 0) (pa_cons (pv 1) pa_nil)))))) pa_nil)) pa_nil)))), ?_⟩
  refine ⟨_, rfl, _, rfl, a, n, m, rfl, hD, hn0, by omega, hm0, by omega, fun r H1 r0 r1 b1 w1 => ?_⟩
  refine ⟨_, _, rfl, rfl, 1 + r, rfl, by omega, by omega, fun D hD1 => ?_⟩
  have haD : a ≠ D := w1.ne hD1
  have s1 := same_new hD1 (.lst [])
  refine range_turns (n := (1 + r).toNat) (fun i H' => But a H1 H' ∧ WellAt H' a (n + 1 + (i : Int)) ∧ ∃ ns : List Int, H' D = some (.lst (ns.map V.int)) ∧ ns.length = i ∧ ∀ x ∈ ns, 0 ≤ x ∧ x < g) ⟨.same s1, ?_, [], upd_same, rfl, fun x hx => by cases hx⟩ ?_ ?_
  · have := w1.same s1
    simpa using this
  · rintro i H' hi ⟨b2, w2, ns, h2, hl, hb⟩
    refine ⟨rfl, _, rfl, _, rfl, a, n + 1 + (i : Int), g, rfl, .inr w2, by omega, by omega, hg0, by omega, fun x H3 x0 x1 b3 w3 => ?_⟩
    have h3 := b3 _ _ (Ne.symm haD) h2
    refine ⟨_, h3, ?_, (b2.trans b3).new hD1, ?_, ns ++ [x], by rw [upd_same, List.map_append]; rfl, by rw [List.length_append, hl]; rfl, fun y hy => ?_⟩
    · rw [List.length_map, hl]
      exact Nat.lt_of_lt_of_le (show i < 100 by omega) (by decide)
    · have := w3.but haD But.at (H' := upd H3 D (.lst (ns.map V.int ++ [V.int x])))
      rw [show n + 1 + ((i + 1 : Nat) : Int) = n + 1 + (i : Int) + 1 by omega]
      exact this
    · rcases List.mem_append.mp hy with hy | hy
      · exact hb y hy
      · obtain rfl := List.mem_singleton.mp hy
        exact ⟨x0, x1⟩
  · rintro H2 ⟨b2, w2, ns, h2, hl, hb⟩
    refine ⟨D, ns, rfl, SqL.of h2, by omega, fun c k hc hk => ?_⟩
    have s3 := same_new hc (SetO w c (fun j => decide (j ∈ ns)) k)
    refine ⟨c, _, k, rfl, upd_same, by omega, fun ms p hs hmem hlm hp => ?_⟩
    have s4 := same_new hp (.lst (ms.map V.int))
    have bAll := ((b1.trans b2).trans (.same s3)).trans (.same s4)
    have hpn : H p = none := none_of_but ((b1.trans b2).trans (.same s3)) (Ne.symm ((w2.same s3).ne hp)) hp
    refine q p ms _ bAll hpn upd_same (((w2.same s3).same s4).up (by omega)) ?_ (by omega) hs (fun x hx => hb x (of_decide_eq_true ((hmem x).mp hx)))
    rcases ms with _ | ⟨x, ms⟩
    · have : ns ≠ [] := by
        intro e
        rw [e] at hl
        simp at hl
        omega
      obtain ⟨y, hy⟩ := List.exists_mem_of_ne_nil _ this
      have := (hmem y).mpr (decide_eq_true hy)
      cases this
    · exact Nat.succ_le_succ (Nat.zero_le _)
end
end TA

set_option Elab.async false
set_option maxRecDepth 100000
set_option maxHeartbeats 4000000
namespace TA
open PySem L2 PyProof.Rows
set_option linter.unusedVariables false
theorem TpAt.but {H H' : Hp} {d : Addr} {zs : List V} (e : H d = some (.lst zs)) (s : But d H H') {v : V} {p : Int × Int} (h : TpAt H v p) : TpAt H' v p := by
  obtain ⟨t, rfl, h⟩ := h
  exact ⟨t, rfl, s _ _ (ne_of h e (fun z => by cases z)) h⟩
theorem WellAt.lst {H : Hp} {a : Addr} {n : Int} (w : WellAt H a n) : ∃ zs, H a = some (.lst zs) := by
  obtain ⟨x, y, z, h0, _⟩ := w
  exact ⟨_, h0⟩
theorem Dr.lst {H : Hp} {a : Addr} {n : Int} (w : Dr H a n) : ∃ zs, H a = some (.lst zs) := by
  rcases w with ⟨x, h⟩ | w
  · exact ⟨_, h⟩
  · exact w.lst
/-- pairs below g, so many at most, sorted -/
def okL (g : Int) (l : List (Int × Int)) : Prop := 1 ≤ l.length ∧ l.length ≤ 40 ∧ l.Pairwise ltP ∧ ∀ p ∈ l, (0 ≤ p.1 ∧ p.1 < g) ∧ (0 ≤ p.2 ∧ p.2 < g)
def spOuts2 : Sp := fun vs H Q _ => ∃ (a : Addr) (n g : Int), vs = [.ref a, .int g] ∧ Dr H a n ∧ 0 ≤ n ∧ n < 999900 ∧ 2 ≤ g ∧ g ≤ 8 ∧
  ∀ (p : Addr) (xs : List V) (l : List (Int × Int)) (H' : Hp), But a H H' → H p = none → H' p = some (.lst xs) → A2 (TpAt H') xs l → WellAt H' a (n + 15) → okL g l → Q (.ref p) H'
theorem tp_ks {H : Hp} : ∀ {xs : List V} {l : List (Int × Int)}, A2 (TpAt H) xs l → ∃ ks : List (Addr × List Int), xs = ks.map (fun p => V.ref p.1) ∧ ks.map (·.2) = l.map (fun p => [p.1, p.2]) ∧ ∀ p ∈ ks, H p.1 = some (.tup (p.2.map V.int))
  | _, _, .nil => ⟨[], rfl, rfl, fun p hp => by cases hp⟩
  | _, _, .cons (y := y) ⟨t, ex, h⟩ r => by
    obtain ⟨ks, e1, e2, e3⟩ := tp_ks r
    refine ⟨(t, [y.1, y.2]) :: ks, by rw [List.map_cons, ex, e1], by rw [List.map_cons, List.map_cons, e2], fun p hp => ?_⟩
    rcases List.mem_cons.mp hp with rfl | hp
    · exact h
    · exact e3 p hp
theorem A2.app {α β : Type} {R : α → β → Prop} : ∀ {xs xs' : List α} {ys ys' : List β}, A2 R xs ys → A2 R xs' ys' → A2 R (xs ++ xs') (ys ++ ys')
  | _, _, _, _, .nil, h => h
  | _, _, _, _, .cons a b, h => .cons a (b.app h)
theorem nodup_le {α : Type} [DecidableEq α] : ∀ {xs ys : List α}, xs.Nodup → (∀ x ∈ xs, x ∈ ys) → xs.length ≤ ys.length
  | [], _, _, _ => Nat.zero_le _
  | x :: xs, ys, h, s => by
    have hx := s x List.mem_cons_self
    obtain ⟨h1, h2⟩ := List.nodup_cons.mp h
    have r := nodup_le (xs := xs) (ys := ys.erase x) h2 fun y hy => by
      have ne : y ≠ x := fun e => h1 (e ▸ hy)
      exact (List.mem_erase_of_ne ne).mpr (s y (List.mem_cons_of_mem _ hy))
    rw [List.length_erase_of_mem hx] at r
    have : 0 < ys.length := List.length_pos_of_mem hx
    rw [List.length_cons]
    omega
def toP (q : Addr × List Int) : Int × Int := (q.2.getD 0 0, q.2.getD 1 0)
section
variable {P : Program} {w : World} {K : PySem.W.Frag} {mg : Str → Option Value} {base : Heap}
abbrev nOuts : List Str := ["_law_state", "_law_great", "_law_way", "_law_close", "_law_x", "_law_y", "_law_k"]
theorem sc_outs : FnScope nOuts ["_law_state", "_law_great"] (defScope s__law_outs) := ⟨rfl, rfl, rfl, by decide +kernel, rfl, by decide +kernel, by decide +kernel⟩
theorem ok_outs2 {f g1 : Addr} {fd d1 : FuncData} (F : Fun K "_law_outs" "_law_outs" s__law_outs f fd) (T : Txt K mg) (T2 : Txt2 K mg) (Dg : Def P w K mg base "_law_digit" ["_law_state", "_law_base"] 1 spDigit g1 d1) : FnOk P w K mg base CX0 2 f fd ["_law_state", "_law_great"] spOuts2 := by
  refine F.ok sc_outs (fun vs H Q E h => ?_) (fun cdv A outer s H vs Q E hr h => ?_)
  · obtain ⟨a, n, g, rfl, _⟩ := h
    rfl
  obtain ⟨a, n, g, rfl, hD, hn0, hn, hg0, hg, q⟩ := h
  have nd := sc_outs.nd
  have hu64 : (A.deeper (envOfC "_law_outs" (defScope s__law_outs) s.heap.objs.size f cdv)).units + 64 < cLine := by have := hr.un; omega
  refine ⟨_, (pss_cons (ps_set (i := 2) nd rfl (Or.inl rfl) (pe_call Dg.G (hr.mono (by decide)) rfl Dg.m Dg.k Dg.b .nil pass0 (pa_cons (pv 0) (pa_cons pe_int pa_nil))))
    (pss_cons (ps_if (pt_cmpR op_eq (pv 2) pe_int (nomark _))
      (pss_cons (ps_set (i := 3) nd rfl (Or.inl rfl) (pe_lst pa_nil))
    (pss_cons (ps_for PassesOwn.never (by rfl) (pi_range1 (by rfl) T.range (pa_cons (pv 1) pa_nil)) (pg_name (i := 4) nd rfl (Or.inr rfl))
      (pss_one (ps_set (i := 3) nd rfl (Or.inl rfl) (pe_op op_cat (pv 3) (pe_lc (own := [("_law_y", 5)]) (g := (gName 5)) (tt := tYes) (te := (tTup (tCons (tVar 4) (tCons (tVar 5) tNil)))) rfl nd (pi_range2 (by rfl) T.range (pa_cons (pe_callB (call_max2 rfl) (by rfl) T2.max (by decide +kernel) (pa_cons pe_int (pa_cons (pe_op op_sub (pv 4) pe_int) pa_nil))) (pa_cons (pe_callB (call_min2 rfl) (by rfl) T.min (by decide +kernel) (pa_cons (pv 1) (pa_cons (pe_op op_add (pv 4) pe_int) pa_nil))) pa_nil))) (blkOk_by (N := nOuts) (sc := defScope s__law_outs) (by decide +kernel)) (fun _ _ _ _ _ => (by exact (pg_name (i := 5) nd rfl (Or.inl rfl)))) (fun _ _ _ _ _ => pts_nil) (fun _ _ _ _ _ => (by exact (pe_tup (pa_cons (pv 4) (pa_cons (pv 5) pa_nil))))))))))
    (pss_one (ps_ret (pv 3)))))
      pss_nil)
    (pss_cons (ps_if (pt_cmpR op_eq (pv 2) pe_int (nomark _))
      (pss_one (ps_ret (pe_lc (own := [("_law_x", 4)]) (g := (gName 4)) (tt := tYes) (te := (tTup (tCons (tVar 4) (tCons (tVar 4) tNil)))) rfl nd (pi_range1 (by rfl) T.range (pa_cons (pv 1) pa_nil)) (blkOk_by (N := nOuts) (sc := defScope s__law_outs) (by decide +kernel)) (fun _ _ _ _ _ => (by exact (pg_name (i := 4) nd rfl (Or.inl rfl)))) (fun _ _ _ _ _ => pts_nil) (fun _ _ _ _ _ => (by exact (pe_tup (pa_cons (pv 4) (pa_cons (pv 4) pa_nil))))))))
      pss_nil)
    (pss_one (ps_ret (pe_callB (cr_sortedT rfl) (by rfl) T2.sorted (by decide +kernel) (pa_cons (pe_callTy (cr_setOfT rfl hu64) (by rfl) T2.set (by decide +kernel) (pa_cons (pe_lc (own := [("_law_k", 6)]) (g := (gName 6)) (tt := tYes) (te := (tTup (tCons (tCall spDigit [] E0 (tCons (tVar 0) (tCons (tVar 1) tNil))) (tCons (tCall spDigit [] E0 (tCons (tVar 0) (tCons (tVar 1) tNil))) tNil)))) rfl nd (pi_range1 (by rfl) T.range (pa_cons (pe_op op_add pe_int (pe_call Dg.G (hr.mono (by decide)) rfl Dg.m Dg.k Dg.b .nil pass0 (pa_cons (pv 0) (pa_cons pe_int pa_nil)))) pa_nil)) (blkOk_by (N := nOuts) (sc := defScope s__law_outs) (by decide +kernel)) (fun _ _ _ _ _ => (by exact (pg_name (i := 6) nd rfl (Or.inl rfl)))) (fun _ _ _ _ _ => pts_nil) (fun _ _ _ _ _ => (by exact (pe_tup (pa_cons (pe_call Dg.G (hr.mono (by decide)) rfl Dg.m Dg.k Dg.b .nil pass0 (pa_cons (pv 0) (pa_cons (pv 1) pa_nil))) (pa_cons (pe_call Dg.G (hr.mono (by decide)) rfl Dg.m Dg.k Dg.b .nil pass0 (pa_cons (pv 0) (pa_cons (pv 1) pa_nil))) pa_nil)))))) pa_nil)) pa_nil))))))), ?_⟩
  refine ⟨_, rfl, a, n, 4, rfl, hD, hn0, by omega, by decide, by decide, fun r H1 r0 r1 b1 w1 => ?_⟩
  refine ⟨_, rfl, rfl, _, rfl, ?_⟩
  refine ite2 (fun c => ?_) (fun c => ?_)
  · clear c
    refine ⟨(by show 0 ≤ sizeLine; decide), fun c0 hc0 => ?_⟩
    have s1 := same_new hc0 (.lst [])
    have hc0n : H c0 = none := none_of_but b1 (Ne.symm (w1.ne hc0)) hc0
    refine ⟨_, rfl, g, rfl, by omega, by omega, for_range (n := g.toNat) (fun i σ H' => ∃ g4 g5 g6 cl xs l, σ = [some (.ref a), some (.int g), some (.int r), some (.ref cl), g4, g5, g6] ∧ Same H1 H' ∧ H1 cl = none ∧ H' cl = some (.lst xs) ∧ A2 (TpAt H') xs l ∧ i ≤ l.length ∧ l.length ≤ 3 * i ∧ l.Pairwise ltP ∧ (∀ p ∈ l, p.1 < (i : Int)) ∧ ∀ p ∈ l, (0 ≤ p.1 ∧ p.1 < g) ∧ (0 ≤ p.2 ∧ p.2 < g)) ⟨_, _, _, c0, [], [], rfl, s1, hc0, upd_same, .nil, Nat.le_refl _, Nat.le_refl _, .nil, (fun p hp => nomatch hp), (fun p hp => nomatch hp)⟩ ?_ ?_⟩
    · rintro i σ H' hi ⟨g4, g5, g6, cl, xs, l, rfl, sH, hcn, hcl, hx, hl1, hl2, hpw, hlt, hbd⟩
      have ej : (0 : Int) + (i : Int) = (i : Int) := by omega
      rw [ej]
      refine ⟨_, rfl, _, rfl, _, _, rfl, rfl, _, _, rfl, _, rfl, _, rfl, _, _, rfl, rfl, _, _, rfl, ?_⟩
      have ehi : ∃ hi' : Int, (if (i : Int) + 2 < g then (i : Int) + 2 else g) = hi' ∧ (i : Int) < hi' ∧ hi' ≤ (i : Int) + 2 ∧ hi' ≤ g := ⟨_, rfl, by split <;> omega, by split <;> omega, by split <;> omega⟩
      have elo : ∃ lo : Int, (if (i : Int) - 1 > 0 then (i : Int) - 1 else 0) = lo ∧ 0 ≤ lo ∧ lo ≤ (i : Int) ∧ (i : Int) - 1 ≤ lo := ⟨_, rfl, by split <;> omega, by split <;> omega, by split <;> omega⟩
      obtain ⟨hi', eh, h1, h2, h3⟩ := ehi
      obtain ⟨lo, el, l1, l2, l3⟩ := elo
      refine ⟨lo, hi', by rw [eh, el], ⟨by omega, by omega, by omega, by omega⟩, fun D hD => ?_⟩
      have sD := same_new hD (.lst [])
      have hclD : cl ≠ D := ne_of_none hcl hD
      refine range_turns (lo := lo) (n := (hi' - lo).toNat) (fun k H2 => Same H' H2 ∧ ∃ ys, H2 D = some (.lst ys) ∧ A2 (TpAt H2) ys ((List.range k).map fun (j : Nat) => ((i : Int), lo + (j : Int)))) ⟨sD, [], upd_same, .nil⟩ ?_ ?_
      · rintro k H2 hk ⟨s2, ys, hy, ay⟩
        refine ⟨rfl, _, rfl, _, rfl, (by show 2 ≤ sizeLine; decide), fun t ht => ?_⟩
        have s3 := same_new ht (.tup [V.int (i : Int), V.int (lo + (k : Int))])
        have hk3 : ys.length ≤ 3 := by rw [ay.len, List.length_map, List.length_range]; omega
        refine ⟨ys, s3 _ _ hy, Nat.lt_of_le_of_lt hk3 (by decide), same_upd (s2.trans s3) hD, _, upd_same, ?_⟩
        have e : (List.range (k + 1)).map (fun j : Nat => ((i : Int), lo + (j : Int))) = (List.range k).map (fun j : Nat => ((i : Int), lo + (j : Int))) ++ [((i : Int), lo + (k : Int))] := by
          rw [List.range_succ, List.map_append]; rfl
        rw [e]
        exact A2.snoc (ay.imp fun _ _ r => (r.mono (.same s3)).but (s3 _ _ hy) But.at) (TpAt.but (s3 _ _ hy) But.at ⟨t, rfl, upd_same⟩)
      · rintro H2 ⟨s2, ys, hy, ay⟩
        have hyl : ys.length = (hi' - lo).toNat := by rw [ay.len, List.length_map, List.length_range]
        have hxl := hx.len
        have hg2 : i < 8 := by omega
        refine ⟨cl, D, _, _, rfl, rfl, s2 _ _ hcl, hy, ?_, fun p hp => ?_⟩
        · exact Nat.le_trans (show xs.length + ys.length ≤ 100 by omega) (by decide)
        have s3 := same_new hp (.lst (xs ++ ys))
        have sAll := s2.trans s3
        refine ⟨_, _, _, p, xs ++ ys, l ++ (List.range (hi' - lo).toNat).map (fun j : Nat => ((i : Int), lo + (j : Int))), rfl, sH.trans sAll, none_of_same (sH.trans s2) hp, upd_same, ?_, ?_, ?_, ?_, ?_, ?_⟩
        · have a1 := hx.imp fun _ _ r => r.mono (.same sAll)
          have a2 := ay.imp fun _ _ r => r.mono (.same s3)
          exact A2.app a1 a2
        · rw [List.length_append, List.length_map, List.length_range]; omega
        · rw [List.length_append, List.length_map, List.length_range]; omega
        · refine List.pairwise_append.mpr ⟨hpw, ?_, fun p hp q hq => ?_⟩
          · rw [List.pairwise_map]
            exact List.Pairwise.imp (fun {a b} (h : a < b) => .inr ⟨rfl, by show lo + (a : Int) < lo + (b : Int); omega⟩) List.pairwise_lt_range
          · obtain ⟨j, _, rfl⟩ := List.mem_map.mp hq
            exact .inl (hlt p hp)
        · intro p hp
          rcases List.mem_append.mp hp with h | h
          · have := hlt p h; omega
          · obtain ⟨j, _, rfl⟩ := List.mem_map.mp h
            show (i : Int) < ((i + 1 : Nat) : Int)
            omega
        · intro p hp
          rcases List.mem_append.mp hp with h | h
          · exact hbd p h
          · obtain ⟨j, hj, rfl⟩ := List.mem_map.mp h
            have hj := List.mem_range.mp hj
            show (0 ≤ (i : Int) ∧ (i : Int) < g) ∧ (0 ≤ lo + (j : Int) ∧ lo + (j : Int) < g)
            omega
    · rintro σ H' ⟨g4, g5, g6, cl, xs, l, rfl, sH, hcn, hcl, hx, hl1, hl2, hpw, hlt, hbd⟩
      refine ⟨_, rfl, q cl xs l H' (b1.trans (.same sH)) (none_of_but b1 (Ne.symm (w1.ne hcn)) hcn) hcl hx ((w1.same sH).up (by omega)) ⟨by omega, by omega, hpw, hbd⟩⟩
  refine ⟨_, rfl, rfl, _, rfl, ?_⟩
  refine ite2 (fun c2 => ?_) (fun c2 => ?_)
  · clear c2
    refine ⟨_, rfl, g, rfl, by omega, by omega, fun D hD => ?_⟩
    have sD := same_new hD (.lst [])
    refine range_turns (n := g.toNat) (fun k H2 => Same H1 H2 ∧ ∃ ys, H2 D = some (.lst ys) ∧ A2 (TpAt H2) ys ((List.range k).map fun (j : Nat) => ((j : Int), (j : Int)))) ⟨sD, [], upd_same, .nil⟩ ?_ ?_
    · rintro k H2 hk ⟨s2, ys, hy, ay⟩
      have ej : (0 : Int) + (k : Int) = (k : Int) := by omega
      rw [ej]
      refine ⟨rfl, _, rfl, _, rfl, (by show 2 ≤ sizeLine; decide), fun t ht => ?_⟩
      have s3 := same_new ht (.tup [V.int (k : Int), V.int (k : Int)])
      have hk3 : ys.length ≤ 8 := by rw [ay.len, List.length_map, List.length_range]; omega
      refine ⟨ys, s3 _ _ hy, Nat.lt_of_le_of_lt hk3 (by decide), same_upd (s2.trans s3) hD, _, upd_same, ?_⟩
      have e : (List.range (k + 1)).map (fun j : Nat => ((j : Int), (j : Int))) = (List.range k).map (fun j : Nat => ((j : Int), (j : Int))) ++ [((k : Int), (k : Int))] := by
        rw [List.range_succ, List.map_append]; rfl
      rw [e]
      exact A2.snoc (ay.imp fun _ _ r => (r.mono (.same s3)).but (s3 _ _ hy) But.at) (TpAt.but (s3 _ _ hy) But.at ⟨t, rfl, upd_same⟩)
    · rintro H2 ⟨s2, ys, hy, ay⟩
      refine q D ys _ H2 (b1.trans (.same s2)) (none_of_but b1 (Ne.symm (w1.ne hD)) hD) hy ay ((w1.same s2).up (by omega)) ⟨?_, ?_, ?_, fun p hp => ?_⟩
      · rw [List.length_map, List.length_range]; omega
      · rw [List.length_map, List.length_range]; omega
      · rw [List.pairwise_map]
        exact List.Pairwise.imp (fun {a b} (h : a < b) => .inl (by show (a : Int) < (b : Int); omega)) List.pairwise_lt_range
      · obtain ⟨j, hj, rfl⟩ := List.mem_map.mp hp
        have hj := List.mem_range.mp hj
        show (0 ≤ (j : Int) ∧ (j : Int) < g) ∧ (0 ≤ (j : Int) ∧ (j : Int) < g)
        omega
  · refine ⟨_, rfl, a, n + 1, 6, rfl, .inr w1, by omega, by omega, by decide, by decide, fun r2 H2 r20 r21 b2 w2 => ?_⟩
    refine ⟨_, _, rfl, rfl, 1 + r2, rfl, by omega, by omega, fun D hD => ?_⟩
    have haD : a ≠ D := w2.ne hD
    have s1 := same_new hD (.lst [])
    refine range_turns (n := (1 + r2).toNat) (fun i H' => But a H2 H' ∧ WellAt H' a (n + 2 + 2 * (i : Int)) ∧ ∃ xs l, H' D = some (.lst xs) ∧ A2 (TpAt H') xs l ∧ l.length = i ∧ ∀ p ∈ l, (0 ≤ p.1 ∧ p.1 < g) ∧ (0 ≤ p.2 ∧ p.2 < g)) ⟨.same s1, ?_, [], [], upd_same, .nil, rfl, fun x hx => by cases hx⟩ ?_ ?_
    · have := w2.same s1
      rw [show n + 2 + 2 * ((0 : Nat) : Int) = n + 1 + 1 by omega]
      exact this
    · rintro i H' hi ⟨b3, w3, xs, l, h2, ax, hl, hb⟩
      refine ⟨rfl, _, rfl, _, rfl, a, n + 2 + 2 * (i : Int), g, rfl, .inr w3, by omega, by omega, by omega, by omega, fun x H3 x0 x1 b4 w4 => ?_⟩
      refine ⟨_, rfl, _, rfl, a, n + 2 + 2 * (i : Int) + 1, g, rfl, .inr w4, by omega, by omega, by omega, by omega, fun y H4 y0 y1 b5 w5 => ?_⟩
      refine ⟨(by show 2 ≤ sizeLine; decide), fun t ht => ?_⟩
      have s6 := same_new ht (.tup [V.int x, V.int y])
      have h4 : H4 D = some (.lst xs) := b5 _ _ (Ne.symm haD) (b4 _ _ (Ne.symm haD) h2)
      obtain ⟨z3, e3⟩ := w3.lst
      obtain ⟨z4, e4⟩ := w4.lst
      refine ⟨xs, s6 _ _ h4, ?_, (((b3.trans b4).trans b5).trans (.same s6)).new hD, ?_, _, l ++ [(x, y)], upd_same, ?_, by rw [List.length_append, hl]; rfl, fun p hp => ?_⟩
      · rw [ax.len, hl]
        exact Nat.lt_of_lt_of_le (show i < 100 by omega) (by decide)
      · rw [show n + 2 + 2 * ((i + 1 : Nat) : Int) = n + 2 + 2 * (i : Int) + 1 + 1 by omega]
        exact (w5.same s6).but haD But.at
      · exact A2.snoc (ax.imp fun _ _ r => ((((r.but e3 b4).but e4 b5).mono (.same s6)).but (s6 _ _ h4) But.at)) (TpAt.but (s6 _ _ h4) But.at ⟨t, rfl, upd_same⟩)
      · rcases List.mem_append.mp hp with h | h
        · exact hb p h
        · obtain rfl := List.mem_singleton.mp h
          exact ⟨⟨x0, x1⟩, ⟨y0, y1⟩⟩
    · rintro H3 ⟨b3, w3, xs, l, h2, ax, hl, hb⟩
      obtain ⟨ks, rfl, ek, hk⟩ := tp_ks ax
      have hkl : ks.length = l.length := by
        have := congrArg List.length ek
        rwa [List.length_map, List.length_map] at this
      have hks : ∀ p ∈ ks, ∃ x y, p.2 = [x, y] ∧ (0 ≤ x ∧ x < g) ∧ (0 ≤ y ∧ y < g) := fun p hp => by
        have : p.2 ∈ ks.map (·.2) := List.mem_map.mpr ⟨p, hp, rfl⟩
        rw [ek] at this
        obtain ⟨z, hz, e⟩ := List.mem_map.mp this
        exact ⟨z.1, z.2, e.symm, hb z hz⟩
      refine ⟨D, ks, rfl, SqL.of h2, fun p hp => SqT.of (hk p hp), by omega, fun c L hc hL1 hL2 => ?_⟩
      have s4 := same_new hc (SetTO P w c L)
      refine ⟨c, L, 2, 64, rfl, upd_same, fun p hp => SqT.of (s4 _ _ (hk p (hL1 p hp))), by decide, fun p hp => ?_, fun L' p hperm hnd hlen hpw hp => ?_⟩
      · obtain ⟨x, y, e, h1, h2⟩ := hks p (hL1 p hp)
        rw [e]
        refine ⟨rfl, fun m hm => ?_⟩
        rcases List.mem_cons.mp hm with rfl | hm
        · omega
        · obtain rfl := List.mem_singleton.mp hm
          omega
      have s5 := same_new hp (.lst (L'.map fun q => V.ref q.1))
      have hin : ∀ z ∈ L', z ∈ ks := fun z hz => hL1 z (hperm.mem_iff.mp hz)
      have bAll : But a H2 (upd (upd H3 c (SetTO P w c L)) p (.lst (L'.map fun q => V.ref q.1))) := (b3.trans (.same s4)).trans (.same s5)
      have pn2 : H2 p = none := none_of_but (b3.trans (.same s4)) (Ne.symm ((w3.same s4).ne hp)) hp
      have pn1 : H1 p = none := none_of_but b2 (Ne.symm ((w3.same s4).ne hp)) pn2
      have a2 : A2 (TpAt (upd (upd H3 c (SetTO P w c L)) p (.lst (L'.map fun q => V.ref q.1)))) (L'.map fun q => V.ref q.1) (L'.map toP) := A2.ofMap _ _ L' fun z hz => by
        obtain ⟨x, y, e, _, _⟩ := hks z (hin z hz)
        refine ⟨z.1, rfl, ?_⟩
        have := s5 _ _ (s4 _ _ (hk z (hin z hz)))
        rw [e] at this
        unfold toP
        rw [e]
        exact this
      refine q p _ _ _ ((b1.trans b2).trans bAll) (none_of_but b1 (Ne.symm ((w3.same s4).ne hp)) pn1) upd_same a2 (((w3.same s4).same s5).up (by omega)) ⟨?_, ?_, ?_, fun z hz => ?_⟩
      · rw [List.length_map]
        have hne : ks ≠ [] := by
          intro e
          rw [e] at hkl
          simp at hkl
          omega
        obtain ⟨z, hz⟩ := List.exists_mem_of_ne_nil _ hne
        obtain ⟨y, hy, _⟩ := List.mem_map.mp (hL2 z hz)
        exact List.length_pos_of_mem (hperm.mem_iff.mpr hy)
      · rw [List.length_map]
        have e1 : L'.length ≤ ks.length := by
          have := hperm.length_eq
          have h3 : (L'.map (·.2)).length ≤ (ks.map (·.2)).length := nodup_le hnd fun x hx => by
            obtain ⟨z, hz, rfl⟩ := List.mem_map.mp hx
            exact List.mem_map.mpr ⟨z, hin z hz, rfl⟩
          rwa [List.length_map, List.length_map] at h3
        omega
      · rw [List.pairwise_map]
        have hnd' : L'.Pairwise fun q r => q.2 ≠ r.2 := List.pairwise_map.mp hnd
        refine (hpw.and hnd').imp_of_mem fun {x y} hx hy h => ?_
        obtain ⟨x1, x2, ex, bx1, bx2⟩ := hks x (hin x hx)
        obtain ⟨y1, y2, ey, by1, by2⟩ := hks y (hin y hy)
        rw [ex, ey] at h
        have := L2.pair_lt h.1 h.2 ⟨bx1.1, by omega⟩ ⟨bx2.1, by omega⟩ ⟨by1.1, by omega⟩ ⟨by2.1, by omega⟩
        unfold toP
        rw [ex, ey]
        exact this
      · obtain ⟨y, hy, rfl⟩ := List.mem_map.mp hz
        obtain ⟨x1, x2, ex, bx1, bx2⟩ := hks y (hin y hy)
        unfold toP
        rw [ex]
        exact ⟨bx1, bx2⟩
end
end TA

set_option Elab.async false
set_option maxRecDepth 100000
set_option maxHeartbeats 4000000
namespace TA
open PySem L2 PyProof.Rows
set_option linter.unusedVariables false
/-- a heap seen at some places alone -/
def vw (p : Addr → Bool) (H : Hp) : Hp := fun b => if p b = true then H b else none
theorem vw_some {p : Addr → Bool} {H : Hp} {b : Addr} {o : HO} (h : vw p H b = some o) : p b = true ∧ H b = some o := by
  unfold vw at h
  split at h
  · rename_i c; exact ⟨c, h⟩
  · cases h
theorem vw_put {p : Addr → Bool} {H : Hp} {b : Addr} {o : HO} (c : p b = true) (h : H b = some o) : vw p H b = some o := by
  unfold vw
  rw [if_pos c, h]
theorem vw_kp {p : Addr → Bool} {H : Hp} : Kp (vw p H) H := fun b o _ h => (vw_some h).2
theorem vw_mono {p q : Addr → Bool} {H H' : Hp} (s : ∀ b o, p b = true → flatO o → H b = some o → q b = true ∧ H' b = some o) : Kp (vw p H) (vw q H') := fun b o f h => by
  obtain ⟨h1, h2⟩ := vw_some h
  obtain ⟨h3, h4⟩ := s b o h1 f h2
  exact vw_put h3 h4
/-- all but a -/
def pA (a : Addr) : Addr → Bool := fun b => decide (b ≠ a)
theorem pA_ok {a b : Addr} : pA a b = true ↔ b ≠ a := decide_eq_true_iff
theorem vwA_but {a : Addr} {H H' : Hp} (s : But a H H') : Kp (vw (pA a) H) (vw (pA a) H') := vw_mono fun b o h _ e => ⟨h, s b o (pA_ok.mp h) e⟩
theorem vwA_put {a d : Addr} {H : Hp} {k : List (List Key × V)} {o : HO} (e : H d = some (.dT k)) : Kp (vw (pA a) H) (vw (pA a) (upd H d o)) := vw_mono fun b u h f g => ⟨h, Kp.put e nf_dT b u f g⟩
theorem orB {b : Bool} {H : Hp} {B : Hp → Prop} {R : Prop} (Iv : Hp → Prop) (h0 : b = true → Iv H) (k : ∀ Hc, Iv Hc → B Hc) (r : b = false → (∀ Hc, Iv Hc → B Hc) → R) : if b = true then B H else R := by
  cases b with
  | true => exact iteT (k H (h0 rfl))
  | false => exact iteF (r rfl k)
theorem nat_mod {x n : Nat} : ((x : Int) % (n : Int)) = ((x % n : Nat) : Int) := by omega
theorem mod_dec {x n y : Nat} : decide (V.int ((x : Int) % (n : Int)) = V.int (y : Int)) = decide (x % n = y) := by rw [nat_mod, dec_nat]

/-- few pairs, of small outputs -/
def okB (l : List (Int × Int)) : Prop := l.length ≤ 40 ∧ ∀ p ∈ l, p.1 < 6
theorem okL_B {g : Int} {l : List (Int × Int)} (h : okL g l) (hg : g ≤ 5) : okB l := ⟨h.2.1, fun p hp => by have := (h.2.2.2 p hp).1.2; omega⟩
def PIn (H0 : Hp) (a Lm D1 B : Addr) (n0 n1 : Nat) (n : Int) (al : Nat → List (List Int)) (i j : Nat) (H' : Hp) : Prop := ∃ (bo : BD) (kvs : List (List Key × V)), But a H0 H' ∧ H' Lm = some (.lst [V.int (n0 : Int), V.int (n1 : Int)]) ∧ WellAt H' a (n + 60 + 70 * (i : Int) + 17 * (j : Int)) ∧
  AlAt (vw (pA a) H') (.ref D1) al ∧ H' B = some (.dT kvs) ∧ A2 (EnAt (vw (pA a) H')) kvs bo ∧ (bo.map (·.1)).Pairwise ltN ∧ (∀ e ∈ bo, (e.1.1 < i ∨ (e.1.1 = i ∧ e.1.2 < j)) ∧ e.1.1 < n0 ∧ e.1.2 < n1 ∧ okLet e.2 ∧ okB e.2) ∧ (∀ x y, (x < i ∧ y < n1) ∨ (x = i ∧ y < j) → (x % n1 = y ∨ y % n0 = x) → ∃ e ∈ bo, e.1 = (x, y)) ∧ bo.length ≤ 4 * i + j
def spParts : Sp := fun vs H Q _ => ∃ (a : Addr) (n m : Int), vs = [.ref a, .int m] ∧ Dr H a n ∧ 0 ≤ n ∧ n < 900000 ∧ 0 < m ∧ m ≤ 4 ∧
  ∀ (r al d : Addr) (T : TD) (H' : Hp), But a H H' → H r = none → H al = none → H d = none → H' r = some (.tup [.ref al, .ref d]) → AlAt (vw (pA a) H') (.ref al) T.al → (∃ kvs, H' d = some (.dT kvs) ∧ A2 (EnAt (vw (pA a) H')) kvs T.bo) → WellAt H' a (n + 500) → WF T →
    (∀ h, h < 2 → ((T.al h).length : Int) ≤ m) → (∀ h, h < 2 → ∀ r ∈ T.al h, r.length ≤ 4 ∧ ∀ x ∈ r, x < 6) → (∀ e ∈ T.bo, okB e.2) → T.bo.length ≤ 16 → Q (.ref r) H'
theorem okL_let {g : Int} {l : List (Int × Int)} (h : okL g l) (hg : g ≤ 8) : okLet l := ⟨h.1, by have := h.2.1; omega, h.2.2.1, fun p hp => by
  obtain ⟨⟨a, b⟩, c, d⟩ := h.2.2.2 p hp
  exact ⟨⟨a, by omega⟩, ⟨c, by omega⟩⟩⟩
theorem two_list {rs : List (List (List Int))} (h : rs.length = 2) : rs = [rs.getD 0 [], rs.getD 1 []] := by
  match rs, h with
  | [x, y], _ => rfl
section
variable {P : Program} {w : World} {K : PySem.W.Frag} {mg : Str → Option Value} {base : Heap}
abbrev nParts : List Str := ["_law_state", "_law_most", "_law_many", "_law_great", "_law_a", "_law_alone", "_law_both", "_law_b", "_law_hand"]
theorem sc_parts : FnScope nParts ["_law_state", "_law_most"] (defScope s__law_parts) := ⟨rfl, rfl, rfl, by decide +kernel, rfl, by decide +kernel, by decide +kernel⟩
theorem ok_parts {f g1 g2 g3 : Addr} {fd d1 d2 d3 : FuncData} (F : Fun K "_law_parts" "_law_parts" s__law_parts f fd) (T : Txt K mg) (T2 : Txt2 K mg) (Dg : Def P w K mg base "_law_digit" ["_law_state", "_law_base"] 1 spDigit g1 d1)
    (Few : Def P w K mg base "_law_few" ["_law_state", "_law_great", "_law_most"] 2 spFew g2 d2) (Outs : Def P w K mg base "_law_outs" ["_law_state", "_law_great"] 2 spOuts2 g3 d3) : FnOk P w K mg base CX0 3 f fd ["_law_state", "_law_most"] spParts := by
  refine F.ok sc_parts (fun vs H Q E h => ?_) (fun cdv A outer s H vs Q E hr h => ?_)
  · obtain ⟨a, n, m, rfl, _⟩ := h
    rfl
  obtain ⟨a, n, m, rfl, hD, hn0, hn, hm0, hm, q⟩ := h
  have nd := sc_parts.nd
  have hu := hu_of hr
  refine ⟨_, (pss_cons (ps_set (i := 2) nd rfl (Or.inr rfl) (pe_lst (pa_cons (pe_op op_add pe_int (pe_call Dg.G (hr.mono (by decide)) rfl Dg.m Dg.k Dg.b .nil pass0 (pa_cons (pv 0) (pa_cons (pv 1) pa_nil)))) (pa_cons (pe_op op_add pe_int (pe_call Dg.G (hr.mono (by decide)) rfl Dg.m Dg.k Dg.b .nil pass0 (pa_cons (pv 0) (pa_cons (pv 1) pa_nil)))) pa_nil))))
    (pss_cons (ps_set (i := 3) nd rfl (Or.inr rfl) (pe_op op_add pe_int (pe_call Dg.G (hr.mono (by decide)) rfl Dg.m Dg.k Dg.b .nil pass0 (pa_cons (pv 0) (pa_cons pe_int pa_nil)))))
    (pss_cons (ps_setLc (i := 5) (own := [("_law_hand", 8)]) (g := (gName 8)) (tt := tYes) (te := (tLc (iRng1 (tCons (tOp (rIxL K) (tVar 2) (tVar 8)) tNil)) (gName 4) tYes (tCall (spFew) [] E0 (tCons (tVar 0) (tCons (tVar 3) (tCons (tC (.int 3)) tNil)))) [4])) rfl nd rfl rfl (sw_true rfl rfl rfl (by decide +kernel)) (pi_range1 (by rfl) T.range (pa_cons pe_int pa_nil)) (blkOk_by (N := nParts) (sc := defScope s__law_parts) (by decide +kernel)) (fun _ _ _ _ _ => (by exact (pg_name (i := 8) nd rfl (Or.inl rfl)))) (fun _ _ _ _ _ => pts_nil) (fun _ _ _ _ _ => (by exact (pe_lc (own := [("_law_a", 4)]) (g := (gName 4)) (tt := tYes) (te := (tCall (spFew) [] E0 (tCons (tVar 0) (tCons (tVar 3) (tCons (tC (.int 3)) tNil))))) rfl nd (pi_range1 (by rfl) T.range (pa_cons (pe_ix ix_list (pv 2) (pv 8) (fun _ _ => rfl)) pa_nil)) (blkOk_by (N := nParts)  (by kernel_rfl)) (fun _ _ _ _ _ => (by exact (pg_name (i := 4) nd rfl (Or.inl rfl)))) (fun _ _ _ _ _ => pts_nil) (fun _ _ _ _ _ => (by exact (pe_call Few.G (hr.mono (by decide)) rfl Few.m Few.k Few.b .nil pass0 (pa_cons (pv 0) (pa_cons (pv 3) (pa_cons pe_int pa_nil))))))))))
    (pss_cons (ps_set (i := 6) nd rfl (Or.inl rfl) pe_dnewT)
    (pss_cons (ps_for PassesOwn.never (by rfl) (pi_range1 (by rfl) T.range (pa_cons (pe_ix ix_list (pv 2) pe_int (fun _ _ => rfl)) pa_nil)) (pg_name (i := 4) nd rfl (Or.inl rfl))
      (pss_one (ps_for PassesOwn.never (by rfl) (pi_range1 (by rfl) T.range (pa_cons (pe_ix ix_list (pv 2) pe_int (fun _ _ => rfl)) pa_nil)) (pg_name (i := 7) nd rfl (Or.inl rfl))
      (pss_one (ps_if (PW.pt (pw_or (pt_cmpR op_eq (pe_op op_mod (pv 4) (pe_ix ix_list (pv 2) pe_int (fun _ _ => rfl))) (pv 7) (nomark _)) (pw_or (pt_cmpR op_eq (pe_op op_mod (pv 7) (pe_ix ix_list (pv 2) pe_int (fun _ _ => rfl))) (pv 4) (nomark _)) (pw_or1 (pt_cmpR op_gt (pe_call Dg.G (hr.mono (by decide)) rfl Dg.m Dg.k Dg.b .nil pass0 (pa_cons (pv 0) (pa_cons pe_int pa_nil))) pe_int (nomark _))))))
      (pss_one (ps_dput hu (pv 6) (pe_tup (pa_cons (pv 4) (pa_cons (pv 7) pa_nil))) (pe_call Outs.G (hr.mono (by decide)) rfl Outs.m Outs.k Outs.b .nil pass0 (pa_cons (pv 0) (pa_cons (pv 3) pa_nil))) rfl))
      pss_nil)))))
    (pss_one (ps_ret (pe_tup (pa_cons (pv 5) (pa_cons (pv 6) pa_nil)))))))))), ?_⟩
  refine ⟨_, rfl, _, rfl, a, n, m, rfl, hD, hn0, by omega, hm0, by omega, fun r0 H1 r00 r01 b1 w1 => ?_⟩
  refine ⟨_, _, rfl, rfl, _, rfl, _, rfl, a, n + 1, m, rfl, .inr w1, by omega, by omega, hm0, by omega, fun r1 H2 r10 r11 b2 w2 => ?_⟩
  refine ⟨_, _, rfl, rfl, (by show 2 ≤ sizeLine; decide), fun Lm hLm => ?_⟩
  have s3 := same_new hLm (.lst [V.int (1 + r0), V.int (1 + r1)])
  obtain ⟨n0, hn0'⟩ : ∃ n0 : Nat, 1 + r0 = (n0 : Int) := ⟨(1 + r0).toNat, by omega⟩
  obtain ⟨n1, hn1'⟩ : ∃ n1 : Nat, 1 + r1 = (n1 : Int) := ⟨(1 + r1).toNat, by omega⟩
  show gName 2 (V.ref Lm) _ (upd H2 Lm (HO.lst [V.int (1 + r0), V.int (1 + r1)])) _
  rw [hn0', hn1'] at s3 ⊢
  have q0 : 1 ≤ n0 ∧ (n0 : Int) ≤ m := by omega
  have q1 : 1 ≤ n1 ∧ (n1 : Int) ≤ m := by omega
  refine ⟨_, rfl, a, n + 1 + 1, 4, rfl, .inr (w2.same s3), by omega, by omega, by decide, by decide, fun r2 H4 r20 r21 b4 w4 => ?_⟩
  have hLa : a ≠ Lm := w2.ne hLm
  have hLm4 : H4 Lm = some (.lst [V.int (n0 : Int), V.int (n1 : Int)]) := b4 _ _ (Ne.symm hLa) upd_same
  have hmN : ∀ h, h < 2 → ∃ k : Nat, ([V.int (n0 : Int), V.int (n1 : Int)] : List V)[h]? = some (.int (k : Int)) ∧ k = (if h = 0 then n0 else n1) ∧ 1 ≤ k ∧ (k : Int) ≤ m := fun h hh => by
    obtain rfl | rfl : h = 0 ∨ h = 1 := by omega
    · exact ⟨n0, rfl, rfl, q0.1, q0.2⟩
    · exact ⟨n1, rfl, rfl, q1.1, q1.2⟩
  refine ⟨_, _, rfl, rfl, ?_⟩
  obtain ⟨g, hg, hg2, hg6⟩ : ∃ g : Int, 2 + r2 = g ∧ 2 ≤ g ∧ g ≤ 5 := ⟨_, rfl, by omega, by omega⟩
  show gName 3 (V.int (2 + r2)) _ _ _
  rw [hg]
  have b04 : But a H H4 := ((b1.trans b2).trans (.same s3)).trans b4
  refine ⟨2, rfl, by decide, by decide, fun D1 hD1 => ?_⟩
  have s5 := same_new hD1 (.lst [])
  have haD1 : a ≠ D1 := w4.ne hD1
  have hLD1 : Lm ≠ D1 := ne_of_none hLm4 hD1
  let p1 : Addr → Bool := fun b => decide (b ≠ a ∧ b ≠ D1)
  have p1_ok : ∀ b, p1 b = true ↔ (b ≠ a ∧ b ≠ D1) := fun b => decide_eq_true_iff
  refine range_turns (n := 2) (fun i H' => But a H4 H' ∧ WellAt H' a (n + 3 + 21 * (i : Int)) ∧ ∃ ys rs, H' D1 = some (.lst ys) ∧ A2 (RowsAt (vw p1 H')) ys rs ∧ rs.length = i ∧ ∀ k rr, rs[k]? = some rr → rr.length = (if k = 0 then n0 else n1) ∧ ∀ r ∈ rr, (1 ≤ r.length ∧ r.length ≤ 4 ∧ r.Pairwise (· < ·) ∧ ∀ x ∈ r, 0 ≤ x ∧ x < g)) ⟨.same s5, ?_, [], [], upd_same, .nil, rfl, fun k rr e => by simp at e⟩ ?_ ?_
  · have := w4.same s5
    rw [show n + 3 + 21 * ((0 : Nat) : Int) = n + 1 + 1 + 1 by omega]
    exact this
  · rintro i H' hi ⟨b5, w5, ys, rs, hy, ay, hrl, hrr⟩
    have ej : (0 : Int) + (i : Int) = (i : Int) := by omega
    rw [ej]
    obtain ⟨k, hk1, hk2, hk3, hk4⟩ := hmN i hi
    have hLm' := b5 _ _ (Ne.symm hLa) hLm4
    refine ⟨rfl, _, rfl, _, rfl, Lm, _, _, _, rfl, rfl, SqL.of hLm', atI_nat hk1, (k : Int), rfl, by omega, by omega, fun D2 hD2 => ?_⟩
    have s6 := same_new hD2 (.lst [])
    have haD2 : a ≠ D2 := w5.ne hD2
    have hD12 : D1 ≠ D2 := ne_of_none hy hD2
    let p2 : Addr → Bool := fun b => decide (b ≠ a ∧ b ≠ D1 ∧ b ≠ D2)
    have p2_ok : ∀ b, p2 b = true ↔ (b ≠ a ∧ b ≠ D1 ∧ b ≠ D2) := fun b => decide_eq_true_iff
    refine range_turns (n := k) (fun j H6 => But a H' H6 ∧ WellAt H6 a (n + 3 + 21 * (i : Int) + 5 * (j : Int)) ∧ ∃ us rr, H6 D2 = some (.lst us) ∧ A2 (RowAt (vw p2 H6)) us rr ∧ rr.length = j ∧ ∀ r ∈ rr, (1 ≤ r.length ∧ r.length ≤ 4 ∧ r.Pairwise (· < ·) ∧ ∀ x ∈ r, 0 ≤ x ∧ x < g)) ⟨.same s6, ?_, [], [], upd_same, .nil, rfl, fun r hr => nomatch hr⟩ ?_ ?_
    · have := w5.same s6
      rw [show n + 3 + 21 * (i : Int) + 5 * ((0 : Nat) : Int) = n + 3 + 21 * (i : Int) by omega]
      exact this
    · rintro j H6 hj ⟨b6, w6, us, rr, hu6, au, hul, hub⟩
      refine ⟨rfl, _, rfl, _, rfl, a, _, g, 3, rfl, .inr w6, by omega, by omega, by omega, by omega, by decide, by decide, fun p ns H7 b7 hp7 hp7' w7 l1 l2 l3 l4 => ?_⟩
      have hD27 := b7 _ _ (Ne.symm haD2) hu6
      have np2 : p ≠ D2 := (ne_of_none hu6 hp7).symm
      have np1 : p ≠ D1 := (ne_of_none (b6 _ _ (Ne.symm haD1) hy) hp7).symm
      have npa : p ≠ a := (w6.ne hp7).symm
      refine ⟨us, hD27, ?_, (b6.trans b7).new hD2, ?_, _, rr ++ [ns], upd_same, ?_, by rw [List.length_append, hul]; rfl, fun r hr => ?_⟩
      · rw [au.len, hul]
        exact Nat.lt_of_lt_of_le (show j < 100 by omega) (by decide)
      · rw [show n + 3 + 21 * (i : Int) + 5 * ((j + 1 : Nat) : Int) = n + 3 + 21 * (i : Int) + 5 * (j : Int) + 5 by omega]
        exact w7.but haD2 But.at
      · refine A2.snoc (au.imp fun _ _ r => r.mono (vw_mono fun b o h f e => ⟨h, ?_⟩)) ⟨p, rfl, vw_put ((p2_ok p).mpr ⟨npa, np1, np2⟩) (by rw [upd_ne np2]; exact hp7')⟩
        obtain ⟨z1, z2, z3⟩ := (p2_ok b).mp h
        rw [upd_ne z3]
        exact b7 _ _ z1 e
      · rcases List.mem_append.mp hr with h | h
        · exact hub r h
        · obtain rfl := List.mem_singleton.mp h
          exact ⟨l1, l2, l3, l4⟩
    · rintro H6 ⟨b6, w6, us, rr, hu6, au, hul, hub⟩
      have hy6 := b6 _ _ (Ne.symm haD1) hy
      refine ⟨ys, hy6, ?_, (b5.trans b6).new hD1, ?_, _, rs ++ [rr], upd_same, ?_, by rw [List.length_append, hrl]; rfl, fun k' rr' e => ?_⟩
      · rw [ay.len, hrl]
        exact Nat.lt_of_lt_of_le hi (by decide)
      · refine WellAt.up (n := n + 3 + 21 * (i : Int) + 5 * (k : Int)) (w6.but haD1 But.at) ?_
        have : k ≤ 4 := by omega
        omega
      · refine A2.snoc (ay.imp fun _ _ r => r.mono (vw_mono fun b o h f e => ⟨h, ?_⟩)) ⟨D2, us, rfl, vw_put ((p1_ok D2).mpr ⟨Ne.symm haD2, Ne.symm hD12⟩) (by rw [upd_ne (Ne.symm hD12)]; exact hu6), au.imp fun _ _ r => r.mono (vw_mono fun b o h f e => ?_)⟩
        · obtain ⟨z1, z2⟩ := (p1_ok b).mp h
          rw [upd_ne z2]
          exact b6 _ _ z1 e
        · obtain ⟨z1, z2, z3⟩ := (p2_ok b).mp h
          exact ⟨(p1_ok b).mpr ⟨z1, z2⟩, by rw [upd_ne z2]; exact e⟩
      · by_cases c : k' < rs.length
        · rw [List.getElem?_append_left c] at e
          exact hrr k' rr' e
        · have c2 : k' = rs.length := by
            have := (List.getElem?_eq_some_iff.mp e).1
            rw [List.length_append] at this
            have e1 : ([rr] : List (List (List Int))).length = 1 := rfl
            omega
          subst c2
          rw [List.getElem?_append_right (Nat.le_refl _), Nat.sub_self] at e
          obtain rfl : rr = rr' := by simpa using e
          refine ⟨?_, hub⟩
          rw [hul, hk2, hrl]
  · rintro H5 ⟨b5, w5, ys, rs, hy, ay, hrl, hrr⟩
    have hLm5 := b5 _ _ (Ne.symm hLa) hLm4
    let al : Nat → List (List Int) := fun h => rs.getD h []
    have hal : A2 (RowsAt (vw p1 H5)) ys [al 0, al 1] := by
      have := two_list hrl
      rw [this] at ay
      exact ay
    have halP : ∀ h, h < 2 → (al h).length = (if h = 0 then n0 else n1) ∧ ∀ r ∈ al h, (1 ≤ r.length ∧ r.length ≤ 4 ∧ r.Pairwise (· < ·) ∧ ∀ x ∈ r, 0 ≤ x ∧ x < g) := fun h hh => by
      refine hrr h (al h) ?_
      show rs[h]? = some (rs.getD h [])
      rw [List.getD_eq_getElem?_getD, List.getElem?_eq_getElem (show h < rs.length by omega)]
      rfl
    have hAl : AlAt (vw (pA a) H5) (.ref D1) al := by
      refine al_of (vw_put (pA_ok.mpr (Ne.symm haD1)) hy) (hal.imp fun _ _ r => r.mono (vw_mono fun b o h f e => ⟨pA_ok.mpr ((p1_ok b).mp h).1, e⟩))
    intro B hB
    have s6 := same_new hB (.dT [])
    have haB : a ≠ B := w5.ne hB
    have b0B : But a H (upd H5 B (.dT [])) := (b04.trans b5).trans (.same s6)
    refine ⟨_, rfl, Lm, _, _, _, rfl, rfl, SqL.of (s6 _ _ hLm5), (by rfl), (n0 : Int), rfl, by omega, by omega, ?_⟩
    have hBn : H B = none := none_of_but (b04.trans b5) (Ne.symm haB) hB
    have hDn : H D1 = none := none_of_but b04 (Ne.symm haD1) hD1
    have hBD : B ≠ D1 := (ne_of_none hy hB).symm
    have hBL : B ≠ Lm := (ne_of_none hLm5 hB).symm
    have q04 : n0 ≤ 4 := by omega
    have q14 : n1 ≤ 4 := by omega
    refine for_range (n := n0) (fun i σ H' => ∃ g4 g7, σ = [some (.ref a), some (.int m), some (.ref Lm), some (.int g), g4, some (.ref D1), some (.ref B), g7, none] ∧ PIn H a Lm D1 B n0 n1 n al i 0 H') ⟨_, _, rfl, [], [], b0B, s6 _ _ hLm5, ?_, hAl.mono (vwA_but (.same s6)), upd_same, .nil, .nil, (fun e he => nomatch he), (fun x y hx => ?_), Nat.zero_le _⟩ ?_ ?_
    · refine WellAt.up (w5.same s6) ?_
      omega
    · rcases hx with ⟨h1, _⟩ | ⟨_, h2⟩
      · exact absurd h1 (Nat.not_lt_zero _)
      · exact absurd h2 (Nat.not_lt_zero _)
    · rintro i σ H' hi ⟨g4, g7, rfl, hP⟩
      have ej : (0 : Int) + (i : Int) = (i : Int) := by omega
      rw [ej]
      have hL' : H' Lm = some (.lst [V.int (n0 : Int), V.int (n1 : Int)]) := by
        obtain ⟨bo, kvs, _, h, _⟩ := hP
        exact h
      refine ⟨_, rfl, Lm, _, _, _, rfl, rfl, SqL.of hL', (by rfl), (n1 : Int), rfl, by omega, by omega, ?_⟩
      refine for_range (n := n1) (fun j σ H' => ∃ g7, σ = [some (.ref a), some (.int m), some (.ref Lm), some (.int g), some (.int (i : Int)), some (.ref D1), some (.ref B), g7, none] ∧ PIn H a Lm D1 B n0 n1 n al i j H') ⟨_, rfl, hP⟩ ?_ ?_
      · clear hP hL'
        rintro j σ H' hj ⟨g7, rfl, bo, kvs, bH, hL', wH, hA', hB', ha', hsr, hrg, hcv, hbl⟩
        have ej : (0 : Int) + (j : Int) = (j : Int) := by omega
        rw [ej]
        refine ⟨_, rfl, _, rfl, Lm, _, _, _, rfl, rfl, SqL.of hL', (by rfl), _, _, rfl, rfl, (by show (0 : Int) < (n1 : Int); omega), _, rfl, rfl, _, rfl, ?_⟩
        have skip : ∀ Hc, ¬ (i % n1 = j ∨ j % n0 = i) → But a H' Hc → WellAt Hc a (n + 60 + 70 * (i : Int) + 17 * (j : Int) + 1) → PIn H a Lm D1 B n0 n1 n al i (j + 1) Hc := fun Hc nc bc wc => by
          refine ⟨bo, kvs, bH.trans bc, bc _ _ (Ne.symm hLa) hL', wc.up (by omega), hA'.mono (vwA_but bc), bc _ _ (Ne.symm haB) hB', ha'.imp fun _ _ r => r.mono (vwA_but bc), hsr, fun e he => ?_, fun x y h c => ?_, by omega⟩
          · obtain ⟨h1, h2⟩ := hrg e he
            exact ⟨by omega, h2⟩
          · rcases h with h | ⟨h1, h2⟩
            · exact hcv x y (.inl h) c
            · rcases Nat.lt_succ_iff_lt_or_eq.mp h2 with h3 | h3
              · exact hcv x y (.inr ⟨h1, h3⟩) c
              · subst h1; subst h3
                exact absurd c nc
        have body : ∀ (D : Ends) (Hc : Hp), But a H' Hc → WellAt Hc a (n + 60 + 70 * (i : Int) + 17 * (j : Int) + 1) → (∀ Hn, PIn H a Lm D1 B n0 n1 n al i (j + 1) Hn → D.nx [some (.ref a), some (.int m), some (.ref Lm), some (.int g), some (.int (i : Int)), some (.ref D1), some (.ref B), some (.int (j : Int)), none] Hn) →
            sDPut (tVar 6) (tTup (tCons (tVar 4) (tCons (tVar 7) tNil))) (tCall spOuts2 [] E0 (tCons (tVar 0) (tCons (tVar 3) tNil))) D [some (.ref a), some (.int m), some (.ref Lm), some (.int g), some (.int (i : Int)), some (.ref D1), some (.ref B), some (.int (j : Int)), none] Hc := by
          intro D Hc bc wc next
          refine ⟨_, rfl, _, rfl, a, _, g, rfl, .inr wc, by omega, by omega, hg2, by omega, fun p xs l H6 b6 hp6 hp6' ax w6 okl => ?_⟩
          refine ⟨_, rfl, _, rfl, _, rfl, (by show 2 ≤ sizeLine; decide), fun t ht => ?_⟩
          have s7 := same_new ht (.tup [V.int (i : Int), V.int (j : Int)])
          have bcc := bc.trans b6
          have hB6 : H6 B = some (.dT kvs) := bcc _ _ (Ne.symm haB) hB'
          have hvn : valV kvs (kI (i, j)) = none := valV_noneP fun e he c => by
            obtain ⟨y, hy1, hy2, _⟩ := ha'.mem he
            rw [hy2] at c
            have c := kI_inj c
            have h1 := (hrg y hy1).1
            rw [c] at h1
            have h1 : i < i ∨ (i = i ∧ j < j) := h1
            omega
          have hsz : kvs.length ≤ 20 := by rw [ha'.len]; omega
          refine ⟨B, _, rfl, DPut.t (k := kI (i, j)) (s7 _ _ hB6) upd_same (Nat.lt_of_le_of_lt hsz (by decide)), ?_⟩
          rw [putK_new _ hvn]
          have hB7 := s7 _ _ hB6
          have kpA : Kp (vw (pA a) H') (vw (pA a) (upd (upd H6 t (.tup [V.int (i : Int), V.int (j : Int)])) B (.dT (kvs ++ [(kI (i, j), V.ref p)])))) := ((vwA_but (bcc.trans (.same s7)))).trans (vwA_put hB7)
          have npa : p ≠ a := (wc.ne hp6).symm
          have npB : p ≠ B := fun c => by subst c; rw [bc _ _ (Ne.symm haB) hB'] at hp6; cases hp6
          refine next _ ⟨bo ++ [((i, j), l)], _, ((bH.trans bcc).trans (.same s7)).new hBn, by rw [upd_ne (Ne.symm hBL)]; exact s7 _ _ (bcc _ _ (Ne.symm hLa) hL'), ((w6.same s7).but haB But.at).up (by omega), hA'.mono kpA, upd_same, ?_, ?_, ?_, ?_, ?_⟩
          · refine A2.snoc (ha'.imp fun _ _ r => r.mono kpA) ⟨rfl, p, xs, rfl, vw_put (pA_ok.mpr npa) (by rw [upd_ne npB]; exact s7 _ _ hp6'), ?_⟩
            obtain ⟨z6, e6⟩ := w6.lst
            refine ax.imp fun v xy r => ?_
            obtain ⟨tt, rfl, htt⟩ := r
            have nta : tt ≠ a := ne_of htt e6 (fun z => by cases z)
            have ntB : tt ≠ B := ne_of htt hB6 (fun z => by cases z)
            exact ⟨tt, rfl, vw_put (pA_ok.mpr nta) (by rw [upd_ne ntB]; exact s7 _ _ htt)⟩
          · rw [List.map_append]
            refine List.pairwise_append.mpr ⟨hsr, by simp, fun x hx y hy => ?_⟩
            obtain ⟨e, he, rfl⟩ := List.mem_map.mp hx
            obtain rfl : y = (i, j) := by simpa using hy
            exact (hrg e he).1
          · intro e he
            rcases List.mem_append.mp he with h | h
            · obtain ⟨h1, h2⟩ := hrg e h
              exact ⟨by omega, h2⟩
            · obtain rfl := List.mem_singleton.mp h
              exact ⟨.inr ⟨rfl, Nat.lt_succ_self _⟩, hi, hj, okL_let okl (by omega), okL_B okl (by omega)⟩
          · intro x y h c
            rcases h with h | ⟨h1, h2⟩
            · obtain ⟨e, he, h3⟩ := hcv x y (.inl h) c
              exact ⟨e, List.mem_append_left _ he, h3⟩
            · rcases Nat.lt_succ_iff_lt_or_eq.mp h2 with h3 | h3
              · obtain ⟨e, he, h4⟩ := hcv x y (.inr ⟨h1, h3⟩) c
                exact ⟨e, List.mem_append_left _ he, h4⟩
              · subst h1; subst h3
                exact ⟨_, List.mem_append_right _ (List.mem_singleton.mpr rfl), rfl⟩
          · rw [List.length_append]
            have e1 : ([((i, j), l)] : BD).length = 1 := rfl
            omega
        by_cases c1 : i % n1 = j
        · exact iteT' (mod_dec.trans (decide_eq_true c1)) (iteT (body _ H' (.same (Same.refl _)) (wH.up (by omega)) fun Hn h => ⟨_, rfl, h⟩))
        refine iteF' (mod_dec.trans (decide_eq_false c1)) ?_
        refine ⟨_, rfl, _, rfl, Lm, _, _, _, rfl, rfl, SqL.of hL', (by rfl), _, _, rfl, rfl, (by show (0 : Int) < (n0 : Int); omega), _, rfl, rfl, _, rfl, ?_⟩
        by_cases c2 : j % n0 = i
        · exact iteT' (mod_dec.trans (decide_eq_true c2)) (iteT (body _ H' (.same (Same.refl _)) (wH.up (by omega)) fun Hn h => ⟨_, rfl, h⟩))
        refine iteF' (mod_dec.trans (decide_eq_false c2)) ?_
        refine ⟨_, rfl, a, _, 3, rfl, .inr wH, by omega, by omega, by decide, by decide, fun r5 H6 r50 r51 b6 w6 => ?_⟩
        refine ⟨_, _, rfl, rfl, _, rfl, ?_⟩
        by_cases c3 : (0 : Int) < r5
        · exact iteT' (decide_eq_true c3) (body _ H6 b6 w6 fun Hn h => ⟨_, rfl, h⟩)
        · exact iteF' (decide_eq_false c3) ⟨_, rfl, skip H6 (fun c => c.elim c1 c2) b6 w6⟩
      · rintro σ H2 ⟨g7, rfl, bo, kvs, bH, hL', wH, hA', hB', ha', hsr, hrg, hcv, hbl⟩
        refine ⟨_, _, rfl, bo, kvs, bH, hL', wH.up (by omega), hA', hB', ha', hsr, fun e he => ?_, fun x y hx c => ?_, by omega⟩
        · obtain ⟨h1, h2⟩ := hrg e he
          exact ⟨by omega, h2⟩
        · rcases hx with ⟨h, hy⟩ | ⟨_, h⟩
          · rcases Nat.lt_succ_iff_lt_or_eq.mp h with h | h
            · exact hcv x y (.inl ⟨h, hy⟩) c
            · exact hcv x y (.inr ⟨h, hy⟩) c
          · exact absurd h (Nat.not_lt_zero _)
    · rintro σ H' ⟨g4, g7, rfl, bo, kvs, bH, hL', wH, hA', hB', ha', hsr, hrg, hcv, hbl⟩
      refine ⟨_, rfl, _, rfl, (by show 2 ≤ sizeLine; decide), fun r hr => ?_⟩
      have s8 := same_new hr (.tup [V.ref D1, V.ref B])
      have hrn : H r = none := none_of_but bH (Ne.symm (wH.ne hr)) hr
      have e0 : (al 0).length = n0 := (halP 0 (by decide)).1
      have e1 : (al 1).length = n1 := (halP 1 (by decide)).1
      refine q r D1 B ⟨al, bo⟩ _ (bH.trans (.same s8)) hrn hDn hBn upd_same (hA'.mono (vwA_but (.same s8))) ⟨kvs, s8 _ _ hB', ha'.imp fun _ _ r => r.mono (vwA_but (.same s8))⟩ ((wH.same s8).up (by omega)) ⟨fun h hh => ?_, fun h hh r hr => ?_, (hsr.imp fun h => ltN_ne h), fun e he => ?_, fun e he => (hrg e he).2.2.2.1, fun x hx => ?_, fun y hy => ?_, by show bo.length ≤ 60; omega⟩ (fun h hh => ?_) (fun h hh r hr => ⟨((halP h hh).2 r hr).2.1, fun x hx => by have := (((halP h hh).2 r hr).2.2.2 x hx).2; omega⟩) (fun e he => (hrg e he).2.2.2.2) (by show bo.length ≤ 16; omega)
      · obtain rfl | rfl : h = 0 ∨ h = 1 := by omega
        · show 1 ≤ (al 0).length ∧ (al 0).length ≤ 20
          omega
        · show 1 ≤ (al 1).length ∧ (al 1).length ≤ 20
          omega
      · obtain ⟨z1, z2, z3, z4⟩ := (halP h hh).2 r hr
        exact ⟨z1, by omega, z3, fun x hx => ⟨(z4 x hx).1, by have := (z4 x hx).2; omega⟩⟩
      · show e.1.1 < (al 0).length ∧ e.1.2 < (al 1).length
        rw [e0, e1]
        exact ⟨(hrg e he).2.1, (hrg e he).2.2.1⟩
      · have hx : x < n0 := by rw [← e0]; exact hx
        obtain ⟨e, he, h⟩ := hcv x (x % n1) (.inl ⟨hx, Nat.mod_lt _ (by omega)⟩) (.inl rfl)
        exact ⟨e, he, by rw [h]⟩
      · have hy : y < n1 := by rw [← e1]; exact hy
        obtain ⟨e, he, h⟩ := hcv (y % n0) y (.inl ⟨Nat.mod_lt _ (by omega), hy⟩) (.inr rfl)
        exact ⟨e, he, by rw [h]⟩
      · obtain rfl | rfl : h = 0 ∨ h = 1 := by omega
        · show (((al 0).length : Nat) : Int) ≤ m
          omega
        · show (((al 1).length : Nat) : Int) ≤ m
          omega
end
end TA

set_option Elab.async false
set_option maxRecDepth 100000
set_option maxHeartbeats 4000000
namespace TA
open PySem L2 PyProof.Rows
set_option linter.unusedVariables false
/-! data that may be compared -/
def Ok (n : Nat) (d : PyData) : Prop := d.canLay0 = true ∧ d.depth ≤ n
theorem Ok.shaped {n : Nat} {d : PyData} (h : Ok n d) (e : n ≤ 64) : SeqAt.shaped d = true := by
  unfold SeqAt.shaped
  rw [h.1, decide_eq_true (Nat.le_trans h.2 e)]
  rfl
theorem ok_int {n : Nat} (i : Int) : Ok (n + 1) (.int i) := ⟨by simp [PyData.canLay0], by simp [PyData.depth]⟩
theorem ok_non {n : Nat} : Ok (n + 1) .none := ⟨by simp [PyData.canLay0], by simp [PyData.depth]⟩
theorem ok_all {n : Nat} : ∀ {ds : List PyData}, (∀ d ∈ ds, Ok n d) → PyData.canLayAll0 ds = true ∧ PyData.depthAll ds ≤ n
  | [], _ => ⟨rfl, by simp [PyData.depthAll]⟩
  | d :: ds, q => by
    obtain ⟨a, b⟩ := ok_all (ds := ds) (fun x hx => q x (List.mem_cons_of_mem _ hx))
    obtain ⟨c, e⟩ := q d List.mem_cons_self
    refine ⟨by simp [PyData.canLayAll0, a, c], ?_⟩
    simp only [PyData.depthAll]
    omega
theorem ok_list {n : Nat} {ds : List PyData} (q : ∀ d ∈ ds, Ok n d) : Ok (n + 1) (.list ds) := by
  obtain ⟨a, b⟩ := ok_all q
  refine ⟨by simpa [PyData.canLay0] using a, ?_⟩
  simp only [PyData.depth]
  omega
theorem ok_tuple {n : Nat} {ds : List PyData} (q : ∀ d ∈ ds, Ok n d) : Ok (n + 1) (.tuple ds) := by
  obtain ⟨a, b⟩ := ok_all q
  refine ⟨by simpa [PyData.canLay0] using a, ?_⟩
  simp only [PyData.depth]
  omega
theorem okD_pair (p : Int × Int) : Ok 2 (pairD p) := ok_tuple fun d hd => by
  rcases List.mem_cons.mp hd with rfl | hd
  · exact ok_int _
  · obtain rfl := List.mem_singleton.mp hd
    exact ok_int _
theorem okD_pairs (l : List (Int × Int)) : Ok 3 (.list (l.map pairD)) := ok_list fun d hd => by
  obtain ⟨p, _, rfl⟩ := List.mem_map.mp hd
  exact okD_pair p
theorem eqv_pair (p q : Int × Int) : PyData.eqv (pairD p) (pairD q) = decide (p = q) := by
  show ((p.1 == q.1) && ((p.2 == q.2) && true)) = decide (p = q)
  rw [Bool.and_true]
  by_cases h : p = q
  · subst h
    simp
  · rw [decide_eq_false h]
    by_cases h1 : p.1 = q.1
    · have : ¬ p.2 = q.2 := fun h2 => h (Prod.ext h1 h2)
      simp [this]
    · simp [h1]
/-! == of the data of tasks -/
theorem eqvAll_map {α : Type} [DecidableEq α] (f : α → PyData) (h : ∀ x y, PyData.eqv (f x) (f y) = decide (x = y)) : ∀ xs ys : List α, PyData.eqvAll (xs.map f) (ys.map f) = decide (xs = ys)
  | [], [] => rfl
  | [], _ :: _ => rfl
  | _ :: _, [] => rfl
  | x :: xs, y :: ys => by
    show (PyData.eqv (f x) (f y) && PyData.eqvAll (xs.map f) (ys.map f)) = _
    rw [h, eqvAll_map f h xs ys, ← Bool.decide_and]
    exact decide_eq_decide.mpr ⟨fun ⟨a, b⟩ => by rw [a, b], fun c => by injection c with a b; exact ⟨a, b⟩⟩
theorem eqv_list {α : Type} [DecidableEq α] (f : α → PyData) (h : ∀ x y, PyData.eqv (f x) (f y) = decide (x = y)) (xs ys : List α) : PyData.eqv (.list (xs.map f)) (.list (ys.map f)) = decide (xs = ys) := eqvAll_map f h xs ys
theorem eqv_ints (x y : Int) : PyData.eqv (.int x) (.int y) = decide (x = y) := by
  show (x == y) = _
  exact Bool.beq_eq_decide_eq x y
theorem eqv_row (x y : List Int) : PyData.eqv (rowD x) (rowD y) = decide (x = y) := eqv_list _ eqv_ints x y
theorem eqv_rows (x y : List (List Int)) : PyData.eqv (rowsD x) (rowsD y) = decide (x = y) := eqv_list _ eqv_row x y
theorem eqv_let (x y : List (Int × Int)) : PyData.eqv (letD x) (letD y) = decide (x = y) := eqv_list _ eqv_pair x y
theorem eqv_al (a b : Nat → List (List Int)) : PyData.eqv (alD a) (alD b) = decide (a 0 = b 0 ∧ a 1 = b 1) := by
  show (PyData.eqv (rowsD (a 0)) (rowsD (b 0)) && (PyData.eqv (rowsD (a 1)) (rowsD (b 1)) && true)) = _
  rw [eqv_rows, eqv_rows, Bool.and_true, ← Bool.decide_and]
theorem okD_row (r : List Int) : Ok 2 (rowD r) := ok_list fun d hd => by
  obtain ⟨p, _, rfl⟩ := List.mem_map.mp hd
  exact ok_int _
theorem okD_rows (r : List (List Int)) : Ok 3 (rowsD r) := ok_list fun d hd => by
  obtain ⟨p, _, rfl⟩ := List.mem_map.mp hd
  exact okD_row p
theorem okD_al (a : Nat → List (List Int)) : Ok 4 (alD a) := ok_list fun d hd => by
  rcases List.mem_cons.mp hd with rfl | hd
  · exact okD_rows _
  · obtain rfl := List.mem_singleton.mp hd
    exact okD_rows _
/-! both of two tasks -/
theorem nodup_perm {α : Type} [DecidableEq α] : ∀ {l m : List α}, l.Nodup → (∀ x ∈ l, x ∈ m) → m.length ≤ l.length → l.Perm m
  | [], m, _, _, h => by
    have : m = [] := List.eq_nil_of_length_eq_zero (by simpa using h)
    rw [this]
  | x :: l, m, n, h, hl => by
    rw [List.nodup_cons] at n
    have hx := h x List.mem_cons_self
    refine (List.Perm.cons x (nodup_perm (m := m.erase x) n.2 (fun y hy => ?_) ?_)).trans (List.perm_cons_erase hx).symm
    · refine (List.mem_erase_of_ne (fun c => ?_)).mpr (h y (List.mem_cons_of_mem _ hy))
      subst c
      exact n.1 hy
    · rw [List.length_erase_of_mem hx]
      rw [List.length_cons] at hl
      omega
abbrev EB := IP × List (Int × Int)
def uniq (bo : BD) : Prop := (bo.map (·.1)).Pairwise (· ≠ ·)
theorem uniq_nodup {bo : BD} (h : uniq bo) : bo.Nodup := List.Pairwise.imp (fun h c => h (congrArg _ c)) (List.pairwise_map.mp h)
theorem uniq_key {bo : BD} (h : uniq bo) : ∀ {e f : EB}, e ∈ bo → f ∈ bo → e.1 = f.1 → e = f := by
  induction bo with
  | nil => intro e f he; cases he
  | cons b r ih =>
    intro e f he hf k
    unfold uniq at h
    rw [List.map_cons, List.pairwise_cons] at h
    rcases List.mem_cons.mp he with e1 | he'
    · rcases List.mem_cons.mp hf with e2 | hf'
      · rw [e1, e2]
      · exact (h.1 _ (List.mem_map.mpr ⟨f, hf', rfl⟩) (by rw [← e1]; exact k)).elim
    · rcases List.mem_cons.mp hf with e2 | hf'
      · exact (h.1 _ (List.mem_map.mpr ⟨e, he', rfl⟩) (by rw [← e2]; exact k.symm)).elim
      · exact ih h.2 he' hf' k
theorem sort_perm {a b : BD} (ua : uniq a) : a.mergeSort leN = b.mergeSort leN ↔ a.Perm b := by
  constructor
  · intro h
    exact ((List.mergeSort_perm a leN).symm.trans (h ▸ List.Perm.refl _)).trans (List.mergeSort_perm b leN)
  · intro h
    have hp := ((List.mergeSort_perm a leN).trans h).trans (List.mergeSort_perm b leN).symm
    refine List.Perm.eq_of_pairwise (le := fun x y => leN x y = true) (fun x y hx hy h1 h2 => ?_) (sb_sorted ⟨fun _ => [], a⟩) (sb_sorted ⟨fun _ => [], b⟩) hp
    have hx := (List.mergeSort_perm a leN).mem_iff.mp hx
    have hy := h.mem_iff.mpr ((List.mergeSort_perm b leN).mem_iff.mp hy)
    refine uniq_key ua hx hy ?_
    have h1 := of_decide_eq_true h1
    have h2 := of_decide_eq_true h2
    refine Prod.ext ?_ ?_ <;> omega
def sameB (a b : BD) : Bool := decide (a.mergeSort leN = b.mergeSort leN)
theorem sameB_iff {a b : BD} (ua : uniq a) (ub : uniq b) : sameB a b = (a.length == b.length && a.all fun e => decide (e ∈ b)) := by
  unfold sameB
  rw [Bool.eq_iff_iff, decide_eq_true_eq, Bool.and_eq_true, sort_perm ua, beq_iff_eq, List.all_eq_true]
  constructor
  · intro h
    exact ⟨h.length_eq, fun e he => decide_eq_true (h.mem_iff.mp he)⟩
  · rintro ⟨h1, h2⟩
    exact nodup_perm (uniq_nodup ua) (fun e he => of_decide_eq_true (h2 e he)) (by omega)
def sameTD (T U : TD) : Bool := decide (T.al 0 = U.al 0 ∧ T.al 1 = U.al 1) && sameB T.bo U.bo
end TA

set_option Elab.async false
set_option maxRecDepth 100000
set_option maxHeartbeats 4000000
namespace TA
open PySem L2 PyProof.Rows
set_option linter.unusedVariables false
theorem hu140_of {A : Around} {k : Nat} (hr : Room k A) : A.units + 140 < cLine := by have := hr.un; omega
/-- what isinstance asks of the own class, and == of its instances -/
structure EqC (K : PySem.W.Frag) (C : Addr) : Prop where
  ha : PySem.W.findIn K (.ref C) "__class__" = some (some (.builtin "object.__class__"))
  hn : PySem.W.specialIn K (.builtin "object.__class__") "__get__" = some (some (.builtin "getset_descriptor.__get__"))
  htk : PySem.W.takesIn K (.builtin "object.__class__") = some true
  hm : PySem.W.mroIn K C (.type "object") = some true
  ne : PySem.W.findIn K (.ref C) "__ne__" = some (some (.builtin "object.__ne__"))
  ob : PySem.W.subIn K (.ref C) (.type "object") = some true
  kN : PySem.W.kitOne K (.type "NoneType") (.ref C) = some false
  kL : PySem.W.kitOne K (.type "list") (.ref C) = some false
  kT : PySem.W.kitOne K (.type "tuple") (.ref C) = some false
  kD : PySem.W.kitOne K (.type "dict") (.ref C) = some false
structure EqD (P : Program) (w : World) (K : PySem.W.Frag) (mg : Str → Option Value) (base : Heap) (C : Addr) (k : Nat) (sp : Sp) (f : Addr) (fd : FuncData) : Prop where
  G : FnOk P w K mg base CX0 k f fd ["self", "other"] sp
  b : Binds K fd ["self", "other"] []
  at_ : PySem.W.findIn K (.ref C) "__eq__" = some (some (.ref f))
  fn : PySem.W.isFn K (.ref f) = true
/-- no task, but a list, a tuple, a dict or None -/
def NoT (H : Hp) (v : V) : Prop := v = .non ∨ ∃ a, v = .ref a ∧ ((∃ xs, H a = some (.lst xs)) ∨ (∃ xs, H a = some (.tup xs)) ∨ ∃ kvs, H a = some (.dT kvs))
def spEq (K : PySem.W.Frag) (C : Addr) : Sp := fun vs H Q _ => ∃ (p : Addr) (v : V) (T : TD), vs = [.ref p, v] ∧ TaskAt C H p T ∧ uniq T.bo ∧ ((∃ (q : Addr) (U : TD), v = .ref q ∧ TaskAt C H q U ∧ uniq U.bo ∧ Q (.bl (sameTD T U)) H) ∨ (NoT H v ∧ Q (.bl false) H))
theorem kit_self {K : PySem.W.Frag} {C : Addr} : PySem.W.kitOne K (.ref C) (.ref C) = some true := by
  unfold PySem.W.kitOne
  rw [if_pos (by simp)]
/-- what the dict of a task holds at a key -/
theorem val_no {H : Hp} {kvs : List (List Key × V)} {bo : BD} (a : A2 (EnAt H) kvs bo) {p : IP} (n : ∀ e ∈ bo, e.1 ≠ p) : valV kvs (kI p) = none := valV_noneP fun x hx c => by
  obtain ⟨f, hf, q⟩ := a.mem hx
  exact n f hf (kI_inj (q.1.symm.trans c))
theorem eqx_let {K : PySem.W.Frag} {H : Hp} {x y : V} {l m : List (Int × Int)} (h : LetAt H x l) (g : LetAt H y m) : EqX K H 1 x y (decide (l = m)) :=
  .inl ⟨letD l, letD m, h.dp, g.dp, (okD_pairs l).shaped (by decide), (okD_pairs m).shaped (by decide), (eqv_let l m).symm⟩
theorem rcx_bo {K : PySem.W.Frag} {H : Hp} {d d' : Addr} {bo bo' : BD} (h : BoAt H d bo) (g : BoAt H d' bo') (u : uniq bo) (u' : uniq bo') : RcX K H (EqX K H 1) (.ref d) (.ref d') (sameB bo bo') := by
  obtain ⟨ks, hd, a⟩ := h
  obtain ⟨ls, hd', a'⟩ := g
  refine .inr (.inr ⟨d, d', ks, ls, fun p => decide (∃ e ∈ bo', p.1 = kI e.1 ∧ ∃ f ∈ bo, p.1 = kI f.1 ∧ e = f), rfl, rfl, hd, hd', fun hl p hp => ?_, ?_⟩)
  · obtain ⟨e, he, ek, el⟩ := a.mem hp
    by_cases c : ∃ f ∈ bo', f.1 = e.1
    · obtain ⟨f, hf, ef⟩ := c
      obtain ⟨v, hv, hl⟩ := val_at a' u' f hf
      refine .inr ⟨v, by rw [ek, ← ef]; exact hv, ?_⟩
      have := eqx_let (K := K) el hl
      refine cast (congrArg (EqX K H 1 p.2 v) (decide_eq_decide.mpr ⟨fun h => ⟨f, hf, by rw [ek, ef], e, he, ek, Prod.ext ef h.symm⟩, ?_⟩)) this
      rintro ⟨f', hf', k', e', he', k2, rfl⟩
      have e1 : f'.1 = f.1 := by rw [ef]; exact kI_inj (k'.symm.trans ek)
      have e2 := uniq_key u' hf' hf e1
      have e3 := uniq_key u he' he (kI_inj (k2.symm.trans ek))
      rw [← e2, ← e3]
    · refine .inl ⟨by rw [ek]; exact val_no a' fun f hf k => c ⟨f, hf, k⟩, decide_eq_false ?_⟩
      rintro ⟨f, hf, k, _⟩
      exact c ⟨f, hf, (kI_inj (ek.symm.trans k)).symm⟩
  · rw [sameB_iff u u', a.len, a'.len]
    congr 1
    rw [Bool.eq_iff_iff, List.all_eq_true, List.all_eq_true]
    constructor
    · intro h p hp
      obtain ⟨e, he, ek, el⟩ := a.mem hp
      have hm := of_decide_eq_true (h e he)
      exact decide_eq_true ⟨e, hm, ek, e, he, ek, rfl⟩
    · intro h e he
      obtain ⟨p, hp, ek, el⟩ : ∃ p, p ∈ ks ∧ EnAt H p e := by
        obtain ⟨i, hi⟩ := List.getElem?_of_mem he
        obtain ⟨p, hp, r⟩ := a.at hi
        exact ⟨p, List.mem_of_getElem? hp, r⟩
      obtain ⟨f, hf, k, e', he', k2, rfl⟩ := of_decide_eq_true (h p hp)
      have e3 := uniq_key u he' he (kI_inj (k2.symm.trans ek))
      exact decide_eq_true (by rw [← e3]; exact hf)
section
variable {P : Program} {w : World} {K : PySem.W.Frag} {mg : Str → Option Value} {base : Heap}
abbrev nEq : List Str := ["self", "other"]
theorem sc_eq : FnScope nEq nEq (defScope s_eq) := ⟨rfl, rfl, rfl, by decide +kernel, rfl, by decide +kernel, by decide +kernel⟩
theorem ok_eq {f C : Addr} {fd : FuncData} (F : Fun K "__eq__" "Task.__eq__" s_eq f fd) (T : Txt K mg) (Z : TxtC K mg C) (EC : EqC K C) : FnOk P w K mg base CX0 1 f fd ["self", "other"] (spEq K C) := by
  refine F.ok sc_eq (fun vs H Q E h => ?_) (fun cdv A outer s H vs Q E hr h => ?_)
  · obtain ⟨p, v, D, rfl, _⟩ := h
    rfl
  obtain ⟨p, v, D, rfl, hT, uT, h⟩ := h
  have nd := sc_eq.nd
  have hu140 := hu140_of hr
  refine ⟨_, (pss_one (ps_ret (pe_and (pe_callB call_isi (by rfl) T.isi boot_isinstance (pa_cons (pv 1) (pa_cons (pe_glob (v := .ref C) rfl Z.mg rfl) pa_nil))) (pe_and (pe_cmpR (op_eqD hr.units) (pe_fld (pv 0) rfl) (pe_fld (pv 1) rfl) (nomark _)) (pe_one (pe_cmpR (op_eqX hu140) (pe_fld (pv 0) rfl) (pe_fld (pv 1) rfl) (nomark _))))))), ?_⟩
  rcases h with ⟨q, U, rfl, hU, uU, k⟩ | ⟨hv, k⟩
  case inr =>
    rcases hv with rfl | ⟨a, rfl, ⟨xs, e⟩ | ⟨xs, e⟩ | ⟨kvs, e⟩⟩
    · exact ⟨_, rfl, _, .ref C, _, _, false, rfl, .own C, .base .non, EC.kN, _, rfl, iteF k⟩
    · exact ⟨_, rfl, _, .ref C, _, _, false, rfl, .own C, .base (.lst e), EC.kL, _, rfl, iteF k⟩
    · exact ⟨_, rfl, _, .ref C, _, _, false, rfl, .own C, .base (.tup e), EC.kT, _, rfl, iteF k⟩
    · exact ⟨_, rfl, _, .ref C, _, _, false, rfl, .own C, .base (.dT e), EC.kD, _, rfl, iteF k⟩
  obtain ⟨dx, aa, d, hp, hA, hB⟩ := hT
  obtain ⟨dx', aa', d', hq, hA', hB'⟩ := hU
  refine ⟨_, rfl, _, .ref C, _, _, true, rfl, .own C, .base (.ins hq Z.cl EC.ha EC.hn EC.htk EC.hm), kit_self, _, rfl, iteT ?_⟩
  refine ⟨_, rfl, p, C, dx, _, _, rfl, hp, Z.cl, Z.nA, flds_alone _ _, _, rfl, q, C, dx', _, _, rfl, hq, Z.cl, Z.nA, flds_alone _ _, alD D.al, alD U.al, hA.dp, hA'.dp, (okD_al _).shaped (by decide), (okD_al _).shaped (by decide), _, rfl, ?_⟩
  have ek : sameTD D U = (PyData.eqv (alD D.al) (alD U.al) && sameB D.bo U.bo) := by unfold sameTD; rw [eqv_al]
  rw [ek] at k
  cases c : PyData.eqv (alD D.al) (alD U.al) with
  | false =>
    rw [c, Bool.false_and] at k
    exact iteF k
  | true =>
    rw [c, Bool.true_and] at k
    refine iteT ?_
    exact ⟨_, rfl, p, C, dx, _, _, rfl, hp, Z.cl, Z.nB, flds_both _ _, _, rfl, q, C, dx', _, _, rfl, hq, Z.cl, Z.nB, flds_both _ _, 1, _, by decide, rcx_bo hB hB' uT uU, k⟩
end
end TA

set_option Elab.async false
set_option maxRecDepth 100000
set_option maxHeartbeats 4000000
namespace TA
open PySem PySem.Spec L2 PyProof.Rows
set_option linter.unusedVariables false
/-! try: .. except A as n: .. and further clauses: where the body raises, the first clause takes it -/
def wFirst (K : PySem.W.Frag) (c : Value) (i : Nat) (ts : Addr → Value → Option Addr → TS) (D : Ends) : WX := fun cls d σ H => PySem.W.exmOne K cls c = some true ∧ ∀ a, H a = none → ts a cls d { nx := fun σ' H' => D.nx (σ'.set i none) H', rt := D.rt, bk := fun σ' H' => D.bk (σ'.set i none) H', ct := fun σ' H' => D.ct (σ'.set i none) H' } (σ.set i (some (.ref a))) H
theorem ps_try_first {X : Cx} {x n : Str} {c : Value} {i : Nat} {body suite : List Stmt} {b₀ : Stmt} {np pos pos' : Pos} {more : List ExceptHandler} {tb : WX → TS} {ts : Addr → Value → Option Addr → TS} (stk : X.stack = X.env :: X.outer) (frm : X.env.frame = some X.env.locals) (nodup : X.N.Nodup) (slot : X.N[i]? = some n) (isLoc : X.env.kindOf n = some .local) (named : Names X x c)
    (inner : ∀ (W : WX) (pn : List (Addr × Obj)) (xe : Value → Shared → Prop), Takes (X.tr pn xe) W → PassesOwn (model X.prog X.w) X.A X.env xe → PSs (X.tr pn xe) body (tb W)) (clause : ∀ (a : Addr) (oe : Obj) (cls : Value) (d : Option Addr) (pn : List (Addr × Obj)), Zc cls d oe → (∃ vs, oe.data = .fields vs) → PSs (X.suite a ((a, oe) :: pn)) (b₀ :: suite) (ts a cls d)) :
    PS X (.Try body (.ExceptHandler (some (.Name x np)) (some n) (b₀ :: suite) pos' :: more) [] [] pos) (fun D σ H => tb (wFirst X.K c i ts D) D σ H) := by
  refine ⟨fun pins s σ H D inv given => ?_⟩
  have fine := inv.ok
  have local' : Loc X.env.scope n := .inl isLoc
  refine wpAny_Try_except ?_
  have runs := (inner (wFirst X.K c i ts D) (X.pn ++ pins) (fun e s₁ => wpAny (model X.prog X.w) X.A (noteFrame e X.env) (fun _ s₂ => wpAny (model X.prog X.w) X.A (setFlight e none) (fun _ s₃ => wpAny (model X.prog X.w) X.A (handleBy e X.env (.ExceptHandler (some (.Name x np)) (some n) (b₀ :: suite) pos' :: more)) (SP X pins D) X.xe s₃) X.xe s₂) X.xe s₁) (fun u s' met => ?caught) PassesOwn.looking).run [] s σ H D (inv.toTry _) given
  case caught =>
    obtain ⟨a, B, sI, pins', σ', H', cls, d, rfl, J', nb, up, sky, na, os, ag, hb1, hyes⟩ := met
    have J : Inv X pins σ' H' sI := J'.ofTry fine
    have above : Sky B (X.env :: X.outer) a (Zc cls d) X.env.locals s'.heap := by rw [← stk]; exact sky
    show wpAny (model X.prog X.w) X.A (noteFrame (.ref a) X.env) _ _ _
    refine Sky.land Zc.steady (by rw [fine.frames, stk]) frm above fun h3 fl3 up3 => ?_
    have J3 : Inv X pins σ' H' { s' with heap := h3 } := J.landed nb fl3.1 (up.trans up3) os ag
    obtain ⟨oe3, vs3, he3, hz3, hd3⟩ := fl3.there
    have outside : a ∉ frs (X.env :: X.outer) := fun hm => by
      obtain ⟨_, o', e', hnf⟩ := fl3.2.2.1.mem hm
      rw [he3] at e'; cases e'
      exact hnf _ hd3
    have notL : a ≠ X.env.locals := fun z => outside (List.mem_filterMap.mpr ⟨X.env, List.mem_cons_self, by rw [frm, z]⟩)
    have notF : a ∉ X.fs := fun hm => by
      obtain ⟨v, hv, q⟩ := List.mem_filterMap.mp hm
      exact outside (List.mem_filterMap.mpr ⟨v, List.mem_cons_of_mem _ hv, q⟩)
    have S3 := J3.suite he3 hd3 na notL notF
    refine wpAny_handleBy_cons (codeAny_handlers_test ?_) (fun q => nomatch q)
    have looks : PySem.W.Looks (model X.prog X.w) h3 (typeOf (.ref a)) cls := fun _ _ _ _ k q => wpAny_typeOf_ref (k _ _ he3) (by rw [hz3.1]; exact q)
    have asked := PySem.W.exm_one (M := model X.prog X.w) (J3.kIn) looks hb1
    have named' : ∀ {Q E : Value → Shared → Prop}, Q c { s' with heap := h3 } → wpAny (model X.prog X.w) (X.A.mark (some (.ref a))) (eval (.Name x np) X.env) Q E { s' with heap := h3 } := fun q => by
      obtain ⟨g1, g2, m1 | ⟨m1, m2, m3⟩⟩ := named
      · exact ld_glob (X := X.suite a ((a, oe3) :: (X.pn ++ pins))) S3 g1 m1 q g2
      · exact ld_blt (X := X.suite a ((a, oe3) :: (X.pn ++ pins))) S3 g1 m1 m2 q m3 g2
    refine named' (asked.here (codeAny_handlers_suite_as ?_))
    refine HandSPX.lands_againZ fl3 fun h4 fl4 up4 => ?_
    have J4 : Inv X pins σ' H' { s' with heap := h4 } := J.landed nb fl4.1 ((up.trans up3).trans up4) os ag
    obtain ⟨oe4, vs4, he4, hz4, hd4⟩ := fl4.there
    have S4 := J4.suite he4 hd4 na notL notF
    refine store_ok (X := X.suite a ((a, oe4) :: (X.pn ++ pins))) (v := .ref a) S4 nodup slot local' rfl (fun s5 S5 => ?_) (.inr isLoc)
    refine wpAny_mono ((clause a oe4 cls d (X.pn ++ pins) hz4 ⟨_, hd4⟩).run [] s5 _ H' _ S5 (hyes a na)) (fun f s6 past => ?_) (fun _ _ z => z.elim)
    have over : ∀ {σ6 : L2.St} {H6 : Hp} {Q : Shared → Prop}, Inv (X.suite a ((a, oe4) :: (X.pn ++ pins))) [] σ6 H6 s6 → (∀ s7, Inv X pins (σ6.set i none) H6 s7 → Q s7) → wpAny (model X.prog X.w) X.A (do bindName X.env n .none; unbindBehindTheSuite X.env n pos') (fun _ s7 => Q s7) X.xe s6 := fun S6 hq => gone_ok (S6.unsuite fine) nodup slot isLoc hq
    cases f with
    | next => obtain ⟨_, _, S6, q6⟩ := past; exact over S6 fun s7 J7 => ⟨_, _, J7, q6⟩
    | brk => obtain ⟨_, _, S6, q6⟩ := past; exact over S6 fun s7 J7 => ⟨_, _, J7, q6⟩
    | cont => obtain ⟨_, _, S6, q6⟩ := past; exact over S6 fun s7 J7 => ⟨_, _, J7, q6⟩
    | ret u => obtain ⟨_, _, _, S6, r6, q6⟩ := past; exact over S6 fun s7 J7 => ⟨_, _, _, J7, r6, q6⟩
  refine wpAny_mono runs (fun f s1 past => ?_) (fun _ _ he => he)
  cases f with
  | next => obtain ⟨_, _, J', q⟩ := past; exact wpAny_execs_nil ⟨_, _, J'.ofTry fine, q⟩
  | brk => obtain ⟨_, _, J', q⟩ := past; exact ⟨_, _, J'.ofTry fine, q⟩
  | cont => obtain ⟨_, _, J', q⟩ := past; exact ⟨_, _, J'.ofTry fine, q⟩
  | ret u => obtain ⟨_, _, _, J', r, q⟩ := past; exact ⟨_, _, _, J'.ofTry fine, r, q⟩
/-- isinstance of the error that an except suite holds: which class it has is said by the reading -/
theorem call_isE2 {X : Cx} {a : Addr} {oe : Obj} {cls : Value} {d : Option Addr} {pn : List (Addr × Obj)} (hz : Zc cls d oe) (hf : ∃ vs, oe.data = .fields vs) : CallR (X.suite a ((a, oe) :: pn)) (.builtin "isinstance") (fun xs H Q => ∃ D : Addr, cls = .ref D ∧ d = none ∧ ExcC X.K D ∧ rIsE X.K D a xs H Q) := by
  intro pins s σ H xs us Q I r h
  obtain ⟨D, rfl, rfl, T, h⟩ := h
  exact call_isE T hz hf pins s σ H xs us Q I r h
theorem pss_read {X : Cx} {b : List Stmt} {T : TS} (h : ∀ (pins : List (Addr × Obj)) (s : Shared) (σ : L2.St) (H : Hp) (D : Ends), Inv X pins σ H s → T D σ H → ∃ t, PSs X b t ∧ t D σ H) : PSs X b T := ⟨fun pins s σ H D I q => by
  obtain ⟨t, p, r⟩ := h pins s σ H D I q
  exact p.run pins s σ H D I r⟩
/-- o.m(..) in a try -/
def tMethE (C : Addr) (m : Str) (sp : Sp) (E : L2.St → XK) (ta : TE) (t : L2.TA) : TE := fun σ H Q => ta σ H fun x H1 => ∃ a dx fs, x = .ref a ∧ H1 a = some (.ins C dx fs) ∧ fs.lookup m = none ∧ t σ H1 fun vs H2 => sp (x :: vs) H2 Q (E σ)
theorem pe_methE {X : Cx} {CX : CXT} {k : Nat} {f C : Addr} {fd : FuncData} {ps : List Str} {sp : Sp} {E : L2.St → XK} {m : Str} {pos apos : Pos} {e o : Expr} {es : List Expr} {ta : TE} {t : L2.TA} {pl : Sem Bool} (he : PE X o ta) (c : Cls X.K C) (hm : Meth X.K C m f) (F : FnOk X.prog X.w X.K X.mg X.base CX k f fd ps sp) (hr : Room k X.A) (hb : Binds X.K fd ps []) (hx : ∀ σ, PassesAt CX X σ (E σ)) (ha : PA X (e :: es) t)
    (hst : starEach (e :: es) X.env = (false, eval e X.env) :: starEach es X.env := by rfl) (hpl : (backTo pos (starEach es X.env)).any (·.1) = false := by rfl)
    (ht : eval (.Call (.Attribute o m apos) (e :: es) [] pos) X.env = (do
      let ov ← eval o X.env
      standAt apos.atName
      let (f, first) ← holding [ov] (getMethod ov m pl)
      callWith pos f first (backTo pos (starEach (e :: es) X.env)) (backToKw pos (keywordEach [] X.env))) := by rfl) :
    PE X (.Call (.Attribute o m apos) (e :: es) [] pos) (tMethE C m sp E ta t) := by
  refine ⟨fun pins s σ H Q I h => ?_⟩
  refine PySem.W.methodCall_KW (pl := pl) (thn (he.run pins s σ H _ I h) fun u s1 ⟨x, H1, I1, rx, a, dx, fs, ex, ea, l, q⟩ => ?_) ht
  subst ex
  obtain rfl : u = Value.ref a := rx
  refine getmeth_ok I1 ea c hm l ?_
  refine PySem.W.callWith_K (first := [.ref a]) (h₀ := X.base) I.ok.mod.kin hm.kp (thn (ha.run pos pins s1 σ H1 _ I1 q) fun us s2 ⟨vs, H2, I2, r, q2⟩ => ⟨I2.kIn, ?_⟩) hst hpl
  exact run_fnS (us := .ref a :: us) (vs := .ref a :: vs) F hr hb (hx σ) I2 (.cons rfl r) q2
structure RaiseC (K : PySem.W.Frag) (mg : Str → Option Value) (n : Str) (C : Addr) : Prop where
  m : mg n = some (.ref C)
  x : PySem.W.excIn K C [.type "ValueError", .type "Exception", .type "BaseException", .type "object"] "ValueError.__new__" = true
  k : PySem.W.keepIn K (.ref C) = true
  b : PySem.W.subIn K (.ref C) (.type "BaseException") = some true
  t : PySem.W.typeIn K (.ref C) = some (.type "type")
/-- what the law asks of the refusal -/
structure SaidC (K : PySem.W.Frag) (mg : Str → Option Value) (cA cH cN : Addr) : Prop where
  isi : mg "isinstance" = none
  a : mg "AloneError" = some (.ref cA)
  h : mg "NoHand" = some (.ref cH)
  n : mg "NoTask" = some (.ref cN)
  t : ExcC K cH
  e : PySem.W.exmOne K (.ref cH) (.ref cA) = some true
  kh : PySem.W.kitOne K (.ref cH) (.ref cH) = some true
  kn : PySem.W.kitOne K (.ref cH) (.ref cN) = some false
def spInputsB (K : PySem.W.Frag) (C cH : Addr) : Sp := fun vs H Q E => ∃ (p : Addr) (v : V) (d : PyData), vs = [.ref p, v] ∧ Dp K H v d ∧ within d 0 1 = false ∧ E (.ref cH) none H
def spNoHand (K : PySem.W.Frag) (C : Addr) : Sp := fun vs H Q _ => ∃ (p dx : Addr) (fs : List (Str × V)) (v : V) (d : PyData), vs = [.ref p, v] ∧ H p = some (.ins C dx fs) ∧ fs.lookup ("inputs" : Str) = none ∧ Dp K H v d ∧ within d 0 1 = false ∧ ∀ H', Same H H' → Q (.bl true) H'
structure MDefX (P : Program) (w : World) (K : PySem.W.Frag) (mg : Str → Option Value) (base : Heap) (C : Addr) (m : Str) (ps : List Str) (k : Nat) (sp : Sp) (f : Addr) (fd : FuncData) : Prop where
  G : FnOk P w K mg base (L2.CX P w) k f fd ps sp
  b : Binds K fd ps []
  M : Meth K C m f
section
variable {P : Program} {w : World} {K : PySem.W.Frag} {mg : Str → Option Value} {base : Heap}
theorem ok_inputsX {f g C cH : Addr} {fd gd : FuncData} (F : Fun K "inputs" "Task.inputs" s_inputs f fd) (T : Txt K mg) (Z : TxtC K mg C) (R : RaiseC K mg "NoHand" cH) (WH : Def P w K mg base "is_hand" ["thing"] 3 (spHandG K) g gd) : FnOk P w K mg base (L2.CX P w) 4 f fd nInputs (spInputsB K C cH) := by
  refine F.okX sc_inputs (fun vs H Q E h => ?_) (fun cdv A outer s H vs Q E hr h => ?_)
  · obtain ⟨p, v, d, rfl, _⟩ := h
    rfl
  obtain ⟨p, v, d, rfl, hv, hw, q⟩ := h
  refine ⟨_, (pss_cons (ps_if (pt_not (pt_val (pe_call WH.G (hr.mono (by decide)) rfl WH.m WH.k WH.b .nil pass0 (pa_cons (pv 1) pa_nil))))
      (pss_one (ps_raise rfl (takes_of rfl rfl rfl rfl) (pmk_own PySem.F.excBase_ValueError R.x R.m R.k (raises_own R.b R.t) (by exact rfl))))
      pss_nil)
    (PSs.nox (pss_one (ps_ret (pe_callB call_len_seq (by rfl) T.len PySem.boot_len (pa_cons (pe_ix ix_list (pe_fld (pv 0) rfl) (pv 1) (fun _ _ => rfl)) pa_nil)))))), ?_⟩
  refine ⟨_, rfl, v, d, rfl, hv, _, rfl, ?_⟩
  rw [hw]
  exact iteT q
abbrev nNo : List Str := ["_law_task", "_law_thing", "_law_found", "e"]
theorem sc_no : FnScope nNo ["_law_task", "_law_thing"] (defScope s__law_no_hand) := ⟨rfl, rfl, rfl, by decide +kernel, rfl, by decide +kernel, by decide +kernel⟩
theorem ok_no {f g C cA cH cN : Addr} {fd gd : FuncData} (F : Fun K "_law_no_hand" "_law_no_hand" s__law_no_hand f fd) (Z : TxtC K mg C) (S : SaidC K mg cA cH cN) (W : MDefX P w K mg base C "inputs" nInputs 4 (spInputsB K C cH) g gd) : FnOk P w K mg base CX0 5 f fd ["_law_task", "_law_thing"] (spNoHand K C) := by
  refine F.ok sc_no (fun vs H Q E h => ?_) (fun cdv A outer s H vs Q E hr h => ?_)
  · obtain ⟨p, dx, fs, v, d, rfl, _⟩ := h
    rfl
  obtain ⟨p, dx, fs, v, d, rfl, hp, hl, hv, hw, q⟩ := h
  have nd := sc_no.nd
  have hrr : Room 4 (A.deeper (envOfC "_law_no_hand" (defScope s__law_no_hand) s.heap.objs.size f cdv)) := hr
  refine ⟨_, pss_cons (ps_set (i := 2) nd rfl (Or.inl rfl) pe_bl) (pss_cons (ps_try_first (i := 3) (ts := fun a cls o Dn σ H' => σ = [some (.ref p), some v, some (.bl false), some (.ref a)] ∧ cls = .ref cH ∧ o = none ∧ Same H H' ∧ Dn.nx [some (.ref p), some v, some (.bl true), some (.ref a)] H') rfl rfl nd rfl rfl ⟨rfl, by decide, .inl S.a⟩
      (fun W' pn xe tk _ => pss_one (ps_expr (pe_methE (pv 0) Z.cl W.M W.G hr W.b (fun σ => passAt tk σ) (pa_cons (pv 1) pa_nil))))
      (fun a oe cls o pn hz hf => ?S)) (pss_one (ps_ret (pv 2)))), ?_⟩
  case S =>
    refine pss_read fun pins s' σ H' Dn I h' => ?_
    obtain ⟨rfl, rfl, rfl, hs, h⟩ := h'
    have isi := call_isE2 (X := (cxOf CX0 P w K mg base nNo "_law_no_hand" (defScope s__law_no_hand) f cdv A outer s H E)) (a := a) (pn := pn) hz hf
    refine ⟨_, pss_one (ps_set (i := 2) nd rfl (Or.inl rfl) (pe_and (pe_callB isi (by rfl) S.isi boot_isinstance (pa_cons (pv 3) (pa_cons (pe_glob (v := .ref cH) (by rfl) S.h rfl) pa_nil)))
        (pe_one (pe_not (pe_callB isi (by rfl) S.isi boot_isinstance (pa_cons (pv 3) (pa_cons (pe_glob (v := .ref cN) (by rfl) S.n rfl) pa_nil))))))), ?_⟩
    refine ⟨_, rfl, _, rfl, rfl, S.t, .ref cH, .ref cH, _, rfl, (fun u h => h), S.kh, _, rfl, iteT ?_⟩
    refine ⟨_, rfl, _, rfl, rfl, S.t, .ref cN, .ref cN, _, rfl, (fun u h => h), S.kn, _, rfl, ?_⟩
    exact h
  refine ⟨_, rfl, p, dx, fs, rfl, hp, hl, _, rfl, ?_⟩
  unfold tNil
  refine ⟨p, v, d, rfl, hv, hw, S.e, fun a na => ⟨rfl, rfl, rfl, Same.refl H, ?_⟩⟩
  exact ⟨_, rfl, q _ (Same.refl H)⟩
end
end TA

set_option Elab.async false
set_option maxRecDepth 100000
set_option maxHeartbeats 4000000
namespace TA
open PySem L2 PyProof.Rows
set_option linter.unusedVariables false
theorem hu64_of {A : Around} {k : Nat} (hr : Room k A) : A.units + 64 < cLine := by have := hr.un; omega
theorem hu2_of {A : Around} {k : Nat} (hr : Room k A) : A.units + 2 < cLine := by have := hr.un; omega
/-! sorted, each once -/
theorem code2 (x y : Int) : TS.code 64 [x, y] = x * 64 + y := by
  show x * 64 ^ 1 + (y * 64 ^ 0 + 0) = _
  omega
theorem sorted_pairs : ∀ {L : List (Addr × List Int)}, (∀ p ∈ L, ∃ x y : Int, 0 ≤ x ∧ x < 64 ∧ 0 ≤ y ∧ y < 64 ∧ p.2 = [x, y]) → (L.map (·.2)).Nodup → L.Pairwise (fun q r => TS.code 64 q.2 ≤ TS.code 64 r.2) →
    ∃ ls : List (Int × Int), L.map (·.2) = ls.map (fun p => [p.1, p.2]) ∧ ls.Pairwise ltP
  | [], _, _, _ => ⟨[], rfl, .nil⟩
  | p :: L, h, n, s => by
    rw [List.map_cons, List.nodup_cons] at n
    rw [List.pairwise_cons] at s
    obtain ⟨ls, e, t⟩ := sorted_pairs (L := L) (fun q hq => h q (List.mem_cons_of_mem _ hq)) n.2 s.2
    obtain ⟨x, y, x0, x1, y0, y1, ep⟩ := h p List.mem_cons_self
    refine ⟨(x, y) :: ls, by rw [List.map_cons, List.map_cons, e, ep], List.pairwise_cons.mpr ⟨fun q hq => ?_, t⟩⟩
    have hm : [q.1, q.2] ∈ L.map (·.2) := by rw [e]; exact List.mem_map.mpr ⟨q, hq, rfl⟩
    obtain ⟨r, hr, er⟩ := List.mem_map.mp hm
    have c := s.1 r hr
    obtain ⟨x', y', x0', x1', y0', y1', er'⟩ := h r (List.mem_cons_of_mem _ hr)
    rw [er'] at er
    injection er with e1 er
    injection er with e2 _
    rw [er', ep, code2, code2] at c
    have ne : ¬ (x = q.1 ∧ y = q.2) := fun ⟨a, b⟩ => n.1 (by rw [ep, a, b]; exact hm)
    show x < q.1 ∨ (x = q.1 ∧ y < q.2)
    omega
theorem L_tups {K : PySem.W.Frag} {H : Hp} : ∀ {L : List (Addr × List Int)} {ls : List (Int × Int)}, (∀ p ∈ L, H p.1 = some (.tup (p.2.map V.int))) → L.map (·.2) = ls.map (fun p => [p.1, p.2]) → A2 (TpAt H) (L.map fun q => V.ref q.1) ls
  | [], [], _, _ => .nil
  | [], _ :: _, _, e => by cases e
  | _ :: _, [], _, e => by cases e
  | p :: L, q :: ls, h, e => by
    rw [List.map_cons, List.map_cons] at e
    injection e with e1 e2
    exact .cons ⟨p.1, rfl, by rw [h p List.mem_cons_self, e1]; rfl⟩ (L_tups (K := K) (fun r hr => h r (List.mem_cons_of_mem _ hr)) e2)
theorem nodup_len {α : Type} [DecidableEq α] : ∀ {l m : List α}, l.Nodup → (∀ x ∈ l, x ∈ m) → l.length ≤ m.length
  | [], m, _, _ => Nat.zero_le _
  | x :: l, m, n, h => by
    rw [List.nodup_cons] at n
    have hx := h x List.mem_cons_self
    have h1 := nodup_len (l := l) (m := m.erase x) n.2 fun y hy => (List.mem_erase_of_ne (fun c => by subst c; exact n.1 hy)).mpr (h y (List.mem_cons_of_mem _ hy))
    rw [List.length_erase_of_mem hx] at h1
    have := List.length_pos_of_mem hx
    rw [List.length_cons]
    omega
def putB (bo : BD) (p : IP) (l : List (Int × Int)) : BD := if (bo.any fun e => decide (e.1 = p)) = true then bo.map (fun e => if e.1 = p then (e.1, l) else e) else bo ++ [(p, l)]
theorem any_key {G : Hp} {p : IP} : ∀ {kvs : List (List Key × V)} {bo : BD}, A2 (EnAt G) kvs bo → (kvs.any fun kv => decide (kv.1 = kI p)) = (bo.any fun e => decide (e.1 = p))
  | _, _, .nil => rfl
  | kv :: kvs, e :: bo, .cons a r => by
    rw [List.any_cons, List.any_cons, any_key r]
    have : decide (kv.1 = kI p) = decide (e.1 = p) := by
      rw [a.1]
      by_cases c : e.1 = p
      · rw [c, decide_eq_true rfl, decide_eq_true rfl]
      · rw [decide_eq_false (fun z => c (kI_inj z)), decide_eq_false c]
    rw [this]
theorem map_key {G : Hp} {p : IP} {v : V} {l : List (Int × Int)} (h : LetAt G v l) : ∀ {kvs : List (List Key × V)} {bo : BD}, A2 (EnAt G) kvs bo → A2 (EnAt G) (kvs.map fun kv => if kv.1 = kI p then (kv.1, v) else kv) (bo.map fun e => if e.1 = p then (e.1, l) else e)
  | _, _, .nil => .nil
  | kv :: kvs, e :: bo, .cons a r => by
    refine .cons ?_ (map_key h r)
    show EnAt G (if kv.1 = kI p then (kv.1, v) else kv) (if e.1 = p then (e.1, l) else e)
    by_cases c : e.1 = p
    · rw [if_pos c, if_pos (by rw [a.1, c])]
      exact ⟨a.1, h⟩
    · rw [if_neg c, if_neg (fun z => c (kI_inj (a.1.symm.trans z)))]
      exact a
theorem en_put {G : Hp} {p : IP} {v : V} {l : List (Int × Int)} {kvs : List (List Key × V)} {bo : BD} (a : A2 (EnAt G) kvs bo) (h : LetAt G v l) : A2 (EnAt G) (putK kvs (kI p) v) (putB bo p l) := by
  unfold putK putB
  rw [any_key a]
  split
  · exact map_key h a
  · exact A2.snoc a ⟨rfl, h⟩
theorem A2.set {α β : Type} {R : α → β → Prop} {x : α} {y : β} (h : R x y) : ∀ {xs : List α} {ys : List β} (i : Nat), A2 R xs ys → A2 R (xs.set i x) (ys.set i y)
  | _, _, _, .nil => .nil
  | _, _, 0, .cons a b => .cons h b
  | _, _, i + 1, .cons a b => .cons a (A2.set h i b)
theorem ixN_of {n j : Nat} (hj : j < n) : ixN n (j : Int) = some j := by
  unfold ixN
  rw [if_pos (by omega), if_pos (by omega)]
  simp
theorem tups_ks {H : Hp} : ∀ {xs : List V} {ls : List (Int × Int)}, A2 (TpAt H) xs ls → ∃ ks : List (Addr × List Int), xs = ks.map (fun p => V.ref p.1) ∧ ks.map (·.2) = ls.map (fun p => [p.1, p.2]) ∧ ∀ p ∈ ks, H p.1 = some (.tup (p.2.map V.int))
  | _, _, .nil => ⟨[], rfl, rfl, fun p h => nomatch h⟩
  | _, q :: _, .cons ⟨t, e, h⟩ b => by
    obtain ⟨ks, e1, e2, e3⟩ := tups_ks b
    refine ⟨(t, [q.1, q.2]) :: ks, by rw [List.map_cons, e, e1], by rw [List.map_cons, List.map_cons, e2], fun p hp => ?_⟩
    rcases List.mem_cons.mp hp with rfl | hp
    · exact h
    · exact e3 p hp
/-- one row otherwise -/
def setRow (T : TD) (h k : Nat) (row : List Int) : TD := ⟨fun i => if i = h then (T.al i).set k row else T.al i, T.bo⟩
theorem setRow_wf {T : TD} (W : WF T) {h k : Nat} {row : List Int} (ok : okRow row) : WF (setRow T h k row) where
  n0 := fun i hi => by
    have := W.n0 i hi
    show 1 ≤ (if i = h then (T.al i).set k row else T.al i).length ∧ (if i = h then (T.al i).set k row else T.al i).length ≤ 20
    split
    · rw [List.length_set]; exact this
    · exact this
  row := fun i hi r hr => by
    have hr : r ∈ (if i = h then (T.al i).set k row else T.al i) := hr
    split at hr
    · rcases List.mem_or_eq_of_mem_set hr with hr | rfl
      · exact W.row i hi r hr
      · exact ok
    · exact W.row i hi r hr
  srt := W.srt
  rng := fun e he => by
    have hl : ∀ i, ((setRow T h k row).al i).length = (T.al i).length := fun i => by
      show (if i = h then (T.al i).set k row else T.al i).length = _
      split
      · rw [List.length_set]
      · rfl
    rw [hl, hl]
    exact W.rng e he
  lets := W.lets
  com0 := fun x hx => W.com0 x (by
    have hx : x < (if 0 = h then (T.al 0).set k row else T.al 0).length := hx
    split at hx
    · rw [List.length_set] at hx; exact hx
    · exact hx)
  com1 := fun x hx => W.com1 x (by
    have hx : x < (if 1 = h then (T.al 1).set k row else T.al 1).length := hx
    split at hx
    · rw [List.length_set] at hx; exact hx
    · exact hx)
  many := W.many
/-- one let otherwise -/
def setLet (T : TD) (p : IP) (ls : List (Int × Int)) : TD := ⟨T.al, putB T.bo p ls⟩
theorem putB_old {bo : BD} {p : IP} {ls : List (Int × Int)} (h : ∃ e ∈ bo, e.1 = p) : putB bo p ls = bo.map (fun e => if e.1 = p then (e.1, ls) else e) := by
  unfold putB
  rw [if_pos]
  rw [List.any_eq_true]
  obtain ⟨e, he, k⟩ := h
  exact ⟨e, he, decide_eq_true k⟩
theorem setLet_wf {T : TD} (W : WF T) {p : IP} {ls : List (Int × Int)} (h : ∃ e ∈ T.bo, e.1 = p) (ok : okLet ls) : WF (setLet T p ls) := by
  have e0 := putB_old (ls := ls) h
  have ek : (putB T.bo p ls).map (·.1) = T.bo.map (·.1) := by
    rw [e0, List.map_map]
    refine List.map_congr_left fun e _ => ?_
    show (if e.1 = p then (e.1, ls) else e).1 = e.1
    split <;> rfl
  have hm : ∀ e ∈ putB T.bo p ls, (∃ f ∈ T.bo, f.1 = e.1) ∧ (e.2 = ls ∨ e ∈ T.bo) := fun e he => by
    rw [e0] at he
    obtain ⟨f, hf, rfl⟩ := List.mem_map.mp he
    by_cases c : f.1 = p
    · rw [if_pos c]; exact ⟨⟨f, hf, rfl⟩, .inl rfl⟩
    · rw [if_neg c]; exact ⟨⟨f, hf, rfl⟩, .inr hf⟩
  have hk : ∀ f ∈ T.bo, ∃ e ∈ putB T.bo p ls, e.1 = f.1 := fun f hf => by
    have : f.1 ∈ (putB T.bo p ls).map (·.1) := by rw [ek]; exact List.mem_map_of_mem hf
    obtain ⟨e, he, k⟩ := List.mem_map.mp this
    exact ⟨e, he, k⟩
  exact {
    n0 := W.n0
    row := W.row
    srt := by
      show ((putB T.bo p ls).map (·.1)).Pairwise _
      rw [ek]
      exact W.srt
    rng := fun e he => by
      obtain ⟨⟨f, hf, k⟩, _⟩ := hm e he
      rw [← k]
      exact W.rng f hf
    lets := fun e he => by
      rcases (hm e he).2 with k | k
      · rw [k]; exact ok
      · exact W.lets e k
    com0 := fun x hx => by
      obtain ⟨f, hf, k⟩ := W.com0 x hx
      obtain ⟨e, he, k2⟩ := hk f hf
      exact ⟨e, he, by rw [k2]; exact k⟩
    com1 := fun x hx => by
      obtain ⟨f, hf, k⟩ := W.com1 x hx
      obtain ⟨e, he, k2⟩ := hk f hf
      exact ⟨e, he, by rw [k2]; exact k⟩
    many := by
      show (putB T.bo p ls).length ≤ 60
      have := congrArg List.length ek
      rw [List.length_map, List.length_map] at this
      rw [this]
      exact W.many }
end TA

set_option Elab.async false
set_option maxRecDepth 100000
set_option maxHeartbeats 4000000
namespace TA
open PySem L2 PyProof.Rows
set_option linter.unusedVariables false
/-- a for over the keys of a locked dict -/
theorem forT_turns {d : Addr} {o : Obj} {kvs : List (List Key × V)} {g : TG} {tb : TS} {D : Ends} {σ0 : L2.St} {H0 : Hp} (Pv : Nat → L2.St → Hp → Prop) (start : Pv 0 σ0 H0) (still : ∀ i σ H, Pv i σ H → H d = some (.frz o (.dT kvs)))
    (turn : ∀ i k v q σ H, kvs[i]? = some (k, v) → H q = some (.tup (k.map kV)) → Pv i σ H → g (.ref q) σ H fun σ2 H2 => tb { D with nx := Pv (i + 1), ct := Pv (i + 1), bk := D.nx } σ2 H2) (last : ∀ σ H, Pv kvs.length σ H → D.nx σ H) :
    ∃ W : Nat → Nat → L2.St → Hp → Prop, (∃ m, W 0 m σ0 H0) ∧ ∀ i m σ H, W i m σ H →
      ((Itkt d o kvs).stop i H ∧ D.nx σ H) ∨ ((Itkt d o kvs).go i H ∧ ∃ N : L2.St → Hp → Prop, (∀ σ' H', N σ' H' → ∃ m', m' < m ∧ W (i + 1) m' σ' H') ∧ ∀ x H', (Itkt d o kvs).yld i H x H' → g x σ H' fun σ2 H2 => tb { D with nx := N, ct := N, bk := D.nx } σ2 H2) := by
  refine ⟨fun i m σ H => i + m = kvs.length ∧ Pv i σ H, ⟨kvs.length, by omega, start⟩, fun i m σ H h => ?_⟩
  obtain ⟨hm, word⟩ := h
  cases m with
  | zero =>
    have hin : i = kvs.length := by omega
    rw [hin] at word ⊢
    exact Or.inl ⟨⟨still _ _ _ word, Nat.le_refl _⟩, last σ H word⟩
  | succ m =>
    refine Or.inr ⟨⟨still _ _ _ word, by omega⟩, Pv (i + 1), fun σ' H' w' => ⟨m, by omega, by omega, w'⟩, fun x H' y => ?_⟩
    obtain ⟨e, k, v, q, e1, e2, e3⟩ := y
    rw [e, e2]
    exact turn i k v q σ H e1 e3 word

theorem ixN_last {n : Nat} (h : 1 ≤ n) : ixN n (-1) = some (n - 1) := by
  unfold ixN
  rw [if_neg (by decide), if_pos (by omega)]
  congr 1
  omega
theorem atI_last' {α : Type} {xs : List α} {v : α} (h : 1 ≤ xs.length) (e : xs[xs.length - 1]? = some v) : atI xs (-1) = some v := by
  unfold atI
  rw [ixN_last h]
  exact e
theorem sameTD_no {T U : TD} (h : ¬ (U.al 0 = T.al 0 ∧ U.al 1 = T.al 1)) : sameTD U T = false := by
  unfold sameTD
  rw [decide_eq_false h, Bool.false_and]
theorem setRow_no {T : TD} {h k : Nat} {row ns : List Int} (hh : h < 2) (e : (T.al h)[k]? = some row) (x : Int) (h1 : x ∈ ns) (h2 : x ∉ row) : sameTD (setRow T h k ns) T = false := by
  refine sameTD_no fun ⟨c0, c1⟩ => ?_
  have c : (setRow T h k ns).al h = T.al h := by
    obtain rfl | rfl : h = 0 ∨ h = 1 := by omega
    · exact c0
    · exact c1
  have c : (if h = h then (T.al h).set k ns else T.al h) = T.al h := c
  rw [if_pos rfl] at c
  have hk := (List.getElem?_eq_some_iff.mp e).1
  have : ((T.al h).set k ns)[k]? = some ns := by rw [List.getElem?_set_self hk]
  rw [c, e] at this
  injection this with this
  exact h2 (this ▸ h1)
theorem setLet_no {T : TD} (W : WF T) {p : IP} {l ls : List (Int × Int)} (he : (p, l) ∈ T.bo) (x : Int × Int) (h1 : x ∈ ls) (h2 : x ∉ l) : sameTD (setLet T p ls) T = false := by
  have W2 := fun (ok : okLet ls) => setLet_wf W (p := p) (ls := ls) ⟨_, he, rfl⟩ ok
  unfold sameTD
  have : sameB (setLet T p ls).bo T.bo = false := by
    unfold sameB
    refine decide_eq_false fun c => ?_
    have hm : (p, ls) ∈ (setLet T p ls).bo := by
      show (p, ls) ∈ putB T.bo p ls
      rw [putB_old ⟨_, he, rfl⟩]
      exact List.mem_map.mpr ⟨_, he, by rw [if_pos rfl]⟩
    have hm2 : (p, ls) ∈ T.bo := by
      have a := (List.mergeSort_perm (setLet T p ls).bo leN).mem_iff.mpr hm
      rw [c] at a
      exact (List.mergeSort_perm T.bo leN).mem_iff.mp a
    have e := uniq_key W.srt hm2 he rfl
    injection e with _ e
    exact h2 (e ▸ h1)
  rw [this, Bool.and_false]
theorem kp_vw {p : Addr → Bool} {H : Hp} : Kp (vw p H) H := fun b o _ h => (vw_some h).2
theorem val_idx {G : Hp} : ∀ {kvs : List (List Key × V)} {bo : BD} {i : Nat} {k : List Key} {v : V}, A2 (EnAt G) kvs bo → (bo.map (·.1)).Pairwise (· ≠ ·) → kvs[i]? = some (k, v) → valV kvs k = some v
  | _, _, _, _, _, .nil, _, h => nomatch h
  | kv :: kvs, e :: bo, 0, k, v, .cons a r, _, h => by
    obtain rfl : kv = (k, v) := by simpa using h
    exact valV_pos rfl
  | kv :: kvs, e :: bo, i + 1, k, v, .cons a r, s, h => by
    rw [List.map_cons, List.pairwise_cons] at s
    have h' : kvs[i]? = some (k, v) := by simpa using h
    obtain ⟨f, hf, ek, _⟩ := r.get h'
    dsimp only at ek
    rw [valV_neg (fun c => s.1 _ (List.mem_map.mpr ⟨f, List.mem_of_getElem? hf, rfl⟩) (kI_inj (a.1.symm.trans (c.trans ek))))]
    exact val_idx r s.2 h'
theorem A2.impM {α β : Type} {R S : α → β → Prop} : ∀ {xs : List α} {ys : List β}, A2 R xs ys → (∀ x y, y ∈ ys → R x y → S x y) → A2 S xs ys
  | _, _, .nil, _ => .nil
  | _, _, .cons a b, h => .cons (h _ _ List.mem_cons_self a) (A2.impM b fun x y hy => h x y (List.mem_cons_of_mem _ hy))
/-- a pair (rows, both) with rows of its own -/
def ItA (T : TD) (B : Addr) (G : Hp) (v : V) : Prop := ∃ (t a : Addr) (U : TD), v = .ref t ∧ G t = some (.tup [.ref a, .ref B]) ∧ AlAt G (.ref a) U.al ∧ U.bo = T.bo ∧ WF U ∧ sameTD U T = false
theorem ItA.mono {T : TD} {B : Addr} {G G' : Hp} (k : Kp G G') {v : V} (h : ItA T B G v) : ItA T B G' v := by
  obtain ⟨t, a, U, e, h1, h2, r⟩ := h
  exact ⟨t, a, U, e, k.tup h1, h2.mono k, r⟩
/-- a pair (rows, both) with a dict of its own -/
def ItB (T : TD) (A : Addr) (G : Hp) (v : V) : Prop := ∃ (t d : Addr) (U : TD), v = .ref t ∧ G t = some (.tup [.ref A, .ref d]) ∧ BoAt G d U.bo ∧ U.al = T.al ∧ WF U ∧ sameTD U T = false
theorem ItB.mono {T : TD} {A : Addr} {G G' : Hp} (k : Same G G') {v : V} (h : ItB T A G v) : ItB T A G' v := by
  obtain ⟨t, d, U, e, h1, h2, r⟩ := h
  exact ⟨t, d, U, e, k _ _ h1, h2.mono k, r⟩
/-- what _law_changed holds: parts of another task each -/
def ItC (T : TD) (G : Hp) (v : V) : Prop := ∃ (t a d : Addr) (U : TD), v = .ref t ∧ G t = some (.tup [.ref a, .ref d]) ∧ AlAt G (.ref a) U.al ∧ BoAt G d U.bo ∧ WF U ∧ sameTD U T = false
theorem ItC.mono {T : TD} {G G' : Hp} (k : Same G G') {v : V} (h : ItC T G v) : ItC T G' v := by
  obtain ⟨t, a, d, U, e, h1, h2, h3, r⟩ := h
  exact ⟨t, a, d, U, e, k _ _ h1, h2.mono (.same k), h3.mono k, r⟩
structure Fine (T : TD) : Prop where
  wf : WF T
  few : ∀ h, h < 2 → ∀ r ∈ T.al h, r.length ≤ 4 ∧ ∀ x ∈ r, x < 6
  lets : ∀ e ∈ T.bo, okB e.2
  many : T.bo.length ≤ 16
def spChanged (K : PySem.W.Frag) : Sp := fun vs H Q _ => ∃ (A B : Addr) (T : TD), vs = [.ref A, .ref B] ∧ AlAt H (.ref A) T.al ∧ BoAt H B T.bo ∧ Fine T ∧
  ∀ (p : Addr) (xs : List V) (H' : Hp), Same H H' → H' p = some (.lst xs) → xs.length ≤ 20 → (∀ v ∈ xs, ItC T H' v) → Q (.ref p) H'
section
variable {P : Program} {w : World} {K : PySem.W.Frag} {mg : Str → Option Value} {base : Heap}
abbrev nCh : List Str := ["_law_alone", "_law_both", "_law_found", "_law_hand", "_law_rows", "_law_pair", "_law_other", "_law_more", "_law_row"]
theorem sc_ch : FnScope nCh ["_law_alone", "_law_both"] (defScope s__law_changed) := ⟨rfl, rfl, rfl, by decide +kernel, rfl, by decide +kernel, by decide +kernel⟩
theorem ok_changed {f : Addr} {fd : FuncData} (F : Fun K "_law_changed" "_law_changed" s__law_changed f fd) (T : Txt K mg) (T2 : Txt2 K mg) : FnOk P w K mg base CX0 2 f fd ["_law_alone", "_law_both"] (spChanged K) := by
  refine F.ok sc_ch (fun vs H Q E h => ?_) (fun cdv A0 outer s H vs Q E hr h => ?_)
  · obtain ⟨A, B, D, rfl, _⟩ := h
    rfl
  obtain ⟨A, B, D, rfl, hA, hB, hF, q⟩ := h
  have nd := sc_ch.nd
  have hu := hu_of hr
  have hu2 := hu2_of hr
  have hu64 := hu64_of hr
  have hW := hF.wf
  refine ⟨_, (pss_cons (ps_set (i := 2) nd rfl (Or.inl rfl) (pe_lst pa_nil))
    (pss_cons (ps_for PassesOwn.never (by rfl) (pi_range1 (by rfl) T.range (pa_cons pe_int pa_nil)) (pg_name (i := 3) nd rfl (Or.inl rfl))
      (pss_cons (ps_setLc (i := 4) (own := [("_law_more", 7)]) (g := (gName 7)) (tt := tYes) (te := (tLc (iList K (tVar 7)) (gName 8) tYes (tCB (fun xs H Q => ∃ p ys, xs = [.ref p] ∧ (SqL K H p ys ∨ SqT K H p ys) ∧ ∀ l, H l = none → Q (.ref l) (upd H l (.lst ys))) (tCons (tVar 8) tNil)) [8])) rfl nd rfl rfl (sw_true rfl rfl rfl (by decide +kernel)) (pi_list (pv 0)) (blkOk_by (N := nCh) (sc := defScope s__law_changed) (by decide +kernel)) (fun _ _ _ _ _ => (by exact (pg_name (i := 7) nd rfl (Or.inl rfl)))) (fun _ _ _ _ _ => pts_nil) (fun _ _ _ _ _ => (by exact (pe_lc (own := [("_law_row", 8)]) (g := (gName 8)) (tt := tYes) (te := (tCB (fun xs H Q => ∃ p ys, xs = [.ref p] ∧ (SqL K H p ys ∨ SqT K H p ys) ∧ ∀ l, H l = none → Q (.ref l) (upd H l (.lst ys))) (tCons (tVar 8) tNil))) rfl nd (pi_list (pv 7)) (blkOk_by (N := nCh)  (by kernel_rfl)) (fun _ _ _ _ _ => (by exact (pg_name (i := 8) nd rfl (Or.inl rfl)))) (fun _ _ _ _ _ => pts_nil) (fun _ _ _ _ _ => (by exact (pe_callTy call_list_of (by rfl) T.list boot_list (pa_cons (pv 8) pa_nil))))))))
    (pss_cons (ps_asg (pe_callB (cr_sortedSet rfl) (by rfl) T2.sorted (by decide +kernel) (pa_cons (pe_callTy (cr_setOfI rfl) (by rfl) T2.set (by decide +kernel) (pa_cons (pe_op op_cat (pe_ix ix_list (pe_ix ix_list (pv 4) (pv 3) (fun _ _ => rfl)) (pe_un un_neg pe_int) (fun _ _ => rfl)) (pe_lst (pa_cons (pe_op op_add (pe_ix ix_list (pe_ix ix_list (pe_ix ix_list (pv 4) (pv 3) (fun _ _ => rfl)) (pe_un un_neg pe_int) (fun _ _ => rfl)) (pe_un un_neg pe_int) (fun _ _ => rfl)) pe_int) pa_nil))) pa_nil)) pa_nil)) (pg_sub (pe_ix ix_list (pv 4) (pv 3) (fun _ _ => rfl)) (pe_un un_neg pe_int) set_list))
    (pss_one (ps_expr (pe_bm PySem.F.plainAttrs_list PySem.F.slot_list_append PySem.F.type_list_append mt_append (pv 2) (pa_cons (pe_tup (pa_cons (pv 4) (pa_cons (pv 1) pa_nil))) pa_nil)))))))
    (pss_cons (ps_lock (ps_for PassesOwn.never (by rfl) (pi_keys (pv 1)) (pg_name (i := 5) nd rfl (Or.inl rfl))
      (pss_cons (ps_set (i := 6) nd rfl (Or.inl rfl) (pe_callTy (call_dict_dT hu2) (by rfl) T2.dict boot_dict (pa_cons (pv 1) pa_nil)))
    (pss_cons (ps_dput hu (pv 6) (pv 5) (pe_callB (cr_sortedT rfl) (by rfl) T2.sorted (by decide +kernel) (pa_cons (pe_callTy (cr_setOfT rfl hu64) (by rfl) T2.set (by decide +kernel) (pa_cons (pe_op op_cat (pe_dget hu (pv 1) (pv 5) (fun _ _ => rfl)) (pe_lst (pa_cons (pe_tup (pa_cons pe_int (pa_cons pe_int pa_nil))) pa_nil))) pa_nil)) pa_nil)) rfl)
    (pss_one (ps_expr (pe_bm PySem.F.plainAttrs_list PySem.F.slot_list_append PySem.F.type_list_append mt_append (pv 2) (pa_cons (pe_tup (pa_cons (pv 0) (pa_cons (pv 6) pa_nil))) pa_nil))))))))
    (pss_one (ps_ret (pv 2)))))), ?_⟩
  refine ⟨(by show 0 ≤ sizeLine; decide), fun f0 hf0 => ?_⟩
  have s0 := same_new hf0 (.lst [])
  obtain ⟨al0, zs, e0, hal, hrows⟩ := al_rows hA
  obtain rfl : A = al0 := by injection e0
  refine ⟨2, rfl, by decide, by decide, ?_⟩
  refine for_range (n := 2) (fun i σ H' => ∃ g3 g4 g5 g6 items, σ = [some (.ref A), some (.ref B), some (.ref f0), g3, g4, g5, g6, none, none] ∧ Same H H' ∧ H' f0 = some (.lst items) ∧ items.length = i ∧ ∀ v ∈ items, ItA D B (vw (pA f0) H') v) ⟨_, _, _, _, [], rfl, s0, upd_same, rfl, fun v hv => nomatch hv⟩ ?_ ?_
  · rintro h σ H2 hh ⟨g3, g4, g5, g6, items, rfl, s2, hf2, hil, hit⟩
    have ej : (0 : Int) + (h : Int) = (h : Int) := by omega
    rw [ej]
    refine ⟨_, rfl, A, rfl, ⟨_, SqL.of (s2 _ _ hal)⟩, fun RL hRL => ?_⟩
    refine list_turns (xs := zs) (fun i H' => Same H2 H' ∧ ∃ qs : List Addr, H' RL = some (.lst (qs.map V.ref)) ∧ qs.length = i ∧ qs.Nodup ∧ ∀ (j : Nat) (p : Addr), qs[j]? = some p → H2 p = none ∧ p ≠ RL ∧ ∃ xs, H' p = some (.lst xs) ∧ A2 (RowAt (nwx H2 RL H')) xs ([D.al 0, D.al 1].getD j [])) ⟨same_new hRL _, [], upd_same, rfl, List.nodup_nil, fun j p hp => nomatch hp⟩ (fun i H' _ h => SqL.of (h.1 _ _ (s2 _ _ hal))) ?_ ?_
    · rintro i x H' hx ⟨s3, qs, hy, lq, nq, hq⟩
      obtain ⟨rows, hr1, t, us0, rfl, ht, az⟩ := hrows.get hx
      have hi : i < 2 := (List.getElem?_eq_some_iff.mp hr1).1
      have ht3 := s3 _ _ (s2 _ _ ht)
      have hsz : rows.length ≤ 20 := by
        obtain rfl | rfl : i = 0 ∨ i = 1 := by omega
        · obtain rfl : D.al 0 = rows := by simpa using hr1
          exact (hW.n0 0 (by decide)).2
        · obtain rfl : D.al 1 = rows := by simpa using hr1
          exact (hW.n0 1 (by decide)).2
      refine ⟨rfl, _, rfl, t, rfl, ⟨_, SqL.of ht3⟩, fun D2 hD2 => ?_⟩
      refine list_turns (xs := us0) (fun j H4 => Same H' H4 ∧ ∃ us, H4 D2 = some (.lst us) ∧ A2 (RowAt (nwx H' D2 H4)) us (rows.take j)) ⟨same_new hD2 _, [], upd_same, .nil⟩ (fun j H4 _ h => SqL.of (h.1 _ _ ht3)) ?_ ?_
      · rintro j z H4 hz ⟨s4, us, hu4, au⟩
        obtain ⟨row, hr2, tt, rfl, htt⟩ := az.get hz
        have htt4 := s4 _ _ (s3 _ _ (s2 _ _ htt))
        refine ⟨rfl, _, rfl, tt, _, rfl, .inl (SqL.of htt4), fun l hl => ?_⟩
        have s5 := same_new hl (.lst (row.map V.int))
        have nl : l ≠ D2 := (ne_of_none hu4 hl).symm
        have hjr : us.length < rows.length := by
          rw [au.len, List.length_take]
          have := (List.getElem?_eq_some_iff.mp hr2).1
          omega
        refine ⟨us, s5 _ _ hu4, Nat.lt_of_lt_of_le (show us.length < 100 by omega) (by decide), ?_⟩
        refine ⟨same_upd (s4.trans s5) hD2, _, upd_same, ?_⟩
        rw [take_get hr2]
        refine A2.snoc (au.imp fun _ _ r => r.mono (kp_nwx_but ((But.same s5).trans But.at))) ⟨l, rfl, nwx_put (none_of_same s4 hl) nl ?_⟩
        rw [upd_ne nl]
        exact upd_same
      · rintro H4 ⟨s4, us, hu4, au⟩
        have hzl := az.len
        rw [hzl, List.take_length] at au
        have ne : D2 ≠ RL := (ne_of_none hy hD2).symm
        refine ⟨_, s4 _ _ hy, ?_, ?_⟩
        · rw [List.length_map, lq]
          exact Nat.lt_of_lt_of_le (show i < 100 by omega) (by decide)
        refine ⟨same_upd (s3.trans s4) hRL, qs ++ [D2], by rw [upd_same, List.map_append]; rfl, by rw [List.length_append, lq]; rfl, ?_, fun j p hp => ?_⟩
        · rw [List.nodup_append]
          refine ⟨nq, by simp, fun y hy' w' hw c => ?_⟩
          rw [List.mem_singleton.mp hw] at c
          obtain ⟨j, hj⟩ := List.getElem?_of_mem hy'
          obtain ⟨_, _, xs, hxs, _⟩ := hq j y hj
          rw [c, hD2] at hxs
          cases hxs
        · by_cases c : j < qs.length
          · rw [List.getElem?_append_left c] at hp
            obtain ⟨p1, p2, xs, p3, p4⟩ := hq j p hp
            exact ⟨p1, p2, xs, by rw [upd_ne p2]; exact s4 _ _ p3, p4.imp fun _ _ r => r.mono (kp_nwx_but ((But.same s4).trans But.at))⟩
          · rw [List.getElem?_append_right (by omega)] at hp
            have ej : j - qs.length = 0 := by
              cases e : j - qs.length with
              | zero => rfl
              | succ m => rw [e] at hp; cases hp
            rw [ej] at hp
            obtain rfl := Option.some.inj hp
            obtain rfl : j = i := by omega
            refine ⟨none_of_same s3 hD2, ne, us, by rw [upd_ne ne]; exact hu4, ?_⟩
            have er : [D.al 0, D.al 1].getD j [] = rows := by rw [List.getD_eq_getElem?_getD, hr1]; rfl
            rw [er]
            exact au.imp fun _ _ r => r.mono ((kp_nwx_in s3 hy).trans (kp_nwx_but But.at))
    rintro H3 ⟨s3, qs, hRL3, lq, nq, hq⟩
    have lz := hrows.len
    have lz : zs.length = 2 := lz
    obtain ⟨qq, eqq⟩ : ∃ qq : Nat → Addr, qs = [qq 0, qq 1] := by
      match qs, lq.trans lz with
      | [x, y], _ => exact ⟨fun i => if i = 0 then x else y, rfl⟩
    subst eqq
    have hqq : ∀ i, i < 2 → H2 (qq i) = none ∧ qq i ≠ RL ∧ ∃ xs, H3 (qq i) = some (.lst xs) ∧ A2 (RowAt (nwx H2 RL H3)) xs (D.al i) := fun i hi => by
      obtain rfl | rfl : i = 0 ∨ i = 1 := by omega
      · exact hq 0 (qq 0) rfl
      · exact hq 1 (qq 1) rfl
    have q01 : qq 0 ≠ qq 1 := by
      rw [List.nodup_cons] at nq
      exact fun c => nq.1 (List.mem_singleton.mpr c)
    clear hq nq lq
    have eRL : H3 RL = some (.lst [.ref (qq 0), .ref (qq 1)]) := hRL3
    have two : ∀ (i : Nat), i < 2 → ([.ref (qq 0), .ref (qq 1)] : List V)[i]? = some (.ref (qq i)) := fun i hi => by
      obtain rfl | rfl : i = 0 ∨ i = 1 := by omega
      · rfl
      · rfl
    obtain ⟨fq, nqR, xs, hxs, ax⟩ := hqq h hh
    have lxs := ax.len
    have ln := hW.n0 h hh
    obtain ⟨y, hy⟩ : ∃ y, xs[xs.length - 1]? = some y := ⟨_, List.getElem?_eq_getElem (by omega)⟩
    obtain ⟨row, hrow, r4, rfl, hr4n⟩ := ax.get hy
    have hr4 := (nwx_some hr4n).2.2
    have hrm := List.mem_of_getElem? hrow
    have okr := hW.row h hh row hrm
    have lr4 := (hF.few h hh row hrm).1
    have lr1 := okr.1
    obtain ⟨x, hx⟩ : ∃ x, row[row.length - 1]? = some x := ⟨_, List.getElem?_eq_getElem (by omega)⟩
    have hxm := List.mem_of_getElem? hx
    have hx6 := (hF.few h hh row hrm).2 x hxm
    have hxn : x + 1 ∉ row := fun c => by
      obtain ⟨j, hj⟩ := List.getElem?_of_mem c
      have hjl := (List.getElem?_eq_some_iff.mp hj).1
      have e1 := (List.getElem?_eq_some_iff.mp hj).2
      have e2 := (List.getElem?_eq_some_iff.mp hx).2
      by_cases cj : j < row.length - 1
      · have := List.pairwise_iff_getElem.mp okr.2.2.1 j (row.length - 1) hjl (by omega) cj
        rw [e1, e2] at this
        omega
      · obtain rfl : j = row.length - 1 := by omega
        rw [e1] at e2
        omega
    have ix1 : atI xs (-1) = some (.ref r4) := atI_last' (by omega) hy
    refine ⟨_, rfl, _, rfl, RL, _, _, .ref (qq h), rfl, rfl, SqL.of eRL, atI_nat (two h hh), _, rfl, qq h, _, _, .ref r4, rfl, rfl, SqL.of hxs, ix1, ?_⟩
    refine ⟨_, rfl, _, rfl, RL, _, _, .ref (qq h), rfl, rfl, SqL.of eRL, atI_nat (two h hh), _, rfl, qq h, _, _, .ref r4, rfl, rfl, SqL.of hxs, ix1, _, rfl, r4, _, _, .int x, rfl, rfl, SqL.of hr4, ?_, ?_⟩
    · exact atI_last' (by rw [List.length_map]; omega) (by rw [List.length_map, List.getElem?_map, hx]; rfl)
    refine ⟨_, _, rfl, rfl, (by show 1 ≤ sizeLine; decide), fun p hp => ?_⟩
    have s6 := same_new hp (.lst [V.int (x + 1)])
    have ep6 := upd_same (H := H3) (a := p) (o := .lst [V.int (x + 1)])
    refine ⟨r4, p, _, _, rfl, rfl, s6 _ _ hr4, ep6, ?_, fun N hN => ?_⟩
    · rw [List.length_map]
      exact Nat.le_trans (show row.length + 1 ≤ 100 by omega) (by decide)
    have s7 := s6.trans (same_new hN (.lst (row.map V.int ++ [V.int (x + 1)])))
    have e7 : (upd (upd H3 p (.lst [V.int (x + 1)])) N (.lst (row.map V.int ++ [V.int (x + 1)]))) N = some (.lst ((row ++ [x + 1]).map V.int)) := by rw [upd_same, List.map_append]; rfl
    refine ⟨N, row ++ [x + 1], rfl, SqL.of e7, by rw [List.length_append]; show row.length + 1 ≤ 1000; omega, fun sa c hsa hc => ?_⟩
    dsimp only [cxOf, Cx.nox, tNil]
    have s8 := s7.trans (same_new hsa (SetO w sa (fun j => decide (j ∈ row ++ [x + 1])) c))
    have hc5 : c ≤ 5 := by rw [List.length_append] at hc; have : c ≤ row.length + 1 := hc; omega
    refine ⟨sa, _, c, rfl, upd_same, by omega, fun ns' l hp' hm hl hl0 => ?_⟩
    have s9 := s8.trans (same_new hl0 (.lst (ns'.map V.int)))
    have el : (upd (upd (upd (upd H3 p (.lst [V.int (x + 1)])) N (.lst (row.map V.int ++ [V.int (x + 1)]))) sa (SetO w sa (fun j => decide (j ∈ row ++ [x + 1])) c)) l (.lst (ns'.map V.int))) l = some (.lst (ns'.map V.int)) := upd_same
    have nlq : ∀ i, i < 2 → qq i ≠ l := fun i hi => by
      obtain ⟨_, _, zz, hzz, _⟩ := hqq i hi
      exact ne_of_none (s8 _ _ hzz) hl0
    have nlR : RL ≠ l := ne_of_none (s8 _ _ eRL) hl0
    have nlf : f0 ≠ l := ne_of_none (s8 _ _ (s3 _ _ hf2)) hl0
    have hl3 : H3 l = none := none_of_same s8 hl0
    generalize upd (upd (upd (upd H3 p (.lst [V.int (x + 1)])) N (.lst (row.map V.int ++ [V.int (x + 1)]))) sa (SetO w sa (fun j => decide (j ∈ row ++ [x + 1])) c)) l (.lst (ns'.map V.int)) = H9 at s9 el ⊢
    clear e7 s8 s7 ep6 s6 hsa hN hp hl0
    have okn : okRow ns' := by
      refine ⟨?_, by omega, hp', fun y hy => ?_⟩
      · exact List.length_pos_of_mem ((hm (x + 1)).mpr (decide_eq_true (List.mem_append_right _ (List.mem_singleton.mpr rfl))))
      · have := of_decide_eq_true ((hm y).mp hy)
        rcases List.mem_append.mp this with g | g
        · exact okr.2.2.2 y g
        · rw [List.mem_singleton.mp g]
          exact ⟨by have := (okr.2.2.2 x hxm).1; omega, by omega⟩
    have hin : x + 1 ∈ ns' := (hm (x + 1)).mpr (decide_eq_true (List.mem_append_right _ (List.mem_singleton.mpr rfl)))
    have eRL9 := s9 _ _ eRL
    refine ⟨_, rfl, _, rfl, RL, _, _, .ref (qq h), rfl, rfl, SqL.of eRL9, atI_nat (two h hh), _, rfl, qq h, xs, -1, xs.length - 1, rfl, rfl, s9 _ _ hxs, ixN_last (by omega), ?_⟩
    have nqf : ∀ i, i < 2 → qq i ≠ f0 := fun i hi c => by
      have := (hqq i hi).1
      rw [c, hf2] at this
      cases this
    have nRf : RL ≠ f0 := (ne_of_none hf2 hRL).symm
    have eq9 : ∀ i, i < 2 → ∃ zz, H9 (qq i) = some (.lst zz) ∧ A2 (RowAt (nwx H2 RL H3)) zz (D.al i) ∧ (i = h → zz = xs) := fun i hi => by
      obtain ⟨_, _, zz, hzz, az⟩ := hqq i hi
      refine ⟨zz, s9 _ _ hzz, az, fun c => ?_⟩
      subst c
      rw [hxs] at hzz
      injection hzz with hzz
      injection hzz with hzz
      exact hzz.symm
    have hf9 := s9 _ _ (s3 _ _ hf2)
    have s29 := s3.trans s9
    have s10 : Same H2 (upd H9 (qq h) (.lst (xs.set (xs.length - 1) (.ref l)))) := same_upd s29 (hqq h hh).1
    generalize hH10 : upd H9 (qq h) (.lst (xs.set (xs.length - 1) (.ref l))) = H10 at s10
    have eRL10 : H10 RL = some (.lst [.ref (qq 0), .ref (qq 1)]) := by rw [← hH10, upd_ne nqR.symm]; exact eRL9
    have el10 : H10 l = some (.lst (ns'.map V.int)) := by rw [← hH10, upd_ne (nlq h hh).symm]; exact el
    have hf10 : H10 f0 = some (.lst items) := by rw [← hH10, upd_ne (nqf h hh).symm]; exact hf9
    have q10 : ∀ i, i < 2 → ∃ zz, H10 (qq i) = some (.lst (if i = h then zz.set (xs.length - 1) (.ref l) else zz)) ∧ A2 (RowAt (nwx H2 RL H3)) zz (D.al i) := fun i hi => by
      obtain ⟨zz, e1, e2, e3⟩ := eq9 i hi
      refine ⟨zz, ?_, e2⟩
      by_cases c : i = h
      · rw [if_pos c, ← hH10, e3 c, c, upd_same]
      · rw [if_neg c, ← hH10, upd_ne (fun e => ?_)]
        · exact e1
        · obtain rfl | rfl : i = 0 ∨ i = 1 := by omega
          · obtain rfl : h = 1 := by omega
            exact q01 e
          · obtain rfl : h = 0 := by omega
            exact q01 e.symm
    -- the rows in the new heap
    have rw10 : ∀ v row', RowAt (nwx H2 RL H3) v row' → 1 ≤ row'.length → RowAt (vw (pA f0) H10) v row' := fun v row' ⟨t, e, ht⟩ hl1 => by
      obtain ⟨t1, t2, t3⟩ := nwx_some ht
      have ntf : t ≠ f0 := fun c => by rw [c, hf2] at t1; cases t1
      have ntq : t ≠ qq h := fun c => by
        rw [c, hxs] at t3
        injection t3 with t3
        injection t3 with t3
        rw [t3] at hy
        rw [List.getElem?_map] at hy
        obtain ⟨_, _, hy⟩ := Option.map_eq_some_iff.mp hy
        cases hy
      exact ⟨t, e, vw_put (pA_ok.mpr ntf) (by rw [← hH10, upd_ne ntq]; exact s9 _ _ t3)⟩
    have mem_rows : ∀ i, i < 2 → ∀ r ∈ D.al i, 1 ≤ r.length := fun i hi r hr => (hW.row i hi r hr).1
    have af : ∀ i, i < 2 → RowsAt (vw (pA f0) H10) (.ref (qq i)) ((setRow D h (xs.length - 1) ns').al i) := fun i hi => by
      obtain ⟨zz, e1, e2⟩ := q10 i hi
      refine ⟨qq i, _, rfl, vw_put (pA_ok.mpr (nqf i hi)) e1, ?_⟩
      have base : A2 (RowAt (vw (pA f0) H10)) zz (D.al i) := A2.impM e2 fun v r hr hv => rw10 v r hv (mem_rows i hi r hr)
      show A2 _ _ (if i = h then (D.al i).set (xs.length - 1) ns' else D.al i)
      by_cases c : i = h
      · rw [if_pos c, if_pos c]
        exact A2.set ⟨l, rfl, vw_put (pA_ok.mpr nlf.symm) el10⟩ _ base
      · rw [if_neg c, if_neg c]
        exact base
    have hAl : AlAt (vw (pA f0) H10) (.ref RL) (setRow D h (xs.length - 1) ns').al := ⟨RL, _, _, rfl, vw_put (pA_ok.mpr nRf) eRL10, af 0 (by decide), af 1 (by decide)⟩
    refine ⟨_, rfl, .inl ⟨rfl, _, SqL.of hf10⟩, _, rfl, _, rfl, (by show 2 ≤ sizeLine; decide), fun rt hrt => ?_⟩
    have s11 := same_new hrt (.tup [V.ref RL, V.ref B])
    have nrt : rt ≠ f0 := (ne_of_none hf10 hrt).symm
    have hf0n : H f0 = none := hf0
    refine ⟨f0, items, _, rfl, rfl, s11 _ _ hf10, Nat.lt_of_lt_of_le (show items.length < 100 by omega) (by decide), ?_⟩
    have kA : Kp (vw (pA f0) H10) (vw (pA f0) (upd (upd H10 rt (.tup [V.ref RL, V.ref B])) f0 (.lst (items ++ [.ref rt])))) := (vwA_but (.same s11)).trans (vwA_but But.at)
    have kB : Kp (vw (pA f0) H2) (vw (pA f0) H10) := vwA_but (.same s10)
    refine ⟨_, _, _, _, items ++ [.ref rt], rfl, same_upd ((s2.trans s10).trans s11) hf0n, upd_same, by rw [List.length_append, hil]; rfl, fun v hv => ?_⟩
    rcases List.mem_append.mp hv with hv | hv
    · exact (hit v hv).mono (kB.trans kA)
    · obtain rfl := List.mem_singleton.mp hv
      refine ⟨rt, RL, setRow D h (xs.length - 1) ns', rfl, vw_put (pA_ok.mpr nrt) (by rw [upd_ne nrt]; exact upd_same), hAl.mono kA, rfl, setRow_wf hW okn, ?_⟩
      rw [lxs] at hrow
      exact setRow_no hh (by rw [lxs]; exact hrow) (x + 1) hin hxn
  · rintro σ H2 ⟨g3, g4, g5, g6, items, rfl, s2, hf2, hil, hit⟩
    obtain ⟨kvs, hd0, hE0⟩ := hB
    have hd2 := s2 _ _ hd0
    refine ⟨B, _, hd2, trivial, fun od => ?_⟩
    have kp : Kp H2 (upd H2 B (.frz od (.dT kvs))) := Kp.put hd2 nf_dT
    have hlk : (upd H2 B (.frz od (.dT kvs))) B = some (.frz od (.dT kvs)) := upd_same
    have butl : But B H2 (upd H2 B (.frz od (.dT kvs))) := But.at
    have nfB : f0 ≠ B := ne_of hf2 hd2 (fun z => by cases z)
    have hfl : (upd H2 B (.frz od (.dT kvs))) f0 = some (.lst items) := butl _ _ nfB hf2
    have kpv : Kp (vw (pA f0) H2) (vw (pA f0) (upd H2 B (.frz od (.dT kvs)))) := vwA_put hd2
    have hitl : ∀ v ∈ items, ItA D B (vw (pA f0) (upd H2 B (.frz od (.dT kvs)))) v := fun v hv => (hit v hv).mono kpv
    have hAl := hA.mono ((Kp.same s2).trans kp)
    have hEl : A2 (EnAt (upd H2 B (.frz od (.dT kvs)))) kvs D.bo := hE0.imp fun _ _ r => r.mono ((Kp.same s2).trans kp)
    have kpv0 : Kp (vw (pA f0) H) (vw (pA f0) (upd H2 B (.frz od (.dT kvs)))) := (vwA_but (.same s2)).trans kpv
    have kp00 : Kp H (vw (pA f0) H) := fun b o _ h => vw_put (pA_ok.mpr fun c => by rw [c, hf0] at h; cases h) h
    have hElv : A2 (EnAt (vw (pA f0) (upd H2 B (.frz od (.dT kvs))))) kvs D.bo := hE0.imp fun _ _ r => r.mono (kp00.trans kpv0)
    have unl : ∀ H', But f0 (upd H2 B (.frz od (.dT kvs))) H' → Same H (upd H' B (.dT kvs)) := fun H' b x o e => by
      by_cases c : x = B
      · subst c
        rw [upd_same]
        rw [hd0] at e
        exact e
      · rw [upd_ne c]
        refine b _ _ (fun z => ?_) (butl _ _ c (s2 _ _ e))
        rw [z, hf0] at e
        cases e
    generalize upd H2 B (.frz od (.dT kvs)) = Hl at kp hlk butl hfl kpv hitl hAl hEl unl kpv0 hElv ⊢
    clear hit kp kpv butl kpv0
    have lk : kvs.length = D.bo.length := hEl.len
    have lb := hF.many
    have rgs : ∀ kv ∈ kvs, smallK kv.1 := fun kv hkv => by
      obtain ⟨f, hf, q⟩ := hEl.mem hkv
      have := hW.rng f hf
      have := (hW.n0 0 (by decide)).2
      have := (hW.n0 1 (by decide)).2
      exact ⟨f.1.1, f.1.2, by omega, by omega, q.1⟩
    refine ⟨_, rfl, B, od, rfl, .inr ⟨kvs, hlk, ?_⟩⟩
    refine forT_turns (kvs := kvs) (fun i σ H' => ∃ g3 g4 g5 g6 its, σ = [some (.ref A), some (.ref B), some (.ref f0), g3, g4, g5, g6, none, none] ∧ But f0 Hl H' ∧ H' f0 = some (.lst its) ∧ its.length = 2 + i ∧ ∀ v ∈ its, ItA D B (vw (pA f0) H') v ∨ ItB D A (vw (pA f0) H') v) ⟨_, _, _, _, items, rfl, .same (Same.refl _), hfl, hil, fun v hv => .inl (hitl v hv)⟩ (fun j σ H' ⟨_, _, _, _, _, _, s, _⟩ => s _ _ nfB.symm hlk) ?_ ?_
    · rintro i k v0 qa σ H' hi hqa ⟨g3, g4, g5, g6, its, rfl, b1, hf1, hil1, hit1⟩
      obtain ⟨e, hbe, ek, l0, xs0, e0, hl0, hx0⟩ := hEl.get hi
      dsimp only at ek e0
      subst ek e0
      have hem := List.mem_of_getElem? hbe
      have hil0 : i < kvs.length := (List.getElem?_eq_some_iff.mp hi).1
      have hlk1 := b1 _ _ nfB.symm hlk
      refine ⟨_, rfl, B, kvs, rfl, .inr ⟨od, hlk1⟩, rgs, fun dd hdd => ?_⟩
      have sd := same_new hdd (.dT kvs)
      have edd := upd_same (H := H') (a := dd) (o := .dT kvs)
      have ndf : dd ≠ f0 := (ne_of_none hf1 hdd).symm
      have ndB : dd ≠ B := (ne_of_none hlk1 hdd).symm
      have bd := b1.trans (But.same sd)
      have eqa := sd _ _ hqa
      have hfd := sd _ _ hf1
      have hdl : Hl dd = none := none_of_but b1 ndf hdd
      generalize hHd : upd H' dd (.dT kvs) = Hd at sd edd bd eqa hfd ⊢
      have hv : valV kvs (kI e.1) = some (.ref l0) := val_idx hEl hW.srt hi
      have okl0 := hW.lets e hem
      have l05 := hF.lets e hem
      have hlf : (vw (pA f0) Hl) l0 = some (.lst xs0) ∧ A2 (TpAt (vw (pA f0) Hl)) xs0 e.2 := by
        obtain ⟨e', hbe', _, l0', xs0', e0', hl0', hx0'⟩ := hElv.get hi
        rw [hbe] at hbe'
        obtain rfl := Option.some.inj hbe'
        injection e0' with e0'
        subst e0'
        have := (vw_some hl0').2
        rw [hl0] at this
        injection this with this
        injection this with this
        subst this
        exact ⟨hl0', hx0'⟩
      have nl0f := pA_ok.mp (vw_some hlf.1).1
      have hl0d := bd _ _ nl0f hl0
      have hx0d : A2 (TpAt (vw (pA f0) Hd)) xs0 e.2 := hlf.2.imp fun _ _ r => r.mono (vwA_but bd)
      refine ⟨_, rfl, _, rfl, B, _, rfl, hv ▸ dget_rd (k := kI e.1) (.inr ⟨od, sd _ _ hlk1⟩) eqa, ?_⟩
      refine ⟨(by show 2 ≤ sizeLine; decide), fun t ht => ⟨(by show 1 ≤ sizeLine; decide), fun pl hpl => ?_⟩⟩
      have s7 := same_new ht (.tup [V.int 7, V.int 7])
      have et7 := upd_same (H := Hd) (a := t) (o := .tup [V.int 7, V.int 7])
      have ntf : t ≠ f0 := (ne_of_none hfd ht).symm
      have s8 := same_new hpl (.lst [V.ref t])
      have e8 := upd_same (H := upd Hd t (.tup [V.int 7, V.int 7])) (a := pl) (o := .lst [V.ref t])
      have s78 := s7.trans s8
      have et8 := s8 _ _ et7
      have x8 : A2 (TpAt (vw (pA f0) (upd (upd Hd t (.tup [V.int 7, V.int 7])) pl (.lst [V.ref t])))) (xs0 ++ [.ref t]) (e.2 ++ [(7, 7)]) := A2.snoc (hx0d.imp fun _ _ q => q.mono (vwA_but (.same s78))) ⟨t, rfl, vw_put (pA_ok.mpr ntf) et8⟩
      refine ⟨l0, pl, _, _, rfl, rfl, s78 _ _ hl0d, e8, ?_, fun N hN => ?_⟩
      · rw [hx0d.len]
        exact Nat.le_trans (show e.2.length + 1 ≤ 100 by have := l05.1; omega) (by decide)
      obtain ⟨ks, ek1, ek2, ek3⟩ := tups_ks x8
      have lks : ks.length = e.2.length + 1 := by have := congrArg List.length ek2; rw [List.length_map, List.length_map, List.length_append] at this; exact this
      have s9 := same_new hN (.lst (xs0 ++ [V.ref t]))
      have eN : (upd (upd (upd Hd t (.tup [V.int 7, V.int 7])) pl (.lst [V.ref t])) N (.lst (xs0 ++ [V.ref t]))) N = some (.lst (ks.map fun p => V.ref p.1)) := by rw [upd_same, ek1]
      have ek4 : ∀ p ∈ ks, p.1 ≠ f0 ∧ (upd (upd (upd Hd t (.tup [V.int 7, V.int 7])) pl (.lst [V.ref t])) N (.lst (xs0 ++ [V.ref t]))) p.1 = some (.tup (p.2.map V.int)) ∧ ∃ x y : Int, 0 ≤ x ∧ x < 64 ∧ 0 ≤ y ∧ y < 64 ∧ p.2 = [x, y] := fun p hp => by
        obtain ⟨na, hpe⟩ := vw_some (ek3 p hp)
        refine ⟨pA_ok.mp na, s9 _ _ hpe, ?_⟩
        have : p.2 ∈ (e.2 ++ [((7 : Int), (7 : Int))]).map (fun p => [p.1, p.2]) := by rw [← ek2]; exact List.mem_map_of_mem hp
        obtain ⟨u, hu, eu⟩ := List.mem_map.mp this
        rcases List.mem_append.mp hu with hu | hu
        · have := okl0.2.2.2 u hu
          obtain ⟨⟨a1, a2⟩, ⟨a3, a4⟩⟩ := this
          exact ⟨u.1, u.2, a1, by omega, a3, by omega, eu.symm⟩
        · rw [List.mem_singleton.mp hu] at eu
          exact ⟨7, 7, by decide, by decide, by decide, by decide, eu.symm⟩
      refine ⟨N, ks, rfl, SqL.of eN, fun p hp => SqT.of (ek4 p hp).2.1, by have := l05.1; omega, fun sa L' hsa m1 m2 => ?_⟩
      dsimp only [cxOf, Cx.nox, tNil]
      have sS := same_new hsa (SetTO P w sa L')
      have kL : ∀ p ∈ L', p.1 ≠ f0 ∧ _ := fun p hp => ek4 p (m1 p hp)
      refine ⟨sa, L', 2, 64, rfl, upd_same, fun p hp => SqT.of (sS _ _ (kL p hp).2.1), by decide, fun p hp => ?_, fun L2 l hperm hnd hlt hsrt hl => ?_⟩
      · obtain ⟨_, _, x, y, xx0, xx1, yy0, yy1, ee⟩ := kL p hp
        rw [ee]
        refine ⟨rfl, fun i hi => ?_⟩
        rcases List.mem_cons.mp hi with rfl | hi
        · exact ⟨xx0, xx1⟩
        · rw [List.mem_singleton.mp hi]
          exact ⟨yy0, yy1⟩
      have kL' := fun p (hp : p ∈ L2) => kL p (hperm.mem_iff.mp hp)
      obtain ⟨ls, els, hls⟩ := sorted_pairs (fun p hp => (kL' p hp).2.2) hnd hsrt
      have s10 := same_new hl (.lst (L2.map fun q => V.ref q.1))
      have sAll := ((s78.trans s9).trans sS).trans s10
      have sB4 := (s78.trans s9).trans sS
      have nlf : l ≠ f0 := (ne_of_none (sB4 _ _ hfd) hl).symm
      have nld : l ≠ dd := (ne_of_none (sB4 _ _ edd) hl).symm
      have el10 := upd_same (H := upd (upd (upd (upd Hd t (.tup [V.int 7, V.int 7])) pl (.lst [V.ref t])) N (.lst (xs0 ++ [V.ref t]))) sa (SetTO P w sa L')) (a := l) (o := .lst (L2.map fun q => V.ref q.1))
      have atp : ∀ p ∈ L2, p.1 ≠ f0 ∧ _ := fun p hp => ⟨(kL' p hp).1, s10 _ _ (sS _ _ (kL' p hp).2.1)⟩
      have ell : ls.length = L2.length := by have := congrArg List.length els; rw [List.length_map, List.length_map] at this; exact this.symm
      have hin : ((7 : Int), (7 : Int)) ∈ ls := by
        have m7 : [(7 : Int), 7] ∈ ks.map (·.2) := by
          rw [ek2]
          exact List.mem_map.mpr ⟨(7, 7), List.mem_append_right _ (List.mem_singleton.mpr rfl), rfl⟩
        obtain ⟨p, hp, ep⟩ := List.mem_map.mp m7
        obtain ⟨r, hr, er⟩ := List.mem_map.mp (m2 p hp)
        have : r.2 ∈ L2.map (·.2) := List.mem_map_of_mem (hperm.mem_iff.mpr hr)
        rw [els, er, ep] at this
        obtain ⟨u, hu, eu⟩ := List.mem_map.mp this
        injection eu with e1 eu
        injection eu with e2 _
        have : u = (7, 7) := Prod.ext e1 e2
        exact this ▸ hu
      have okn : okLet ls := by
        refine ⟨List.length_pos_of_mem hin, ?_, hls, fun p hp => ?_⟩
        · have h1 := nodup_len (m := ks.map (·.2)) hnd fun x hx => by
            obtain ⟨p, hp, rfl⟩ := List.mem_map.mp hx
            exact List.mem_map.mpr ⟨p, m1 p (hperm.mem_iff.mp hp), rfl⟩
          rw [List.length_map, List.length_map] at h1
          have := l05.1
          omega
        · have hm : [p.1, p.2] ∈ L2.map (·.2) := by rw [els]; exact List.mem_map.mpr ⟨p, hp, rfl⟩
          obtain ⟨r, hr, er⟩ := List.mem_map.mp hm
          obtain ⟨_, _, x, y, xx0, xx1, yy0, yy1, ee⟩ := kL' r hr
          rw [ee] at er
          injection er with e1 er
          injection er with e2 _
          exact ⟨⟨by omega, by omega⟩, ⟨by omega, by omega⟩⟩
      have hnin : ((7 : Int), (7 : Int)) ∉ e.2 := fun c => by
        have := l05.2 _ c
        omega
      generalize upd (upd (upd (upd (upd Hd t (.tup [V.int 7, V.int 7])) pl (.lst [V.ref t])) N (.lst (xs0 ++ [V.ref t]))) sa (SetTO P w sa L')) l (.lst (L2.map fun q => V.ref q.1)) = Hc at sAll el10 atp ⊢
      have edc := sAll _ _ edd
      have eqc := sAll _ _ eqa
      refine ⟨_, rfl, _, rfl, dd, _, rfl, DPut.t (k := kI e.1) edc eqc (Nat.lt_of_le_of_lt (show _ ≤ 100 by omega) (by decide)), ?_⟩
      have hfc := sAll _ _ hfd
      have bput : But dd Hc (upd Hc dd (.dT (putK kvs (kI e.1) (.ref l)))) := But.at
      have hfp := bput _ _ (Ne.symm ndf) hfc
      refine ⟨_, rfl, .inl ⟨rfl, _, SqL.of hfp⟩, _, rfl, _, rfl, (by show 2 ≤ sizeLine; decide), fun rt hrt => ?_⟩
      have s11 := same_new hrt (.tup [V.ref A, V.ref dd])
      have nrt : rt ≠ f0 := (ne_of_none hfp hrt).symm
      have nrd : rt ≠ dd := fun c => by rw [c, upd_same] at hrt; cases hrt
      refine ⟨f0, its, _, rfl, rfl, s11 _ _ hfp, Nat.lt_of_lt_of_le (show its.length < 100 by omega) (by decide), ?_⟩
      generalize hHe : upd (upd (upd Hc dd (.dT (putK kvs (kI e.1) (.ref l)))) rt (.tup [V.ref A, V.ref dd])) f0 (.lst (its ++ [.ref rt])) = He
      have hde : He dd = some (.dT (putK kvs (kI e.1) (.ref l))) := by rw [← hHe, upd_ne ndf]; exact s11 _ _ upd_same
      have bHe : ∀ x o, x ≠ f0 → x ≠ dd → Hc x = some o → He x = some o := fun x o h1 h2 h3 => by
        rw [← hHe, upd_ne h1]
        exact s11 _ _ (bput _ _ h2 h3)
      have bl : But f0 Hl He := fun x o h1 h3 => by
        refine bHe x o h1 (fun c => ?_) (sAll _ _ (bd _ _ h1 h3))
        rw [c, hdl] at h3
        cases h3
      have bv : ∀ {x : Addr} {o : HO}, (vw (pA f0) H') x = some o → (vw (pA f0) He) x = some o := fun {x o} h => by
        obtain ⟨h1, h2⟩ := vw_some h
        have n1 := pA_ok.mp h1
        refine vw_put h1 (bHe x o n1 (fun c => ?_) (sAll _ _ (sd _ _ h2)))
        rw [c, hdd] at h2
        cases h2
      have sv : Same (vw (pA f0) H') (vw (pA f0) He) := fun x o h => bv h
      have kc : ∀ {x : Addr} {o : HO}, x ≠ f0 → flatO o → Hc x = some o → (vw (pA f0) He) x = some o := fun {x o} n fo h => by
        refine vw_put (pA_ok.mpr n) (bHe x o n (fun c => ?_) h)
        rw [c, edc] at h
        injection h with h
        rw [← h] at fo
        rcases fo with ⟨_, z⟩ | ⟨_, z⟩ <;> cases z
      refine ⟨_, _, _, _, its ++ [.ref rt], rfl, bl, by rw [← hHe]; exact upd_same, by rw [List.length_append, hil1]; rfl, fun v hv => ?_⟩
      rcases List.mem_append.mp hv with hv | hv
      · rcases hit1 v hv with h | h
        · exact .inl (h.mono (.same sv))
        · exact .inr (h.mono sv)
      · obtain rfl := List.mem_singleton.mp hv
        have hlet : LetAt (vw (pA f0) He) (.ref l) ls := ⟨l, _, rfl, kc nlf (.inl ⟨_, rfl⟩) el10, L_tups (K := K) (fun p hp => kc (atp p hp).1 (.inr ⟨_, rfl⟩) (atp p hp).2) els⟩
        refine .inr ⟨rt, dd, setLet D e.1 ls, rfl, vw_put (pA_ok.mpr nrt) (by rw [← hHe, upd_ne nrt]; exact upd_same), ⟨_, vw_put (pA_ok.mpr ndf) hde, ?_⟩, rfl, setLet_wf hW ⟨e, hem, rfl⟩ okn, setLet_no hW (l := e.2) (by exact hem) (7, 7) hin hnin⟩
        exact en_put (hElv.imp fun _ _ r => r.mono (vwA_but bl)) hlet
    · rintro σ H' ⟨g3, g4, g5, g6, its, rfl, b1, hf1, hil1, hit1⟩
      have hlk1 := b1 _ _ nfB.symm hlk
      refine ⟨hlk1, ?_⟩
      have hs := unl H' b1
      refine ⟨_, rfl, q f0 its _ hs (by rw [upd_ne nfB]; exact hf1) (by omega) fun v hv => ?_⟩
      have kpF : Kp (vw (pA f0) H') (upd H' B (.dT kvs)) := Kp.trans kp_vw (Kp.put hlk1 nf_frz)
      rcases hit1 v hv with h | h
      · obtain ⟨t, a, U, e, h1, h2, h3, h4, h5⟩ := h
        exact ⟨t, a, B, U, e, kpF.tup h1, h2.mono kpF, by rw [h3]; exact ⟨kvs, upd_same, hE0.imp fun _ _ r => r.mono (.same hs)⟩, h4, h5⟩
      · obtain ⟨t, d, U, e, h1, ⟨ks, h2, h2'⟩, h3, h4, h5⟩ := h
        have hd := (vw_some h2).2
        have ndB : d ≠ B := fun c => by rw [c, hlk1] at hd; cases hd
        exact ⟨t, A, d, U, e, kpF.tup h1, by rw [h3]; exact hA.mono (.same hs), ⟨ks, by rw [upd_ne ndB]; exact hd, h2'.imp fun _ _ r => r.mono kpF⟩, h4, h5⟩
end
end TA

set_option Elab.async false
set_option maxRecDepth 100000
set_option maxHeartbeats 4000000
namespace TA
open PySem PySem.Spec L2 PyProof.Rows LamX
set_option linter.unusedVariables false
/-- what a def keeps where no repr is under way around it -/
structure Quiet (P : Program) (w : World) (K : PySem.W.Frag) (mg : Str → Option Value) (base : Heap) (k : Nat) (f : Addr) (fd : FuncData) (ps : List Str) (sp : Sp) : Prop where
  len : ∀ vs H Q E, sp vs H Q E → vs.length = ps.length
  run : ∀ (A : Around) (outer : List Env) (s : Shared) (H : Hp) (args : Args) (us : List Value) (vs : List V) (Q : VK) (E : XK), A.guards = some [] → Room k A → Env0 P w K mg base A outer s H → BindsTo s fd args (ps.zip us) → Vals vs us → sp vs H Q E →
    codeAny (model P w) A (.call (.ref f) args) (CR CX0 outer P w H s Q E) s
section
variable {P : Program} {w : World} {K : PySem.W.Frag} {mg : Str → Option Value} {base : Heap}
theorem quiet_of {x qual : Str} {st : Stmt} {f : Addr} {fd : FuncData} {N ps : List Str} {k : Nat} {sp : Sp} (F : Fun K x qual st f fd) (S : FnScope N ps (defScope st)) (len : ∀ vs H Q E, sp vs H Q E → vs.length = ps.length)
    (body : ∀ (cdv : Value) (A : Around) (outer : List Env) (s : Shared) (H : Hp) (vs : List V) (Q : VK) (E : XK), A.guards = some [] → Room k (A.deeper (envOfC qual (defScope st) s.heap.objs.size f cdv)) → sp vs H Q E →
      ∃ t, PSs (cxOf CX0 P w K mg base N qual (defScope st) f cdv A outer s H E).nox (defBody st) t ∧ t { nx := fun _ H' => Q .non H', rt := Q } (L2.start N vs) H) : Quiet P w K mg base (k + 1) f fd ps sp := by
  obtain ⟨oc, od, kV, doc, pm, an, cdv, ct, osl, rfl, lk, hcd⟩ := F.ex
  refine ⟨len, fun A outer s H args us vs Q E hg hr e0 hb hv hs => ?_⟩
  refine run_ofS (N := N) (ps := ps) lk hcd S hr e0 hb hv (len _ _ _ _ hs) fun hr2 => ?_
  obtain ⟨t, p, q⟩ := body cdv A outer s H vs Q E hg hr2 hs
  exact ⟨t, p.nox, q⟩
end
/-! the law called, nothing under way, no table of code -/
section
variable {P : Program} {w : World} {K : PySem.W.Frag} {mg mb : Str → Option Value}
def atCall (K : PySem.W.Frag) (a : Addr) (ob : Obj) (xs : List V) : Hp := fun b => if b = a then (if (K.lookup a).isSome then none else some (.frz ob (.lst xs))) else none
theorem atCall_a {a : Addr} {ob : Obj} {xs : List V} : atCall K a ob xs a = if (K.lookup a).isSome then none else some (.frz ob (.lst xs)) := if_pos rfl
theorem atCall_no {a b : Addr} {ob : Obj} {xs : List V} (m : b ≠ a) : atCall K a ob xs b = none := if_neg m
theorem quiet_end0 {k : Nat} {fa a : Addr} {fd : FuncData} {x : Str} {sp : Sp} {s : Shared} {vs : List Value} {ns : List Int}
    (KX : K.In s.heap) (gl : s.heap.Ns mainGlobals mg) (bn : s.heap.Ns builtinsNs mb) (bb : ∀ x : Str, x ≠ "__name__" → mb x = bootBuiltins x) (nl : s.heap.NoLimit) (gs : s.gens = #[])
    (sc : s.heap.get? a = some { cls := .type "list", data := .seq vs.toArray }) (hi : IntsAre vs ns) (hz : ns.length ≤ sizeLine) (hr : Room k callerA)
    (F : ∀ base : Heap, K.In base → base.Ns mainGlobals mg → Quiet P w K mg base k fa fd [x] sp) (bd : ∀ (s : Shared) (u : Value), BindsTo s fd ⟨[u], []⟩ [(x, u)])
    (hsp : ∀ H : Hp, SqL K H a (ns.map V.int) → sp [.ref a] H (fun v _ => v = .bl true) fun _ _ _ => False) :
    codeAny (model P w) callerA (.call (.ref fa) ⟨[.ref a], []⟩) (fun r s' => r = .ok (.ret (.bool true)) ∧ OldK s.heap s'.heap ∧ s'.os = s.os ∧ AllBare s'.gens) s := by
  have rv := vals_ints hi
  have ln := hi.length
  obtain ⟨H, Ha, Ho⟩ : ∃ H : Hp, (H a = if (K.lookup a).isSome then none else some (.frz { cls := .type "list", data := .seq vs.toArray } (.lst (ns.map V.int)))) ∧ ∀ b, b ≠ a → H b = none := ⟨_, atCall_a, fun b m => atCall_no m⟩
  have seen : SqL K H a (ns.map V.int) := by
    cases e : K.lookup a with
    | none =>
      rw [e] at Ha
      exact .inl (.inr ⟨_, Ha⟩)
    | some o =>
      have q := KX a o e
      rw [sc] at q
      cases q
      exact .inr ⟨_, vs.toArray, _, e, rfl, rfl, rfl, by rw [List.size_toArray, ln]; exact hz, by simpa using rv⟩
  have ok : HOk P w H s.heap := fun b u e => by
    by_cases h2 : b = a
    · subst h2
      rw [Ha] at e
      cases q : (K.lookup b).isSome with
      | true => simp [q] at e
      | false =>
        simp [q] at e
        subst e
        exact ⟨sc, by rw [List.length_map]; exact hz, vs, _, rv, sc⟩
    · rw [Ho b h2] at e
      cases e
  have keepO : ∀ {b : Addr} {o : Obj}, s.heap.get? b = some o → (∀ xs n, o.data ≠ .seq xs n) → (hidT s.heap H).get? b = some o := fun {b o} e n1 =>
    hidT_get e (Ho b fun z => by rw [z, sc] at e; cases e; exact n1 _ _ rfl)
  have keepN : ∀ {b : Addr} {m : Str → Option Value}, s.heap.Ns b m → (hidT s.heap H).Ns b m := fun {b m} h => by
    obtain ⟨o, es, ep, e, d, r⟩ := h
    exact ⟨o, es, ep, keepO e (fun xs n z => by rw [d] at z; cases z), d, r⟩
  have keepK : K.In (hidT s.heap H) := fun b o e => hidT_get (KX b o e) (by
    by_cases h2 : b = a
    · subst h2
      rw [Ha, e]
      rfl
    · exact Ho b h2)
  have e0 : Env0 P w K mg (hidT s.heap H) callerA [] s H := by
    refine ⟨rfl, ⟨keepK, keepN gl, ⟨mb, keepN bn, bb⟩, ?_⟩, fun b o e => of_hidT e, Nat.le_of_eq (hidT_size _ _), trivial, fun b hb => absurd (show b ∈ ([] : List Addr) from hb) (by simp), ok, .of_eq gs⟩
    obtain ⟨mc, h1, h2⟩ := nl
    exact ⟨mc, keepN h1, h2⟩
  refine codeAny_mono ((F _ keepK (keepN gl)).run callerA [] s H ⟨[.ref a], []⟩ [.ref a] [.ref a] (fun v _ => v = .bl true) (fun _ _ _ => False) rfl hr e0 (bd s (.ref a)) (.cons rfl .nil) (hsp H seen)) fun r s' h => ?_
  match r, h with
  | .error _, h => exact False.elim h
  | .ok (.ret u), h =>
    obtain ⟨v, H', os, bare, un, ok', rr, q⟩ := h
    have ev : v = .bl true := q
    subst ev
    obtain rfl : u = Value.bool true := rr
    refine ⟨rfl, OldK.of_keep fun b o e => ?_, os, bare⟩
    cases g : H b with
    | none => exact un.keep b o e g (fun z => absurd (show b ∈ ([] : List Addr) from z) (by simp)) (by simp)
    | some u =>
      by_cases h2 : b = a
      · subst h2
        have fz : ∃ ob xs, u = .frz ob (.lst xs) := by
          rw [Ha] at g
          cases q2 : (K.lookup b).isSome with
          | true => simp [q2] at g
          | false =>
            simp [q2] at g
            exact ⟨_, _, g.symm⟩
        obtain ⟨ob, xs, rfl⟩ := fz
        obtain ⟨g1, _⟩ := ok b _ g
        obtain ⟨g2, _⟩ := ok' b _ (un.frzs b ob _ g)
        rw [e] at g1
        cases g1
        exact g2
      · rw [Ho b h2] at g
        cases g
end
/-! how much is shown -/
structure Tiny (d : PyData) (w n : Nat) : Prop where
  s : d.showable = true
  l : d.leavesShort 8 = true
  w : d.weight ≤ w
  d : d.depth ≤ n
theorem Tiny.up {d : PyData} {w w' n n' : Nat} (t : Tiny d w n) (h : w ≤ w') (h2 : n ≤ n') : Tiny d w' n' := ⟨t.s, t.l, Nat.le_trans t.w h, Nat.le_trans t.d h2⟩
theorem tiny_all {w n : Nat} : ∀ {ds : List PyData}, (∀ d ∈ ds, Tiny d w n) → PyData.showableAll ds = true ∧ PyData.leavesShortAll 8 ds = true ∧ PyData.weightAll ds ≤ (w + 1) * ds.length ∧ PyData.depthAll ds ≤ n
  | [], _ => ⟨by rw [PyData.showableAll], by rw [PyData.leavesShortAll], by rw [PyData.weightAll]; exact Nat.zero_le _, by rw [PyData.depthAll]; exact Nat.zero_le _⟩
  | d :: ds, q => by
    obtain ⟨a, b, c, e⟩ := tiny_all (ds := ds) fun x hx => q x (List.mem_cons_of_mem _ hx)
    have t := q d List.mem_cons_self
    refine ⟨by rw [PyData.showableAll, t.s, a]; rfl, by rw [PyData.leavesShortAll, t.l, b]; rfl, ?_, ?_⟩
    · rw [PyData.weightAll, List.length_cons, Nat.mul_succ]
      have := t.w
      omega
    · rw [PyData.depthAll]
      exact Nat.max_le.mpr ⟨t.d, e⟩
theorem tiny_list {w n m : Nat} {ds : List PyData} (q : ∀ d ∈ ds, Tiny d w n) (hm : ds.length ≤ m) : Tiny (.list ds) ((w + 1) * m) (n + 1) := by
  obtain ⟨a, b, c, e⟩ := tiny_all q
  refine ⟨by rw [PyData.showable]; exact a, by rw [PyData.leavesShort]; exact b, ?_, by rw [PyData.depth]; omega⟩
  rw [PyData.weight]
  exact Nat.le_trans c (Nat.mul_le_mul_left _ hm)
theorem tiny_tuple {w n m : Nat} {ds : List PyData} (q : ∀ d ∈ ds, Tiny d w n) (hm : ds.length ≤ m) : Tiny (.tuple ds) ((w + 1) * m) (n + 1) := by
  obtain ⟨a, b, c, e⟩ := tiny_all q
  refine ⟨by rw [PyData.showable]; exact a, by rw [PyData.leavesShort]; exact b, ?_, by rw [PyData.depth]; omega⟩
  rw [PyData.weight]
  exact Nat.le_trans c (Nat.mul_le_mul_left _ hm)
theorem tiny_dict {a b n m : Nat} {kvs : List (PyData × PyData)} (q : ∀ e ∈ kvs, Tiny e.1 a n ∧ Tiny e.2 b n) (hm : kvs.length ≤ m) : Tiny (.dict kvs) ((a + b + 2) * m) (n + 1) := by
  have all : ∀ kvs : List (PyData × PyData), (∀ e ∈ kvs, Tiny e.1 a n ∧ Tiny e.2 b n) → PyData.showableKv kvs = true ∧ PyData.leavesShortKv 8 kvs = true ∧ PyData.weightKv kvs ≤ (a + b + 2) * kvs.length ∧ PyData.depthKv kvs ≤ n := fun kvs q => by
    induction kvs with
    | nil => exact ⟨by rw [PyData.showableKv], by rw [PyData.leavesShortKv], by rw [PyData.weightKv]; exact Nat.zero_le _, by rw [PyData.depthKv]; exact Nat.zero_le _⟩
    | cons e r ih =>
      obtain ⟨x, y⟩ := e
      obtain ⟨h1, h2, h3, h4⟩ := ih fun z hz => q z (List.mem_cons_of_mem _ hz)
      obtain ⟨t1, t2⟩ := q (x, y) List.mem_cons_self
      refine ⟨by rw [PyData.showableKv, t1.s, t2.s, h1]; rfl, by rw [PyData.leavesShortKv, t1.l, t2.l, h2]; rfl, ?_, ?_⟩
      · rw [PyData.weightKv, List.length_cons, Nat.mul_succ]
        have h5 : x.weight ≤ a := t1.w
        have h6 : y.weight ≤ b := t2.w
        omega
      · rw [PyData.depthKv]
        exact Nat.max_le.mpr ⟨Nat.max_le.mpr ⟨t1.d, t2.d⟩, h4⟩
  obtain ⟨h1, h2, h3, h4⟩ := all kvs q
  refine ⟨by rw [PyData.showable]; exact h1, by rw [PyData.leavesShort]; exact h2, ?_, by rw [PyData.depth]; omega⟩
  rw [PyData.weight]
  exact Nat.le_trans h3 (Nat.mul_le_mul_left _ hm)
theorem tiny_int {i : Int} (h : okOut i) : Tiny (.int i) 6 1 := by
  obtain ⟨a, b⟩ := h
  obtain ⟨k, rfl⟩ : ∃ k : Nat, i = (k : Int) := ⟨i.toNat, by omega⟩
  have hk : k < 64 := by omega
  have all : ∀ k : Nat, k < 64 → (PyData.int (k : Int)).showable = true ∧ (PyData.int (k : Int)).leavesShort 8 = true ∧ (PyData.int (k : Int)).weight ≤ 6 := by decide +kernel
  obtain ⟨h1, h2, h3⟩ := all k hk
  exact ⟨h1, h2, h3, by rw [PyData.depth]; exact Nat.zero_le _⟩
theorem tiny_shown {d : PyData} {w n : Nat} (t : Tiny d w n) (h : w ≤ 1500000) : d.shown.length ≤ sizeLine := by
  have := PyData.shown_le 8 (by decide) d t.l
  have := t.w
  rw [sizeLine_eq]
  omega
theorem tiny_row {row : List Int} {m : Nat} (h : ∀ x ∈ row, okOut x) (hm : row.length ≤ m) : Tiny (rowD row) (7 * m) 2 := tiny_list (fun d hd => by
  obtain ⟨x, hx, rfl⟩ := List.mem_map.mp hd
  exact tiny_int (h x hx)) (by rw [List.length_map]; exact hm)
theorem tiny_pair {p : Int × Int} (h1 : okOut p.1) (h2 : okOut p.2) : Tiny (pairD p) 14 2 := tiny_tuple (w := 6) (n := 1) (m := 2) (fun d hd => by
  rcases List.mem_cons.mp hd with rfl | hd
  · exact tiny_int h1
  · obtain rfl := List.mem_singleton.mp hd
    exact tiny_int h2) (Nat.le_refl _)
def bothD (bo : BD) : PyData := .dict (bo.map fun e => (pairD (iI e.1), letD e.2))
def walksD (wk : EB → List Int) (bo : BD) : PyData := .dict (bo.map fun e => (pairD (iI e.1), rowD (wk e)))
def schD (r : Nat) (ch : Nat → List Int) (wk : EB → List Int) (bo : BD) : PyData := .tuple [.int (r : Int), rowsD [ch 0, ch 1], walksD wk bo]
theorem tiny_key {T : TD} (W : WF T) {e : EB} (he : e ∈ T.bo) : Tiny (pairD (iI e.1)) 14 2 := by
  have rg := W.rng e he
  have n0 := (W.n0 0 (by decide)).2
  have n1 := (W.n0 1 (by decide)).2
  exact tiny_pair (by show (0 : Int) ≤ (e.1.1 : Int) ∧ (e.1.1 : Int) ≤ 63; omega) (by show (0 : Int) ≤ (e.1.2 : Int) ∧ (e.1.2 : Int) ≤ 63; omega)
/-- rows that may be few or none -/
structure AlOk (al : Nat → List (List Int)) : Prop where
  n : ∀ h, h < 2 → (al h).length ≤ 20
  r : ∀ h, h < 2 → ∀ r ∈ al h, okRow r
theorem WF.al {T : TD} (W : WF T) : AlOk T.al := ⟨fun h hh => (W.n0 h hh).2, W.row⟩
theorem tiny_al {al : Nat → List (List Int)} (W : AlOk al) : Tiny (alD al) 20000 4 := by
  have rows : ∀ h, h < 2 → Tiny (rowsD (al h)) ((420 + 1) * 20) 3 := fun h hh => tiny_list (fun d hd => by
    obtain ⟨r, hr, rfl⟩ := List.mem_map.mp hd
    have ok := W.r h hh r hr
    exact tiny_row (m := 60) ok.2.2.2 ok.2.1) (by rw [List.length_map]; exact W.n h hh)
  refine (tiny_list (w := (420 + 1) * 20) (n := 3) (m := 2) (fun d hd => ?_) (Nat.le_refl _)).up (by decide) (by decide)
  rcases List.mem_cons.mp hd with rfl | hd
  · exact rows 0 (by decide)
  · obtain rfl := List.mem_singleton.mp hd
    exact rows 1 (by decide)
theorem tiny_both {T : TD} (W : WF T) : Tiny (bothD T.bo) 60000 4 := by
  refine (tiny_dict (a := 14) (b := 900) (n := 3) (m := 60) (fun e he => ?_) (by rw [List.length_map]; exact W.many)).up (by decide) (by decide)
  obtain ⟨e, hb, rfl⟩ := List.mem_map.mp he
  have ok := W.lets e hb
  refine ⟨(tiny_key W hb).up (by decide) (by decide), tiny_list (w := 14) (m := 60) (fun d hd => ?_) (by rw [List.length_map]; exact ok.2.1)⟩
  obtain ⟨p, hp, rfl⟩ := List.mem_map.mp hd
  exact tiny_pair (ok.2.2.2 p hp).1 (ok.2.2.2 p hp).2
theorem dpAll_dxs {K : PySem.W.Frag} {H : Hp} : ∀ {vs : List V} {ds : List PyData}, DpAll K H vs ds → PyData.hasDictAll ds = false → DXs K H vs ds
  | _, _, .nil, _ => .nil
  | _, _, .cons a b, n => by
    rw [PyData.hasDictAll, Bool.or_eq_false_iff] at n
    exact .cons (.flat a n.1) (dpAll_dxs b n.2)
theorem nd_ints (l : List Int) : (rowD l).hasDict = false := by
  unfold rowD
  rw [PyData.hasDict]
  induction l with
  | nil => rw [List.map_nil, PyData.hasDictAll]
  | cons x l ih => rw [List.map_cons, PyData.hasDictAll, ih, PyData.hasDict]; rfl
theorem nd_map {α : Type} {f : α → PyData} (h : ∀ x, (f x).hasDict = false) (l : List α) : PyData.hasDictAll (l.map f) = false := by
  induction l with
  | nil => rw [List.map_nil, PyData.hasDictAll]
  | cons x l ih => rw [List.map_cons, PyData.hasDictAll, ih, h]; rfl
theorem nd_int (i : Int) : (PyData.int i).hasDict = false := by rw [PyData.hasDict]
theorem nd_rows (l : List (List Int)) : (rowsD l).hasDict = false := by
  unfold rowsD
  rw [PyData.hasDict]
  exact nd_map nd_ints l
theorem nd_al (al : Nat → List (List Int)) : (alD al).hasDict = false := by
  unfold alD
  rw [PyData.hasDict, PyData.hasDictAll, PyData.hasDictAll, PyData.hasDictAll, nd_rows, nd_rows]
  rfl
theorem nd_pair (p : Int × Int) : (pairD p).hasDict = false := by
  unfold pairD
  rw [PyData.hasDict, PyData.hasDictAll, PyData.hasDictAll, PyData.hasDictAll, nd_int, nd_int]
  rfl
theorem nd_let (l : List (Int × Int)) : (letD l).hasDict = false := by
  unfold letD
  rw [PyData.hasDict]
  exact nd_map nd_pair l
theorem both_dx {K : PySem.W.Frag} {H : Hp} {d : Addr} {kvs : List (List Key × V)} {bo : BD} (hd : H d = some (.dT kvs)) (a : A2 (EnAt H) kvs bo) : DX K H (.ref d) (bothD bo) := by
  have g : ∀ {kvs : List (List Key × V)} {bo : BD}, A2 (EnAt H) kvs bo → DXs K H (kvs.map (·.2)) (bo.map fun e => letD e.2) ∧ (bo.map fun e => pairD (iI e.1)) = kvs.map fun kv => keyD kv.1 := fun a => by
    induction a with
    | nil => exact ⟨.nil, rfl⟩
    | cons x _ ih => exact ⟨.cons (.flat x.2.dp (nd_let _)) ih.1, by rw [List.map_cons, List.map_cons, ih.2, x.1]; rfl⟩
  obtain ⟨g1, g2⟩ := g a
  refine .dic hd rfl g1 ?_ ?_
  · rw [List.map_map]
    exact g2
  · rw [List.map_map]
    rfl

/-! how a text ends -/
def EndsL (s : Str) (l : List Nat) : Prop := ∃ pre, s.cps.toList = pre ++ l
theorem ends_of {s : Str} {l : List Nat} (h : s.cps.toList = l) : EndsL s l := ⟨[], h⟩
theorem ends_app {a b : Str} {l m : List Nat} (h : EndsL a l) (g : b.cps.toList = m) : EndsL (a ++ b) (l ++ m) := by
  obtain ⟨p, h⟩ := h
  refine ⟨p, ?_⟩
  show (a.cps ++ b.cps).toList = _
  rw [Array.toList_append, h, g, List.append_assoc]
theorem ends_right {a b : Str} {l : List Nat} (h : EndsL b l) : EndsL (a ++ b) l := by
  obtain ⟨p, h⟩ := h
  refine ⟨a.cps.toList ++ p, ?_⟩
  show (a.cps ++ b.cps).toList = _
  rw [Array.toList_append, h, List.append_assoc]
theorem ends_join {sep : Str} {l : List Nat} : ∀ {ps : List Str}, ps ≠ [] → (∀ p ∈ ps, EndsL p l) → EndsL (Str.join sep ps) l
  | [], h, _ => absurd rfl h
  | [x], _, h => h x List.mem_cons_self
  | x :: y :: r, _, h => ends_right (ends_join (ps := y :: r) (by simp) fun p hp => h p (List.mem_cons_of_mem _ hp))
theorem ends_last {sep : Str} {l : List Nat} {x y : Str} (h : EndsL y l) : EndsL (Str.join sep [x, y]) l := ends_right h
theorem ends_ne {s : Str} {l m : List Nat} (h : EndsL s l) (g : EndsL s m) (e : l.length = m.length) : l = m := by
  obtain ⟨p, h⟩ := h
  obtain ⟨q, g⟩ := g
  rw [h] at g
  exact (List.append_inj' g e).2
theorem ends_list (ds : List PyData) : EndsL (PyData.list ds).shown [93] := by
  rw [PyData.shown_list]
  exact ends_right (ends_of (by decide +kernel))
theorem ends_kv : ∀ {kvs : List (PyData × PyData)}, (∀ e ∈ kvs, ∃ l, e.2 = .list l) → ∀ p ∈ PyData.shownKv kvs, EndsL p [93]
  | [], _, p, hp => by rw [PyData.shownKv_nil] at hp; cases hp
  | (k, v) :: r, h, p, hp => by
    rw [PyData.shownKv_cons] at hp
    rcases List.mem_cons.mp hp with rfl | hp
    · obtain ⟨l, e⟩ := h _ List.mem_cons_self
      dsimp only at e
      rw [e]
      exact ends_right (ends_list l)
    · exact ends_kv (fun e he => h e (List.mem_cons_of_mem _ he)) p hp
theorem ends_full {x : PyData} {bo : BD} (h : bo ≠ []) : EndsL (PyData.tuple [x, bothD bo]).shown [93, 125, 41] := by
  rw [PyData.shown_tuple, PyData.shownAll_cons, PyData.shownAll_cons, PyData.shownAll_nil]
  refine ends_app (l := [93, 125]) (ends_right (ends_last ?_)) (show (Str.ofString ")").cps.toList = [41] by decide +kernel)
  unfold bothD
  rw [PyData.shown_dict]
  refine ends_app (l := [93]) (ends_right (ends_join ?_ (ends_kv fun e he => ?_))) (by decide +kernel)
  · cases bo with
    | nil => exact absurd rfl h
    | cons b r =>
      rw [List.map_cons, PyData.shownKv_cons]
      exact fun c => nomatch c
  · obtain ⟨b, _, rfl⟩ := List.mem_map.mp he
    exact ⟨_, rfl⟩
theorem ends_bare {x : PyData} : EndsL (PyData.tuple [x, .dict []]).shown [123, 125, 41] := by
  rw [PyData.shown_tuple, PyData.shownAll_cons, PyData.shownAll_cons, PyData.shownAll_nil]
  refine ends_app (l := [123, 125]) (ends_right (ends_last ?_)) (show (Str.ofString ")").cps.toList = [41] by decide +kernel)
  rw [PyData.shown_dict, PyData.shownKv_nil]
  exact ends_of (by decide +kernel)
theorem shown_ne {x y : PyData} {bo : BD} (h : bo ≠ []) : (PyData.tuple [y, .dict []]).shown ≠ (PyData.tuple [x, bothD bo]).shown := fun e => by
  have h1 := ends_bare (x := y)
  rw [e] at h1
  have := ends_ne h1 (ends_full (x := x) h) rfl
  cases this
/-! what stays of a task while older lists and dicts change -/
def Kf (G H H' : Hp) : Prop := ∀ b o, H b = some o → (G b = none ∨ ((∀ xs, o ≠ .lst xs) ∧ ∀ kvs, o ≠ .dT kvs)) → H' b = some o
theorem Kf.same {G H H' : Hp} (s : Same H H') : Kf G H H' := fun b o h _ => s b o h
theorem Kf.trans {G H H' H'' : Hp} (a : Kf G H H') (b : Kf G H' H'') : Kf G H H'' := fun x o h g => b x o (a x o h g) g
theorem Kf.lst {G H H' : Hp} {p : Addr} {xs : List V} (b : But p H H') (h : H p = some (.lst xs)) (g : G p ≠ none) : Kf G H H' := fun x o e c => b x o (fun z => by
  rw [z, h] at e
  injection e with e
  rcases c with c | c
  · exact g (z ▸ c)
  · exact c.1 _ e.symm) e
theorem Kf.dct {G H H' : Hp} {p : Addr} {kvs : List (List Key × V)} (b : But p H H') (h : H p = some (.dT kvs)) (g : G p ≠ none) : Kf G H H' := fun x o e c => b x o (fun z => by
  rw [z, h] at e
  injection e with e
  rcases c with c | c
  · exact g (z ▸ c)
  · exact c.2 _ e.symm) e
theorem NewAt.kf {C : Addr} {G H H' : Hp} {p : Addr} {T : TD} (h : NewAt C G H p T) (k : Kf G H H') : NewAt C G H' p T := by
  obtain ⟨dx, a, d, kvs, h1, h2, h3, h4, h5⟩ := h
  have kp : Kp (nwx G p H) (nwx G p H') := fun b o _ e => by
    obtain ⟨e1, e2, e3⟩ := nwx_some e
    exact nwx_put e1 e2 (k b o e3 (.inl e1))
  refine ⟨dx, a, d, kvs, k _ _ h1 (.inr ⟨fun xs c => (nomatch c), fun xs c => (nomatch c)⟩), h2.mono kp, h3, k _ _ h4 (.inl h3), h5.imp fun _ _ r => ?_⟩
  obtain ⟨r1, t, xs, e, e1, e2⟩ := r
  refine ⟨r1, t, xs, e, kp.lst e1, e2.imp fun _ _ q => ?_⟩
  obtain ⟨u, eu, hu⟩ := q
  exact ⟨u, eu, k _ _ hu (.inr ⟨fun xs c => (nomatch c), fun xs c => (nomatch c)⟩)⟩
/-! what stays of the script -/
def IsScr (ns : List Int) (o : HO) : Prop := o = .lst (ns.map V.int) ∨ ∃ q, o = .frz q (.lst (ns.map V.int))
def KpS (ns : List Int) (sc : Addr) (H H' : Hp) : Prop := ∀ o, IsScr ns o → H sc = some o → H' sc = some o
theorem KpS.sql {K : PySem.W.Frag} {ns : List Int} {sc : Addr} {H H' : Hp} (k : KpS ns sc H H') (h : SqL K H sc (ns.map V.int)) : SqL K H' sc (ns.map V.int) := by
  rcases h with (h | ⟨q, h⟩) | h
  · exact .inl (.inl (k _ (.inl rfl) h))
  · exact .inl (.inr ⟨q, k _ (.inr ⟨q, rfl⟩) h⟩)
  · exact .inr h
theorem KpS.refl {ns : List Int} {sc : Addr} {H : Hp} : KpS ns sc H H := fun _ _ h => h
theorem KpS.same {ns : List Int} {sc : Addr} {H H' H'' : Hp} (k : KpS ns sc H H') (s : Same H' H'') : KpS ns sc H H'' := fun o i h => s _ _ (k o i h)
theorem KpS.new {ns : List Int} {sc p : Addr} {H H' H'' : Hp} (k : KpS ns sc H H') (b : But p H' H'') (n : H p = none) : KpS ns sc H H'' := fun o i h => b _ _ (fun c => by rw [← c, h] at n; cases n) (k o i h)
theorem KpS.refs {ns : List Int} {sc p a : Addr} {r : List V} {H H' H'' : Hp} (k : KpS ns sc H H') (b : But p H' H'') (n : H' p = some (.lst (.ref a :: r))) : KpS ns sc H H'' := fun o i h => by
  have h' := k o i h
  refine b _ _ (fun c => ?_) h'
  rw [c, n] at h'
  injection h' with h'
  rcases i with i | ⟨q, i⟩
  · rw [i] at h'
    injection h' with h'
    cases ns with
    | nil => cases h'
    | cons x ns => rw [List.map_cons] at h'; injection h' with h' _; cases h'
  · rw [i] at h'
    cases h'
theorem a2_snocR {α β : Type} {R : α → β → Prop} : ∀ {xs : List α} {ys : List β}, A2 R xs ys → ys.length ≥ 1 → ∃ x xs' y ys', xs = x :: xs' ∧ ys = y :: ys' ∧ R x y
  | _, _, .nil, h => absurd h (by simp)
  | _, _, .cons a _, _ => ⟨_, _, _, _, rfl, rfl, a⟩
end TA

set_option Elab.async false
set_option maxRecDepth 100000
set_option maxHeartbeats 4000000
namespace TA
open PySem PySem.Spec L2 PyProof.Rows LamX
set_option linter.unusedVariables false
/-! the items of a task's dict, sorted -/
def entD (D : TD) (k : Int × Int) : EB := (D.bo.find? (fun b => decide (iI b.1 = k))).getD ((0, 0), [])
theorem iI_one {p q : IP} (h : iI p = iI q) : p = q := by
  unfold iI at h
  injection h with h1 h2
  exact Prod.ext (by omega) (by omega)
theorem ent_at {D : TD} (u : uniq D.bo) {b : EB} (hb : b ∈ D.bo) : entD D (iI b.1) = b := by
  unfold entD
  cases h : D.bo.find? (fun c => decide (iI c.1 = iI b.1)) with
  | none =>
    have := List.find?_eq_none.mp h b hb
    simp at this
  | some c =>
    have h1 := List.find?_some h
    have h2 := List.mem_of_find?_eq_some h
    exact uniq_key u h2 hb (iI_one (of_decide_eq_true h1))
def KsAt (H : Hp) (z : DT.P2 × Addr) (b : EB) : Prop := z.1 = iI b.1 ∧ LetAt H (.ref z.2) b.2
theorem ks_of {H : Hp} : ∀ {kvs : List (List Key × V)} {bo : BD}, A2 (EnAt H) kvs bo → ∃ ks : List (DT.P2 × Addr), kvs = ks.map (fun e => entI (e.1, V.ref e.2)) ∧ A2 (KsAt H) ks bo
  | _, _, .nil => ⟨[], rfl, .nil⟩
  | (k, v) :: _, b :: _, .cons a r => by
    obtain ⟨ks, e, q⟩ := ks_of r
    obtain ⟨ek, hl⟩ := a
    obtain ⟨t, xs, ev, h⟩ := id hl
    dsimp only at ek ev
    subst ek ev
    exact ⟨(iI b.1, t) :: ks, by rw [List.map_cons, ← e]; rfl, .cons ⟨rfl, hl⟩ q⟩
theorem ks_keys {H : Hp} {ks : List (DT.P2 × Addr)} {bo : BD} (a : A2 (KsAt H) ks bo) : ks.map (·.1) = bo.map fun b => iI b.1 := by
  induction a with
  | nil => rfl
  | cons x _ ih => rw [List.map_cons, List.map_cons, ih, x.1]
theorem ks_ents {H : Hp} {D : TD} (u : uniq D.bo) : ∀ {ks : List (DT.P2 × Addr)} {bo : BD}, A2 (KsAt H) ks bo → (∀ b ∈ bo, b ∈ D.bo) → ks.map (fun z => entD D z.1) = bo
  | _, _, .nil, _ => rfl
  | _, _, .cons x r, h => by
    rw [List.map_cons, ks_ents u r fun b hb => h b (List.mem_cons_of_mem _ hb), x.1, ent_at u (h _ List.mem_cons_self)]
/-- (pair, outputs let) -/
def ItemAt (H : Hp) (v : V) (b : EB) : Prop := ∃ t q l, v = .ref t ∧ H t = some (.tup [.ref q, .ref l]) ∧ TpAt H (.ref q) (iI b.1) ∧ LetAt H (.ref l) b.2
def itemD (b : EB) : PyData := .tuple [pairD (iI b.1), letD b.2]
theorem items_A2 {G H' : Hp} {D : TD} (W : WF D) {ks : List (DT.P2 × Addr)} (a : A2 (KsAt G) ks D.bo) (gr : Same G H') {ps : List (Addr × DT.P2 × Addr)} (pm : (ps.map (·.2)).Perm ks) (pw : (ps.map (·.2)).Pairwise (fun e f => TS.code 64 (DT.nsP e.1) ≤ TS.code 64 (DT.nsP f.1)))
    (hz : ∀ z ∈ ps, ∃ q, H' z.1 = some (.tup [.ref q, .ref z.2.2]) ∧ H' q = some (.tup [.int z.2.1.1, .int z.2.1.2])) : A2 (ItemAt H') (ps.map fun z => V.ref z.1) (sb D) := by
  have u : uniq D.bo := W.srt
  have n0 := (W.n0 0 (by decide)).2
  have n1 := (W.n0 1 (by decide)).2
  have kz : ∀ z ∈ ps, ∃ b ∈ D.bo, z.2.1 = iI b.1 ∧ LetAt H' (.ref z.2.2) b.2 := fun z hz => by
    obtain ⟨b, hb, h1, h2⟩ := a.mem (pm.mem_iff.mp (List.mem_map_of_mem hz))
    exact ⟨b, hb, h1, h2.mono (.same gr)⟩
  have e0 : (ps.map fun z => entD D z.2.1) = sb D := by
    have p1 : (ps.map fun z => entD D z.2.1).Perm D.bo := by
      have := pm.map (fun z => entD D z.1)
      rw [ks_ents u a fun _ h => h, List.map_map] at this
      exact this
    refine List.Perm.eq_of_pairwise (le := fun x y => TS.code 64 (DT.nsP (iI x.1)) ≤ TS.code 64 (DT.nsP (iI y.1))) (fun x y hx hy h h' => ?_) ?_ ?_ (p1.trans (sb_perm D).symm)
    · have mx := p1.mem_iff.mp hx
      have my := sb_mem.mp hy
      have := W.rng x mx
      have := W.rng y my
      have h : TS.code 64 [((x.1.1 : Nat) : Int), ((x.1.2 : Nat) : Int)] ≤ TS.code 64 [((y.1.1 : Nat) : Int), ((y.1.2 : Nat) : Int)] := h
      have h' : TS.code 64 [((y.1.1 : Nat) : Int), ((y.1.2 : Nat) : Int)] ≤ TS.code 64 [((x.1.1 : Nat) : Int), ((x.1.2 : Nat) : Int)] := h'
      rw [code_pair, code_pair] at h h'
      exact uniq_key u mx my (Prod.ext (by omega) (by omega))
    · rw [List.pairwise_map]
      rw [List.pairwise_map] at pw
      refine pw.imp_of_mem fun {x y} hx hy h => ?_
      obtain ⟨b, hb, e1, _⟩ := kz x hx
      obtain ⟨c, hc, e2, _⟩ := kz y hy
      rw [e1, e2, ent_at u hb, ent_at u hc]
      rw [e1, e2] at h
      exact h
    · refine (sb_sorted D).imp_of_mem fun {x y} hx hy h => ?_
      have := W.rng x (sb_mem.mp hx)
      have := W.rng y (sb_mem.mp hy)
      show TS.code 64 [((x.1.1 : Nat) : Int), ((x.1.2 : Nat) : Int)] ≤ TS.code 64 [((y.1.1 : Nat) : Int), ((y.1.2 : Nat) : Int)]
      rw [code_pair, code_pair]
      have h := of_decide_eq_true h
      omega
  rw [← e0]
  refine A2.ofMap _ _ ps fun z hz' => ?_
  obtain ⟨b, hb, e1, e2⟩ := kz z hz'
  obtain ⟨q, h1, h2⟩ := hz z hz'
  rw [e1, ent_at u hb]
  refine ⟨z.1, q, z.2.2, rfl, h1, ⟨q, rfl, ?_⟩, e2⟩
  rw [e1] at h2
  exact h2
theorem items_dp {K : PySem.W.Frag} {H : Hp} : ∀ {xs : List V} {bo : BD}, A2 (ItemAt H) xs bo → DpAll K H xs (bo.map itemD)
  | _, _, .nil => .nil
  | _, _, .cons a r => by
    obtain ⟨t, q, l, rfl, h1, ⟨q', eq, h2⟩, h3⟩ := a
    injection eq with eq
    subst eq
    exact .cons (.tup (SqT.of h1) (.cons (.tup (SqT.of h2) (.cons (.int _) (.cons (.int _) .nil))) (.cons h3.dp .nil))) (items_dp r)
theorem items_shaped (bo : BD) : SeqAt.shaped (.list (bo.map itemD)) = true := (ok_list (n := 4) fun d hd => by
  obtain ⟨b, _, rfl⟩ := List.mem_map.mp hd
  refine ok_tuple (n := 3) fun x hx => ?_
  rcases List.mem_cons.mp hx with rfl | hx
  · exact ⟨(okD_pair _).1, Nat.le_trans (okD_pair _).2 (by decide)⟩
  · obtain rfl := List.mem_singleton.mp hx
    exact okD_pairs _).shaped (by decide)
end TA

set_option Elab.async false
set_option maxRecDepth 100000
set_option maxHeartbeats 4000000
namespace TA
open PySem PySem.Spec L2 PyProof.Rows LamX
set_option linter.unusedVariables false
structure KDef (P : Program) (w : World) (K : PySem.W.Frag) (mg : Str → Option Value) (base : Heap) (C : Addr) (x : Str) (ps : List Str) (k : Nat) (sp : Sp) (f : Addr) (fd : FuncData) : Prop where
  G : FnOk P w K mg base CX0 k f fd ps sp
  b : Binds K fd ps []
  M : Mk K C f
  m : mg x = some (.ref C)
theorem same_of_but {H H1 H2 : Hp} {p : Addr} (s : Same H H1) (n : H p = none) (b : But p H1 H2) : Same H H2 := fun x o h => b x o (fun c => by rw [c, n] at h; cases h) (s x o h)
theorem hu140_of' {A : Around} {k : Nat} (hr : Room k A) : A.units + 140 < cLine := by have := hr.un; omega
theorem sameTD_self (T : TD) : sameTD T T = true := by
  unfold sameTD sameB
  simp
theorem sameB_self (b : BD) : sameB b b = true := by
  unfold sameB
  simp
/-- the parts in view of the well -/
structure PartsV (st : Addr) (H : Hp) (A B : Addr) (T : TD) : Prop where
  al : AlAt (vw (pA st) H) (.ref A) T.al
  bo : ∃ kvs, H B = some (.dT kvs) ∧ A2 (EnAt (vw (pA st) H)) kvs T.bo
theorem PartsV.but {st : Addr} {H H' : Hp} {A B : Addr} {T : TD} {zs : List V} (h : PartsV st H A B T) (es : H st = some (.lst zs)) (b : But st H H') : PartsV st H' A B T := by
  obtain ⟨h1, kvs, h2, h3⟩ := h
  exact ⟨h1.mono (vwA_but b), kvs, b _ _ (ne_of h2 es (fun z => by cases z)) h2, h3.imp fun _ _ r => r.mono (vwA_but b)⟩
theorem PartsV.alr {st : Addr} {H : Hp} {A B : Addr} {T : TD} (h : PartsV st H A B T) : AlAt H (.ref A) T.al := h.al.mono kp_vw
theorem PartsV.bor {st : Addr} {H : Hp} {A B : Addr} {T : TD} (h : PartsV st H A B T) : BoAt H B T.bo := by
  obtain ⟨h1, kvs, h2, h3⟩ := h
  exact ⟨kvs, h2, h3.imp fun _ _ r => r.mono kp_vw⟩
/-- what Task(alone, both) makes -/
theorem NewAt.up {C : Addr} {G0 G H : Hp} {p dx : Addr} {T : TD} (h : NewAt C G H p T) (s : Same G0 G) : NewAt C G H p T := h
theorem keys_A2 {H : Hp} {T : TD} (W : WF T) {L : List (Addr × List Int)} (h1 : (L.map (·.2)).Perm (T.bo.map fun e => [((e.1.1 : Nat) : Int), ((e.1.2 : Nat) : Int)])) (h2 : L.Pairwise (fun q r => TS.code 64 q.2 ≤ TS.code 64 r.2)) (h3 : ∀ x ∈ L, H x.1 = some (.tup (x.2.map V.int))) :
    A2 (TpAt H) (L.map fun q => V.ref q.1) ((sb T).map fun e => iI e.1) := by
  have e := keys_sorted W h1 h2
  clear h1 h2
  generalize sb T = bo at e
  induction L generalizing bo with
  | nil =>
    cases bo with
    | nil => exact .nil
    | cons _ _ => cases e
  | cons x L ih =>
    cases bo with
    | nil => cases e
    | cons b bo =>
      rw [List.map_cons, List.map_cons] at e
      injection e with e1 e2
      refine .cons ⟨x.1, rfl, ?_⟩ (ih (fun y hy => h3 y (List.mem_cons_of_mem _ hy)) bo e2)
      rw [h3 x List.mem_cons_self, e1]
      rfl
theorem keys_bd {T : TD} (W : WF T) : ∀ ns ∈ T.bo.map (fun e => [((e.1.1 : Nat) : Int), ((e.1.2 : Nat) : Int)]), ns.length = 2 ∧ TS.Bd 64 ns := fun ns hns => by
  obtain ⟨e, he, rfl⟩ := List.mem_map.mp hns
  have := W.rng e he
  have := (W.n0 0 (by decide)).2
  have := (W.n0 1 (by decide)).2
  refine ⟨rfl, fun m hm => ?_⟩
  rcases List.mem_cons.mp hm with rfl | hm
  · omega
  · obtain rfl := List.mem_singleton.mp hm
    omega
theorem fl_no (a d : Addr) {m : Str} (h1 : ¬ m = "both") (h2 : ¬ m = "alone") : (flds a d).lookup m = none := flds_no a d h1 h2
theorem val_at2 {Hl G : Hp} : ∀ {kvs : List (List Key × V)} {bo : BD}, A2 (En2 Hl G) kvs bo → (bo.map (·.1)).Pairwise (· ≠ ·) → ∀ e ∈ bo, ∃ v, valV kvs (kI e.1) = some v ∧ Let2 Hl G v e.2
  | _, _, .nil, _, e, m => nomatch m
  | (k, v) :: kvs, b :: bo, .cons a r, s, e, m => by
    obtain ⟨ek, hl⟩ := a
    dsimp only at ek hl
    subst ek
    rw [List.map_cons, List.pairwise_cons] at s
    rcases List.mem_cons.mp m with rfl | m
    · exact ⟨v, valV_pos rfl, hl⟩
    · rw [valV_neg (fun h => s.1 _ (List.mem_map.mpr ⟨e, m, rfl⟩) (kI_inj h))]
      exact val_at2 r s.2 e m
theorem ne_lst {H : Hp} {a b : Addr} {xs ys : List V} (ha : H a = some (.lst xs)) (hb : H b = some (.lst ys)) (h : xs ≠ ys) : a ≠ b := fun c => by
  rw [c, hb] at ha
  injection ha with ha
  injection ha with ha
  exact h ha.symm
theorem KpS.dct {ns : List Int} {sc p : Addr} {kvs : List (List Key × V)} {H H' H'' : Hp} (k : KpS ns sc H H') (b : But p H' H'') (n : H' p = some (.dT kvs)) : KpS ns sc H H'' := fun o i h => by
  have h' := k o i h
  refine b _ _ (fun c => ?_) h'
  rw [c, n] at h'
  injection h' with h'
  rcases i with i | ⟨q, i⟩
  · rw [i] at h'; cases h'
  · rw [i] at h'; cases h'
/-- a nonempty list of pairs begins with a tuple -/
theorem tp_head {H : Hp} {xs : List V} {l : List (Int × Int)} (a : A2 (TpAt H) xs l) (h : 1 ≤ l.length) : ∃ t r y z, xs = .ref t :: r ∧ H t = some (.tup [.int y, .int z]) := by
  obtain ⟨x, xs', y, ys', rfl, rfl, t, rfl, ht⟩ := a2_snocR a h
  exact ⟨t, xs', _, _, rfl, ht⟩
/-- a nonempty list of rows begins with a list of ints -/
theorem row_head {H : Hp} {xs : List V} {l : List (List Int)} (a : A2 (RowAt H) xs l) (h : 1 ≤ l.length) (hr : ∀ r ∈ l, 1 ≤ r.length) : ∃ t r z zs, xs = .ref t :: r ∧ H t = some (.lst (.int z :: zs)) := by
  obtain ⟨x, xs', y, ys', rfl, rfl, t, rfl, ht⟩ := a2_snocR a h
  cases y with
  | nil => exact absurd (hr [] List.mem_cons_self) (by simp)
  | cons z zs => exact ⟨t, xs', z, zs.map V.int, rfl, ht⟩
def spLaw (K : PySem.W.Frag) : Sp := fun vs H Q _ => ∃ (a : Addr) (ns : List Int), vs = [.ref a] ∧ SqL K H a (ns.map V.int) ∧ ns.length ≤ 63 ∧ ∀ H', Q (.bl true) H'
section
variable {P : Program} {w : World} {K : PySem.W.Frag} {mg : Str → Option Value} {base : Heap}
abbrev nLaw : List Str := ["_law_script", "_law_k", "_law_state", "_law_alone", "_law_both", "_law_kept", "_law_task", "_law_other", "_law_rows", "_law_more", "_law_odd", "_law_again", "_law_pair", "_law_outs_here"]
theorem sc_law : FnScope nLaw ["_law_script"] (defScope sLaw) := ⟨rfl, rfl, rfl, by decide +kernel, rfl, by decide +kernel, by decide +kernel⟩
theorem ok_law {f g1 g2 g3 g4 g5 g6 g7 g8 g9 C : Addr} {fd d1 d2 d3 d4 d5 d6 d7 d8 d9 : FuncData} (F : Fun K "law" "law" sLaw f fd) (T : Txt K mg) (T2 : Txt2 K mg) (Z : TxtC K mg C) (EC : EqC K C) (Bs : Beside K C) (RP : mg "repr" = none) (Ca : Def P w K mg base "_law_cell_at" ["_law_script", "_law_k"] 1 (spCell K) g1 d1)
    (Pa : Def P w K mg base "_law_parts" ["_law_state", "_law_most"] 3 spParts g2 d2) (Tk : KDef P w K mg base C "Task" ["self", "alone", "both"] 7 (spInit K C) g3 d3) (EQ : EqD P w K mg base C 1 (spEq K C) g4 d4) (Inp : MDef P w K mg base C "inputs" nInputs 4 (spInputs K C) g5 d5) (Prs : MDef P w K mg base C "pairs" nPairs 1 (spPairs K C) g6 d6)
    (Ch : Def P w K mg base "_law_changed" ["_law_alone", "_law_both"] 2 (spChanged K) g7 d7) (Dg : Def P w K mg base "_law_digit" ["_law_state", "_law_base"] 1 spDigit g8 d8) (No : Def P w K mg base "_law_no_hand" ["_law_task", "_law_thing"] 5 (spNoHand K C) g9 d9) : Quiet P w K mg base 11 f fd ["_law_script"] (spLaw K) := by
  refine quiet_of F sc_law (fun vs H Q E h => ?_) (fun cdv A0 outer s H vs Q E hgu hr h => ?_)
  · obtain ⟨a, ns, rfl, _⟩ := h
    rfl
  obtain ⟨sc, ns, rfl, hS, h63, q⟩ := h
  have nd := sc_law.nd
  have hu := hu_of hr
  have hu65 := hu65_of hr
  have hu64 := hu64_of hr
  have hu140 := hu140_of' hr
  refine ⟨_, (pss_cons (ps_for PassesOwn.never (by rfl) (pi_range1 (by rfl) T.range (pa_cons (pe_callB (call_max2 rfl) (by rfl) T2.max (by decide +kernel) (pa_cons pe_int (pa_cons (pe_callB (call_min2 rfl) (by rfl) T.min (by decide +kernel) (pa_cons pe_int (pa_cons (pe_callB call_len_seq (by rfl) T.len PySem.boot_len (pa_cons (pv 0) pa_nil)) pa_nil))) pa_nil))) pa_nil)) (pg_name (i := 1) nd rfl (Or.inl rfl))
      (pss_cons (ps_set (i := 2) nd rfl (Or.inl rfl) (pe_lst (pa_cons (pe_op op_add (pe_call Ca.G (hr.mono (by decide)) rfl Ca.m Ca.k Ca.b .nil pass0 (pa_cons (pv 0) (pa_cons (pv 1) pa_nil))) (pe_op op_mul pe_int (pv 1))) pa_nil)))
    (pss_cons (ps_asg (pe_call Pa.G (hr.mono (by decide)) rfl Pa.m Pa.k Pa.b .nil pass0 (pa_cons (pv 2) (pa_cons pe_int pa_nil))) (pg_tup (by rfl) (pgs_cons (pg_name (i := 3) nd rfl (Or.inl rfl)) (pgs_cons (pg_name (i := 4) nd rfl (Or.inl rfl)) pgs_nil))))
    (pss_cons (ps_set (i := 5) nd rfl (Or.inl rfl) (pe_callB (call_reprX hgu (Nat.lt_of_succ_lt hu65)) (by rfl) RP (by decide +kernel) (pa_cons (pe_tup (pa_cons (pv 3) (pa_cons (pv 4) pa_nil))) pa_nil)))
    (pss_cons (ps_set (i := 6) nd rfl (Or.inl rfl) (pe_make Tk.M Tk.G (hr.mono (by decide)) (by rfl) Tk.m Tk.b .nil pass0 (pa_cons (pv 3) (pa_cons (pv 4) pa_nil))))
    (pss_cons (ps_set (i := 7) nd rfl (Or.inl rfl) (pe_make Tk.M Tk.G (hr.mono (by decide)) (by rfl) Tk.m Tk.b .nil pass0 (pa_cons (pv 3) (pa_cons (pv 4) pa_nil))))
    (pss_cons (ps_if (PW.pt (pw_or (pt_cmpR (op_neO EQ.G EQ.at_ EC.ne EC.ob EQ.fn EQ.b (hr.mono (by decide)) pass0) (pv 6) (pv 7) (nomark _)) (pw_or (pt_cmpR (op_neD hr.units) (pe_fld (pv 6) rfl) (pv 3) (nomark _)) (pw_or1 (pt_cmpR (op_neX hu140) (pe_fld (pv 6) rfl) (pv 4) (nomark _))))))
      (pss_one (ps_ret pe_bl))
      pss_nil)
    (pss_cons (ps_if (PW.pt (pw_or (pt_cmpR (op_neD hr.units) (pe_lst (pa_cons (pe_meth (pv 6) Z.cl Inp.M Inp.G (hr.mono (by decide)) Inp.b .nil pass0 (pa_cons pe_int pa_nil)) (pa_cons (pe_meth (pv 6) Z.cl Inp.M Inp.G (hr.mono (by decide)) Inp.b .nil pass0 (pa_cons pe_int pa_nil)) pa_nil))) (pe_lst (pa_cons (pe_callB call_len_seq (by rfl) T.len PySem.boot_len (pa_cons (pe_ix ix_list (pv 3) pe_int (fun _ _ => rfl)) pa_nil)) (pa_cons (pe_callB call_len_seq (by rfl) T.len PySem.boot_len (pa_cons (pe_ix ix_list (pv 3) pe_int (fun _ _ => rfl)) pa_nil)) pa_nil))) (nomark _)) (pw_or1 (pt_cmpR (op_neD hr.units) (pe_meth0 (pv 6) Z.cl Prs.M Prs.G (hr.mono (by decide)) Prs.b .nil pass0) (pe_callB (cr_sortedDT (d := 2) (B := 64) (by decide) rfl) (by rfl) T2.sorted (by decide +kernel) (pa_cons (pv 4) pa_nil)) (nomark _)))))
      (pss_one (ps_ret pe_bl))
      pss_nil)
    (pss_cons (ps_expr (pe_bm0 PySem.F.plainAttrs_list PySem.F.slot_list_clear PySem.F.type_list_clear mt_clear (pe_meth0 (pv 6) Z.cl Prs.M Prs.G (hr.mono (by decide)) Prs.b .nil pass0)))
    (pss_cons (ps_for PassesOwn.never (by rfl) (pi_list (pe_call Ch.G (hr.mono (by decide)) rfl Ch.m Ch.k Ch.b .nil pass0 (pa_cons (pv 3) (pa_cons (pv 4) pa_nil)))) (pg_tup (by rfl) (pgs_cons (pg_name (i := 8) nd rfl (Or.inl rfl)) (pgs_cons (pg_name (i := 9) nd rfl (Or.inl rfl)) pgs_nil)))
      (pss_one (ps_if (pt_cmpR (op_eqO EQ.G EQ.at_ EQ.fn EQ.b (hr.mono (by decide)) pass0) (pe_make Tk.M Tk.G (hr.mono (by decide)) (by rfl) Tk.m Tk.b .nil pass0 (pa_cons (pv 8) (pa_cons (pv 9) pa_nil))) (pv 6) (nomark _))
      (pss_one (ps_ret pe_bl))
      pss_nil)))
    (pss_cons (ps_set (i := 10) nd rfl (Or.inl rfl) (pe_ix ix_list (pe_lst (pa_cons pe_int (pa_cons (pe_un un_neg pe_int) (pa_cons pe_bl (pa_cons pe_non (pa_cons pe_str pa_nil)))))) (pe_call Dg.G (hr.mono (by decide)) rfl Dg.m Dg.k Dg.b .nil pass0 (pa_cons (pv 2) (pa_cons pe_int pa_nil))) (fun _ _ => rfl)))
    (pss_cons (ps_if (PW.pt (pw_or (pt_cmpR (op_inOwn EQ.G EQ.at_ EQ.fn EQ.b Bs (hr.mono (by decide)) pass0) (pv 6) (pe_lst (pa_cons pe_non (pa_cons (pv 3) (pa_cons (pv 4) (pa_cons (pe_tup (pa_cons (pv 3) (pa_cons (pv 4) pa_nil))) pa_nil))))) (by rfl)) (pw_or1 (pt_not (pt_val (pe_call No.G (hr.mono (by decide)) rfl No.m No.k No.b .nil pass0 (pa_cons (pv 6) (pa_cons (pv 10) pa_nil))))))))
      (pss_one (ps_ret pe_bl))
      pss_nil)
    (pss_cons (ps_set (i := 11) nd rfl (Or.inl rfl) (pe_make Tk.M Tk.G (hr.mono (by decide)) (by rfl) Tk.m Tk.b .nil pass0 (pa_cons (pe_fld (pv 6) rfl) (pa_cons (pe_fld (pv 6) rfl) pa_nil))))
    (pss_cons (ps_set (i := 12) nd rfl (Or.inl rfl) (pe_ix ix_list (pe_callB (cr_sortedDT (d := 2) (B := 64) (by decide) rfl) (by rfl) T2.sorted (by decide +kernel) (pa_cons (pv 4) pa_nil)) (pe_call Dg.G (hr.mono (by decide)) rfl Dg.m Dg.k Dg.b .nil pass0 (pa_cons (pv 2) (pa_cons (pe_callB call_len_dT (by rfl) T.len PySem.boot_len (pa_cons (pv 4) pa_nil)) pa_nil))) (fun _ _ => rfl)))
    (pss_cons (ps_set (i := 13) nd rfl (Or.inl rfl) (pe_callTy call_list_of (by rfl) T.list boot_list (pa_cons (pe_dget hu (pv 4) (pv 12) (fun _ _ => rfl)) pa_nil)))
    (pss_cons (ps_expr (pe_bm PySem.F.plainAttrs_list PySem.F.slot_list_append PySem.F.type_list_append mt_append (pe_dget hu (pe_fld (pv 6) rfl) (pv 12) (fun _ _ => rfl)) (pa_cons (pe_tup (pa_cons pe_int (pa_cons pe_int pa_nil))) pa_nil)))
    (pss_cons (ps_expr (pe_bm PySem.F.plainAttrs_list PySem.F.slot_list_append PySem.F.type_list_append mt_append (pe_dget hu (pv 4) (pv 12) (fun _ _ => rfl)) (pa_cons (pe_tup (pa_cons pe_int (pa_cons pe_int pa_nil))) pa_nil)))
    (pss_cons (ps_if (PW.pt (pw_or (pt_cmpR (op_neD hr.units) (pe_dget hu (pe_fld (pv 7) rfl) (pv 12) (fun _ _ => rfl)) (pv 13) (nomark _)) (pw_or (pt_cmpR (op_neD hr.units) (pe_dget hu (pe_fld (pv 11) rfl) (pv 12) (fun _ _ => rfl)) (pv 13) (nomark _)) (pw_or1 (pt_cmpR (op_neD hr.units) (pe_dget hu (pv 4) (pv 12) (fun _ _ => rfl)) (pe_op op_cat (pv 13) (pe_lst (pa_cons (pe_tup (pa_cons pe_int (pa_cons pe_int pa_nil))) pa_nil))) (nomark _))))))
      (pss_one (ps_ret pe_bl))
      pss_nil)
    (pss_cons (ps_expr (pe_bm PySem.F.plainAttrs_list PySem.F.slot_list_append PySem.F.type_list_append mt_append (pe_ix ix_list (pe_ix ix_list (pe_fld (pv 6) rfl) pe_int (fun _ _ => rfl)) pe_int (fun _ _ => rfl)) (pa_cons pe_int pa_nil)))
    (pss_cons (ps_dput hu (pe_fld (pv 6) rfl) (pe_tup (pa_cons pe_int (pa_cons pe_int pa_nil))) (pe_lst pa_nil) rfl)
    (pss_cons (ps_expr (pe_bm0 PySem.F.plainAttrs_list PySem.F.slot_list_clear PySem.F.type_list_clear mt_clear (pe_ix ix_list (pv 3) pe_int (fun _ _ => rfl))))
    (pss_cons (ps_expr (pe_bm0 PySem.F.plainAttrs_dict PySem.F.slot_dict_clear PySem.F.type_dict_clear mt_clearT (pv 4)))
    (pss_cons (ps_if (PW.pt (pw_or (pt_cmpR (op_neD hr.units) (pe_fld (pv 7) rfl) (pe_fld (pv 11) rfl) (nomark _)) (pw_or1 (pt_cmpR (op_neD hr.units) (pe_callB (cr_sortedIV rfl hu64) (by rfl) T2.sorted (by decide +kernel) (pa_cons (pe_bm0 PySem.F.plainAttrs_dict PySem.F.slot_dict_items PySem.F.type_dict_items L2.DX.mt_itemsT (pe_fld (pv 7) rfl)) pa_nil)) (pe_callB (cr_sortedIV rfl hu64) (by rfl) T2.sorted (by decide +kernel) (pa_cons (pe_bm0 PySem.F.plainAttrs_dict PySem.F.slot_dict_items PySem.F.type_dict_items L2.DX.mt_itemsT (pe_fld (pv 11) rfl)) pa_nil)) (nomark _)))))
      (pss_one (ps_ret pe_bl))
      pss_nil)
    (pss_one (ps_if (PW.pt (pw_or (pt_cmpR (op_neO EQ.G EQ.at_ EC.ne EC.ob EQ.fn EQ.b (hr.mono (by decide)) pass0) (pv 7) (pv 11) (nomark _)) (pw_or1 (pt_cmpR op_eq (pe_callB (call_reprX hgu (Nat.lt_of_succ_lt hu65)) (by rfl) RP (by decide +kernel) (pa_cons (pe_tup (pa_cons (pv 3) (pa_cons (pv 4) pa_nil))) pa_nil)) (pv 5) (nomark _)))))
      (pss_one (ps_ret pe_bl))
      pss_nil)))))))))))))))))))))))))
    (pss_one (ps_ret pe_bl))), ?_⟩
  refine ⟨_, rfl, sc, _, rfl, .inl hS, _, _, rfl, _, _, rfl, _, rfl, ?_, ?_, ?_⟩
  · refine Int.le_trans (show (-(2 ^ 62) : Int) ≤ 1 by decide) ?_
    split <;> omega
  · refine Int.lt_of_le_of_lt (b := 16) ?_ (by decide)
    split <;> split <;> omega
  refine for_range (n := _) (fun i σ H' => i ≤ 16 ∧ ∃ g1 g2 g3 g4 g5 g6 g7 g8 g9 g10 g11 g12 g13, σ = [some (.ref sc), g1, g2, g3, g4, g5, g6, g7, g8, g9, g10, g11, g12, g13] ∧ SqL K H' sc (ns.map V.int)) ⟨Nat.zero_le _, _, _, _, _, _, _, _, _, _, _, _, _, _, rfl, hS⟩ ?_ ?_
  rotate_left
  · rintro σ H' ⟨_, _, _, _, _, _, _, _, _, _, _, _, _, _, rfl, _⟩
    exact q _
  rintro i σ H hi ⟨_, k1, k2, k3, k4, k5, k6, k7, k8, k9, k10, k11, k12, k13, rfl, hS⟩
  have hi16 : i + 1 ≤ 16 := by
    refine Nat.lt_of_lt_of_le hi ?_
    refine Int.toNat_le.mpr ?_
    split <;> split <;> omega
  clear hi
  have ej : (0 : Int) + (i : Int) = (i : Int) := by omega
  rw [ej]
  refine ⟨_, rfl, _, rfl, sc, ns, (i : Int), rfl, hS, by omega, by omega, fun c => ?_⟩
  refine ⟨_, rfl, _, _, rfl, rfl, .inl ⟨by decide, by decide⟩, _, _, rfl, rfl, (by show 1 ≤ sizeLine; decide), fun st hst => ?_⟩
  have t1 := same_new hst (.lst [V.int (c + 17 * (i : Int))])
  have es1 : (upd H st (.lst [V.int (c + 17 * (i : Int))])) st = some (.lst [V.int (c + 17 * (i : Int))]) := upd_same
  have ks : KpS ns sc H H := KpS.refl
  have ks := ks.same t1
  generalize upd H st (.lst [V.int (c + 17 * (i : Int))]) = H1 at t1 es1 ks ⊢
  refine ⟨_, rfl, st, 0, 3, rfl, .inl ⟨_, es1⟩, by decide, by decide, by decide, by decide, fun u A B D H2 b2 un An Bn hu' hA hB w2 hW hn3 hfew hlets hmany => ?_⟩
  have ks := ks.new b2 hst
  refine ⟨u, _, rfl, SqT.of hu', rfl, _, _, rfl, _, _, rfl, rfl, ?_⟩
  have hF : Fine D := ⟨hW, hfew, hlets, hmany⟩
  have hPV : PartsV st H2 A B D := ⟨hA, hB⟩
  obtain ⟨z2, es2⟩ := w2.lst
  have hne : D.bo ≠ [] := fun c => by
    obtain ⟨e, he, _⟩ := hW.com0 0 (hW.n0 0 (by decide)).1
    rw [c] at he
    cases he
  -- the text kept
  refine ⟨_, rfl, _, rfl, (by show 2 ≤ sizeLine; decide), fun v hv => ?_⟩
  have s23 := same_new hv (.tup [V.ref A, V.ref B])
  have ev : (upd H2 v (.tup [V.ref A, V.ref B])) v = some (.tup [V.ref A, V.ref B]) := upd_same
  generalize upd H2 v (.tup [V.ref A, V.ref B]) = H3 at s23 ev ⊢
  have hPV3 := hPV.but es2 (.same s23)
  have hty : Tiny (.tuple [alD D.al, bothD D.bo]) 130000 6 := by
    refine (tiny_tuple (w := 60000) (m := 2) (n := 4) (fun d hd => ?_) (Nat.le_refl _)).up (by decide) (by decide)
    rcases List.mem_cons.mp hd with rfl | hd
    · exact (tiny_al hW.al).up (by decide) (by decide)
    · obtain rfl := List.mem_singleton.mp hd
      exact tiny_both hW
  obtain ⟨_, kvs, hdB, hEB⟩ := hPV3
  refine ⟨v, _, [alD D.al, bothD D.bo], rfl, SqT.of ev, .cons (.flat (AlAt.dp (hPV.but es2 (.same s23)).alr) (nd_al _)) (.cons (both_dx hdB (hEB.imp fun _ _ r => r.mono kp_vw)) .nil), hty.s, Nat.le_trans hty.d (by decide), tiny_shown hty (by decide), ?_⟩
  have ks := ks.same s23
  have hPV := hPV.but es2 (.same s23)
  have w3 := w2.same s23
  obtain ⟨z3, es3⟩ := w3.lst
  obtain ⟨hv3, kvs3, hB3, hE3⟩ := id hPV
  obtain ⟨ta3, y0, y1, eta3, hA3, ⟨q0, zs0, rfl, hq0, az0⟩, ⟨q1, zs1, rfl, hq1, az1⟩⟩ := hv3
  obtain rfl : A = ta3 := by injection eta3
  have bc : But st H3 H3 := .same (Same.refl _)
  have b03 : But st H H3 := ((But.same t1).trans b2).trans (.same s23)
  have g12 : ∀ x o, H3 x = some o → H3 x = some o := fun _ _ h => h
  clear es2 w2 z2 s23 ev hv hA hB es1 t1 b2 hu' un hfew hlets hmany hty eta3 g12
  -- the task
  refine ⟨_, rfl, _, rfl, fun p1 dx1 hx hdx ne => ?_⟩
  have sx : Same H3 (upd (upd H3 dx1 (.own p1)) p1 (.ins C dx1 [])) := (same_new hdx _).trans (same_new (by rw [upd_ne (Ne.symm ne)]; exact hx) _)
  have ex := upd_same (H := upd H3 dx1 (.own p1)) (a := p1) (o := .ins C dx1 [])
  generalize upd (upd H3 dx1 (.own p1)) p1 (.ins C dx1 []) = G1 at sx ex ⊢
  refine ⟨p1, dx1, A, B, D, rfl, ex, hPV.alr.mono (.same sx), hPV.bor.mono sx, hW, fun H4 b4 n1 => ⟨rfl, ?_⟩⟩
  have s34 : Same H3 H4 := same_of_but sx hx b4
  have hPV := hPV.but es3 (.same s34)
  have w4 := w3.same s34
  have ks := ks.same s34
  have es4 := s34 _ _ es3
  have sG1 := sx
  have eG1 := ex
  have bG1 := b4
  have n14 := n1
  have bd : But st H4 H4 := .same (Same.refl _)
  have gst1 : G1 st ≠ none := by rw [sG1 _ _ es3]; exact fun c => nomatch c
  have bc := bc.trans (.same s34)
  clear hdx ne sx ex b4 hdB hEB
  -- another
  refine ⟨_, rfl, _, rfl, fun p2 dx2 hx2 hdx ne => ?_⟩
  have sx : Same H4 (upd (upd H4 dx2 (.own p2)) p2 (.ins C dx2 [])) := (same_new hdx _).trans (same_new (by rw [upd_ne (Ne.symm ne)]; exact hx2) _)
  have ex := upd_same (H := upd H4 dx2 (.own p2)) (a := p2) (o := .ins C dx2 [])
  generalize upd (upd H4 dx2 (.own p2)) p2 (.ins C dx2 []) = G2 at sx ex ⊢
  refine ⟨p2, dx2, A, B, D, rfl, ex, hPV.alr.mono (.same sx), hPV.bor.mono sx, hW, fun H5 b5 n2 => ⟨rfl, ?_⟩⟩
  have s45 : Same H4 H5 := same_of_but sx hx2 b5
  have sG2 : Same H3 G2 := s34.trans sx
  have s4G2 := sx
  have gst2 : G2 st ≠ none := by rw [sx _ _ es4]; exact fun c => nomatch c
  have bc := bc.trans (.same s45)
  have bd := bd.trans (.same s45)
  have hPV := hPV.but es4 (.same s45)
  have w5 := w4.same s45
  have ks := ks.same s45
  have es5 := s45 _ _ es4
  have n1 := n1.kf (Kf.same s45)
  have hT1 := n1.task
  have hT2 := n2.task
  have es3' := es3
  clear hdx ne sx ex b5 es3 es4 w3 w4
  have uD : uniq D.bo := hW.srt
  -- equal to each other and to what was handed in
  obtain ⟨dy1, a1, d1, e1, hA1, hB1⟩ := id hT1
  obtain ⟨dy2, a2, d2, e2, hA2, hB2⟩ := id hT2
  refine ⟨_, rfl, _, rfl, p1, _, _, p2, _, _, rfl, rfl, e1, e2, p1, .ref p2, D, rfl, hT1, uD, .inl ⟨p2, D, rfl, hT2, uD, _, rfl, _, rfl, ?_⟩⟩
  rw [sameTD_self]
  refine iteF ?_
  refine ⟨_, rfl, p1, C, dy1, _, _, rfl, e1, Z.cl, Z.nA, flds_alone _ _, _, rfl, alD D.al, alD D.al, hA1.dp, hPV.alr.dp, (okD_al _).shaped (by decide), (okD_al _).shaped (by decide), _, rfl, ?_⟩
  rw [SeqAt.eqv_refl _ (SeqAt.canLay_of_shaped ((okD_al _).shaped (by decide)))]
  refine iteF ?_
  refine ⟨_, rfl, p1, C, dy1, _, _, rfl, e1, Z.cl, Z.nB, flds_both _ _, _, rfl, 1, _, by decide, rcx_bo hB1 hPV.bor uD uD, _, rfl, ?_⟩
  rw [sameB_self]
  refine iteF ?_
  -- inputs and pairs
  have lk1 : (flds a1 d1).lookup ("inputs" : Str) = none := flds_no _ _ (by decide +kernel) (by decide +kernel)
  have lk2 : (flds a1 d1).lookup ("pairs" : Str) = none := flds_no _ _ (by decide +kernel) (by decide +kernel)
  obtain ⟨hAv, kvs, hdB, hEB⟩ := id hPV
  obtain ⟨ta, y0, y1, eta, hta, ⟨r0, xs0, rfl, hr0, ax0⟩, ⟨r1, xs1, rfl, hr1, ax1⟩⟩ := hAv
  obtain rfl : A = ta := by injection eta
  have hta5 := (vw_some hta).2
  have hr05 := (vw_some hr0).2
  have hr15 := (vw_some hr1).2
  refine ⟨_, rfl, p1, _, _, rfl, e1, lk1, p1, 0, D, rfl, by decide, hT1.r, _, rfl, p1, _, _, rfl, e1, lk1, p1, 1, D, rfl, by decide, hT1.r, (by show 2 ≤ sizeLine; decide), fun L1 hL1 => ?_⟩
  have t1 := same_new hL1 (.lst [V.int ((D.al 0).length : Int), V.int ((D.al 1).length : Int)])
  have eL1 := upd_same (H := H5) (a := L1) (o := .lst [V.int ((D.al 0).length : Int), V.int ((D.al 1).length : Int)])
  generalize upd H5 L1 (.lst [V.int ((D.al 0).length : Int), V.int ((D.al 1).length : Int)]) = H6 at t1 eL1 ⊢
  refine ⟨_, rfl, A, _, _, .ref r0, rfl, rfl, SqL.of (t1 _ _ hta5), (by rfl), r0, _, rfl, .inl (SqL.of (t1 _ _ hr05)), _, rfl, A, _, _, .ref r1, rfl, rfl, SqL.of (t1 _ _ hta5), (by rfl), r1, _, rfl, .inl (SqL.of (t1 _ _ hr15)), (by show 2 ≤ sizeLine; decide), fun L2 hL2 => ?_⟩
  rw [ax0.len, ax1.len] at *
  have t2 := same_new hL2 (.lst [V.int ((D.al 0).length : Int), V.int ((D.al 1).length : Int)])
  have eL2 := upd_same (H := H6) (a := L2) (o := .lst [V.int ((D.al 0).length : Int), V.int ((D.al 1).length : Int)])
  have shp : SeqAt.shaped (PyData.list [.int ((D.al 0).length : Int), .int ((D.al 1).length : Int)]) = true := (ok_list (n := 1) (fun d hd => by
    rcases List.mem_cons.mp hd with rfl | hd
    · exact ok_int _
    · obtain rfl := List.mem_singleton.mp hd
      exact ok_int _)).shaped (by decide)
  refine ⟨PyData.list [.int ((D.al 0).length : Int), .int ((D.al 1).length : Int)], PyData.list [.int ((D.al 0).length : Int), .int ((D.al 1).length : Int)], .lst (SqL.of (t2 _ _ eL1)) (.cons (.int _) (.cons (.int _) .nil)), .lst (SqL.of eL2) (.cons (.int _) (.cons (.int _) .nil)), shp, shp, _, rfl, ?_⟩
  rw [SeqAt.eqv_refl _ (SeqAt.canLay_of_shaped shp)]
  refine iteF ?_
  generalize upd H6 L2 (.lst [V.int ((D.al 0).length : Int), V.int ((D.al 1).length : Int)]) = H7 at t2 eL2 ⊢
  have s57 := t1.trans t2
  have hB7 := s57 _ _ hdB
  have hE7 : A2 (EnAt H7) kvs D.bo := hEB.imp fun _ _ r => r.mono ((Kp.trans kp_vw (.same s57)))
  refine ⟨_, rfl, p1, _, _, rfl, s57 _ _ e1, lk2, p1, D, rfl, hT1.mono s57, hW, fun r xr hr ar => ?_⟩
  have t8 := same_new hr (.lst xr)
  have er := upd_same (H := H7) (a := r) (o := .lst xr)
  generalize upd H7 r (.lst xr) = H8 at t8 er ⊢
  refine ⟨_, rfl, B, kvs, D.bo.map (fun e => [((e.1.1 : Nat) : Int), ((e.1.2 : Nat) : Int)]), rfl, .inl (t8 _ _ hB7), ?_, by rw [List.length_map]; have := hF.many; omega, keys_bd hW, fun L o h1 h2 h3 ho => ?_⟩
  · rw [keys_of hE7, List.map_map, List.map_map]
    rfl
  have t9 := same_new ho (.lst (L.map fun q => V.ref q.1))
  have eo := upd_same (H := H8) (a := o) (o := .lst (L.map fun q => V.ref q.1))
  have al9 := keys_A2 (H := upd H8 o (.lst (L.map fun q => V.ref q.1))) hW h1 h2 fun x hx => t9 _ _ (h3 x hx)
  generalize upd H8 o (.lst (L.map fun q => V.ref q.1)) = H9 at t9 eo al9 ⊢
  have ar9 : LetAt H9 (.ref r) ((sb D).map fun e => iI e.1) := ⟨r, xr, rfl, t9 _ _ er, ar.imp fun _ _ q => q.mono (.same (t8.trans t9))⟩
  have ao9 : LetAt H9 (.ref o) ((sb D).map fun e => iI e.1) := ⟨o, _, rfl, eo, al9⟩
  have sh9 : SeqAt.shaped (letD ((sb D).map fun e => iI e.1)) = true := (okD_pairs _).shaped (by decide)
  refine ⟨letD ((sb D).map fun e => iI e.1), letD ((sb D).map fun e => iI e.1), ar9.dp, ao9.dp, sh9, sh9, _, rfl, ?_⟩
  rw [SeqAt.eqv_refl _ (SeqAt.canLay_of_shaped sh9)]
  refine iteF ?_
  have s59 := (s57.trans t8).trans t9
  -- pairs told anew, and cleared
  refine ⟨_, rfl, p1, _, _, rfl, s59 _ _ e1, lk2, p1, D, rfl, hT1.mono s59, hW, fun r xr hr ar => ?_⟩
  have t10 := same_new hr (.lst xr)
  have er := upd_same (H := H9) (a := r) (o := .lst xr)
  have hr9 := hr
  generalize upd H9 r (.lst xr) = H10 at t10 er ⊢
  refine ⟨.inl ⟨rfl, _, SqL.of er⟩, r, xr, rfl, rfl, er, ?_⟩
  have t11 : Same H9 (upd H10 r (.lst [])) := same_upd t10 hr9
  generalize upd H10 r (.lst []) = H11 at t11 ⊢
  have s511 := s59.trans t11
  have bc := bc.trans (.same s511)
  have bd := bd.trans (.same s511)
  have hPV := hPV.but es5 (.same s511)
  have w11 := w5.same s511
  have ks := ks.same s511
  have es11 := s511 _ _ es5
  have n1 := n1.kf (Kf.same s511)
  have n2 := n2.kf (Kf.same s511)
  have e1 := s511 _ _ e1
  clear er hr ar t10 t11 s59 s57 ar9 ao9 sh9 al9 eo t9 ho h1 h2 h3 t8 t1 t2 eL1 eL2 hL1 hL2 hB7 hE7 hr9 hta hta5 hr0 hr1 hr05 hr15 ax0 ax1 eta hEB hdB hA1 hA2 hB1 hB2 hT1 hT2 shp w5 es5
  -- changed parts make another task
  refine ⟨_, rfl, _, rfl, A, B, D, rfl, hPV.alr, hPV.bor, hF, fun pF items H12 t12 hF12 hlen hit => ?_⟩
  refine ⟨pF, rfl, ⟨_, SqL.of hF12⟩, for_list (K := K) (a := pF) (xs := items) (fun j σ H' => ∃ g8 g9 g10 g11 g12 g13, σ = [some (.ref sc), some (.int (i : Int)), some (.ref st), some (.ref A), some (.ref B), some (.str (PyData.tuple [alD D.al, bothD D.bo]).shown), some (.ref p1), some (.ref p2), g8, g9, g10, g11, g12, g13] ∧ Same H12 H') ⟨_, _, _, _, _, _, rfl, Same.refl _⟩ ?_ ?_ ?_⟩
  · rintro j σ H' _ ⟨_, _, _, _, _, _, _, h⟩
    exact SqL.of (h _ _ hF12)
  · rintro j x σ H' hx ⟨g8, g9, g10, g11, g12, g13, rfl, hs⟩
    obtain ⟨t, a, d, U, rfl, h1, h2, h3, h4, h5⟩ := (hit x (List.mem_of_getElem? hx)).mono hs
    refine ⟨t, _, rfl, SqT.of h1, rfl, _, _, rfl, _, _, rfl, rfl, ?_⟩
    refine ⟨_, rfl, _, rfl, fun px dx hx hdx ne => ?_⟩
    have sx : Same H' (upd (upd H' dx (.own px)) px (.ins C dx [])) := (same_new hdx _).trans (same_new (by rw [upd_ne (Ne.symm ne)]; exact hx) _)
    have ex := upd_same (H := upd H' dx (.own px)) (a := px) (o := .ins C dx [])
    generalize upd (upd H' dx (.own px)) px (.ins C dx []) = Gx at sx ex ⊢
    refine ⟨px, dx, a, d, U, rfl, ex, h2.mono (.same sx), h3.mono sx, h4, fun Hx bx nx => ⟨rfl, ?_⟩⟩
    have s1x : Same H' Hx := same_of_but sx hx bx
    obtain ⟨dq, aq, dqq, eq, _, _⟩ := id nx.task
    have s11x := (t12.trans hs).trans s1x
    refine ⟨_, rfl, px, _, _, p1, _, _, rfl, rfl, eq, s11x _ _ e1, px, .ref p1, U, rfl, nx.task, h4.srt, .inl ⟨p1, D, rfl, n1.task.mono s11x, uD, _, rfl, _, rfl, ?_⟩⟩
    rw [h5]
    exact iteF ⟨_, _, _, _, _, _, rfl, hs.trans s1x⟩
  rintro σ H13 ⟨g8, g9, g10, g11, g12, g13, rfl, t13⟩
  have s1113 := t12.trans t13
  have bc := bc.trans (.same s1113)
  have bd := bd.trans (.same s1113)
  have hPV := hPV.but es11 (.same s1113)
  have w13 := w11.same s1113
  have ks := ks.same s1113
  have es13 := s1113 _ _ es11
  have n1 := n1.kf (Kf.same s1113)
  have n2 := n2.kf (Kf.same s1113)
  have e1 := s1113 _ _ e1
  clear t12 t13 s1113 hit hF12 w11 es11
  -- no hand
  refine ⟨_, rfl, (by show 5 ≤ sizeLine; decide), fun L hL => ?_⟩
  have t14 := same_new hL (.lst [V.int 2, V.int (-1), V.bl true, V.non, V.str "0"])
  have eL := upd_same (H := H13) (a := L) (o := .lst [V.int 2, V.int (-1), V.bl true, V.non, V.str "0"])
  have w14 := w13.same t14
  refine ⟨_, rfl, st, _, 5, rfl, .inr w14, by decide, by decide, by decide, by decide, fun z H15 z0 z1 b15 w15 => ?_⟩
  obtain ⟨k, rfl, hk⟩ : ∃ k : Nat, z = (k : Int) ∧ k < 5 := ⟨z.toNat, by omega, by omega⟩
  obtain ⟨ov, od, hov, hdp, hwi⟩ : ∃ (ov : V) (od : PyData), ([V.int 2, V.int (-1), V.bl true, V.non, V.str "0"] : List V)[k]? = some ov ∧ (∀ H', Dp K H' ov od) ∧ within od 0 1 = false := by
    match k, hk with
    | 0, _ => exact ⟨_, .int 2, rfl, fun _ => .int _, by decide +kernel⟩
    | 1, _ => exact ⟨_, .int (-1), rfl, fun _ => .int _, by decide +kernel⟩
    | 2, _ => exact ⟨_, .bool true, rfl, fun _ => .bl _, by decide +kernel⟩
    | 3, _ => exact ⟨_, .none, rfl, fun _ => .non, by decide +kernel⟩
    | 4, _ => exact ⟨_, .str "0", rfl, fun _ => .str _, by decide +kernel⟩
  have nLst : L ≠ st := w13.ne hL |>.symm
  have hPV14 := hPV.but es13 (.same t14)
  have es14 := t14 _ _ es13
  refine ⟨L, _, _, ov, rfl, rfl, SqL.of (b15 _ _ nLst eL), atI_nat hov, ?_⟩
  have b1315 : But st H13 H15 := (But.same t14).trans b15
  have bc := bc.trans b1315
  have bd := bd.trans b1315
  have hPV := hPV.but es13 b1315
  have ks := (ks.same t14).new b15 hst
  have n1 := n1.kf ((Kf.same t14).trans (Kf.lst b15 es14 gst1))
  have n2 := n2.kf ((Kf.same t14).trans (Kf.lst b15 es14 gst2))
  obtain ⟨z15, es15⟩ := w15.lst
  obtain ⟨dz1, b1, c1, kv1, e1, fA1, fd1n, fd1, fE1⟩ := id n1
  have lk1 : (flds b1 c1).lookup ("inputs" : Str) = none := flds_no _ _ (by decide +kernel) (by decide +kernel)
  have hT1 := n1.task
  refine ⟨_, rfl, _, rfl, _, rfl, _, rfl, _, rfl, (by show 2 ≤ sizeLine; decide), fun tp htp => ⟨(by show 4 ≤ sizeLine; decide), fun L2 hL2 => ?_⟩⟩
  have t16 := same_new htp (.tup [V.ref A, V.ref B])
  have et16 := upd_same (H := H15) (a := tp) (o := .tup [V.ref A, V.ref B])
  have t17 := same_new hL2 (.lst [V.non, V.ref A, V.ref B, V.ref tp])
  have eL2 := upd_same (H := upd H15 tp (.tup [V.ref A, V.ref B])) (a := L2) (o := .lst [V.non, V.ref A, V.ref B, V.ref tp])
  have et17 := t17 _ _ et16
  have t1517 := t16.trans t17
  generalize upd (upd H15 tp (.tup [V.ref A, V.ref B])) L2 (.lst [V.non, V.ref A, V.ref B, V.ref tp]) = H17 at t17 eL2 et17 t1517 ⊢
  have nAst : A ≠ st := pA_ok.mp (vw_some hA3).1
  have hA17 := t1517 _ _ (bc _ _ nAst (vw_some hA3).2)
  have nBst : B ≠ st := fun c => by rw [c, es3'] at hB3; cases hB3
  have hB17 := t1517 _ _ (bc _ _ nBst hB3)
  have hT17 := hT1.mono t1517
  refine ⟨p1, _, _, L2, _, rfl, rfl, t1517 _ _ e1, eL2, fun v hv => ?_, _, rfl, iteF ?_⟩
  · have hn : NoT H17 v := by
      rcases List.mem_cons.mp hv with rfl | hv
      · exact .inl rfl
      rcases List.mem_cons.mp hv with rfl | hv
      · exact .inr ⟨A, rfl, .inl ⟨_, hA17⟩⟩
      rcases List.mem_cons.mp hv with rfl | hv
      · exact .inr ⟨B, rfl, .inr (.inr ⟨_, hB17⟩)⟩
      · obtain rfl := List.mem_singleton.mp hv
        exact .inr ⟨tp, rfl, .inr (.inl ⟨_, et17⟩)⟩
    exact ⟨hn, p1, v, D, rfl, hT17, uD, .inr ⟨hn, rfl, rfl⟩⟩
  refine ⟨_, rfl, _, rfl, p1, _, _, ov, od, rfl, t1517 _ _ e1, lk1, hdp _, hwi, fun H18 t18 => ⟨true, rfl, iteF ?_⟩⟩
  have t1518 := t1517.trans t18
  have bc := bc.trans (.same t1518)
  have bd := bd.trans (.same t1518)
  have bd18 := bd
  have bc18 := bc
  have hPV := hPV.but es15 (.same t1518)
  have ks := ks.same t1518
  have n1 := n1.kf (Kf.same t1518)
  have n2 := n2.kf (Kf.same t1518)
  have w18 := w15.same t1518
  have es18 := t1518 _ _ es15
  have e1 := t1518 _ _ e1
  have hT1 := hT1.mono t1518
  clear hT17 hA17 hB17 et17 eL2 et16 t16 t17 t18 t1517 t1518 htp hL2 hL eL w13 w14 es13 es14 b15 b1315 t14 hPV14 w15 es15
  -- made of its own fields
  obtain ⟨dv1, av1, cv1, ev1, hAl1, hBo1⟩ := id hT1
  refine ⟨_, rfl, p1, C, _, _, _, rfl, ev1, Z.cl, Z.nA, flds_alone _ _, _, rfl, p1, C, _, _, _, rfl, ev1, Z.cl, Z.nB, flds_both _ _, fun p3 dx3 hx3 hdx ne => ?_⟩
  have sx : Same H18 (upd (upd H18 dx3 (.own p3)) p3 (.ins C dx3 [])) := (same_new hdx _).trans (same_new (by rw [upd_ne (Ne.symm ne)]; exact hx3) _)
  have ex := upd_same (H := upd H18 dx3 (.own p3)) (a := p3) (o := .ins C dx3 [])
  generalize upd (upd H18 dx3 (.own p3)) p3 (.ins C dx3 []) = G3 at sx ex ⊢
  refine ⟨p3, dx3, av1, cv1, D, rfl, ex, hAl1.mono (.same sx), hBo1.mono sx, hW, fun H19 b19 n3 => ⟨rfl, ?_⟩⟩
  have s1819 : Same H18 H19 := same_of_but sx hx3 b19
  have sG3 := sx
  have bc := bc.trans (.same s1819)
  have bd := bd.trans (.same s1819)
  have hPV := hPV.but es18 (.same s1819)
  have ks := ks.same s1819
  have n1 := n1.kf (Kf.same s1819)
  have n2 := n2.kf (Kf.same s1819)
  have w19 := w18.same s1819
  have es19 := s1819 _ _ es18
  have gst3 : G3 st ≠ none := by rw [sG3 _ _ es18]; exact fun c => nomatch c
  clear sx ex hdx ne b19 hAl1 hBo1 ev1 w18
  -- a pair of inputs
  have hB19 := bc _ _ nBst hB3
  have hE19 : A2 (EnAt (vw (pA st) H19)) kvs3 D.bo := hE3.imp fun _ _ r => r.mono (vwA_but bc)
  have lb := hF.many
  have lk3 : kvs3.length = D.bo.length := hE19.len
  refine ⟨_, rfl, B, kvs3, D.bo.map (fun e => [((e.1.1 : Nat) : Int), ((e.1.2 : Nat) : Int)]), rfl, .inl hB19, ?_, by rw [List.length_map]; omega, keys_bd hW, fun L o h1 h2 h3 ho => ?_⟩
  · rw [keys_of hE19, List.map_map, List.map_map]
    rfl
  have t20 := same_new ho (.lst (L.map fun q => V.ref q.1))
  have eo := upd_same (H := H19) (a := o) (o := .lst (L.map fun q => V.ref q.1))
  have no := w19.ne ho |>.symm
  have h3' : ∀ x ∈ L, (upd H19 o (.lst (L.map fun q => V.ref q.1))) x.1 = some (.tup (x.2.map V.int)) := fun x hx => t20 _ _ (h3 x hx)
  generalize upd H19 o (.lst (L.map fun q => V.ref q.1)) = H20 at t20 eo h3' ⊢
  have lL : L.length = D.bo.length := by have := h1.length_eq; rw [List.length_map, List.length_map] at this; exact this
  have lpos : 1 ≤ D.bo.length := List.length_pos_iff.mpr hne
  have w20 := w19.same t20
  refine ⟨_, rfl, _, rfl, B, kvs3, rfl, t20 _ _ hB19, st, _, _, rfl, .inr w20, by decide, by decide, by omega, by omega, fun z H21 z0 z1 b21 w21 => ?_⟩
  obtain ⟨k', rfl, hk'⟩ : ∃ k' : Nat, z = (k' : Int) ∧ k' < L.length := ⟨z.toNat, by omega, by omega⟩
  obtain ⟨y, hy⟩ : ∃ y, L[k']? = some y := ⟨_, List.getElem?_eq_getElem hk'⟩
  have hym := List.mem_of_getElem? hy
  have ey := h3' y hym
  have es20 := t20 _ _ es19
  have nyst : y.1 ≠ st := ne_of ey es20 (fun z => by cases z)
  refine ⟨o, _, _, .ref y.1, rfl, rfl, SqL.of (b21 _ _ no eo), atI_nat (by rw [List.getElem?_map, hy]; rfl), ?_⟩
  obtain ⟨e, he, ek⟩ := List.mem_map.mp (h1.mem_iff.mp (List.mem_map_of_mem hym))
  rw [← ek] at ey
  have ey := b21 _ _ nyst ey
  have b1921 : But st H19 H21 := (But.same t20).trans b21
  have bc := bc.trans b1921
  have bd := bd.trans b1921
  have ks := (ks.same t20).new b21 hst
  have n1 := n1.kf ((Kf.same t20).trans (Kf.lst b21 es20 gst1))
  have n2 := n2.kf ((Kf.same t20).trans (Kf.lst b21 es20 gst2))
  have n3 := n3.kf ((Kf.same t20).trans (Kf.lst b21 es20 gst3))
  obtain ⟨z21, es21⟩ := w21.lst
  clear h3' h3 h1 h2 eo t20 w20 w19 es20 es19 hE19 hB19 b1921 b21 ho
  -- its outputs let
  have hE3r : A2 (EnAt H3) kvs3 D.bo := hE3.imp fun _ _ r => r.mono kp_vw
  obtain ⟨_, hv0, l0, xs0, rfl, hl0v, hx0v⟩ := val_at hE3 hW.srt e he
  have nl0st := pA_ok.mp (vw_some hl0v).1
  have hl03 := (vw_some hl0v).2
  have hx03 : A2 (TpAt H3) xs0 e.2 := hx0v.imp fun _ _ r => r.mono kp_vw
  have hx021 : A2 (TpAt (vw (pA st) H21)) xs0 e.2 := hx0v.imp fun _ _ r => r.mono (vwA_but bc)
  have okl := hW.lets e he
  have okb := hF.lets e he
  have hl021 := bc _ _ nl0st hl03
  have hB21 := bc _ _ nBst hB3
  refine ⟨_, rfl, _, rfl, B, _, rfl, hv0 ▸ DGet.t (k := kI e.1) hB21 ey, l0, _, rfl, .inl (SqL.of hl021), fun oh hoh => ?_⟩
  have t22 := same_new hoh (.lst xs0)
  have eoh := upd_same (H := H21) (a := oh) (o := .lst xs0)
  generalize upd H21 oh (.lst xs0) = S0 at t22 eoh ⊢
  -- appended to the task's own
  obtain ⟨dz1, b1, c1, kv1, f1, fA, fc1n, fc1, fE⟩ := id n14
  obtain ⟨tb, _, _, etb, hb1, ⟨u0, vs0, rfl, hu0, au0⟩, ⟨u1, vs1, rfl, hu1, au1⟩⟩ := fA
  obtain rfl : b1 = tb := by injection etb
  obtain ⟨_, hv1, t1, xs1, rfl, ht1n, hx1⟩ := val_at2 fE hW.srt e he
  have ht1 := (nwx_some ht1n).2.2
  have gt1 := (nwx_some ht1n).1
  have inG : ∀ {x : Addr} {o : HO}, H3 x = some o → G1 x ≠ none := fun {x o} h => by rw [sG1 _ _ h]; exact fun c => nomatch c
  have nt1st : t1 ≠ st := fun c => gst1 (c ▸ gt1)
  have np1st : p1 ≠ st := fun c => by rw [c, es3'] at hx; cases hx
  have nc1st : c1 ≠ st := fun c => gst1 (c ▸ fc1n)
  have S0of4 : ∀ {x : Addr} {o : HO}, x ≠ st → H4 x = some o → S0 x = some o := fun {x o} n h => t22 _ _ (bd _ _ n h)
  have S0of3 : ∀ {x : Addr} {o : HO}, x ≠ st → H3 x = some o → S0 x = some o := fun {x o} n h => t22 _ _ (bc _ _ n h)
  have ey0 := t22 _ _ ey
  refine ⟨_, rfl, p1, C, _, _, _, rfl, S0of4 np1st f1, Z.cl, Z.nB, flds_both _ _, _, rfl, c1, .ref t1, rfl, hv1 ▸ DGet.t (k := kI e.1) (S0of4 nc1st fc1) ey0, .inl ⟨rfl, _, SqL.of (S0of4 nt1st ht1)⟩, (by show 2 ≤ sizeLine; decide), fun tpa htpa => ?_⟩
  have ta1 := same_new htpa (.tup [V.int 63, V.int 63])
  have lx1 : xs1.length = e.2.length := hx1.len
  have lx0 : xs0.length = e.2.length := hx03.len
  have oke := okb.1
  refine ⟨t1, _, _, rfl, rfl, ta1 _ _ (S0of4 nt1st ht1), Nat.lt_of_lt_of_le (show _ < 100 by omega) (by decide), ?_⟩
  have g2of4 : ∀ {x : Addr} {o : HO}, H4 x = some o → G2 x ≠ none := fun {x o} h => by rw [s4G2 _ _ h]; exact fun c => nomatch c
  have g3of4 : ∀ {x : Addr} {o : HO}, x ≠ st → H4 x = some o → G3 x ≠ none := fun {x o} n h => by rw [sG3 _ _ (bd18 _ _ n h)]; exact fun c => nomatch c
  have g2of3 : ∀ {x : Addr} {o : HO}, H3 x = some o → G2 x ≠ none := fun {x o} h => by rw [sG2 _ _ h]; exact fun c => nomatch c
  have g3of3 : ∀ {x : Addr} {o : HO}, x ≠ st → H3 x = some o → G3 x ≠ none := fun {x o} n h => by rw [sG3 _ _ (bc18 _ _ n h)]; exact fun c => nomatch c
  have et1 := ta1 _ _ (S0of4 nt1st ht1)
  have eta := upd_same (H := S0) (a := tpa) (o := .tup [V.int 63, V.int 63])
  generalize upd S0 tpa (.tup [V.int 63, V.int 63]) = Sa at ta1 et1 eta ⊢
  have m1 : But t1 Sa (upd Sa t1 (.lst (xs1 ++ [.ref tpa]))) := But.at
  generalize upd Sa t1 (.lst (xs1 ++ [.ref tpa])) = S1 at m1 ⊢
  obtain ⟨th1, tr1, _, _, exs1, hth1⟩ := tp_head hx1 okl.1
  have ks := ((ks.same t22).same ta1).refs m1 (by rw [et1, exs1])
  have kf2 : Kf G2 H21 S1 := (Kf.same (t22.trans ta1)).trans (Kf.lst m1 et1 (g2of4 ht1))
  have kf3 : Kf G3 H21 S1 := (Kf.same (t22.trans ta1)).trans (Kf.lst m1 et1 (g3of4 nt1st ht1))
  have c01 : ∀ {x : Addr} {o : HO}, x ≠ t1 → S0 x = some o → S1 x = some o := fun {x o} n h => m1 _ _ n (ta1 _ _ h)
  have n3t1 : ∀ {x : Addr} {o : HO}, H3 x = some o → x ≠ t1 := fun {x o} h c => inG h (c ▸ gt1)
  have nyt1 : y.1 ≠ t1 := ne_of ey0 (S0of4 nt1st ht1) (fun z => by cases z)
  have ey1 := c01 nyt1 ey0
  -- appended to what was handed in
  have hB1' := c01 (n3t1 hB3) (S0of3 nBst hB3)
  have hl01 := c01 (n3t1 hl03) (S0of3 nl0st hl03)
  refine ⟨_, rfl, _, rfl, B, .ref l0, rfl, hv0 ▸ DGet.t (k := kI e.1) hB1' ey1, .inl ⟨rfl, _, SqL.of hl01⟩, (by show 2 ≤ sizeLine; decide), fun tpb htpb => ?_⟩
  have tb1 := same_new htpb (.tup [V.int 62, V.int 62])
  refine ⟨l0, _, _, rfl, rfl, tb1 _ _ hl01, Nat.lt_of_lt_of_le (show _ < 100 by omega) (by decide), ?_⟩
  have el0 := tb1 _ _ hl01
  have etb := upd_same (H := S1) (a := tpb) (o := .tup [V.int 62, V.int 62])
  generalize upd S1 tpb (.tup [V.int 62, V.int 62]) = Sb at tb1 el0 etb ⊢
  have m2 : But l0 Sb (upd Sb l0 (.lst (xs0 ++ [.ref tpb]))) := But.at
  have el2 := upd_same (H := Sb) (a := l0) (o := .lst (xs0 ++ [.ref tpb]))
  generalize upd Sb l0 (.lst (xs0 ++ [.ref tpb])) = S2 at m2 el2 ⊢
  obtain ⟨th0, tr0, _, _, exs0, hth0⟩ := tp_head hx03 okl.1
  have ks := (ks.same tb1).refs m2 (by rw [el0, exs0])
  have kf2 := (kf2.trans (Kf.same tb1)).trans (Kf.lst m2 el0 (g2of3 hl03))
  have kf3 := (kf3.trans (Kf.same tb1)).trans (Kf.lst m2 el0 (g3of3 nl0st hl03))
  have c12 : ∀ {x : Addr} {o : HO}, x ≠ l0 → S1 x = some o → S2 x = some o := fun {x o} n h => m2 _ _ n (tb1 _ _ h)
  have n2 := n2.kf kf2
  have n3 := n3.kf kf3
  have tpk : ∀ {x : Addr} {ys : List V}, S0 x = some (.tup ys) → S2 x = some (.tup ys) := fun {x ys} h =>
    c12 (ne_of (c01 (ne_of h (S0of4 nt1st ht1) (fun z => by cases z)) h) hl01 (fun z => by cases z)) (c01 (ne_of h (S0of4 nt1st ht1) (fun z => by cases z)) h)
  have hx0S2 : A2 (TpAt S2) xs0 e.2 := hx021.imp fun _ _ r => by
    obtain ⟨t, rfl, ht⟩ := r
    exact ⟨t, rfl, tpk (t22 _ _ (vw_some ht).2)⟩
  have ey2 := tpk ey0
  have noh1 : oh ≠ t1 := (ne_of_none (bd _ _ nt1st ht1) hoh).symm
  have noh0 : oh ≠ l0 := (ne_of_none hl021 hoh).symm
  have eoh2 := c12 noh0 (c01 noh1 eoh)
  have hOuts : LetAt S2 (.ref oh) e.2 := ⟨oh, xs0, rfl, eoh2, hx0S2⟩
  have shl : ∀ l : List (Int × Int), SeqAt.shaped (letD l) = true := fun l => (okD_pairs l).shaped (by decide)
  -- the others are as they were
  obtain ⟨dx2', a2, c2, e2, hA2, kv2, hc2, hE2⟩ := id n2.task
  obtain ⟨_, hv2, l2, xs2, rfl, hl2, hx2⟩ := val_at hE2 hW.srt e he
  refine ⟨_, rfl, p2, C, _, _, _, rfl, e2, Z.cl, Z.nB, flds_both _ _, _, rfl, c2, .ref l2, rfl, hv2 ▸ DGet.t (k := kI e.1) hc2 ey2, _, rfl, letD e.2, letD e.2, LetAt.dp ⟨l2, xs2, rfl, hl2, hx2⟩, hOuts.dp, shl _, shl _, _, rfl, ?_⟩
  rw [SeqAt.eqv_refl _ (SeqAt.canLay_of_shaped (shl e.2))]
  refine iteF ?_
  obtain ⟨dx3', a3, c3, e3, hA3', kv3, hc3, hE3'⟩ := id n3.task
  obtain ⟨_, hv3, l3, xs3, rfl, hl3, hx3'⟩ := val_at hE3' hW.srt e he
  refine ⟨_, rfl, p3, C, _, _, _, rfl, e3, Z.cl, Z.nB, flds_both _ _, _, rfl, c3, .ref l3, rfl, hv3 ▸ DGet.t (k := kI e.1) hc3 ey2, _, rfl, letD e.2, letD e.2, LetAt.dp ⟨l3, xs3, rfl, hl3, hx3'⟩, hOuts.dp, shl _, shl _, _, rfl, ?_⟩
  rw [SeqAt.eqv_refl _ (SeqAt.canLay_of_shaped (shl e.2))]
  refine iteF ?_
  have hB2' := c12 (ne_of hB1' hl01 (fun z => by cases z)) hB1'
  have etb2 := m2 _ _ (ne_of etb el0 (fun z => by cases z)) etb
  refine ⟨_, rfl, _, rfl, B, .ref l0, rfl, hv0 ▸ DGet.t (k := kI e.1) hB2' ey2, _, rfl, (by show 2 ≤ sizeLine; decide), fun tpc htpc => ⟨(by show 1 ≤ sizeLine; decide), fun pl hpl => ?_⟩⟩
  have tc1 := same_new htpc (.tup [V.int 62, V.int 62])
  have etc := upd_same (H := S2) (a := tpc) (o := .tup [V.int 62, V.int 62])
  have tc2 := same_new hpl (.lst [V.ref tpc])
  have epl := upd_same (H := upd S2 tpc (.tup [V.int 62, V.int 62])) (a := pl) (o := .lst [V.ref tpc])
  refine ⟨oh, pl, _, _, rfl, rfl, tc2 _ _ (tc1 _ _ eoh2), epl, ?_, fun N hN => ?_⟩
  · exact Nat.le_trans (show xs0.length + 1 ≤ 100 by omega) (by decide)
  have tc3 := same_new hN (.lst (xs0 ++ [V.ref tpc]))
  have eN := upd_same (H := upd (upd S2 tpc (.tup [V.int 62, V.int 62])) pl (.lst [V.ref tpc])) (a := N) (o := .lst (xs0 ++ [V.ref tpc]))
  have etc3 := tc3 _ _ (tc2 _ _ etc)
  have tc := (tc1.trans tc2).trans tc3
  generalize upd (upd (upd S2 tpc (.tup [V.int 62, V.int 62])) pl (.lst [V.ref tpc])) N (.lst (xs0 ++ [V.ref tpc])) = S3 at tc eN etc3 ⊢
  have hL3 : LetAt S3 (.ref l0) (e.2 ++ [(62, 62)]) := ⟨l0, _, rfl, tc _ _ el2, A2.snoc (hx0S2.imp fun _ _ r => r.mono (.same tc)) ⟨tpb, rfl, tc _ _ etb2⟩⟩
  have hN3 : LetAt S3 (.ref N) (e.2 ++ [(62, 62)]) := ⟨N, _, rfl, eN, A2.snoc (hx0S2.imp fun _ _ r => r.mono (.same tc)) ⟨tpc, rfl, etc3⟩⟩
  refine ⟨letD (e.2 ++ [(62, 62)]), letD (e.2 ++ [(62, 62)]), hL3.dp, hN3.dp, shl _, shl _, _, rfl, ?_⟩
  rw [SeqAt.eqv_refl _ (SeqAt.canLay_of_shaped (shl (e.2 ++ [(62, 62)])))]
  refine iteF ?_
  have n2 := n2.kf (Kf.same tc)
  have n3 := n3.kf (Kf.same tc)
  have ks := ks.same tc
  have c03 : ∀ {x : Addr} {o : HO}, x ≠ t1 → x ≠ l0 → S0 x = some o → S3 x = some o := fun {x o} n n' h => tc _ _ (c12 n' (c01 n h))
  -- what the first task holds
  have hb1' := (nwx_some hb1).2.2
  have gb1 := (nwx_some hb1).1
  have hu0' := (nwx_some hu0).2.2
  have gu0 := (nwx_some hu0).1
  obtain ⟨rr, vr, zz, zzs, evs0, hrrn⟩ := row_head au0 (hW.n0 0 (by decide)).1 (fun r hr => (hW.row 0 (by decide) r hr).1)
  have hrr := (nwx_some hrrn).2.2
  have grr := (nwx_some hrrn).1
  have notG : ∀ {x z : Addr} {o : HO}, G1 x = none → H3 z = some o → x ≠ z := fun {x z o} g h c => inG h (c ▸ g)
  have nst : ∀ {x : Addr}, G1 x = none → x ≠ st := fun {x} g c => gst1 (c ▸ g)
  have np1t : p1 ≠ t1 := ne_of f1 ht1 (fun z => by cases z)
  have np1l : p1 ≠ l0 := ne_of f1 (s34 _ _ hl03) (fun z => by cases z)
  have nb1t : b1 ≠ t1 := ne_lst hb1' ht1 (fun c => by
    rw [exs1] at c
    injection c with c _
    injection c with c
    rw [c, hth1] at hu0'
    cases hu0')
  have nu0t : u0 ≠ t1 := ne_lst hu0' ht1 (fun c => by
    rw [exs1, evs0] at c
    injection c with c _
    injection c with c
    rw [c, hth1] at hrr
    cases hrr)
  have nrrt : rr ≠ t1 := ne_lst hrr ht1 (fun c => by
    rw [exs1] at c
    injection c with c _
    cases c)
  have nc1t : c1 ≠ t1 := ne_of fc1 ht1 (fun z => by cases z)
  have p1S3 := c03 np1t np1l (S0of4 np1st f1)
  have b1S3 := c03 nb1t (notG gb1 hl03) (S0of4 (nst gb1) hb1')
  have u0S3 := c03 nu0t (notG gu0 hl03) (S0of4 (nst gu0) hu0')
  have rrS3 := c03 nrrt (notG grr hl03) (S0of4 (nst grr) hrr)
  have c1S3 := c03 nc1t (notG fc1n hl03) (S0of4 nc1st fc1)
  rw [evs0] at u0S3
  have lz : (V.int zz :: zzs).length ≤ 60 := by
    obtain ⟨x0, hx0⟩ : ∃ x0, vs0[0]? = some x0 := ⟨_, by rw [evs0]; rfl⟩
    obtain ⟨row, hrow, tt, ett, htt⟩ := au0.get hx0
    rw [evs0] at hx0
    obtain rfl : V.ref rr = x0 := by simpa using hx0
    injection ett with ett
    subst ett
    rw [hrrn] at htt
    injection htt with htt
    injection htt with htt
    rw [htt, List.length_map]
    exact (hW.row 0 (by decide) row (List.mem_of_getElem? hrow)).2.1
  refine ⟨_, rfl, p1, C, _, _, _, rfl, p1S3, Z.cl, Z.nA, flds_alone _ _, b1, _, _, .ref u0, rfl, rfl, SqL.of b1S3, (by rfl), u0, _, _, .ref rr, rfl, rfl, SqL.of u0S3, (by exact atI_nat (j := 0) rfl), .inl ⟨rfl, _, SqL.of rrS3⟩, rr, _, _, rfl, rfl, rrS3, Nat.lt_of_le_of_lt lz (by decide), ?_⟩
  have m3 : But rr S3 (upd S3 rr (.lst ((V.int zz :: zzs) ++ [.int 99]))) := But.at
  generalize upd S3 rr (.lst ((V.int zz :: zzs) ++ [.int 99])) = S4 at m3 ⊢
  have ks := ks.new m3 (none_of_but b03 (nst grr) (none_of_same sG1 grr))
  have n2 := n2.kf (Kf.lst m3 rrS3 (g2of4 hrr))
  have n3 := n3.kf (Kf.lst m3 rrS3 (g3of4 (nst grr) hrr))
  have p1S4 := m3 _ _ (ne_of p1S3 rrS3 (fun z => by cases z)) p1S3
  have c1S4 := m3 _ _ (ne_of c1S3 rrS3 (fun z => by cases z)) c1S3
  -- a pair more
  refine ⟨(by show 0 ≤ sizeLine; decide), fun ln hln => ?_⟩
  have td1 := same_new hln (.lst [])
  refine ⟨_, rfl, p1, C, _, _, _, rfl, td1 _ _ p1S4, Z.cl, Z.nB, flds_both _ _, (by show 2 ≤ sizeLine; decide), fun tk htk => ?_⟩
  have td2 := same_new htk (.tup [V.int 9, V.int 9])
  have etk := upd_same (H := upd S4 ln (.lst [])) (a := tk) (o := .tup [V.int 9, V.int 9])
  have td := td1.trans td2
  generalize upd (upd S4 ln (.lst [])) tk (.tup [V.int 9, V.int 9]) = Sd at td etk ⊢
  have c1Sd := td _ _ c1S4
  have lkv1 : kv1.length = D.bo.length := fE.len
  refine ⟨c1, _, rfl, DPut.t (k := [.inl 9, .inl 9]) c1Sd etk (Nat.lt_of_le_of_lt (show _ ≤ 100 by omega) (by decide)), ?_⟩
  have m4 : But c1 Sd (upd Sd c1 (.dT (putK kv1 [.inl 9, .inl 9] (.ref ln)))) := But.at
  generalize upd Sd c1 (.dT (putK kv1 [.inl 9, .inl 9] (.ref ln))) = S5 at m4 ⊢
  have ks := (ks.same td).dct m4 c1Sd
  have n2 := (n2.kf (Kf.same td)).kf (Kf.dct m4 c1Sd (g2of4 fc1))
  have n3 := (n3.kf (Kf.same td)).kf (Kf.dct m4 c1Sd (g3of4 nc1st fc1))
  have c35 : ∀ {x : Addr} {o : HO}, x ≠ rr → x ≠ c1 → S3 x = some o → S5 x = some o := fun {x o} n n' h => m4 _ _ n' (td _ _ (m3 _ _ n h))
  have c05 : ∀ {x : Addr} {o : HO}, x ≠ st → x ≠ l0 → H3 x = some o → S5 x = some o := fun {x o} n n' h =>
    c35 (notG grr h).symm (notG fc1n h).symm (c03 (n3t1 h) n' (S0of3 n h))
  -- what was handed in, cleared
  have hA3' := (vw_some hA3).2
  have hq0' := (vw_some hq0).2
  have hq1' := (vw_some hq1).2
  have nq0st := pA_ok.mp (vw_some hq0).1
  have nq1st := pA_ok.mp (vw_some hq1).1
  have rows1 : ∀ h, h < 2 → ∀ r ∈ D.al h, 1 ≤ r.length := fun h hh r hr => (hW.row h hh r hr).1
  obtain ⟨ρ0, vr0, z00, z0s, ezs0, hρ0⟩ := row_head az0 (hW.n0 0 (by decide)).1 (rows1 0 (by decide))
  obtain ⟨ρ1, vr1, z10, z1s, ezs1, hρ1⟩ := row_head az1 (hW.n0 1 (by decide)).1 (rows1 1 (by decide))
  have hρ0' := (vw_some hρ0).2
  have hρ1' := (vw_some hρ1).2
  have nAl : A ≠ l0 := ne_lst hA3' hl03 (fun c => by
    rw [exs0] at c
    injection c with c _
    injection c with c
    rw [c, hth0] at hq0'
    cases hq0')
  have nq0l : q0 ≠ l0 := ne_lst hq0' hl03 (fun c => by
    rw [exs0, ezs0] at c
    injection c with c _
    injection c with c
    rw [c, hth0] at hρ0'
    cases hρ0')
  have nq1l : q1 ≠ l0 := ne_lst hq1' hl03 (fun c => by
    rw [exs0, ezs1] at c
    injection c with c _
    injection c with c
    rw [c, hth0] at hρ1'
    cases hρ1')
  have nAq : A ≠ q1 := ne_lst hA3' hq1' (fun c => by
    rw [ezs1] at c
    injection c with c _
    injection c with c
    rw [c, hρ1', ezs0] at hq0'
    injection hq0' with hq0'
    injection hq0' with hq0'
    injection hq0' with hq0' _
    cases hq0')
  have AS5 := c05 nAst nAl hA3'
  have q1S5 := c05 nq1st nq1l hq1'
  have nBl : B ≠ l0 := ne_of hB3 hl03 (fun z => by cases z)
  have BS5 := c05 nBst nBl hB3
  refine ⟨_, rfl, A, _, _, .ref q1, rfl, rfl, SqL.of AS5, (by rfl), .inl ⟨rfl, _, SqL.of q1S5⟩, q1, _, rfl, rfl, q1S5, ?_⟩
  have m5 : But q1 S5 (upd S5 q1 (.lst [])) := But.at
  have q1S6 := upd_same (H := S5) (a := q1) (o := .lst [])
  generalize upd S5 q1 (.lst []) = S6 at m5 q1S6 ⊢
  have ks := ks.refs m5 (by rw [q1S5, ezs1])
  have n2 := n2.kf (Kf.lst m5 q1S5 (g2of3 hq1'))
  have n3 := n3.kf (Kf.lst m5 q1S5 (g3of3 nq1st hq1'))
  have nBq : B ≠ q1 := ne_of hB3 hq1' (fun z => by cases z)
  have BS6 := m5 _ _ nBq BS5
  refine ⟨_, rfl, .inr (.inr (.inl ⟨rfl, .inr ⟨_, BS6⟩⟩)), B, kvs3, rfl, rfl, BS6, ?_⟩
  have m6 : But B S6 (upd S6 B (.dT [])) := But.at
  have BS7 := upd_same (H := S6) (a := B) (o := .dT [])
  generalize upd S6 B (.dT []) = S7 at m6 BS7 ⊢
  have ks := ks.dct m6 BS6
  have n2 := n2.kf (Kf.dct m6 BS6 (g2of3 hB3))
  have n3 := n3.kf (Kf.dct m6 BS6 (g3of3 nBst hB3))
  have q1S7 := m6 _ _ nBq.symm q1S6
  have AS7 := m6 _ _ (ne_of AS5 BS5 (fun z => by cases z)) (m5 _ _ nAq AS5)
  have c07 : ∀ {x : Addr} {xs : List V}, x ≠ st → x ≠ l0 → x ≠ q1 → H3 x = some (.lst xs) → S7 x = some (.lst xs) := fun {x xs} n n' n'' h =>
    m6 _ _ (ne_of (c05 n n' h) BS5 (fun z => by cases z)) (m5 _ _ n'' (c05 n n' h))
  -- the others, alike
  obtain ⟨dx2'', a2'', c2', e2', hA2', kv2', hc2', hE2'⟩ := id n2.task
  obtain ⟨dx3'', a3'', c3', e3', hA3'', kv3', hc3', hE3''⟩ := id n3.task
  refine ⟨_, rfl, p2, C, _, _, _, rfl, e2', Z.cl, Z.nA, flds_alone _ _, _, rfl, p3, C, _, _, _, rfl, e3', Z.cl, Z.nA, flds_alone _ _, alD D.al, alD D.al, hA2'.dp, hA3''.dp, (okD_al _).shaped (by decide), (okD_al _).shaped (by decide), _, rfl, ?_⟩
  rw [SeqAt.eqv_refl _ (SeqAt.canLay_of_shaped ((okD_al D.al).shaped (by decide)))]
  refine iteF ?_
  obtain ⟨ks2, eks2, ak2⟩ := ks_of hE2'
  obtain ⟨ks3, eks3, ak3⟩ := ks_of hE3''
  have ndk : ∀ {H' : Hp} {ks : List (DT.P2 × Addr)}, A2 (KsAt H') ks D.bo → (ks.map (·.1)).Nodup ∧ ks.length < 64 ∧ ∀ e ∈ ks, TS.Bd 64 (DT.nsP e.1) := fun {H' ks} a => by
    refine ⟨?_, by rw [a.len]; omega, fun e he => ?_⟩
    · rw [ks_keys a]
      refine List.pairwise_map.mpr ((List.pairwise_map.mp uD).imp fun {x y} h c => h (iI_one c))
    · obtain ⟨b, hb, e1, _⟩ := a.mem he
      rw [e1]
      exact (keys_bd hW _ (List.mem_map.mpr ⟨b, hb, rfl⟩)).2
  obtain ⟨nd2, l642, bd2⟩ := ndk ak2
  obtain ⟨nd3, l643, bd3⟩ := ndk ak3
  refine ⟨_, rfl, p2, C, _, _, _, rfl, e2', Z.cl, Z.nB, flds_both _ _, .inr (.inr (.inl ⟨rfl, .inr ⟨_, hc2'⟩⟩)), c2', kv2', rfl, rfl, hc2', fun pv hpv => ?_⟩
  have te1 := same_new hpv (_root_.L2.DX.itemsO pv c2')
  have epv := upd_same (H := S7) (a := pv) (o := _root_.L2.DX.itemsO pv c2')
  refine ⟨pv, c2', ks2, rfl, epv, by rw [← eks2]; exact te1 _ _ hc2', l642, nd2, bd2, fun Se l ps gr hln' pm pw hl hz => ?_⟩
  have te := te1.trans gr
  have it2 := items_A2 hW ak2 te pm pw hz
  refine ⟨_, rfl, p3, C, _, _, _, rfl, te _ _ e3', Z.cl, Z.nB, flds_both _ _, .inr (.inr (.inl ⟨rfl, .inr ⟨_, te _ _ hc3'⟩⟩)), c3', kv3', rfl, rfl, te _ _ hc3', fun pv3 hpv3 => ?_⟩
  have tf1 := same_new hpv3 (_root_.L2.DX.itemsO pv3 c3')
  have epv3 := upd_same (H := Se) (a := pv3) (o := _root_.L2.DX.itemsO pv3 c3')
  refine ⟨pv3, c3', ks3, rfl, epv3, by rw [← eks3]; exact tf1 _ _ (te _ _ hc3'), l643, nd3, bd3, fun Sf l' ps' gr' hln'' pm' pw' hl' hz' => ?_⟩
  have tf := tf1.trans gr'
  have it3 := items_A2 hW ak3 (te.trans tf) pm' pw' hz'
  refine ⟨.list ((sb D).map itemD), .list ((sb D).map itemD), .lst (SqL.of (tf _ _ hl)) (items_dp (it2.imp fun _ _ r => ?it)), .lst (SqL.of hl') (items_dp it3), items_shaped _, items_shaped _, _, rfl, ?_⟩
  case it =>
    obtain ⟨t, q, l, r1, r2, ⟨q', r3, r4⟩, r5⟩ := r
    exact ⟨t, q, l, r1, tf _ _ r2, ⟨q', r3, tf _ _ r4⟩, r5.mono (.same tf)⟩
  rw [SeqAt.eqv_refl _ (SeqAt.canLay_of_shaped (items_shaped (sb D)))]
  refine iteF ?_
  have t7f := te.trans tf
  have n2 := n2.kf (Kf.same t7f)
  have n3 := n3.kf (Kf.same t7f)
  have ks := ks.same t7f
  refine ⟨_, rfl, _, rfl, p2, _, _, p3, _, _, rfl, rfl, t7f _ _ e2', t7f _ _ e3', p2, .ref p3, D, rfl, n2.task, uD, .inl ⟨p3, D, rfl, n3.task, uD, _, rfl, _, rfl, ?_⟩⟩
  rw [sameTD_self]
  refine iteF ?_
  -- another text
  refine ⟨_, rfl, _, rfl, (by show 2 ≤ sizeLine; decide), fun v hv => ?_⟩
  have tg := same_new hv (.tup [V.ref A, V.ref B])
  have ev := upd_same (H := Sf) (a := v) (o := .tup [V.ref A, V.ref B])
  generalize upd Sf v (.tup [V.ref A, V.ref B]) = Sg at tg ev ⊢
  have t7g := t7f.trans tg
  have ks := ks.same tg
  obtain ⟨al', hal', okal'⟩ : ∃ al' : Nat → List (List Int), AlAt Sg (.ref A) al' ∧ AlOk al' := by
    have q1g := t7g _ _ q1S7
    have Ag := t7g _ _ AS7
    have r1e : RowsAt Sg (.ref q1) [] := ⟨q1, [], rfl, q1g, .nil⟩
    by_cases c : q0 = q1
    · refine ⟨fun _ => [], ⟨A, _, _, rfl, Ag, by rw [c]; exact r1e, r1e⟩, ⟨fun h hh => Nat.zero_le _, fun h hh r hr => nomatch hr⟩⟩
    · refine ⟨fun h => if h = 0 then D.al 0 else [], ⟨A, _, _, rfl, Ag, ⟨q0, zs0, rfl, t7g _ _ (c07 nq0st nq0l c hq0'), ?_⟩, r1e⟩, ⟨fun h hh => ?_, fun h hh r hr => ?_⟩⟩
      · refine A2.impM az0 fun x row hrow hx => ?_
        obtain ⟨t, rfl, ht⟩ := hx
        obtain ⟨n1', ht'⟩ := vw_some ht
        have hrl := rows1 0 (by decide) row hrow
        refine ⟨t, rfl, t7g _ _ (c07 (pA_ok.mp n1') (ne_lst ht' hl03 (fun c => ?_)) (ne_lst ht' hq1' (fun c => ?_)) ht')⟩
        · rw [exs0] at c
          cases row with
          | nil => cases c
          | cons x row => rw [List.map_cons] at c; injection c with c _; cases c
        · rw [ezs1] at c
          cases row with
          | nil => cases c
          | cons x row => rw [List.map_cons] at c; injection c with c _; cases c
      · show (if h = 0 then D.al 0 else []).length ≤ 20
        split
        · exact (hW.n0 0 (by decide)).2
        · exact Nat.zero_le _
      · have hr : r ∈ (if h = 0 then D.al 0 else []) := hr
        split at hr
        · exact hW.row 0 (by decide) r hr
        · cases hr
  have hty2 : Tiny (.tuple [alD al', .dict []]) 130000 6 := by
    refine (tiny_tuple (w := 60000) (m := 2) (n := 4) (fun d hd => ?_) (Nat.le_refl _)).up (by decide) (by decide)
    rcases List.mem_cons.mp hd with rfl | hd
    · exact (tiny_al okal').up (by decide) (by decide)
    · obtain rfl := List.mem_singleton.mp hd
      exact (tiny_dict (a := 0) (b := 0) (n := 1) (m := 0) (kvs := []) (fun e he => nomatch he) (Nat.le_refl _)).up (by decide) (by decide)
  refine ⟨v, _, [alD al', .dict []], rfl, SqT.of ev, .cons (.flat hal'.dp (nd_al _)) (.cons (.dic (t7g _ _ BS7) rfl .nil rfl rfl) .nil), hty2.s, Nat.le_trans hty2.d (by decide), tiny_shown hty2 (by decide), ?_⟩
  refine ⟨_, rfl, rfl, _, rfl, ?_⟩
  refine iteF' (decide_eq_false (fun c => shown_ne (x := alD D.al) (y := alD al') hne (by injection c))) ?_
  exact ⟨hi16, _, _, _, _, _, _, _, _, _, _, _, _, _, rfl, ks.sql hS⟩
end
end TA

set_option Elab.async false
set_option maxRecDepth 100000
set_option maxHeartbeats 4000000
set_option linter.unusedVariables false
namespace TA
open PySem PySem.Spec L2 PyProof.Rows LamX
def raiseB (K : PySem.W.Frag) (C : Addr) : Bool := decide (PySem.W.subIn K (.ref C) (.type "BaseException") = some true) && decide (PySem.W.typeIn K (.ref C) = some (.type "type"))
theorem raiseB_ok {K : PySem.W.Frag} {mg : Str → Option Value} {n : Str} {C : Addr} (h : raiseB K C = true) (m : mg n = some (.ref C)) (x : PySem.W.excIn K C [.type "ValueError", .type "Exception", .type "BaseException", .type "object"] "ValueError.__new__" = true) (k : PySem.W.keepIn K (.ref C) = true) : RaiseC K mg n C := by
  obtain ⟨a, b⟩ := Bool.and_eq_true_iff.mp h
  exact ⟨m, x, k, of_decide_eq_true a, of_decide_eq_true b⟩
def excB (K : PySem.W.Frag) (D : Addr) : Bool :=
  decide (PySem.W.findIn K (.ref D) "__getattribute__" = some (some (.builtin "BaseException.__getattribute__"))) && (decide (PySem.W.findIn K (.ref D) "__getattr__" = some none) && (decide (PySem.W.subIn K (.ref D) (.type "BaseException") = some true) &&
  (PySem.W.hasDictIn K D && (decide (PySem.W.findIn K (.ref D) "__class__" = some (some (.builtin "object.__class__"))) && (decide (PySem.W.specialIn K (.builtin "object.__class__") "__get__" = some (some (.builtin "getset_descriptor.__get__"))) &&
  (decide (PySem.W.takesIn K (.builtin "object.__class__") = some true) && decide (PySem.W.mroIn K D (.type "object") = some true)))))))
theorem excB_ok {K : PySem.W.Frag} {D : Addr} (h : excB K D = true) : ExcC K D := by
  obtain ⟨a, h⟩ := Bool.and_eq_true_iff.mp h
  obtain ⟨b, h⟩ := Bool.and_eq_true_iff.mp h
  obtain ⟨c, h⟩ := Bool.and_eq_true_iff.mp h
  obtain ⟨d, h⟩ := Bool.and_eq_true_iff.mp h
  obtain ⟨e, h⟩ := Bool.and_eq_true_iff.mp h
  obtain ⟨f, h⟩ := Bool.and_eq_true_iff.mp h
  obtain ⟨g, h⟩ := Bool.and_eq_true_iff.mp h
  exact ⟨of_decide_eq_true a, of_decide_eq_true b, of_decide_eq_true c, d, of_decide_eq_true e, of_decide_eq_true f, of_decide_eq_true g, of_decide_eq_true h⟩
def saidB (K : PySem.W.Frag) (cA cH cN : Addr) : Bool := excB K cH && (decide (PySem.W.exmOne K (.ref cH) (.ref cA) = some true) && (decide (PySem.W.kitOne K (.ref cH) (.ref cH) = some true) && decide (PySem.W.kitOne K (.ref cH) (.ref cN) = some false)))
theorem saidB_ok {K : PySem.W.Frag} {cA cH cN : Addr} (h : saidB K cA cH cN = true) : ExcC K cH ∧ PySem.W.exmOne K (.ref cH) (.ref cA) = some true ∧ PySem.W.kitOne K (.ref cH) (.ref cH) = some true ∧ PySem.W.kitOne K (.ref cH) (.ref cN) = some false := by
  have a := Bool.and_eq_true_iff.mp h
  have b := Bool.and_eq_true_iff.mp a.2
  have c := Bool.and_eq_true_iff.mp b.2
  exact ⟨excB_ok a.1, of_decide_eq_true b.1, of_decide_eq_true c.1, of_decide_eq_true c.2⟩
def beB (K : PySem.W.Frag) (C : Addr) : Bool := ["NoneType", "list", "tuple", "dict"].all fun n => decide (PySem.W.kitOne K (.type n) (.ref C) = some false) && decide (PySem.W.subIn K (.ref C) (.type n) = some false)
theorem beB_ok {K : PySem.W.Frag} {C : Addr} (h : beB K C = true) : (PySem.W.kitOne K (.type "NoneType") (.ref C) = some false ∧ PySem.W.kitOne K (.type "list") (.ref C) = some false ∧ PySem.W.kitOne K (.type "tuple") (.ref C) = some false ∧ PySem.W.kitOne K (.type "dict") (.ref C) = some false) ∧ Beside K C := by
  have all := fun n hn => Bool.and_eq_true_iff.mp (List.all_eq_true.mp h n hn)
  have k := fun n hn => of_decide_eq_true (all n hn).1
  have s := fun n hn => of_decide_eq_true (all n hn).2
  exact ⟨⟨k _ (by simp), k _ (by simp), k _ (by simp), k _ (by simp)⟩, ⟨s _ (by simp), s _ (by simp), s _ (by simp), s _ (by simp)⟩⟩
theorem all_mk {l : PySem.W.OpenLaw} {w : World} {K : PySem.W.Frag} {h : Heap} {mg : Str → Option Value} {fa f1 f2 f3 f4 f5 f6 f7 f8 f9 f10 f11 f12 f13 f14 f15 f16 f17 f18 f19 f20 f21 hA0 cA cH cN C y1 y2 y3 y4 : Addr} (X : K.In h) (G : h.Ns mainGlobals mg) (hfa : mg "law" = some (.ref fa))
    {od1 an1 od2 an2 od3 an3 od4 an4 od5 an5 od6 an6 od7 an7 od8 an8 od9 an9 od10 an10 od11 an11 od12 an12 od13 an13 od14 an14 od15 an15 od16 an16 od17 an17 od18 an18 od19 an19 od20 an20 od21 an21 odH0 : Option Addr} {sl1 sl2 sl3 sl4 sl5 sl6 sl7 sl8 sl9 sl10 sl11 sl12 sl13 sl14 sl15 sl16 sl17 sl18 sl19 sl20 sl21 slH0 : Array (Option Value)} {oc1 kV1 dc1 pm1 cd1 ct1 oc2 kV2 dc2 pm2 cd2 ct2 oc3 kV3 dc3 pm3 cd3 ct3 oc4 kV4 dc4 pm4 cd4 ct4 oc5 kV5 dc5 pm5 cd5 ct5 oc6 kV6 dc6 pm6 cd6 ct6 oc7 kV7 dc7 pm7 cd7 ct7 oc8 kV8 dc8 pm8 cd8 ct8 oc9 kV9 dc9 pm9 cd9 ct9 oc10 kV10 dc10 pm10 cd10 ct10 oc11 kV11 dc11 pm11 cd11 ct11 oc12 kV12 dc12 pm12 cd12 ct12 oc13 kV13 dc13 pm13 cd13 ct13 oc14 kV14 dc14 pm14 cd14 ct14 oc15 kV15 dc15 pm15 cd15 ct15 oc16 kV16 dc16 pm16 cd16 ct16 oc17 kV17 dc17 pm17 cd17 ct17 oc18 kV18 dc18 pm18 cd18 ct18 oc19 kV19 dc19 pm19 cd19 ct19 oc20 kV20 dc20 pm20 cd20 ct20 oc21 kV21 dc21 pm21 cd21 ct21 : Value} {tI0 tT0_0 tT0_1 : Tok} {nH0 : Nat}
    {yod1 yan1 yod2 yan2 yod3 yan3 yod4 yan4 : Option Addr} {ysl1 ysl2 ysl3 ysl4 : Array (Option Value)} {yoc1 ykV1 ydc1 ypm1 ycd1 yct1 yoc2 ykV2 ydc2 ypm2 ycd2 yct2 yoc3 ykV3 ydc3 ypm3 ycd3 yct3 yoc4 ykV4 ydc4 ypm4 ycd4 yct4 : Value}
    (aC : PySem.W.nsIn K mainGlobals "Task" = some (some (.ref C)))
    (ya1 : PySem.W.findIn K (.ref C) "__init__" = some (some (.ref y1))) (yi1 : PySem.W.isFn K (.ref y1) = true) (yl1 : K.lookup y1 = some ⟨yoc1, yod1, .func (PySem.W.fnOf "__init__" "Task.__init__" (defArgs s_init) (defBody s_init) (defScope s_init) .none ykV1 ydc1 ypm1 yan1 ycd1 yct1), ysl1⟩) (yc1 : PySem.W.codeIn K ycd1 "Task.__init__" = true) (yk1 : PySem.W.keepIn K (.ref y1) = true)
    (ya2 : PySem.W.findIn K (.ref C) "inputs" = some (some (.ref y2))) (yi2 : PySem.W.isFn K (.ref y2) = true) (yl2 : K.lookup y2 = some ⟨yoc2, yod2, .func (PySem.W.fnOf "inputs" "Task.inputs" (defArgs s_inputs) (defBody s_inputs) (defScope s_inputs) .none ykV2 ydc2 ypm2 yan2 ycd2 yct2), ysl2⟩) (yc2 : PySem.W.codeIn K ycd2 "Task.inputs" = true) (yk2 : PySem.W.keepIn K (.ref y2) = true)
    (ya3 : PySem.W.findIn K (.ref C) "pairs" = some (some (.ref y3))) (yi3 : PySem.W.isFn K (.ref y3) = true) (yl3 : K.lookup y3 = some ⟨yoc3, yod3, .func (PySem.W.fnOf "pairs" "Task.pairs" (defArgs s_pairs) (defBody s_pairs) (defScope s_pairs) .none ykV3 ydc3 ypm3 yan3 ycd3 yct3), ysl3⟩) (yc3 : PySem.W.codeIn K ycd3 "Task.pairs" = true) (yk3 : PySem.W.keepIn K (.ref y3) = true)
    (ya4 : PySem.W.findIn K (.ref C) "__eq__" = some (some (.ref y4))) (yi4 : PySem.W.isFn K (.ref y4) = true) (yl4 : K.lookup y4 = some ⟨yoc4, yod4, .func (PySem.W.fnOf "__eq__" "Task.__eq__" (defArgs s_eq) (defBody s_eq) (defScope s_eq) .none ykV4 ydc4 ypm4 yan4 ycd4 yct4), ysl4⟩) (yc4 : PySem.W.codeIn K ycd4 "Task.__eq__" = true) (yk4 : PySem.W.keepIn K (.ref y4) = true)
    (pg : PySem.W.plainGet K C Str.empty = true) (hd : PySem.W.hasDictIn K C = true) (po : PySem.W.plainOver K C = true) (sa : PySem.W.findIn K (.ref C) "__setattr__" = some (some (.builtin "object.__setattr__"))) (mkC : PySem.W.makesIn K C = true) (kC : PySem.W.keepIn K (.ref C) = true) (nA : PySem.W.findIn K (.ref C) "alone" = some none) (nB : PySem.W.findIn K (.ref C) "both" = some none)
    (a1 : PySem.W.nsIn K mainGlobals "is_whole" = some (some (.ref f1))) (l1 : K.lookup f1 = some ⟨oc1, od1, .func (PySem.W.fnOf "is_whole" "is_whole" (defArgs sWhole) (defBody sWhole) (defScope sWhole) .none kV1 dc1 pm1 an1 cd1 ct1), sl1⟩) (c1 : PySem.W.codeIn K cd1 "is_whole" = true) (k1 : PySem.W.keepIn K (.ref f1) = true)
    (a2 : PySem.W.nsIn K mainGlobals "is_whole_within" = some (some (.ref f2))) (l2 : K.lookup f2 = some ⟨oc2, od2, .func (PySem.W.fnOf "is_whole_within" "is_whole_within" (defArgs sWithin) (defBody sWithin) (defScope sWithin) .none kV2 dc2 pm2 an2 cd2 ct2), sl2⟩) (c2 : PySem.W.codeIn K cd2 "is_whole_within" = true) (k2 : PySem.W.keepIn K (.ref f2) = true)
    (a3 : PySem.W.nsIn K mainGlobals "is_hand" = some (some (.ref f3))) (l3 : K.lookup f3 = some ⟨oc3, od3, .func (PySem.W.fnOf "is_hand" "is_hand" (defArgs sHand) (defBody sHand) (defScope sHand) .none kV3 dc3 pm3 an3 cd3 ct3), sl3⟩) (c3 : PySem.W.codeIn K cd3 "is_hand" = true) (k3 : PySem.W.keepIn K (.ref f3) = true)
    (a4 : PySem.W.nsIn K mainGlobals "is_rising" = some (some (.ref f4))) (l4 : K.lookup f4 = some ⟨oc4, od4, .func (PySem.W.fnOf "is_rising" "is_rising" (defArgs s_is_rising) (defBody s_is_rising) (defScope s_is_rising) .none kV4 dc4 pm4 an4 cd4 ct4), sl4⟩) (c4 : PySem.W.codeIn K cd4 "is_rising" = true) (k4 : PySem.W.keepIn K (.ref f4) = true)
    (a5 : PySem.W.nsIn K mainGlobals "is_output" = some (some (.ref f5))) (l5 : K.lookup f5 = some ⟨oc5, od5, .func (PySem.W.fnOf "is_output" "is_output" (defArgs s_is_output) (defBody s_is_output) (defScope s_is_output) .none kV5 dc5 pm5 an5 cd5 ct5), sl5⟩) (c5 : PySem.W.codeIn K cd5 "is_output" = true) (k5 : PySem.W.keepIn K (.ref f5) = true)
    (a6 : PySem.W.nsIn K mainGlobals "is_outputs" = some (some (.ref f6))) (l6 : K.lookup f6 = some ⟨oc6, od6, .func (PySem.W.fnOf "is_outputs" "is_outputs" (defArgs s_is_outputs) (defBody s_is_outputs) (defScope s_is_outputs) .none kV6 dc6 pm6 an6 cd6 ct6), sl6⟩) (c6 : PySem.W.codeIn K cd6 "is_outputs" = true) (k6 : PySem.W.keepIn K (.ref f6) = true)
    (a7 : PySem.W.nsIn K mainGlobals "is_rows" = some (some (.ref f7))) (l7 : K.lookup f7 = some ⟨oc7, od7, .func (PySem.W.fnOf "is_rows" "is_rows" (defArgs s_is_rows) (defBody s_is_rows) (defScope s_is_rows) .none kV7 dc7 pm7 an7 cd7 ct7), sl7⟩) (c7 : PySem.W.codeIn K cd7 "is_rows" = true) (k7 : PySem.W.keepIn K (.ref f7) = true)
    (a8 : PySem.W.nsIn K mainGlobals "is_alone" = some (some (.ref f8))) (l8 : K.lookup f8 = some ⟨oc8, od8, .func (PySem.W.fnOf "is_alone" "is_alone" (defArgs s_is_alone) (defBody s_is_alone) (defScope s_is_alone) .none kV8 dc8 pm8 an8 cd8 ct8), sl8⟩) (c8 : PySem.W.codeIn K cd8 "is_alone" = true) (k8 : PySem.W.keepIn K (.ref f8) = true)
    (a9 : PySem.W.nsIn K mainGlobals "is_output_pair" = some (some (.ref f9))) (l9 : K.lookup f9 = some ⟨oc9, od9, .func (PySem.W.fnOf "is_output_pair" "is_output_pair" (defArgs s_is_output_pair) (defBody s_is_output_pair) (defScope s_is_output_pair) .none kV9 dc9 pm9 an9 cd9 ct9), sl9⟩) (c9 : PySem.W.codeIn K cd9 "is_output_pair" = true) (k9 : PySem.W.keepIn K (.ref f9) = true)
    (a10 : PySem.W.nsIn K mainGlobals "is_let" = some (some (.ref f10))) (l10 : K.lookup f10 = some ⟨oc10, od10, .func (PySem.W.fnOf "is_let" "is_let" (defArgs s_is_let) (defBody s_is_let) (defScope s_is_let) .none kV10 dc10 pm10 an10 cd10 ct10), sl10⟩) (c10 : PySem.W.codeIn K cd10 "is_let" = true) (k10 : PySem.W.keepIn K (.ref f10) = true)
    (a11 : PySem.W.nsIn K mainGlobals "is_input_pair" = some (some (.ref f11))) (l11 : K.lookup f11 = some ⟨oc11, od11, .func (PySem.W.fnOf "is_input_pair" "is_input_pair" (defArgs s_is_input_pair) (defBody s_is_input_pair) (defScope s_is_input_pair) .none kV11 dc11 pm11 an11 cd11 ct11), sl11⟩) (c11 : PySem.W.codeIn K cd11 "is_input_pair" = true) (k11 : PySem.W.keepIn K (.ref f11) = true)
    (a12 : PySem.W.nsIn K mainGlobals "each_comes" = some (some (.ref f12))) (l12 : K.lookup f12 = some ⟨oc12, od12, .func (PySem.W.fnOf "each_comes" "each_comes" (defArgs s_each_comes) (defBody s_each_comes) (defScope s_each_comes) .none kV12 dc12 pm12 an12 cd12 ct12), sl12⟩) (c12 : PySem.W.codeIn K cd12 "each_comes" = true) (k12 : PySem.W.keepIn K (.ref f12) = true)
    (a13 : PySem.W.nsIn K mainGlobals "is_both" = some (some (.ref f13))) (l13 : K.lookup f13 = some ⟨oc13, od13, .func (PySem.W.fnOf "is_both" "is_both" (defArgs s_is_both) (defBody s_is_both) (defScope s_is_both) .none kV13 dc13 pm13 an13 cd13 ct13), sl13⟩) (c13 : PySem.W.codeIn K cd13 "is_both" = true) (k13 : PySem.W.keepIn K (.ref f13) = true)
    (a14 : PySem.W.nsIn K mainGlobals "_law_cell_at" = some (some (.ref f14))) (l14 : K.lookup f14 = some ⟨oc14, od14, .func (PySem.W.fnOf "_law_cell_at" "_law_cell_at" (defArgs sCell) (defBody sCell) (defScope sCell) .none kV14 dc14 pm14 an14 cd14 ct14), sl14⟩) (c14 : PySem.W.codeIn K cd14 "_law_cell_at" = true) (k14 : PySem.W.keepIn K (.ref f14) = true)
    (a15 : PySem.W.nsIn K mainGlobals "_law_digit" = some (some (.ref f15))) (l15 : K.lookup f15 = some ⟨oc15, od15, .func (PySem.W.fnOf "_law_digit" "_law_digit" (defArgs s__law_digit) (defBody s__law_digit) (defScope s__law_digit) .none kV15 dc15 pm15 an15 cd15 ct15), sl15⟩) (c15 : PySem.W.codeIn K cd15 "_law_digit" = true) (k15 : PySem.W.keepIn K (.ref f15) = true)
    (a16 : PySem.W.nsIn K mainGlobals "_law_few" = some (some (.ref f16))) (l16 : K.lookup f16 = some ⟨oc16, od16, .func (PySem.W.fnOf "_law_few" "_law_few" (defArgs s__law_few) (defBody s__law_few) (defScope s__law_few) .none kV16 dc16 pm16 an16 cd16 ct16), sl16⟩) (c16 : PySem.W.codeIn K cd16 "_law_few" = true) (k16 : PySem.W.keepIn K (.ref f16) = true)
    (a17 : PySem.W.nsIn K mainGlobals "_law_outs" = some (some (.ref f17))) (l17 : K.lookup f17 = some ⟨oc17, od17, .func (PySem.W.fnOf "_law_outs" "_law_outs" (defArgs s__law_outs) (defBody s__law_outs) (defScope s__law_outs) .none kV17 dc17 pm17 an17 cd17 ct17), sl17⟩) (c17 : PySem.W.codeIn K cd17 "_law_outs" = true) (k17 : PySem.W.keepIn K (.ref f17) = true)
    (a18 : PySem.W.nsIn K mainGlobals "_law_parts" = some (some (.ref f18))) (l18 : K.lookup f18 = some ⟨oc18, od18, .func (PySem.W.fnOf "_law_parts" "_law_parts" (defArgs s__law_parts) (defBody s__law_parts) (defScope s__law_parts) .none kV18 dc18 pm18 an18 cd18 ct18), sl18⟩) (c18 : PySem.W.codeIn K cd18 "_law_parts" = true) (k18 : PySem.W.keepIn K (.ref f18) = true)
    (a19 : PySem.W.nsIn K mainGlobals "_law_no_hand" = some (some (.ref f19))) (l19 : K.lookup f19 = some ⟨oc19, od19, .func (PySem.W.fnOf "_law_no_hand" "_law_no_hand" (defArgs s__law_no_hand) (defBody s__law_no_hand) (defScope s__law_no_hand) .none kV19 dc19 pm19 an19 cd19 ct19), sl19⟩) (c19 : PySem.W.codeIn K cd19 "_law_no_hand" = true) (k19 : PySem.W.keepIn K (.ref f19) = true)
    (a20 : PySem.W.nsIn K mainGlobals "_law_changed" = some (some (.ref f20))) (l20 : K.lookup f20 = some ⟨oc20, od20, .func (PySem.W.fnOf "_law_changed" "_law_changed" (defArgs s__law_changed) (defBody s__law_changed) (defScope s__law_changed) .none kV20 dc20 pm20 an20 cd20 ct20), sl20⟩) (c20 : PySem.W.codeIn K cd20 "_law_changed" = true) (k20 : PySem.W.keepIn K (.ref f20) = true)
    (a21 : PySem.W.nsIn K mainGlobals "law" = some (some (.ref f21))) (l21 : K.lookup f21 = some ⟨oc21, od21, .func (PySem.W.fnOf "law" "law" (defArgs sLaw) (defBody sLaw) (defScope sLaw) .none kV21 dc21 pm21 an21 cd21 ct21), sl21⟩) (c21 : PySem.W.codeIn K cd21 "law" = true) (k21 : PySem.W.keepIn K (.ref f21) = true)
    (z0 : PySem.W.nsIn K mainGlobals "isinstance" = some none)
    (z1 : PySem.W.nsIn K mainGlobals "int" = some none)
    (z2 : PySem.W.nsIn K mainGlobals "bool" = some none)
    (z3 : PySem.W.nsIn K mainGlobals "len" = some none)
    (z4 : PySem.W.nsIn K mainGlobals "range" = some none)
    (z5 : PySem.W.nsIn K mainGlobals "list" = some none)
    (z6 : PySem.W.nsIn K mainGlobals "tuple" = some none)
    (z7 : PySem.W.nsIn K mainGlobals "all" = some none)
    (z8 : PySem.W.nsIn K mainGlobals "sum" = some none)
    (z9 : PySem.W.nsIn K mainGlobals "min" = some none)
    (z10 : PySem.W.nsIn K mainGlobals "sorted" = some none)
    (z11 : PySem.W.nsIn K mainGlobals "set" = some none)
    (z12 : PySem.W.nsIn K mainGlobals "max" = some none)
    (z13 : PySem.W.nsIn K mainGlobals "zip" = some none)
    (z14 : PySem.W.nsIn K mainGlobals "dict" = some none)
    (z15 : PySem.W.nsIn K mainGlobals "abs" = some none)
    (z16 : PySem.W.nsIn K mainGlobals "repr" = some none)
    (i0 : PySem.W.nsIn K mainGlobals "MOST_OUTPUT" = some (some (.int 63 tI0)))
    (t0 : PySem.W.nsIn K mainGlobals "HANDS" = some (some (.ref hA0))) (u0 : K.lookup hA0 = some ⟨.type "tuple", odH0, .seq (Array.mk [.int 0 tT0_0, .int 1 tT0_1]) nH0, slH0⟩)
    (n0 : PySem.W.nsIn K mainGlobals "AloneError" = some (some (.ref cA)))
    (n1 : PySem.W.nsIn K mainGlobals "NoHand" = some (some (.ref cH)))
    (n2 : PySem.W.nsIn K mainGlobals "NoTask" = some (some (.ref cN)))
    (q_cH : PySem.W.excIn K cH [.type "ValueError", .type "Exception", .type "BaseException", .type "object"] "ValueError.__new__" = true) (kk_cH : PySem.W.keepIn K (.ref cH) = true) (r_cH : raiseB K cH = true)
    (q1 : PySem.W.findIn K (.ref C) "__class__" = some (some (.builtin "object.__class__")))
    (q2 : PySem.W.specialIn K (.builtin "object.__class__") "__get__" = some (some (.builtin "getset_descriptor.__get__")))
    (q3 : PySem.W.takesIn K (.builtin "object.__class__") = some true)
    (q4 : PySem.W.mroIn K C (.type "object") = some true)
    (q5 : PySem.W.findIn K (.ref C) "__ne__" = some (some (.builtin "object.__ne__")))
    (q6 : PySem.W.subIn K (.ref C) (.type "object") = some true)
    (q7 : beB K C = true)
    (q8 : saidB K cA cH cN = true)
    : ∃ fd : FuncData, (∀ (s : Shared) (v : Value), BindsTo s fd ⟨[v], []⟩ [("_law_script", v)]) ∧ ∀ base : Heap, K.In base → base.Ns mainGlobals mg → Quiet l.prog w K mg base 11 fa fd ["_law_script"] (spLaw K) := by
  have e := hfa.symm.trans (PySem.W.mg_of X G a21)
  cases e
  have F1 := fun_mk (st := sWhole) l1 c1 k1
  have b1 := F1.binds (ps := ["thing"]) fun _ _ _ _ _ _ us hl => match us, hl with | [_], _ => rfl
  have F2 := fun_mk (st := sWithin) l2 c2 k2
  have b2 := F2.binds (ps := ["thing", "least", "most"]) fun _ _ _ _ _ _ us hl => match us, hl with | [_, _, _], _ => rfl
  have F3 := fun_mk (st := sHand) l3 c3 k3
  have b3 := F3.binds (ps := ["thing"]) fun _ _ _ _ _ _ us hl => match us, hl with | [_], _ => rfl
  have F4 := fun_mk (st := s_is_rising) l4 c4 k4
  have b4 := F4.binds (ps := ["things"]) fun _ _ _ _ _ _ us hl => match us, hl with | [_], _ => rfl
  have F5 := fun_mk (st := s_is_output) l5 c5 k5
  have b5 := F5.binds (ps := ["thing"]) fun _ _ _ _ _ _ us hl => match us, hl with | [_], _ => rfl
  have F6 := fun_mk (st := s_is_outputs) l6 c6 k6
  have b6 := F6.binds (ps := ["thing"]) fun _ _ _ _ _ _ us hl => match us, hl with | [_], _ => rfl
  have F7 := fun_mk (st := s_is_rows) l7 c7 k7
  have b7 := F7.binds (ps := ["thing"]) fun _ _ _ _ _ _ us hl => match us, hl with | [_], _ => rfl
  have F8 := fun_mk (st := s_is_alone) l8 c8 k8
  have b8 := F8.binds (ps := ["thing"]) fun _ _ _ _ _ _ us hl => match us, hl with | [_], _ => rfl
  have F9 := fun_mk (st := s_is_output_pair) l9 c9 k9
  have b9 := F9.binds (ps := ["thing"]) fun _ _ _ _ _ _ us hl => match us, hl with | [_], _ => rfl
  have F10 := fun_mk (st := s_is_let) l10 c10 k10
  have b10 := F10.binds (ps := ["thing"]) fun _ _ _ _ _ _ us hl => match us, hl with | [_], _ => rfl
  have F11 := fun_mk (st := s_is_input_pair) l11 c11 k11
  have b11 := F11.binds (ps := ["thing", "alone"]) fun _ _ _ _ _ _ us hl => match us, hl with | [_, _], _ => rfl
  have F12 := fun_mk (st := s_each_comes) l12 c12 k12
  have b12 := F12.binds (ps := ["both", "alone", "hand"]) fun _ _ _ _ _ _ us hl => match us, hl with | [_, _, _], _ => rfl
  have F13 := fun_mk (st := s_is_both) l13 c13 k13
  have b13 := F13.binds (ps := ["thing", "alone"]) fun _ _ _ _ _ _ us hl => match us, hl with | [_, _], _ => rfl
  have F14 := fun_mk (st := sCell) l14 c14 k14
  have b14 := F14.binds (ps := ["_law_script", "_law_k"]) fun _ _ _ _ _ _ us hl => match us, hl with | [_, _], _ => rfl
  have F15 := fun_mk (st := s__law_digit) l15 c15 k15
  have b15 := F15.binds (ps := ["_law_state", "_law_base"]) fun _ _ _ _ _ _ us hl => match us, hl with | [_, _], _ => rfl
  have F16 := fun_mk (st := s__law_few) l16 c16 k16
  have b16 := F16.binds (ps := ["_law_state", "_law_great", "_law_most"]) fun _ _ _ _ _ _ us hl => match us, hl with | [_, _, _], _ => rfl
  have F17 := fun_mk (st := s__law_outs) l17 c17 k17
  have b17 := F17.binds (ps := ["_law_state", "_law_great"]) fun _ _ _ _ _ _ us hl => match us, hl with | [_, _], _ => rfl
  have F18 := fun_mk (st := s__law_parts) l18 c18 k18
  have b18 := F18.binds (ps := ["_law_state", "_law_most"]) fun _ _ _ _ _ _ us hl => match us, hl with | [_, _], _ => rfl
  have F19 := fun_mk (st := s__law_no_hand) l19 c19 k19
  have b19 := F19.binds (ps := ["_law_task", "_law_thing"]) fun _ _ _ _ _ _ us hl => match us, hl with | [_, _], _ => rfl
  have F20 := fun_mk (st := s__law_changed) l20 c20 k20
  have b20 := F20.binds (ps := ["_law_alone", "_law_both"]) fun _ _ _ _ _ _ us hl => match us, hl with | [_, _], _ => rfl
  have F21 := fun_mk (st := sLaw) l21 c21 k21
  have Zc : TxtC K mg C := ⟨⟨pg, hd, po, sa⟩, nA, nB, PySem.W.mg_of X G aC⟩
  have Y1 := fun_mk (st := s_init) yl1 yc1 yk1
  have yb1 := Y1.binds (ps := ["self", "alone", "both"]) fun _ _ _ _ _ _ us hl => match us, hl with | [_, _, _], _ => rfl
  have Y2 := fun_mk (st := s_inputs) yl2 yc2 yk2
  have yb2 := Y2.binds (ps := ["self", "hand"]) fun _ _ _ _ _ _ us hl => match us, hl with | [_, _], _ => rfl
  have Y3 := fun_mk (st := s_pairs) yl3 yc3 yk3
  have yb3 := Y3.binds (ps := ["self"]) fun _ _ _ _ _ _ us hl => match us, hl with | [_], _ => rfl
  have Y4 := fun_mk (st := s_eq) yl4 yc4 yk4
  have yb4 := Y4.binds (ps := ["self", "other"]) fun _ _ _ _ _ _ us hl => match us, hl with | [_, _], _ => rfl
  have m := fun {n : Str} {v : Value} (e : PySem.W.nsIn K mainGlobals n = some (some v)) => PySem.W.mg_of X G e
  have mz := fun {n : Str} (e : PySem.W.nsIn K mainGlobals n = some none) => PySem.W.mg_none_of X G e
  have T : Txt K mg := ⟨mz z0, mz z1, mz z2, mz z3, mz z4, mz z5, mz z6, mz z7, mz z8, mz z9⟩
  have T2 : Txt2 K mg := ⟨mz z10, mz z11, mz z12, mz z13, mz z14⟩
  have U : TxtH K mg := ⟨_, m t0, fun H => .inr ⟨_, _, _, u0, rfl, rfl, (by show 2 ≤ sizeLine; decide), .cons ⟨_, rfl⟩ (.cons ⟨_, rfl⟩ .nil)⟩⟩
  obtain ⟨qk, Bs⟩ := beB_ok q7
  have EC : EqC K C := ⟨q1, q2, q3, q4, q5, q6, qk.1, qk.2.1, qk.2.2.1, qk.2.2.2⟩
  have R1 := raiseB_ok (mg := mg) r_cH (m n1) q_cH kk_cH
  obtain ⟨s1, s2, s3, s4⟩ := saidB_ok q8
  have SC : SaidC K mg cA cH cN := ⟨mz z0, m n0, m n1, m n2, s1, s2, s3, s4⟩
  refine ⟨PySem.W.fnOf "law" "law" (defArgs sLaw) (defBody sLaw) (defScope sLaw) .none kV21 dc21 pm21 an21 cd21 ct21, fun s v => .of_eq rfl, fun base _ _ => ?_⟩
  have e1 : Def l.prog w K mg base "is_whole" ["thing"] 1 (spWholeG K) f1 _ := ⟨ok_wholeG F1 T, b1, k1, m a1⟩
  have e2 : Def l.prog w K mg base "is_whole_within" ["thing", "least", "most"] 2 (spWithinG K) f2 _ := ⟨ok_withinG F2 e1, b2, k2, m a2⟩
  have e3 : Def l.prog w K mg base "is_hand" ["thing"] 3 (spHandG K) f3 _ := ⟨ok_handG F3 e2, b3, k3, m a3⟩
  have eRI : Def l.prog w K mg base "is_rising" ["things"] 1 (spRisI K) f4 _ := ⟨ok_risI F4 T, b4, k4, m a4⟩
  have eRP : Def l.prog w K mg base "is_rising" ["things"] 1 (spRisP K) f4 _ := ⟨ok_risP F4 T, b4, k4, m a4⟩
  have e5 : Def l.prog w K mg base "is_output" ["thing"] 3 (spOut K) f5 _ := ⟨ok_out F5 (m i0) e2, b5, k5, m a5⟩
  have e6 : Def l.prog w K mg base "is_outputs" ["thing"] 4 (spOuts K) f6 _ := ⟨ok_outs F6 T e5 eRI, b6, k6, m a6⟩
  have e7 : Def l.prog w K mg base "is_rows" ["thing"] 5 (spRows K) f7 _ := ⟨ok_rows F7 T e6, b7, k7, m a7⟩
  have e8 : Def l.prog w K mg base "is_alone" ["thing"] 6 (spAlone K) f8 _ := ⟨ok_alone F8 T e7, b8, k8, m a8⟩
  have e9 : Def l.prog w K mg base "is_output_pair" ["thing"] 4 (spPairB K) f9 _ := ⟨ok_outpair F9 T e5, b9, k9, m a9⟩
  have e10 : Def l.prog w K mg base "is_let" ["thing"] 5 (spLetB K) f10 _ := ⟨ok_let F10 T e9 eRP, b10, k10, m a10⟩
  have e11 : Def l.prog w K mg base "is_input_pair" ["thing", "alone"] 3 (spInp K) f11 _ := ⟨ok_inp F11 T U e2, b11, k11, m a11⟩
  have e12 : Def l.prog w K mg base "each_comes" ["both", "alone", "hand"] 1 (spEach K) f12 _ := ⟨ok_each F12 T T2, b12, k12, m a12⟩
  have e13 : Def l.prog w K mg base "is_both" ["thing", "alone"] 6 (spBoth K) f13 _ := ⟨ok_both F13 T T2 U e11 e10 e12, b13, k13, m a13⟩
  have tk : KDef l.prog w K mg base C "Task" ["self", "alone", "both"] 7 (spInit K C) y1 _ := ⟨ok_init Y1 T T2 Zc e8 e13, yb1, ⟨mkC, ya1, yi1, kC⟩, Zc.mg⟩
  have inp : MDef l.prog w K mg base C "inputs" nInputs 4 (spInputs K C) y2 _ := ⟨ok_inputs Y2 T Zc e3, yb2, ⟨ya2, yi2, yk2⟩⟩
  have inx : MDefX l.prog w K mg base C "inputs" nInputs 4 (spInputsB K C cH) y2 _ := ⟨ok_inputsX Y2 T Zc R1 e3, yb2, ⟨ya2, yi2, yk2⟩⟩
  have prs : MDef l.prog w K mg base C "pairs" nPairs 1 (spPairs K C) y3 _ := ⟨ok_pairs Y3 T2 Zc, yb3, ⟨ya3, yi3, yk3⟩⟩
  have eq : EqD l.prog w K mg base C 1 (spEq K C) y4 _ := ⟨ok_eq Y4 T Zc EC, yb4, ya4, yi4⟩
  have e14 : Def l.prog w K mg base "_law_cell_at" ["_law_script", "_law_k"] 1 (spCell K) f14 _ := ⟨ok_cell F14 T, b14, k14, m a14⟩
  have e15 : Def l.prog w K mg base "_law_digit" ["_law_state", "_law_base"] 1 spDigit f15 _ := ⟨ok_digit F15 T, b15, k15, m a15⟩
  have e16 : Def l.prog w K mg base "_law_few" ["_law_state", "_law_great", "_law_most"] 2 spFew f16 _ := ⟨ok_few F16 T T2 e15, b16, k16, m a16⟩
  have e17 : Def l.prog w K mg base "_law_outs" ["_law_state", "_law_great"] 2 spOuts2 f17 _ := ⟨ok_outs2 F17 T T2 e15, b17, k17, m a17⟩
  have e18 : Def l.prog w K mg base "_law_parts" ["_law_state", "_law_most"] 3 spParts f18 _ := ⟨ok_parts F18 T T2 e15 e16 e17, b18, k18, m a18⟩
  have e19 : Def l.prog w K mg base "_law_no_hand" ["_law_task", "_law_thing"] 5 (spNoHand K C) f19 _ := ⟨ok_no F19 Zc SC inx, b19, k19, m a19⟩
  have e20 : Def l.prog w K mg base "_law_changed" ["_law_alone", "_law_both"] 2 (spChanged K) f20 _ := ⟨ok_changed F20 T T2, b20, k20, m a20⟩
  exact ok_law F21 T T2 Zc EC Bs (mz z16) e14 e18 tk eq inp prs e20 e15 e19
theorem walk {l : PySem.W.OpenLaw} {q : Program} {loose : List Str} {XP : (Str → Option Value) → Heap → Prop} {YP : World → Heap → Prop} {d : DefRec} {K : Params → PySem.W.Frag} (hn : l.most = some 63) (hdf : d.params.defaults = [])
    (hY : ∀ (w : World) (h : Heap), YP w h → (K w.params).In h)
    (F : ∀ (w : World) (mg : Str → Option Value) (fa : Addr) (h : Heap), (K w.params).In h → h.Ns mainGlobals mg → mg d.name = some (.ref fa) →
      ∃ fd : FuncData, (∀ (s : Shared) (u : Value), BindsTo s fd ⟨[u], []⟩ [("_law_script", u)]) ∧ ∀ base : Heap, (K w.params).In base → base.Ns mainGlobals mg → Quiet l.prog w (K w.params) mg base 11 fa fd ["_law_script"] (spLaw (K w.params))) :
    PySem.W.WalkO q loose XP YP l.row.toRowW d [] (fun f vs => PySem.call f vs) := by
  refine Att.attach_callB hn hdf fun w s₀ s mg mb fa o pm cd doc a vs ns G Y ho hd hcd hmg hobj hints hlen hbits hg => ?_
  have KX := hY w _ Y
  obtain ⟨fd, hb, hF⟩ := F w mg fa _ KX G.T.g hmg
  exact quiet_end0 KX G.T.g G.T.b G.T.builtins G.T.nolimit hg hobj hints (Nat.le_trans hlen (by decide)) ⟨rfl, by decide, by decide⟩ hF hb fun H hS => ⟨a, ns, rfl, hS, hlen, fun _ => rfl⟩
end TA
open PySem PySem.W PyProof.Rows
set_option maxRecDepth 100000 in
set_option maxHeartbeats 0 in
theorem PySem.Challenge.cw_twoalone_k01_tasks_told_holds : PySem.Challenge.rw_twoalone_k01_tasks_told.Holds := by
  w_on; o_law; k_head; (case hw => w_witness2)
  k_fill
  refine TA.walk (l := PySem.Challenge.rw_twoalone_k01_tasks_told) rfl rfl (fun w h Y => PySem.W.kIn_of Y) ?F
  case F =>
    intro w mg fa h KX G hmg
    refine' TA.all_mk KX G hmg ?aC ?ya1 ?yi1 ?yl1 ?yc1 ?yk1 ?ya2 ?yi2 ?yl2 ?yc2 ?yk2 ?ya3 ?yi3 ?yl3 ?yc3 ?yk3 ?ya4 ?yi4 ?yl4 ?yc4 ?yk4 ?pg ?hd ?po ?sa ?mkC ?kC ?nA ?nB ?a1 ?l1 ?c1 ?k1 ?a2 ?l2 ?c2 ?k2 ?a3 ?l3 ?c3 ?k3 ?a4 ?l4 ?c4 ?k4 ?a5 ?l5 ?c5 ?k5 ?a6 ?l6 ?c6 ?k6 ?a7 ?l7 ?c7 ?k7 ?a8 ?l8 ?c8 ?k8 ?a9 ?l9 ?c9 ?k9 ?a10 ?l10 ?c10 ?k10 ?a11 ?l11 ?c11 ?k11 ?a12 ?l12 ?c12 ?k12 ?a13 ?l13 ?c13 ?k13 ?a14 ?l14 ?c14 ?k14 ?a15 ?l15 ?c15 ?k15 ?a16 ?l16 ?c16 ?k16 ?a17 ?l17 ?c17 ?k17 ?a18 ?l18 ?c18 ?k18 ?a19 ?l19 ?c19 ?k19 ?a20 ?l20 ?c20 ?k20 ?a21 ?l21 ?c21 ?k21 ?z0 ?z1 ?z2 ?z3 ?z4 ?z5 ?z6 ?z7 ?z8 ?z9 ?z10 ?z11 ?z12 ?z13 ?z14 ?z15 ?z16 ?i0 ?t0 ?u0 ?n0 ?n1 ?n2 ?q_cH ?kk_cH ?r_cH ?q1 ?q2 ?q3 ?q4 ?q5 ?q6 ?q7 ?q8
    (case aC => k_is); (case ya1 => k_is); (case yi1 => k_is); (case yl1 => k_is); (case yc1 => k_is); (case yk1 => k_is); (case ya2 => k_is); (case yi2 => k_is); (case yl2 => k_is); (case yc2 => k_is); (case yk2 => k_is); (case ya3 => k_is); (case yi3 => k_is); (case yl3 => k_is); (case yc3 => k_is); (case yk3 => k_is); (case ya4 => k_is); (case yi4 => k_is); (case yl4 => k_is); (case yc4 => k_is); (case yk4 => k_is); (case pg => k_is); (case hd => k_is); (case po => k_is); (case sa => k_is); (case mkC => k_is); (case kC => k_is); (case nA => k_is); (case nB => k_is)
    (case a1 => k_is); (case l1 => k_is); (case c1 => k_is); (case k1 => k_is); (case a2 => k_is); (case l2 => k_is); (case c2 => k_is); (case k2 => k_is); (case a3 => k_is); (case l3 => k_is); (case c3 => k_is); (case k3 => k_is); (case a4 => k_is); (case l4 => k_is); (case c4 => k_is); (case k4 => k_is); (case a5 => k_is); (case l5 => k_is); (case c5 => k_is); (case k5 => k_is); (case a6 => k_is); (case l6 => k_is); (case c6 => k_is); (case k6 => k_is); (case a7 => k_is); (case l7 => k_is); (case c7 => k_is); (case k7 => k_is); (case a8 => k_is); (case l8 => k_is); (case c8 => k_is); (case k8 => k_is); (case a9 => k_is); (case l9 => k_is); (case c9 => k_is); (case k9 => k_is); (case a10 => k_is); (case l10 => k_is); (case c10 => k_is); (case k10 => k_is); (case a11 => k_is); (case l11 => k_is); (case c11 => k_is); (case k11 => k_is); (case a12 => k_is); (case l12 => k_is); (case c12 => k_is); (case k12 => k_is); (case a13 => k_is); (case l13 => k_is); (case c13 => k_is); (case k13 => k_is); (case a14 => k_is); (case l14 => k_is); (case c14 => k_is); (case k14 => k_is); (case a15 => k_is); (case l15 => k_is); (case c15 => k_is); (case k15 => k_is); (case a16 => k_is); (case l16 => k_is); (case c16 => k_is); (case k16 => k_is); (case a17 => k_is); (case l17 => k_is); (case c17 => k_is); (case k17 => k_is); (case a18 => k_is); (case l18 => k_is); (case c18 => k_is); (case k18 => k_is); (case a19 => k_is); (case l19 => k_is); (case c19 => k_is); (case k19 => k_is); (case a20 => k_is); (case l20 => k_is); (case c20 => k_is); (case k20 => k_is); (case a21 => k_is); (case l21 => k_is); (case c21 => k_is); (case k21 => k_is); (case z0 => k_is); (case z1 => k_is); (case z2 => k_is); (case z3 => k_is); (case z4 => k_is); (case z5 => k_is); (case z6 => k_is); (case z7 => k_is); (case z8 => k_is); (case z9 => k_is); (case z10 => k_is); (case z11 => k_is); (case z12 => k_is); (case z13 => k_is); (case z14 => k_is); (case z15 => k_is); (case z16 => k_is); (case i0 => k_is); (case t0 => k_is); (case u0 => k_is); (case n0 => k_is); (case n1 => k_is); (case n2 => k_is); (case q_cH => k_exc); (case kk_cH => k_is); (case r_cH => kernel_rfl); (case q1 => k_is); (case q2 => k_is); (case q3 => k_is); (case q4 => k_is); (case q5 => k_is); (case q6 => k_is); (case q7 => kernel_rfl); (case q8 => kernel_rfl)
