import PyProof.Rows.All
import Wide.All
import OpenK.AllK
import Wide.FinOn
import HandS.ForMost
import HandS.IsInst
import HandS.DictTup
import HandS.Conv
import HandS.TupSets
import HandS.Walk
import HandS.SetBool
import HandS.DictComp
import HandS.Strs
import HandS.SetFor
import KE.KDictCopyH
import KE.KDictDisplayH
import HandS.Wide
import HandS.Defaults
import HandS.ExcIs
import HandS.ForExc
import HandS.More
import HandS.Deep
import HandS.Lambda
import PyProof.ReprRoads
import KE.DataFind
import HandS.TupLen
import HandS.EndBits
import KE.KNestM
import PySem.Challenge.RW_twoalone_k83_whole_boxed_in_every_weavin
set_option Elab.async false
set_option maxRecDepth 100000
set_option maxHeartbeats 4000000
namespace L2
open PySem PySem.Spec PyProof.Rows
set_option linter.unusedVariables false
/-! dicts with tuple keys: their items walked, their keys sorted -/
section
variable {X : Cx} {pins : List (Addr × Obj)} {σ : St} {H : Hp} {s : Shared} {d : Addr} {o : Obj}
/-- a locked dict of tuple keys as it lies: its entries, the keys' tuples, the values -/
theorem Inv.entriesT {kvs : List (List Key × V)} (I : Inv X pins σ H s) (locked : H d = some (.frz o (.dT kvs))) :
    (d == sysModules) = false ∧ ∃ (es : Array DictEntry) (ep : Nat), o.data = .dict es ep ∧ DT.Raw s.heap d es ep ∧ es.size = kvs.length ∧
      ∀ (i : Nat) (k : List Key) (v : V), kvs[i]? = some (k, v) → ∃ (hi : i < es.size) (q : Addr), es[i].key = .ref q ∧ H q = some (.tup (k.map kV)) ∧ RelV v es[i].val := by
  obtain ⟨there, _, notSys, xs, pairs, o', es, ep, found, exact', data, rows, _⟩ := I.hok d _ locked
  rw [there] at found
  cases found
  have sizes : es.size = kvs.length := (size_of_entries rows).trans (Paired.length pairs).symm
  refine ⟨notSys, es, ep, data, ⟨o, there, exact', data⟩, sizes, fun i k v e => ?_⟩
  obtain ⟨b, hb, e1, e2, e3⟩ := paired_get pairs e
  have hi : i < es.size := by rw [sizes]; exact (List.getElem?_eq_some_iff.mp e).1
  have q := entry_at rows i
  rw [hb, Array.getElem?_eq_getElem hi] at q
  have q' : es[i] = entryOfKey (tupleKind (mixKind X.prog X.w)) b := Option.some.inj q
  exact ⟨hi, b.2.1, by rw [q']; rfl, e2, by rw [q']; exact e3⟩
end
/-- the items of the locked dict at d: each a new pair of the key's own tuple and the value -/
def Itit (d : Addr) (o : Obj) (kvs : List (List Key × V)) : It :=
  ⟨fun i H => H d = some (.frz o (.dT kvs)) ∧ i < kvs.length,
   fun i H x H' => ∃ (T q : Addr) (k : List Key) (v : V), kvs[i]? = some (k, v) ∧ H q = some (.tup (k.map kV)) ∧ x = .ref T ∧ H T = none ∧ H' = upd H T (.tup [.ref q, v]),
   fun i H => H d = some (.frz o (.dT kvs)) ∧ kvs.length ≤ i⟩
theorem turn_itemsT {P : Program} {w : World} {K : PySem.W.Frag} {d : Addr} {o : Obj} {es : Array DictEntry} {ep : Nat} {kvs : List (List Key × V)} {elts : List Expr} {kk : Nat} {tpos : Pos} (it : Addr) (hod : o.data = .dict es ep) :
    Turn P w K (.Tuple elts kk tpos) (Itit d o kvs) [it] it (fun i h => ∃ ok ov, IsItemIter h it d i kvs.length ep ok ov) where
  mem := by simp
  obj := fun i h ⟨ok, ov, e⟩ b hb => by
    rw [List.mem_singleton.mp hb]
    exact ⟨_, e, fun v z => nomatch z⟩
  keep := fun i h h' ⟨ok, ov, e⟩ k => ⟨ok, ov, k it (by simp) _ e⟩
  item := by
    rintro X rfl rfl rfl hc i pins s σ H E I hf ⟨ok, ov, he⟩ ⟨hd, hi⟩
    obtain ⟨_, es', ep', hdt, raw, hsz, ent⟩ := I.entriesT hd
    obtain ⟨rfl, rfl⟩ := dict_ep hod hdt
    obtain ⟨⟨k, v⟩, hkv⟩ : ∃ p, kvs[i]? = some p := ⟨kvs[i], List.getElem?_eq_getElem hi⟩
    obtain ⟨hi', q, hkey, hq, rv⟩ := ent i k v hkv
    rw [← hsz] at he
    have hlt : it < s.heap.objs.size := Heap.lt_size he
    refine DT.nextI he raw hi' fun h' out laid grown kept => ?_
    refine ⟨_, rfl, wpAny_letOwnedTupleGo_items (s := { s with heap := h' }) out fun h'' he' sb => ?_⟩
    have laid2 : h''.get? s.heap.objs.size = some { cls := .type "tuple", data := .seq #[es'[i].key, es'[i].val] } := (sb.2 _ (Nat.ne_of_gt hlt)).trans laid
    have pair : ObjOk X.prog X.w (upd H s.heap.objs.size (.tup [.ref q, v])) h'' s.heap.objs.size (.tup [.ref q, v]) :=
      ⟨by show 2 ≤ sizeLine; decide, [es'[i].key, es'[i].val], .cons hkey (.cons rv .nil), ⟨_, laid2, rfl, _, rfl⟩⟩
    have I1 : Inv X pins σ (upd H s.heap.objs.size (.tup [.ref q, v])) { s with heap := h'' } :=
      I.turnedNew (t' := s.toks) (ch := [it]) (fun b ob hb e => (sb.2 b (fun z => hb (List.mem_singleton.mpr z))).trans (kept b ob (fun z => hb (List.mem_singleton.mpr z)) e)) hf (Nat.le_refl _) pair
    refine ⟨.ref s.heap.objs.size, _, I1, rfl, ⟨_, q, k, v, hkv, hq, rfl, I.hok.fresh (Nat.le_refl _), rfl⟩, ⟨es'[i].key, es'[i].val, by rw [← hsz]; exact he'⟩, fun b hb => ?_⟩
    rw [List.mem_singleton.mp hb, upd_ne (Nat.ne_of_lt hlt)]
    exact (hf it (by simp)).1
  done := by
    rintro X rfl rfl rfl hc i pins s σ H E I hf ⟨ok, ov, he⟩ ⟨hd, hi⟩
    obtain ⟨f0, f1, f2, f3, f4, f5⟩ := hf it (by simp)
    obtain ⟨_, es', ep', hdt, raw, hsz, ent⟩ := I.entriesT hd
    obtain ⟨rfl, rfl⟩ := dict_ep hod hdt
    rw [← hsz] at he
    exact DT.endI (I.ok.hd hc) he raw (by omega) fun h' eb => ⟨rfl, I.turned (t' := s.toks) (fun b ob hb e => eb b ob hb e) f0 f1 f3 f4 f5⟩
  self := fun A i s Q E ⟨_, _, e⟩ h => PySem.W.kcp_self e h
/-- for a, b in e.items(): e a locked dict of tuple keys -/
def iItemsT (td : TE) : TI := fun σ H R => td σ H fun x H1 => ∃ d o kvs, x = .ref d ∧ H1 d = some (.frz o (.dT kvs)) ∧ R (Itit d o kvs) H1
theorem pi_itemsT {X : Cx} {e : Expr} {td : TE} {apos cpos : Pos} {elts : List Expr} {kk : Nat} {tpos : Pos} (he : PE X e td) (hbase : attributeBase e "items" X.env (eval e X.env) = eval e X.env := by rfl) (hline : (apos.endLine == cpos.line) = true := by rfl) :
    PI X (.Tuple elts kk tpos) (.Call (.Attribute e "items" apos) [] [] cpos) (iItemsT td) := by
  refine ⟨fun pins s σ H R I h => ?_⟩
  refine wpAny_Call_method (T := "dict") (id := "dict.items") hbase rfl hline F.plainAttrs_dict F.slot_dict_items F.type_dict_items (thn (he.run pins s σ H _ I h) fun u s1 ⟨x, H1, I1, rx, d, o, kvs, ex, hd, q⟩ => ?_)
  subst ex
  obtain rfl : u = Value.ref d := rx
  obtain ⟨notSys, es, ep, hdt, raw, hsz, ent⟩ := I1.entriesT hd
  refine ⟨raw.typeIs, fun b z => ?_, ?_⟩
  · cases z
    obtain ⟨ob, h1, h2, h3⟩ := raw
    exact ⟨ob, h1, h2.2.1⟩
  have I2 : Inv X pins σ H1 { s1 with heap := s1.heap.push { cls := .type "dict_items", data := .fields #[.ref d] } } := I1.kept (t' := s1.toks) fun b ob q => Heap.get?_push_of_some _ q
  have walk : wpAny (model X.prog X.w) X.A (pyIter (.ref s1.heap.objs.size)) (PIE X pins σ (.Tuple elts kk tpos) R) X.xe { s1 with heap := s1.heap.push { cls := .type "dict_items", data := .fields #[.ref d] } } := by
    refine DT.iterI (d := d) ⟨_, Heap.get?_push_size _ rfl, rfl, rfl⟩ (raw.push _) (pi_one (tk := s1.toks) I2 _ (turn_itemsT _ hdt) ⟨.none, .none, ?_⟩ q)
    rw [← hsz]
    exact Heap.get?_push_size _ rfl
  show wpAny _ _ (callWith cpos (.builtin "dict.items") [.ref d] [] []) _ X.xe s1
  exact method_meetsIn F.slot_dict_items F.entry_dict_items rfl (PySem.evalArgs_none ⟨rfl, raw.typeIs, F.args_dict_items_1 _, _, DT.meetsItems (es := es) (ep := ep) notSys, raw, walk⟩)
end L2

set_option Elab.async false
set_option maxRecDepth 100000
set_option maxHeartbeats 4000000
namespace L2
open PySem PySem.Spec PyProof.Rows
set_option linter.unusedVariables false
/-! one core for comprehensions that gather into any thing: what is laid first, and what a turn adds, are parameters -/
section
variable {X : Cx}
/-- the walk of a comprehension that gathers at D: o0 is what stands there first; add says what one turn does to it -/
def tGather (o0 : Addr → HO) (wi : TI) (g : TG) (tt : TT) (add : Addr → St → Hp → (Hp → Prop) → Prop) (vs : List Nat) : TE := fun σ H Q =>
  wi σ H fun J H1 => ∀ D, H1 D = none → ∃ W : Nat → Nat → Hp → Prop, (∃ m, W 0 m (upd H1 D (o0 D))) ∧ ∀ i m H, W i m H →
    (J.stop i H ∧ Q (.ref D) H) ∨
    (J.go i H ∧ ∃ Nx : Hp → Prop, (∀ H', Nx H' → ∃ m', m' < m ∧ W (i + 1) m' H') ∧
      ∀ x H', J.yld i H x H' → g x (wipe σ vs) H' fun σ2 H2 => wipe σ2 vs = wipe σ vs ∧ tt σ2 H2 fun b H3 => if b = true then add D σ2 H3 Nx else Nx H3)
/-- one turn as the machine does it: the next thing, the target, the tests, then Body or the way back -/
def TurnIs (P : Program) (w : World) (A : Around) (target iter : Expr) (ifs : List Expr) (it : Value) (env : Env) (R : Result → Shared → Prop) (Body : (Shared → Prop) → Shared → Prop) (back : Shared → Prop) (s : Shared) : Prop :=
  wpAny (model P w) A (pyNext it) (fun r s₁ => match r with
    | none => R (.ok .next) s₁
    | some v => wpAny (model P w) A (letOwnedTupleGo target it v) (fun _ s₁' =>
        wpAny (model P w) A (assign target env v) (fun _ s₂ =>
          wpAny (model P w) A (forIn ifs true fun c r => if r = true then do let ok ← isTrue c env (eval c env); pure (ForInStep.yield ok) else pure (ForInStep.yield r))
            (fun ok s₃ => if ok = true then Body back s₃ else back s₃) (notedBy (model P w) A env fun e s' => R (.error e) s') s₂)
          (notedBy (model P w) A env fun e s' => R (.error e) s') s₁')
        (notedBy (model P w) A env fun e s' => R (.error e) s') s₁)
    (notedBy (model P w) A env fun e s' => R (.error e) s') s
variable {pins : List (Addr × Obj)} {s : Shared} {σ : L2.St} {H : Hp} {Q : VK} {node tg iter : Expr} {ifs : List Expr} {scope : Scope} {own : List (PySem.Str × Nat)} {pos' : Pos} {wi : TI} {g : TG} {tt : TT}
  {add : Addr → L2.St → Hp → (Hp → Prop) → Prop} {o0 : Addr → HO} {ob : Obj} {mk : Sem Value} {use : Option (Value → Sem Unit)} {Qf : Value → Shared → Prop} {Body : Value → Env → (Result → Shared → Prop) → (Shared → Prop) → Shared → Prop}
theorem gather_core (hc : X.calm = true) (hN : X.N.Nodup) (I : Inv X pins σ H s) (hi : PI X tg iter wi) (ok : BlkOk X.N X.env.scope scope own) (hcl : clausesOf node = [⟨tg, iter, ifs, 0⟩])
    (hmk : ∀ (A : Around) (E : Value → Shared → Prop) (s : Shared) (Q : Value → Shared → Prop), Q (.ref s.heap.objs.size) { s with heap := s.heap.push ob } → wpAny (model X.prog X.w) A mk Q E s)
    (hob : ∀ (h : Heap) (H : Hp), sysModules < h.objs.size → ObjOk X.prog X.w H (h.push ob) h.objs.size (o0 h.objs.size))
    (hloop : ∀ (it : Value) (D : Addr) (env : Env) (R : Result → Shared → Prop) (I : Nat → Shared → Prop), (∀ n s, I n s → TurnIs X.prog X.w X.A tg iter ifs it env R (Body (.ref D) env R) (fun s' => ∃ m, m < n ∧ I m s') s) →
      ∀ n s, I n s → codeAny (model X.prog X.w) X.A (.compLoop node 0 it (.ref D) env) R s)
    (hstart : ∀ (it acc : Value) (env : Env) (R : Result → Shared → Prop) (s : Shared), codeAny (model X.prog X.w) X.A (.compLoop node 0 it acc env) R s →
      wpAny (model X.prog X.w) X.A (pyIter it) (fun it' s' => codeAny (model X.prog X.w) X.A (.compLoop node 0 it' acc env) R s') (notedBy (model X.prog X.w) X.A env fun x s' => R (.error x) s') s →
      codeAny (model X.prog X.w) X.A (.compStart node 0 it acc env) R s)
    (hg : ∀ (s : Shared) (H : Hp) (C : Addr) (cl : List (PySem.Str × Addr)) (fp : List Addr), PG (X.blk s H scope (compEnvC scope cl C X.env) fp) tg g)
    (ht : ∀ (s : Shared) (H : Hp) (C : Addr) (cl : List (PySem.Str × Addr)) (fp : List Addr), PTs (X.blk s H scope (compEnvC scope cl C X.env) fp) ifs tt)
    (hadd : ∀ (s : Shared) (H : Hp) (C : Addr) (cl : List (PySem.Str × Addr)) (fp : List Addr) (D : Addr) (R : Result → Shared → Prop) (Nx : Hp → Prop) (back : Shared → Prop) (pins' : List (Addr × Obj)) (σ2 : L2.St) (H3 : Hp) (s3 : Shared),
      Inv (X.blk s H scope (compEnvC scope cl C X.env) fp) pins' σ2 H3 s3 → add D σ2 H3 Nx → (∀ s' H', Inv (X.blk s H scope (compEnvC scope cl C X.env) fp) pins' σ2 H' s' → Nx H' → back s') → Body (.ref D) (compEnvC scope cl C X.env) R back s3)
    (hs : ∀ x, foldedSetIterable iter X.env x = pure x) (h : tGather o0 wi g tt add (own.map (·.2)) σ H Q)
    (hRR : ∀ D C s' m H', Inv X pins σ H' s' → Q (.ref D) H' → s'.heap.Ns C m → FpOk X pins H' C → compPost (model X.prog X.w) X.A X.xe use Qf (.ref D) C (.ok .next) s') :
    wpAny (model X.prog X.w) X.A (comprehension node scope X.env pos' mk false (eval iter X.env) use) Qf X.xe s := by
  have free : ∀ y ∈ scope.names, y.2 = .free → ∃ c, X.env.cells.lookup y.1 = some c := fun y hy e => (ok.free y hy e).elim (fun k => I.ok.has _ (.inl k)) (fun k => I.ok.has _ (.inr k))
  refine wpAny_comprehension_free (use := use) hcl hs (closure_ok free) ok.kind (fun y hy e => by rw [ok.uniq y hy, e]) (thn (hi.run pins s σ H _ I h) fun xv s1 hx => thn hx fun itv s2 h2 => ?_)
  obtain ⟨it, fp, tn, J, H2, e, I2, T, st2, f2, q⟩ := h2
  subst e
  refine hmk _ _ _ _ (newEnv_comp ?_)
  obtain ⟨W, ⟨m0, w0⟩, turn⟩ := q s2.heap.objs.size (I2.hok.fresh (Nat.le_refl _))
  have I3 : Inv X pins σ (upd H2 s2.heap.objs.size (o0 s2.heap.objs.size)) ({ s2 with heap := s2.heap.push ob } : Shared) :=
    I2.laid (t' := s2.toks) (fun b o e => Heap.get?_push_of_some _ e) (Nat.le_refl _) (hob _ _ I2.big)
  have f3 : ∀ b ∈ fp, FpOk X pins (upd H2 s2.heap.objs.size (o0 s2.heap.objs.size)) b ∧ b < (s2.heap.push ob).objs.size := fun b hb => by
    obtain ⟨o, e, _⟩ := T.obj _ _ st2 b hb
    have lt := Heap.lt_size e
    exact ⟨⟨by rw [upd_ne (Nat.ne_of_lt lt)]; exact (f2 b hb).1, (f2 b hb).2⟩, by rw [Heap.size_push]; exact Nat.lt_succ_of_lt lt⟩
  have st3 : tn 0 (s2.heap.push ob) := T.keep _ _ _ st2 fun b _ o e => Heap.get?_push_of_some _ e
  generalize hD : s2.heap.objs.size = D at I3 w0 turn f3 ⊢
  generalize hs3 : ({ s2 with heap := s2.heap.push ob } : Shared) = s3 at I3 ⊢
  have h3 : s3.heap = s2.heap.push ob := by rw [← hs3]
  rw [← h3] at f3 st3
  generalize upd H2 D (o0 D) = H3 at I3 w0 f3
  have I4 := block_start I3 ok hN f3
  have pg := hg s3 H3 s3.heap.objs.size (cellsFrom (s3.heap.objs.size + 1) scope.names (cloFrom X.env.cells scope.names [])) fp
  have pt := ht s3 H3 s3.heap.objs.size (cellsFrom (s3.heap.objs.size + 1) scope.names (cloFrom X.env.cells scope.names [])) fp
  have pa := hadd s3 H3 s3.heap.objs.size (cellsFrom (s3.heap.objs.size + 1) scope.names (cloFrom X.env.cells scope.names [])) fp
  show codeAny _ _ (.compStart node 0 (.ref it) (.ref D) (compEnvC scope (cellsFrom (s3.heap.objs.size + 1) scope.names (cloFrom X.env.cells scope.names [])) s3.heap.objs.size X.env)) (compPost (model X.prog X.w) X.A X.xe use Qf (.ref D) s3.heap.objs.size) { s3 with heap := pushCells (s3.heap.push { cls := .type "dict", data := .dict #[] }) scope.names }
  generalize hce : compEnvC scope (cellsFrom (s3.heap.objs.size + 1) scope.names (cloFrom X.env.cells scope.names [])) s3.heap.objs.size X.env = ce at I4 pg pt pa ⊢
  have cL : ce.locals = s3.heap.objs.size := by subst hce; rfl
  generalize hs4 : ({ s3 with heap := pushCells (s3.heap.push { cls := .type "dict", data := .dict #[] }) scope.names } : Shared) = s4 at I4 ⊢
  have st4 : tn 0 s4.heap := T.keep _ _ _ st3 fun b _ o e => by rw [← hs4]; exact pushCells_keeps _ _ _ _ (Heap.get?_push_of_some _ e)
  have still : ∀ {σ' : L2.St} {H' : Hp} {s' : Shared}, Inv (X.blk s3 H3 scope ce fp) [] σ' H' s' → (∀ b ∈ fp, H' b = none) → ∀ b ∈ fp, FpOk (X.blk s3 H3 scope ce fp) [] H' b := fun I' hn b hb =>
    ⟨hn b hb, (I'.ok.exf b hb).1, I'.ok.exfs b hb, .inl hb, fun x c e => (I'.ok.exf b hb).2 x c e, fun p hp => absurd (show p ∈ ([] : List (Addr × Obj)) ++ [] from hp) (by simp)⟩
  have loop := hloop (.ref it) D ce (compPost (model X.prog X.w) X.A X.xe use Qf (.ref D) s3.heap.objs.size)
    (fun n s' => ∃ i H', Inv (X.blk s3 H3 scope ce fp) [] (wipe σ (own.map (·.2))) H' s' ∧ tn i s'.heap ∧ (∀ b ∈ fp, H' b = none) ∧ W i n H') ?_ m0 s4 ⟨0, H3, I4, st4, fun b hb => (f3 b hb).1.1, w0⟩
  · exact hstart _ _ _ _ _ loop (T.self X.A 0 _ _ _ st4 loop)
  rintro n s5 ⟨i, H5, I5, st5, n5, w5⟩
  rcases turn i n H5 w5 with ⟨stop, qq⟩ | ⟨go, Nx, hNx, step⟩
  · refine thnF (T.done (X.blk s3 H3 scope ce fp) rfl rfl rfl hc i [] s5 _ H5 (fun _ _ => False) I5 (still I5 n5) st5 stop) fun r s6 ⟨hr, I6⟩ => ?_
    subst hr
    have I7 : Inv X pins σ H5 s6 := I3.call' (ch := fp) I6.os I6.base I6.hok I6.bare fun b hb => ⟨(f3 b hb).1.2.2.2.1, (f3 b hb).1.2.1, (f3 b hb).1.2.2.2.2.1, (f3 b hb).1.2.2.2.2.2⟩
    have nC : H5 s3.heap.objs.size = none := by
      have z : H5 ce.locals = none := I6.free
      rwa [cL] at z
    obtain ⟨m, hn, _⟩ := I6.loc
    have hn : s6.heap.Ns ce.locals m := hn
    rw [cL] at hn
    exact hRR D s3.heap.objs.size s6 m H5 I7 qq hn (I3.fpOk (Nat.le_refl _) nC)
  · refine thnF (T.item (X.blk s3 H3 scope ce fp) rfl rfl rfl hc i [] s5 _ H5 (fun _ _ => False) I5 (still I5 n5) st5 go) fun r s6 ⟨u, hr, h6⟩ => ?_
    subst hr
    refine thnF h6 fun _ s7 ⟨x, H7, I7, r7, y7, st7, n7⟩ => ?_
    refine thnF (pg.run _ s7 _ H7 x u _ (I7.pinned (still I7 n7) (T.obj _ _ st7)) r7 (step x H7 y7)) fun _ s8 ⟨σ8, H8, I8, hw8, q8⟩ => ?_
    refine thnF (pt.run _ s8 σ8 H8 _ I8 q8) fun b s9 ⟨H9, I9, q9⟩ => ?_
    have again : ∀ (s' : Shared) (H' : Hp), Inv (X.blk s3 H3 scope ce fp) ([] ++ pinsAt fp s7.heap) σ8 H' s' → Nx H' → ∃ m, m < n ∧ ∃ i H', Inv (X.blk s3 H3 scope ce fp) [] (wipe σ (own.map (·.2))) H' s' ∧ tn i s'.heap ∧ (∀ b ∈ fp, H' b = none) ∧ W i m H' := fun s' H' I' nx => by
      obtain ⟨m', hm, w'⟩ := hNx H' nx
      have stands : ∀ b ∈ fp, ∀ o, s7.heap.get? b = some o → s'.heap.get? b = some o ∧ H' b = none := fun b hb o e =>
        let z := I'.pin (b, o) (List.mem_append_right _ (List.mem_append_right _ (mem_pinsAt hb e)))
        ⟨z.1, z.2.1⟩
      refine ⟨m', hm, i + 1, H', (I'.unpinned (pins := [])).weak (by rw [← hw8, wipe_length]) (fun j v e => ?_), T.keep _ _ _ st7 fun b hb o e => (stands b hb o e).1, fun b hb => ?_, w'⟩
      · rw [← hw8] at e
        exact (wipe_some e).1
      · obtain ⟨o, e, _⟩ := T.obj _ _ st7 b hb
        exact (stands b hb o e).2
    cases b with
    | false => exact again s9 H9 I9 q9
    | true => exact pa D _ Nx _ _ σ8 H9 s9 I9 q9 again
end
end L2

set_option Elab.async false
set_option maxRecDepth 100000
set_option maxHeartbeats 4000000
namespace L2
open PySem PySem.Spec PyProof.Rows PpSet
set_option linter.unusedVariables false
/-! the core taken twice: sets of ints, dicts with tuple keys; len of a set -/
/-- a set as it is made -/
abbrev bareSet (w : World) : Obj := { cls := .type "set", dict := none, data := .set #[] 0 (.fresh 0 0 (!w.params.followText "set-order")) }
section
variable {X : Cx}
/-- a turn of {e for ..}, e an int -/
def addI (w : World) (te : TE) : Addr → L2.St → Hp → (Hp → Prop) → Prop := fun D σ H Nx => te σ H fun y H1 => ∃ (k : Int) (S : Int → Bool) (n : Nat), y = .int k ∧ H1 D = some (SetO w D S n) ∧ n + 1 < scanBound ∧
  Nx (upd H1 D (SetO w D (fun j => S j || decide (j = k)) (if S k = true then n else n + 1)))
theorem pe_scI {elt tg iter : Expr} {ifs : List Expr} {scope : Scope} {own : List (PySem.Str × Nat)} {pos : Pos} {wi : TI} {g : TG} {tt : TT} {te : TE} (hc : X.calm = true) (hN : X.N.Nodup) (hi : PI X tg iter wi) (ok : BlkOk X.N X.env.scope scope own)
    (hg : ∀ (s : Shared) (H : Hp) (C : Addr) (cl : List (PySem.Str × Addr)) (fp : List Addr), PG (X.blk s H scope (compEnvC scope cl C X.env) fp) tg g)
    (ht : ∀ (s : Shared) (H : Hp) (C : Addr) (cl : List (PySem.Str × Addr)) (fp : List Addr), PTs (X.blk s H scope (compEnvC scope cl C X.env) fp) ifs tt)
    (he : ∀ (s : Shared) (H : Hp) (C : Addr) (cl : List (PySem.Str × Addr)) (fp : List Addr), PE (X.blk s H scope (compEnvC scope cl C X.env) fp) elt te)
    (hs : ∀ x, foldedSetIterable iter X.env x = pure x := by intro _; rfl) :
    PE X (.SetComp elt [⟨tg, iter, ifs, 0⟩] scope pos) (tGather (fun D => SetO X.w D (fun _ => false) 0) wi g tt (addI X.w te) (own.map (·.2))) := by
  refine ⟨fun pins s σ H Q I h => ?_⟩
  rw [eval_SetComp]
  refine gather_core (ob := bareSet X.w) (mk := newSet (.type "set")) (o0 := fun D => SetO X.w D (fun _ => false) 0) (add := addI X.w te)
    (Body := fun acc env R back s => wpAny (model X.prog X.w) X.A (eval elt env) (fun x s4 => wpAny (model X.prog X.w) X.A (call (.builtin "set.add") [acc, x]) (fun _ s5 => back s5) (notedBy (model X.prog X.w) X.A env fun e s' => R (.error e) s') s4)
      (notedBy (model X.prog X.w) X.A env fun e s' => R (.error e) s') s)
    hc hN I hi ok rfl (fun A E s Q q => newSet_ok q) (fun h H hb => setO_new (setR_fresh X.w)) (fun it D env R I turn n s => compLoopS_any I turn n) (fun it acc env R s a b => codeAny_compStart_set a b) hg ht ?_ hs h ?_
  · intro s H C cl fp D R Nx back pins' σ2 H3 s3 I3 q3 k
    refine thnF ((he s H C cl fp).run _ s3 σ2 H3 _ I3 q3) fun z s4 ⟨yv, H4, I4, r4, n, S, m, ey, hD, room, nx⟩ => ?_
    subst ey
    obtain ⟨tk, rfl⟩ := r4
    refine setR_add (setO_get (X := X.blk s H scope (compEnvC scope cl C X.env) fp) I4 hD) room fun h' sb new => k _ _ (I4.write (e := D) (t' := s4.toks + 1) (by rw [hD]; trivial) (.inl rfl) (fun b u hb hu => (sb.2 b hb).trans hu) ?_ (setO_new new)) nx
    have ⟨o, _, _, _, ho, _⟩ := new
    exact ⟨o, ho⟩
  · intro D C s' m H' I' q hn ⟨f0, f1, f2, f3, f4, f5⟩
    exact ⟨m, hn, fun h'' sb => ⟨.ref D, H', I'.turned (t' := s'.toks) (fun b o hb e => (sb.2 b hb).trans e) f0 f1 f3 f4 f5, rfl, q⟩⟩
/-- len of such a set -/
def rLenSI (w : World) : List V → Hp → VK → Prop := fun xs H Q => ∃ (a : Addr) (S : Int → Bool) (n : Nat), xs = [.ref a] ∧ H a = some (SetO w a S n) ∧ Q (.int (n : Int)) H
theorem call_len_SI : CallR X (.builtin "len") (rLenSI X.w) := by
  intro pins s σ H vs us Q I r h
  obtain ⟨a, S, n, rfl, ha, q⟩ := h
  rw [Vals.ref1 r]
  obtain ⟨o, es, ep, t, ho, hex, hd, _, _, _, small, fits, hn, _⟩ := setO_get I ha
  have lim : es.size < 2 ^ 62 := Nat.lt_trans small (by unfold scanBound; decide)
  refine call_len_set ho hex hd fits (by omega) ⟨.int n, H, (I.tok _).tok _, ⟨_, by rw [hn]⟩, q⟩
/-- a turn of {k: e for ..}, k a tuple of ints and texts -/
def addT (tk tv : TE) : Addr → L2.St → Hp → (Hp → Prop) → Prop := fun D σ H Nx => tk σ H fun y H1 => tv σ H1 fun z H2 => ∃ (kvs : List (List Key × V)) (k : List Key) (b : Addr), y = .ref b ∧ H2 b = some (.tup (k.map kV)) ∧ H2 D = some (.dT kvs) ∧ kvs.length < sizeLine ∧
  Nx (upd H2 D (.dT (putK kvs k z)))
theorem pe_dcT {kx vx tg iter : Expr} {ifs : List Expr} {scope : Scope} {own : List (PySem.Str × Nat)} {pos : Pos} {wi : TI} {g : TG} {tt : TT} {tk tv : TE} (hu : X.A.units + 1 < cLine) (hc : X.calm = true) (hN : X.N.Nodup) (hi : PI X tg iter wi) (ok : BlkOk X.N X.env.scope scope own)
    (hg : ∀ (s : Shared) (H : Hp) (C : Addr) (cl : List (PySem.Str × Addr)) (fp : List Addr), PG (X.blk s H scope (compEnvC scope cl C X.env) fp) tg g)
    (ht : ∀ (s : Shared) (H : Hp) (C : Addr) (cl : List (PySem.Str × Addr)) (fp : List Addr), PTs (X.blk s H scope (compEnvC scope cl C X.env) fp) ifs tt)
    (hk : ∀ (s : Shared) (H : Hp) (C : Addr) (cl : List (PySem.Str × Addr)) (fp : List Addr), PE (X.blk s H scope (compEnvC scope cl C X.env) fp) kx tk)
    (he : ∀ (s : Shared) (H : Hp) (C : Addr) (cl : List (PySem.Str × Addr)) (fp : List Addr), PE (X.blk s H scope (compEnvC scope cl C X.env) fp) vx tv)
    (hs : ∀ x, foldedSetIterable iter X.env x = pure x := by intro _; rfl) :
    PE X (.DictComp kx vx [⟨tg, iter, ifs, 0⟩] scope pos) (tGather (fun _ => .dT []) wi g tt (addT tk tv) (own.map (·.2))) := by
  refine ⟨fun pins s σ H Q I h => ?_⟩
  rw [arm_eval_DictComp]
  refine gather_core (ob := { cls := .type "dict", data := .dict #[] }) (mk := newDict) (o0 := fun _ => .dT []) (add := addT tk tv)
    (Body := fun acc env R back s => match acc with
      | .ref D => wpAny (model X.prog X.w) X.A (eval kx env) (fun kv s4 => wpAny (model X.prog X.w) X.A (eval vx env) (fun vv s5 => wpAny (model X.prog X.w) X.A (dictSet D kv vv) (fun _ s6 => back s6) (notedBy (model X.prog X.w) X.A env fun e s' => R (.error e) s') s5)
          (notedBy (model X.prog X.w) X.A env fun e s' => R (.error e) s') s4) (notedBy (model X.prog X.w) X.A env fun e s' => R (.error e) s') s
      | _ => False)
    hc hN I hi ok rfl (fun A E s Q q => wpAny_newObj_type q) (fun h H hb => dt_empty h hb) (fun it D env R I turn n s => compLoop_anyD I turn n) (fun it acc env R s a b => codeAny_compStart_dict a b) hg ht ?_ hs h ?_
  · intro s H C cl fp D R Nx back pins' σ2 H3 s3 I3 q3 k
    refine thnF ((hk s H C cl fp).run _ s3 σ2 H3 _ I3 q3) fun z s4 ⟨yk, H4, I4, r4, q4⟩ => ?_
    refine thnF ((he s H C cl fp).run _ s4 σ2 H4 _ I4 q4) fun z2 s5 ⟨yv, H5, I5, r5, kvs, ks, b, ey, hb, hD, hz, nx⟩ => ?_
    subst ey
    cases (show z = Value.ref b from r4)
    obtain ⟨hl, hd, xs, rel, dd⟩ := dt_of I5.hok hD
    have hz' : xs.length ≤ sizeLine := by rw [← Paired.length rel]; exact hl
    have grown : (putK kvs ks yv).length ≤ sizeLine := by have := length_putK kvs ks yv; omega
    refine wpAny_dictSet_heap (hsz := hz') (show X.A.units < cLine by omega) (key_of I5.hok hb) dd fun h' dd' same => k _ _ ?_ nx
    obtain ⟨q, es, ep, hq, h2, h3, h4, _, h5⟩ := dd'
    refine d_write I5 (by rw [hD]; exact True.intro) same ⟨q, hq⟩ ⟨grown, hd, _, (rel.put ks hb r5).keeps fun c ys ec => ?_, q, es, ep, hq, h2, h3, h4, h5⟩
    rw [upd_ne (ne_of ec hD (fun z => nomatch z))]
    exact ec
  · intro D C s' m H' I' q hn ⟨f0, f1, f2, f3, f4, f5⟩
    exact ⟨m, hn, fun h'' sb => ⟨.ref D, H', I'.turned (t' := s'.toks) (fun b o hb e => (sb.2 b hb).trans e) f0 f1 f3 f4 f5, rfl, q⟩⟩
end
end L2

set_option Elab.async false
set_option maxRecDepth 100000
set_option maxHeartbeats 4000000
namespace L2
open PySem PySem.Spec PyProof.Rows
set_option linter.unusedVariables false
/-! sorted(d), d a dict whose keys are tuples of ints -/
def rSortDT (d : Nat) (B : Int) : List V → Hp → VK → Prop := fun vs H Q => ∃ (a : Addr) (kvs : List (List Key × V)) (nss : List (List Int)), vs = [V.ref a] ∧ Rd H a (.dT kvs) ∧ kvs.map (·.1) = nss.map (fun ns => ns.map Sum.inl) ∧ nss.length < 64 ∧
  (∀ ns ∈ nss, ns.length = d ∧ TS.Bd B ns) ∧
  ∀ (L : List (Addr × List Int)) (p : Addr), (L.map (·.2)).Perm nss → L.Pairwise (fun q r => TS.code B q.2 ≤ TS.code B r.2) → (∀ q ∈ L, H q.1 = some (.tup (q.2.map V.int))) → H p = none → Q (.ref p) (upd H p (.lst (L.map fun q => V.ref q.1)))
theorem inl_inj : ∀ {a b : List Int}, a.map (Sum.inl : Int → Key) = b.map Sum.inl → a = b
  | [], [], _ => rfl
  | x :: a, y :: b, e => by
    rw [List.map_cons, List.map_cons] at e
    injection e with e1 e2
    rw [Sum.inl.inj e1, inl_inj e2]
  | [], _ :: _, e => by cases e
  | _ :: _, [], e => by cases e
section
variable {X : Cx}
theorem cr_sortedDT {d : Nat} {B : Int} (hd1 : 1 ≤ d) (hc : X.calm = true) : CallR X (.builtin "sorted") (rSortDT d B) := by
  intro pins s σ H vs us Q I r h
  obtain ⟨a, kvs, nss, rfl, hR, hkeys, few, hB, q⟩ := h
  rw [Vals.ref1 r]
  obtain ⟨hz, notSys, ks, pairs, o, es, ep, ho, hx, hdt, rows, nd⟩ := (show ObjOk X.prog X.w H s.heap a (.dT kvs) from hR.ok I.hok)
  have l1 : es.size = ks.length := size_of_entries rows
  have l2 : kvs.length = ks.length := Paired.length pairs
  have l3 : kvs.length = nss.length := by have e := congrArg List.length hkeys; rwa [List.length_map, List.length_map] at e
  -- each row: its tuple, by number
  have row : ∀ (j : Nat) (x : List Key × Addr × Value), ks[j]? = some x → ∃ ns, nss[j]? = some ns ∧ H x.2.1 = some (.tup (ns.map V.int)) := fun j x hj => by
    have lt : j < kvs.length := by have := (List.getElem?_eq_some_iff.mp hj).1; omega
    obtain ⟨b, hb, e1, e2, _⟩ := paired_get pairs (List.getElem?_eq_getElem lt)
    rw [hj] at hb
    cases hb
    have e3 : (kvs.map (·.1))[j]? = some kvs[j].1 := by rw [List.getElem?_map, List.getElem?_eq_getElem lt]; rfl
    rw [hkeys, List.getElem?_map] at e3
    obtain ⟨ns, hns, e4⟩ := Option.map_eq_some_iff.mp e3
    refine ⟨ns, hns, ?_⟩
    rw [e2, ← e4, List.map_map]
    rfl
  refine Calls.call_function_entry kind_sorted plain_sorted entry_sorted (args_sorted1 _) ?_
  unfold Builtin.«sorted»
  refine wpAny_bind (m := checkCount "sorted" 1 1 _) (wpAny_pure ?_)
  refine wpAny_bind (PySem.W.kdu_collect (A := X.A.in1) (kdl_raw notSys hx hdt) (I.ok.hd hc) ho (by omega) fun h' tk acc kept its => ?_)
  have eq : acc.toList = ks.map fun x => Value.ref x.2.1 := by
    apply List.ext_getElem?
    intro j
    rw [List.getElem?_map]
    rcases Nat.lt_or_ge j ks.length with lt | ge
    · have hacc : j < acc.toList.length := by rw [Array.length_toList, its.1, l1]; exact lt
      obtain ⟨en, hen, hv⟩ := its.2 j acc.toList[j] (by rw [← Array.getElem?_toList]; exact List.getElem?_eq_getElem hacc)
      have qe := entry_at rows j
      rw [hen, List.getElem?_eq_getElem lt] at qe
      have e2 : en = entryOfKey (tupleKind (mixKind X.prog X.w)) ks[j] := Option.some.inj qe
      rw [List.getElem?_eq_getElem hacc, List.getElem?_eq_getElem lt, hv, e2]
      rfl
    · rw [List.getElem?_eq_none (by rw [Array.length_toList, its.1, l1]; exact ge), List.getElem?_eq_none ge]
      rfl
  have I1 : Inv X pins σ H { s with heap := h', toks := tk } := I.kept kept
  refine wpAny_bind (wpAny_newList ?_ (by rw [eq, List.length_map, sizeLine_eq]; omega))
  have made : (h'.push (seqObj "list" acc.toList.toArray 0)).get? h'.objs.size = some (seqObj "list" acc.toList.toArray 0) := Heap.get?_push_size _ rfl
  generalize hvs : acc.toList = vs at made eq ⊢
  have I2 : Inv X pins σ H { s with heap := h'.push (seqObj "list" vs.toArray 0), toks := tk } := I1.kept (t' := tk) fun b o e => Heap.get?_push_of_some _ e
  have tups : ∀ v ∈ vs, ∃ (b : Addr) (ns : List Int), v = .ref b ∧ ns ∈ nss ∧ H b = some (.tup (ns.map V.int)) ∧ TS.TupInts (h'.push (seqObj "list" vs.toArray 0)) v ns := fun v hv => by
    rw [eq] at hv
    obtain ⟨x, hx, rfl⟩ := List.mem_map.mp hv
    obtain ⟨j, hj⟩ := List.getElem?_of_mem hx
    obtain ⟨ns, h1, h2⟩ := row j x hj
    obtain ⟨_, ws, rv, it⟩ := (show ObjOk X.prog X.w H (h'.push (seqObj "list" vs.toArray 0)) x.2.1 (.tup (ns.map V.int)) from I2.hok _ _ h2)
    exact ⟨_, ns, rfl, List.mem_of_getElem? h1, h2, _, ws.toArray, rfl, it, by simpa using rv.ints⟩
  show wpAny _ _ _ _ _ { s with heap := h'.push (seqObj "list" vs.toArray 0), toks := tk }
  refine wpAny_bind (wpAny_holding (TS.call_sort_tups (d := d) (B := B) (s := { s with heap := h'.push (seqObj "list" vs.toArray 0), toks := tk }) made (by rw [eq, List.length_map]; omega) hd1 (fun v hv => ?_) fun out a1 a2 => ?_))
  · obtain ⟨b, ns, _, h1, _, h2⟩ := tups v hv
    exact ⟨ns, h2, (hB ns h1).1, (hB ns h1).2⟩
  obtain ⟨e', he'⟩ := sortedHeap_at (vs := vs) (out := out) made
  have kept2 : ∀ b u, h'.get? b = some u → (sortedHeap (h'.push (seqObj "list" vs.toArray 0)) h'.objs.size vs out).get? b = some u := fun b u e => by
    have hb : b < h'.objs.size := Heap.lt_size e
    rw [sortedHeap_old (Nat.ne_of_lt hb) (by rw [size_push']; exact Nat.lt_succ_of_lt hb)]
    exact Heap.get?_push_of_some _ e
  -- the rows that come out
  have L0 : ∀ ws : List Value, (∀ v ∈ ws, v ∈ vs) → ∃ L : List (Addr × List Int), ws = L.map (fun q => Value.ref q.1) ∧ L.map (·.2) = ws.map (TS.intsOf (h'.push (seqObj "list" vs.toArray 0))) ∧ ∀ q ∈ L, H q.1 = some (.tup (q.2.map V.int)) := by
    intro ws
    induction ws with
    | nil => intro _; exact ⟨[], rfl, rfl, fun q hq => by cases hq⟩
    | cons v ws ih =>
      intro hv
      obtain ⟨b, ns, e, _, h2, h3⟩ := tups v (hv v List.mem_cons_self)
      obtain ⟨L, e1, e2, e3⟩ := ih fun u hu => hv u (List.mem_cons_of_mem _ hu)
      refine ⟨(b, ns) :: L, by rw [List.map_cons, e, e1], by rw [List.map_cons, List.map_cons, e2, h3.ints], fun q hq => ?_⟩
      rcases List.mem_cons.mp hq with rfl | z
      · exact h2
      · exact e3 q z
  obtain ⟨L, e1, e2, e3⟩ := L0 out.toList fun v hv => a1.mem_iff.mp hv
  have lenL : (L.map fun q => V.ref q.1).length ≤ sizeLine := by
    have e4 := a1.length_eq
    rw [e1, eq, List.length_map, List.length_map] at e4
    rw [List.length_map, e4, sizeLine_eq]; omega
  refine wpAny_pure ⟨_, rfl, .ref h'.objs.size, upd H h'.objs.size (.lst (L.map fun q => V.ref q.1)), I1.laid (t' := tk) kept2 (Nat.le_refl _)
    (show ObjOk X.prog X.w _ _ _ (.lst (L.map fun q => V.ref q.1)) from ⟨lenL, out.toList, e', by rw [e1]; exact vals_of_refs L, he'⟩), rfl, q L _ ?_ ?_ e3 (I1.hok.fresh (Nat.le_refl _))⟩
  · rw [e2]
    have all : ∀ F : Value → List Int, (∀ (j : Nat) (x : List Key × Addr × Value), ks[j]? = some x → nss[j]? = some (F (.ref x.2.1))) → vs.map F = nss := fun F hF => by
      rw [eq, List.map_map]
      apply List.ext_getElem?
      intro j
      rw [List.getElem?_map]
      cases hj : ks[j]? with
      | none => rw [List.getElem?_eq_none (by have := List.getElem?_eq_none_iff.mp hj; omega)]; rfl
      | some x => rw [hF j x hj]; rfl
    refine (a1.map _).trans (List.Perm.of_eq (all _ fun j x hj => ?_))
    obtain ⟨ns, h1, h2⟩ := row j x hj
    obtain ⟨_, ws, rv, it⟩ := (show ObjOk X.prog X.w H (h'.push (seqObj "list" vs.toArray 0)) x.2.1 (.tup (ns.map V.int)) from I2.hok _ _ h2)
    rw [h1]
    exact congrArg some (show TS.TupInts (h'.push (seqObj "list" vs.toArray 0)) (.ref x.2.1) ns from ⟨_, ws.toArray, rfl, it, by simpa using rv.ints⟩).ints.symm
  · rw [e1, List.pairwise_map] at a2
    have e5 : ∀ q ∈ L, TS.intsOf (h'.push (seqObj "list" vs.toArray 0)) (.ref q.1) = q.2 := fun q hq => by
      obtain ⟨_, ws, rv, it⟩ := (show ObjOk X.prog X.w H (h'.push (seqObj "list" vs.toArray 0)) q.1 (.tup (q.2.map V.int)) from I2.hok _ _ (e3 q hq))
      exact (show TS.TupInts (h'.push (seqObj "list" vs.toArray 0)) (.ref q.1) q.2 from ⟨_, ws.toArray, rfl, it, by simpa using rv.ints⟩).ints
    refine List.Pairwise.imp_of_mem (fun {x y} hx hy hle => ?_) a2
    rw [← e5 x hx, ← e5 y hy]
    exact hle
end
end L2

set_option Elab.async false
set_option maxRecDepth 100000
set_option maxHeartbeats 4000000
namespace L2
open PySem PySem.Spec PyProof.Rows
set_option linter.unusedVariables false
/-! set(xs), xs a list of ints, as a set that can be sorted -/
section
variable {P : Program} {w : World} {A : Around} {E : Value → Shared → Prop} {s : Shared}
theorem set_of_list {l : Addr} {items : Array Value} (ns : List Int) {Q : Value → Shared → Prop} (hh : A.handled = none) (hl : s.heap.IsList l items) (hit : IntsAre items.toList ns) (hb : ns.length + 1 < scanBound)
    (h : ∀ (h' : Heap) (tk c : Nat), SetR w h' s.heap.objs.size (fun j => decide (j ∈ ns)) c → c ≤ ns.length → (∀ b o, s.heap.get? b = some o → h'.get? b = some o) → Q (.ref s.heap.objs.size) { s with heap := h', toks := tk }) :
    wpAny (model P w) A (call (.type "set") [.ref l]) Q E s := by
  have sizes : items.size = ns.length := by rw [← Array.length_toList]; exact IntsAre.length hit
  obtain ⟨c, tl, hmro⟩ := F.called_set.mro
  have hmade := F.called_set.made
  have hsub := F.called_set.sub
  refine wpAny_call (codeAny_of_tree ?_)
  show wpAny (model P w) _ (callAny (.type "set") _) _ _ s
  refine wpAny_pure ⟨Code.quiet_builtin _ (by decide +kernel), codeAny_builtin F.entry_type_call ?_⟩
  rw [Around.under_plain (weight_type_call_type "set" [.ref l] []) rfl]
  have h1 := F.called_set.notType
  have h2 := F.called_set.canCreate
  have hct := F.typeCall_set_1 (.ref l)
  repeat (any_goals (first | assumption | wp_step))
  refine codeAny_mono (code_set_led1 (.ref l) (E := E) (Q₁ := fun obj s₁ => obj = .ref s.heap.objs.size ∧ s₁ = { s with heap := s.heap.push (bareSet w) }) ⟨rfl, rfl⟩) fun r s₁ hr => ?_
  match r, hr with
  | .error e, hr => exact hr
  | .ok .next, hr | .ok .brk, hr | .ok .cont, hr => exact hr.elim
  | .ok (.ret obj), hr =>
    obtain ⟨rfl, rfl⟩ := hr
    have laid : (s.heap.push (bareSet w)).get? s.heap.objs.size = some (bareSet w) := Heap.get?_push_size _ rfl
    have hT : Shared.TypeIs { s with heap := s.heap.push (bareSet w) } (.ref s.heap.objs.size) "set" := ⟨_, laid, rfl⟩
    have hli := F.called_set.init.lookup
    have hbi := F.called_set.init.bind (.ref s.heap.objs.size)
    repeat (any_goals (first | assumption | wp_step))
    refine codeAny_mono (codeAny_call_builtin (R := wants (fun r s₂ => r = .none ∧ ∃ h' tk c, s₂ = { s with heap := h', toks := tk } ∧ SetR w h' s.heap.objs.size (fun j => decide (j ∈ ns)) c ∧ c ≤ ns.length ∧
        (∀ b o, s.heap.get? b = some o → h'.get? b = some o)) E) F.called_set.init.plain F.entry_set_init (check_set_init_1 hT ?_)) fun r₂ s₂ hr₂ => ?_
    · obtain ⟨⟨ocls, odict, odata, oslots⟩, hol, hcl, nl, hdl⟩ := hl
      simp only at hcl hdl
      subst hcl; subst hdl
      have lS : l < s.heap.objs.size := Heap.lt_size hol
      have hol' : (s.heap.push (bareSet w)).get? l = some { cls := .type "list", dict := odict, data := .seq items nl, slots := oslots } := Heap.get?_push_of_some _ hol
      have hsls := F.sub_list_set
      have hslf := F.sub_list_frozenset
      have hne : (Value.type "list" == Value.type "dict") = false := by decide
      have hl1 : (s.heap.push (bareSet w)).IsList l items := ⟨_, hol', rfl, nl, rfl⟩
      unfold Builtin.«set.__init__» noKeywords Builtin.Frozenset.updateFrom
      generalize hPI : pyIter = PI
      wp_walk
      subst hPI
      refine wpAny_pyIter_list hl1 ?_
      refine wpAny_bind (wpAny_runValue ?_)
      have hh3 : A.in1.in1.in1.handled = none := by simp [hh]
      have pz : (s.heap.push (bareSet w)).objs.size = s.heap.objs.size + 1 := Heap.size_push ..
      have hneI : l ≠ (s.heap.push (bareSet w)).objs.size := by rw [pz]; exact Nat.ne_of_lt (Nat.lt_succ_of_lt lS)
      have away : s.heap.objs.size ∉ [(s.heap.push (bareSet w)).objs.size, l] := by
        rw [pz]; simp only [List.mem_cons, List.not_mem_nil, or_false, not_or]
        exact ⟨Nat.ne_of_lt (Nat.lt_succ_self _), Nat.ne_of_gt lS⟩
      have hval : ∀ (i : Nat) (v : Value), items[i]? = some v → ∃ k t, ns[i]? = some k ∧ v = .int k t := fun i v hv => by
        have hi : i < ns.length := by rw [← sizes]; exact (Array.getElem?_eq_some_iff.mp hv).1
        obtain ⟨t, e⟩ := IntsAre.int_at hit i v (by rw [Array.getElem?_toList]; exact hv)
        refine ⟨ns[i], t, List.getElem?_eq_getElem hi, ?_⟩
        rw [e, List.getD_eq_getElem?_getD, List.getElem?_eq_getElem hi]
        rfl
      refine set_update_ints ((Walks.list hh3 _ l hneI items).toS) s.heap.objs.size away ns sizes hb hval (items.size - 0) 0 _ (by omega) (Nat.zero_le _) ⟨⟨_, Heap.get?_push_size _ rfl, rfl, rfl⟩, (hl1.push _)⟩ ⟨0, Nat.le_refl 0, setR_new_at (Heap.get?_push_of_some _ laid)⟩ ?_
      intro s' c' hm hc' hS'
      obtain ⟨h', g2, d', tk', os'⟩ := s'
      cases (hm.gens : g2 = s.gens); cases (hm.drawn : d' = s.drawn); cases (hm.os : os' = s.os)
      show wpAny (model P w) _ _ _ _ _
      refine wpAny_pure ?_
      show wpAny (model P w) _ (ret Value.none) _ _ _
      rw [sizes] at hc'
      refine wpAny_pure ⟨rfl, h', tk', c', rfl, hS', hc', fun b o e => ?_⟩
      have b0 : b < s.heap.objs.size := Heap.lt_size e
      have b2 : b ≠ (s.heap.push (bareSet w)).objs.size := by rw [pz]; exact Nat.ne_of_lt (Nat.lt_succ_of_lt b0)
      exact hm.heap b o (by simp only [List.mem_cons, List.not_mem_nil, or_false, not_or]; exact ⟨Nat.ne_of_lt b0, b2⟩) (Heap.get?_push_of_some _ (Heap.get?_push_of_some _ e))
    · match r₂, hr₂ with
      | .error e, hr₂ => exact hr₂
      | .ok .next, hr₂ | .ok .brk, hr₂ | .ok .cont, hr₂ => exact hr₂.elim
      | .ok (.ret r), hr₂ =>
        obtain ⟨rfl, h', tk, c', rfl, hS', hc', hk'⟩ := hr₂
        repeat (any_goals (first | assumption | wp_step))
        exact h _ _ _ hS' hc' hk'
end
section
variable {X : Cx}
/-- set(xs), xs a list of ints -/
def rSetOfI (K : PySem.W.Frag) (w : World) : List V → Hp → VK → Prop := fun vs H Q => ∃ (l : Addr) (ns : List Int), vs = [V.ref l] ∧ SqL K H l (ns.map V.int) ∧ ns.length ≤ 1000 ∧
  ∀ (a : Addr) (c : Nat), H a = none → c ≤ ns.length → Q (.ref a) (upd H a (SetO w a (fun j => decide (j ∈ ns)) c))
theorem cr_setOfI (hc : X.calm = true) : CallR X (.type "set") (rSetOfI X.K X.w) := by
  intro pins s σ H vs us Q I r h
  obtain ⟨l, ns, rfl, hl, few, q⟩ := h
  rw [Vals.ref1 r]
  obtain ⟨its, rv, pl, hz⟩ := I.list hl
  refine set_of_list ns (I.ok.hd hc) pl.isList (by simpa using rv.ints) (by unfold scanBound; omega) fun h' tk c R hle kept => ?_
  exact ⟨.ref s.heap.objs.size, upd H s.heap.objs.size (SetO X.w s.heap.objs.size (fun j => decide (j ∈ ns)) c), I.laid (t' := tk) kept (Nat.le_refl _) (setO_new R), rfl, q _ c (I.hok.fresh (Nat.le_refl _)) hle⟩
end
end L2

set_option Elab.async false
set_option maxRecDepth 100000
set_option maxHeartbeats 4000000
namespace L2
open PySem PySem.Spec PyProof.Rows
set_option linter.unusedVariables false
/-! d.clear() of a dict with tuple keys -/
def rClearT : V → List V → Hp → VK → Prop := fun x vs H Q => ∃ (a : Addr) (kvs : List (List Key × V)), x = .ref a ∧ vs = [] ∧ H a = some (.dT kvs) ∧ Q .non (upd H a (.dT []))
theorem mt_clearT {X : Cx} : MtR X "dict.clear" rClearT := by
  intro pins s σ H x vs v us Q I rx rv h
  obtain ⟨a, kvs, ex, ev, e, q⟩ := h
  subst ex
  subst ev
  obtain rfl : v = Value.ref a := rx
  have hus := rv.zero
  subst hus
  obtain ⟨hz, notSys, ks, pairs, o, es, ep, ho, hx, hdt, rows, nd⟩ := (show ObjOk X.prog X.w H s.heap a (.dT kvs) from I.hok a _ e)
  have l1 : es.size = ks.length := size_of_entries rows
  have l2 : kvs.length = ks.length := Paired.length pairs
  have raw : s.heap.DictRaw a es ep := ⟨o, ho, hx, hdt⟩
  refine call_meetsIn PySem.F.slot_dict_clear raw.typeIs PySem.F.entry_dict_clear (PySem.F.args_dict_clear_1 _) (meets_dict_clear_raw a) ⟨es, ep, raw, by omega, fun h' dd' hs => ?_⟩
  obtain ⟨o', h1, h2, h3⟩ := dd'
  refine ⟨.non, _, d_write (ob := .dT []) (t' := s.toks) I (by rw [e]; exact True.intro) hs ⟨o', h1⟩ ⟨Nat.zero_le _, notSys, [], .nil, o', #[], ep + 1, h1, h2, h3, rfl, List.nodup_nil⟩, rfl, q⟩
end L2

set_option Elab.async false
set_option maxRecDepth 100000
set_option maxHeartbeats 4000000
namespace L2
open PySem PySem.Spec PyProof.Rows PpSet
set_option linter.unusedVariables false
/-! a display with tuples as keys -/
/-- the pairs that were made, as keys and values -/
abbrev PDt (H : Hp) : List (V × V) → List (List Key × V) → Prop := Paired fun p q => (∃ b, p.1 = .ref b ∧ H b = some (.tup (q.1.map kV))) ∧ p.2 = q.2
def mergeT (kvs more : List (List Key × V)) : List (List Key × V) := more.foldl (fun acc kv => putK acc kv.1 kv.2) kvs
theorem length_mergeT : ∀ (more kvs : List (List Key × V)), (mergeT kvs more).length ≤ kvs.length + more.length
  | [], kvs => by show kvs.length ≤ kvs.length + 0; omega
  | p :: r, kvs => by
    have a := length_mergeT r (putK kvs p.1 p.2)
    have b := length_putK kvs p.1 p.2
    show (mergeT (putK kvs p.1 p.2) r).length ≤ _
    rw [List.length_cons]; omega
theorem KT.merge {H : Hp} : ∀ {more : List (List Key × V)} {rs : List (List Key × Addr × Value)} {kvs : List (List Key × V)} {xs : List (List Key × Addr × Value)}, KT H more rs → KT H kvs xs → KT H (mergeT kvs more) (storedAllH xs rs) := by
  intro more rs kvs xs r
  unfold KT at r
  induction r generalizing kvs xs with
  | nil => intro q; exact q
  | @cons p q ps qs h t ih =>
    intro r0
    have e : KT H (putK kvs p.1 p.2) (storedH xs q.1 q.2.1 q.2.2) := by
      rw [← h.1]
      exact r0.put p.1 h.2.1 h.2.2
    exact ih e
theorem carriesT_of {P : Program} {w : World} {H : Hp} {h : Heap} (ok : HOk P w H h) : ∀ {ps : List (V × V)} {kvs : List (List Key × V)} {ws : List (Value × Value)}, VV ps ws → PDt H ps kvs → ∃ rs, CarriesH (tupleKind (mixKind P w)) h ws rs ∧ KT H kvs rs := by
  intro ps kvs ws r
  induction r generalizing kvs with
  | nil =>
    intro q
    cases q
    exact ⟨[], True.intro, .nil⟩
  | @cons p v ps vs hv t ih =>
    intro q
    cases q with
    | @cons _ kv _ kvs hk tk =>
      obtain ⟨rs, c, z⟩ := ih tk
      obtain ⟨⟨b, e1, hb⟩, e2⟩ := hk
      obtain ⟨v1, v2⟩ := v
      obtain ⟨r1, r2⟩ := hv
      rw [e1] at r1
      cases (show v1 = Value.ref b from r1)
      exact ⟨(kv.1, b, v2) :: rs, ⟨rfl, rfl, key_of ok hb, c⟩, .cons ⟨rfl, hb, e2 ▸ r2⟩ z⟩
/-- {(a, b): v, ..}; the new dict stands empty while the pairs are made -/
def tDispT (trs : List (TE × TE)) : TE := fun σ H Q => ∀ p, H p = none → tPairs trs σ (upd H p (.dT [])) fun ps H2 => H2 p = some (.dT []) ∧ ∃ kvs : List (List Key × V), PDt H2 ps kvs ∧ kvs.length ≤ 15 ∧ Q (.ref p) (upd H2 p (.dT (mergeT [] kvs)))
theorem pe_dispT {X : Cx} {pos : Pos} {keys : List (Option Expr)} {values : List Expr} {trs : List (TE × TE)} (hu : X.A.units + 1 < cLine) (h : PPs X pos keys values trs) (hall : keys.all (·.isSome) = true) (hl : keys.length = values.length) (h0 : keys ≠ [])
    (h15 : keys.length ≤ 15) : PE X (.Dict keys values pos) (tDispT trs) := by
  refine ⟨fun pins s σ H Q I q => ?_⟩
  have hn := I.hok.fresh (Nat.le_refl s.heap.objs.size)
  have I1 := I.laid (a := s.heap.objs.size) (o := .dT []) (h' := s.heap.push { cls := .type "dict", data := .dict #[] }) (t' := s.toks) (fun _ _ q => Heap.get?_push_of_some _ q) (Nat.le_refl _) (dt_empty s.heap I.big)
  have hlen := pairTrees_length keys values X.env pos hall hl
  have hne : pairTrees keys values X.env pos ≠ [] := fun he => by
    rw [he] at hlen
    exact h0 (List.length_eq_zero_iff.mp hlen.symm)
  rw [arm_eval_Dict, zip_pairTrees keys values X.env pos hall hl, dictDisplay_pairs _ hne (by omega)]
  refine wpAny_bind (wpAny_standAt (wpAny_bind (wpAny_subDictH (knd := tupleKind (mixKind X.prog X.w)) (show X.A.units < cLine by omega) (by omega) (thn (h.run pins _ σ _ _ I1 (q _ hn)) fun ws s2 ⟨ps, H2, I2, rel, e, kvs, pt, lk, q2⟩ => ?_))))
  obtain ⟨rs, c, rk⟩ := carriesT_of I2.hok rel pt
  obtain ⟨z, hd, vs0, r0, dd⟩ := dt_of I2.hok e
  cases r0
  refine ⟨rs, c, dd, fun h' tk dd' hs => wpAny_pure ⟨.ref s.heap.objs.size, _, ?_, rfl, q2⟩⟩
  have hz : (mergeT [] kvs).length ≤ sizeLine := by
    have h1 := length_mergeT kvs []
    rw [List.length_nil] at h1
    rw [sizeLine_eq]; omega
  obtain ⟨o, es, ep, ho, h2, h3, h4, _, h5⟩ := dd'
  refine d_write I2 (by rw [e]; exact True.intro) hs ⟨o, ho⟩ ⟨hz, hd, _, (rk.merge .nil).keeps fun c ys ec => ?_, o, es, ep, ho, h2, h3, h4, h5⟩
  rw [upd_ne (ne_of ec e (fun z => nomatch z))]
  exact ec
end L2

set_option Elab.async false
set_option maxRecDepth 100000
set_option maxHeartbeats 4000000
namespace TA
open PySem L2 PyProof.Rows
set_option linter.unusedVariables false
def top (i : Nat) : Stmt := PySem.Challenge.pw_twoalone_k83_whole_boxed_in_every_weavin.main.body.getD i (.Pass ⟨0, 0, 0, 0⟩)
abbrev sWhole : Stmt := top 2
abbrev sWithin : Stmt := top 3
abbrev sHand : Stmt := top 4
abbrev s_is_rising : Stmt := top 5
abbrev s_AloneError : Stmt := top 7
abbrev s_NoTask : Stmt := top 8
abbrev s_NoHand : Stmt := top 9
abbrev s_NoInputs : Stmt := top 10
abbrev s_NoWeaving : Stmt := top 11
abbrev s_NoProtocol : Stmt := top 12
abbrev s_is_output : Stmt := top 16
abbrev s_is_outputs : Stmt := top 17
abbrev s_is_rows : Stmt := top 18
abbrev s_is_alone : Stmt := top 19
abbrev s_is_output_pair : Stmt := top 20
abbrev s_is_let : Stmt := top 21
abbrev s_is_input_pair : Stmt := top 22
abbrev s_each_comes : Stmt := top 23
abbrev s_is_both : Stmt := top 24
abbrev s_Task : Stmt := top 25
abbrev s_is_pair : Stmt := top 26
abbrev s_agreement : Stmt := top 27
abbrev s_near : Stmt := top 28
abbrev s_is_row : Stmt := top 30
abbrev s_is_chosen : Stmt := top 31
abbrev s_alone_fault : Stmt := top 32
abbrev s_is_answers : Stmt := top 36
abbrev s_is_boxed : Stmt := top 37
abbrev s_winner : Stmt := top 38
abbrev s_is_boxed_weaving : Stmt := top 39
abbrev s_tell_boxed : Stmt := top 40
abbrev s_is_answered : Stmt := top 41
abbrev s_at_odds : Stmt := top 42
abbrev s_answers_to : Stmt := top 43
abbrev s_boxed : Stmt := top 44
abbrev s_answers_fault : Stmt := top 45
abbrev s_boxed_fault : Stmt := top 46
abbrev sCell : Stmt := top 48
abbrev s__law_digit : Stmt := top 49
abbrev s__law_few : Stmt := top 50
abbrev s__law_outs : Stmt := top 51
abbrev s__law_parts : Stmt := top 52
abbrev s__law_weavings : Stmt := top 53
abbrev s__law_own : Stmt := top 54
abbrev sSaid : Stmt := top 55
abbrev s__law_good : Stmt := top 56
abbrev s__law_drawn : Stmt := top 57
abbrev s__law_task : Stmt := top 58
abbrev sRight : Stmt := top 59
abbrev sLaw : Stmt := top 60
structure Def (P : Program) (w : World) (K : PySem.W.Frag) (mg : Str → Option Value) (base : Heap) (x : Str) (ps : List Str) (k : Nat) (sp : Sp) (f : Addr) (fd : FuncData) : Prop where
  G : FnOk P w K mg base CX0 k f fd ps sp
  b : Binds K fd ps []
  k : PySem.W.keepIn K (.ref f) = true
  m : mg x = some (.ref f)
def isN : PyData → Bool
  | .none => true
  | _ => false
structure Txt (K : PySem.W.Frag) (mg : Str → Option Value) : Prop where
  isi : mg "isinstance" = none
  int : mg "int" = none
  bool : mg "bool" = none
  len : mg "len" = none
  range : mg "range" = none
  list : mg "list" = none
  tuple : mg "tuple" = none
  all : mg "all" = none
  sum : mg "sum" = none
  min : mg "min" = none
theorem same_new {H : Hp} {p : Addr} (h : H p = none) (o : HO) : Same H (upd H p o) := fun b u q => by rw [upd_ne (ne_of_none q h)]; exact q

theorem iteT' {c : Bool} {A B : Prop} (e : c = true) (a : A) : if c = true then A else B := by rw [if_pos e]; exact a
theorem iteF' {c : Bool} {A B : Prop} (e : c = false) (b : B) : if c = true then A else B := by rw [e]; exact b
theorem join2 {b : Bool} {X : Prop} {R : L2.St → Hp → Prop} {σ : L2.St} {H : Hp} (Iv : L2.St → Hp → Prop) (h0 : Iv σ H) (k : ∀ σ Hc, Iv σ Hc → R σ Hc) (h1 : b = true → (∀ σ Hc, Iv σ Hc → R σ Hc) → X) : if b = true then X else R σ H := by
  cases b with
  | false => exact iteF (k σ H h0)
  | true => exact iteT (h1 rfl k)
/-! things of any kind, by their data -/
def tyN : PyData → String
  | .none => "NoneType"
  | .bool _ => "bool"
  | .int _ => "int"
  | .str _ => "str"
  | .list _ => "list"
  | .tuple _ => "tuple"
  | .dict _ => "dict"
theorem sqT_ty {K : PySem.W.Frag} {H : Hp} {a : Addr} {xs : List V} (h : SqT K H a xs) : TyX K H (.ref a) (.type "tuple") := by
  rcases h with h | ⟨o, its, n, h1, h2, _⟩
  · rcases h with h | ⟨o, h⟩
    · exact .base (.tup h)
    · exact .fTuple h
  · exact .kTuple h1 h2
theorem sqL_ty {K : PySem.W.Frag} {H : Hp} {a : Addr} {xs : List V} (h : SqL K H a xs) : TyX K H (.ref a) (.type "list") := by
  rcases h with h | ⟨o, its, n, h1, h2, _⟩
  · rcases h with h | ⟨o, h⟩
    · exact .base (.lst h)
    · exact .base (.frz h)
  · exact .kList h1 h2
theorem dp_ty {K : PySem.W.Frag} {H : Hp} {v : V} {d : PyData} (h : Dp K H v d) : TyX K H v (.type (tyN d)) := by
  cases h with
  | non => exact .base .non
  | bl b => exact .base (.bl b)
  | int i => exact .base (.int i)
  | str x => exact .base (.str x)
  | lst h _ => exact sqL_ty h
  | tup h _ => exact sqT_ty h
theorem dp_non {K : PySem.W.Frag} {H : Hp} {v : V} {d : PyData} (h : Dp K H v d) : decide (v = .non) = isN d := by
  cases h <;> rfl
def isWholeD : PyData → Bool
  | .int _ => true
  | _ => false
def isTupD : PyData → Bool
  | .tuple _ => true
  | _ => false
def within : PyData → Int → Int → Bool
  | .int n, lo, hi => decide (lo ≤ n ∧ n ≤ hi)
  | _, _, _ => false
theorem kit_int (d : PyData) {K : PySem.W.Frag} : ∃ b1 b2, PySem.W.kitOne K (.type (tyN d)) (.type "int") = some b1 ∧ PySem.W.kitOne K (.type (tyN d)) (.type "bool") = some b2 ∧ isWholeD d = (b1 && !b2) := by
  cases d with
  | none => exact ⟨false, false, kit_ty (a := "NoneType") (b := "int") (by decide +kernel), kit_ty (a := "NoneType") (b := "bool") (by decide +kernel), rfl⟩
  | bool b => exact ⟨true, true, kit_ty (a := "bool") (b := "int") (by decide +kernel), kit_ty (a := "bool") (b := "bool") (by decide +kernel), rfl⟩
  | int i => exact ⟨true, false, kit_ty (a := "int") (b := "int") (by decide +kernel), kit_ty (a := "int") (b := "bool") (by decide +kernel), rfl⟩
  | str s => exact ⟨false, false, kit_ty (a := "str") (b := "int") (by decide +kernel), kit_ty (a := "str") (b := "bool") (by decide +kernel), rfl⟩
  | list l => exact ⟨false, false, kit_ty (a := "list") (b := "int") (by decide +kernel), kit_ty (a := "list") (b := "bool") (by decide +kernel), rfl⟩
  | tuple l => exact ⟨false, false, kit_ty (a := "tuple") (b := "int") (by decide +kernel), kit_ty (a := "tuple") (b := "bool") (by decide +kernel), rfl⟩
  | dict l => exact ⟨false, false, kit_ty (a := "dict") (b := "int") (by decide +kernel), kit_ty (a := "dict") (b := "bool") (by decide +kernel), rfl⟩
theorem kit_tup (d : PyData) {K : PySem.W.Frag} : PySem.W.kitOne K (.type (tyN d)) (.type "tuple") = some (isTupD d) := by
  cases d with
  | none => exact (show PySem.W.kitOne K (.type "NoneType") (.type "tuple") = some false from kit_ty (a := "NoneType") (b := "tuple") (by decide +kernel))
  | bool b => exact (show PySem.W.kitOne K (.type "bool") (.type "tuple") = some false from kit_ty (a := "bool") (b := "tuple") (by decide +kernel))
  | int i => exact (show PySem.W.kitOne K (.type "int") (.type "tuple") = some false from kit_ty (a := "int") (b := "tuple") (by decide +kernel))
  | str s => exact (show PySem.W.kitOne K (.type "str") (.type "tuple") = some false from kit_ty (a := "str") (b := "tuple") (by decide +kernel))
  | list l => exact (show PySem.W.kitOne K (.type "list") (.type "tuple") = some false from kit_ty (a := "list") (b := "tuple") (by decide +kernel))
  | tuple l => exact (show PySem.W.kitOne K (.type "tuple") (.type "tuple") = some true from kit_ty (a := "tuple") (b := "tuple") (by decide +kernel))
  | dict l => exact (show PySem.W.kitOne K (.type "dict") (.type "tuple") = some false from kit_ty (a := "dict") (b := "tuple") (by decide +kernel))
theorem dp_tup {K : PySem.W.Frag} {H : Hp} {v : V} {ds : List PyData} (h : Dp K H v (.tuple ds)) : ∃ a xs, v = .ref a ∧ SqT K H a xs ∧ DpAll K H xs ds := by
  cases h with
  | tup h1 h2 => exact ⟨_, _, rfl, h1, h2⟩
theorem dpAll_len {K : PySem.W.Frag} {H : Hp} : ∀ {vs : List V} {ds : List PyData}, DpAll K H vs ds → vs.length = ds.length
  | _, _, .nil => rfl
  | _, _, .cons _ b => congrArg (· + 1) (dpAll_len b)
theorem rd_mono {H H' : Hp} (s : Same H H') {a : Addr} {o : HO} (h : Rd H a o) : Rd H' a o := by
  rcases h with h | ⟨ob, h⟩
  · exact .inl (s _ _ h)
  · exact .inr ⟨ob, s _ _ h⟩
theorem seqT_mono {K : PySem.W.Frag} {H H' : Hp} (s : Same H H') {a : Addr} {xs : List V} (h : SqT K H a xs) : SqT K H' a xs := by
  rcases h with h | h
  · exact .inl (rd_mono s h)
  · exact .inr h
mutual
theorem dp_mono {K : PySem.W.Frag} {H H' : Hp} (s : Same H H') : ∀ (d : PyData) (v : V), Dp K H v d → Dp K H' v d
  | .none, _, h => by cases h; exact .non
  | .bool b, _, h => by cases h; exact .bl b
  | .int i, _, h => by cases h; exact .int i
  | .str x, _, h => by cases h; exact .str x
  | .list ds, _, h => by
    cases h with
    | lst a b => exact .lst (s.seq a) (dpAll_mono s ds _ b)
  | .tuple ds, _, h => by
    cases h with
    | tup a b => exact .tup (seqT_mono s a) (dpAll_mono s ds _ b)
  | .dict _, _, h => by cases h
theorem dpAll_mono {K : PySem.W.Frag} {H H' : Hp} (s : Same H H') : ∀ (ds : List PyData) (vs : List V), DpAll K H vs ds → DpAll K H' vs ds
  | [], _, h => by cases h; exact .nil
  | d :: ds, _, h => by
    cases h with
    | cons a b => exact .cons (dp_mono s d _ a) (dpAll_mono s ds _ b)
end
def spWholeG (K : PySem.W.Frag) : Sp := fun vs H Q _ => ∃ (v : V) (d : PyData), vs = [v] ∧ Dp K H v d ∧ Q (.bl (isWholeD d)) H
def spWithinG (K : PySem.W.Frag) : Sp := fun vs H Q _ => ∃ (v : V) (d : PyData) (lo hi : Int), vs = [v, .int lo, .int hi] ∧ Dp K H v d ∧ Q (.bl (within d lo hi)) H
def spHandG (K : PySem.W.Frag) : Sp := fun vs H Q _ => ∃ (v : V) (d : PyData), vs = [v] ∧ Dp K H v d ∧ Q (.bl (within d 0 1)) H
/-! a walk of n turns, whatever is walked: the word Pv is kept from turn to turn -/
theorem turns {J : It} (n : Nat) {H0 : Hp} {Qd : Hp → Prop} {B : (Hp → Prop) → V → Hp → Prop} (Pv : Nat → Hp → Prop) (start : Pv 0 H0) (last : ∀ H, Pv n H → J.stop n H ∧ Qd H)
    (turn : ∀ i H, i < n → Pv i H → J.go i H ∧ ∀ x H', J.yld i H x H' → B (Pv (i + 1)) x H') :
    ∃ W : Nat → Nat → Hp → Prop, (∃ m, W 0 m H0) ∧ ∀ i m H, W i m H →
      (J.stop i H ∧ Qd H) ∨ (J.go i H ∧ ∃ Nx : Hp → Prop, (∀ H', Nx H' → ∃ m', m' < m ∧ W (i + 1) m' H') ∧ ∀ x H', J.yld i H x H' → B Nx x H') := by
  refine ⟨fun i m H => i + m = n ∧ Pv i H, ⟨n, by omega, start⟩, fun i m H h => ?_⟩
  obtain ⟨hm, word⟩ := h
  cases m with
  | zero =>
    have hin : i = n := by omega
    rw [hin] at word ⊢
    exact Or.inl (last H word)
  | succ m =>
    obtain ⟨go, step⟩ := turn i H (by omega) word
    exact Or.inr ⟨go, Pv (i + 1), fun H' w' => ⟨m, by omega, by omega, w'⟩, step⟩
theorem list_turns {K : PySem.W.Frag} {a : Addr} {xs : List V} {H0 : Hp} {Qd : Hp → Prop} {B : (Hp → Prop) → V → Hp → Prop} (Pv : Nat → Hp → Prop) (start : Pv 0 H0) (still : ∀ i H, i ≤ xs.length → Pv i H → SqL K H a xs)
    (turn : ∀ i x H, xs[i]? = some x → Pv i H → B (Pv (i + 1)) x H) (last : ∀ H, Pv xs.length H → Qd H) :
    ∃ W : Nat → Nat → Hp → Prop, (∃ m, W 0 m H0) ∧ ∀ i m H, W i m H →
      ((Itl K a).stop i H ∧ Qd H) ∨ ((Itl K a).go i H ∧ ∃ Nx : Hp → Prop, (∀ H', Nx H' → ∃ m', m' < m ∧ W (i + 1) m' H') ∧ ∀ x H', (Itl K a).yld i H x H' → B Nx x H') :=
  turns xs.length Pv start (fun H w => ⟨⟨xs, still _ H (Nat.le_refl _) w, Nat.le_refl _⟩, last H w⟩) fun i H hi w =>
    have there := still i H (Nat.le_of_lt hi) w
    ⟨⟨xs, xs[i], there, List.getElem?_eq_getElem hi⟩, fun x H' ⟨same, given⟩ => by rw [same]; exact turn i x H (given xs there) w⟩
theorem tup_turns {K : PySem.W.Frag} {a : Addr} {xs : List V} {H0 : Hp} {Qd : Hp → Prop} {B : (Hp → Prop) → V → Hp → Prop} (Pv : Nat → Hp → Prop) (start : Pv 0 H0) (still : ∀ i H, i ≤ xs.length → Pv i H → SqT K H a xs)
    (turn : ∀ i x H, xs[i]? = some x → Pv i H → B (Pv (i + 1)) x H) (last : ∀ H, Pv xs.length H → Qd H) :
    ∃ W : Nat → Nat → Hp → Prop, (∃ m, W 0 m H0) ∧ ∀ i m H, W i m H →
      ((Itt K a).stop i H ∧ Qd H) ∨ ((Itt K a).go i H ∧ ∃ Nx : Hp → Prop, (∀ H', Nx H' → ∃ m', m' < m ∧ W (i + 1) m' H') ∧ ∀ x H', (Itt K a).yld i H x H' → B Nx x H') :=
  turns xs.length Pv start (fun H w => ⟨⟨xs, still _ H (Nat.le_refl _) w, Nat.le_refl _⟩, last H w⟩) fun i H hi w =>
    have there := still i H (Nat.le_of_lt hi) w
    ⟨⟨xs, xs[i], there, List.getElem?_eq_getElem hi⟩, fun x H' ⟨same, given⟩ => by rw [same]; exact turn i x H (given xs there) w⟩
theorem range_turns {lo : Int} {n : Nat} {H0 : Hp} {Qd : Hp → Prop} {B : (Hp → Prop) → V → Hp → Prop} (Pv : Nat → Hp → Prop) (start : Pv 0 H0)
    (turn : ∀ i H, i < n → Pv i H → B (Pv (i + 1)) (.int (lo + i)) H) (last : ∀ H, Pv n H → Qd H) :
    ∃ W : Nat → Nat → Hp → Prop, (∃ m, W 0 m H0) ∧ ∀ i m H, W i m H →
      ((Itr lo n).stop i H ∧ Qd H) ∨ ((Itr lo n).go i H ∧ ∃ Nx : Hp → Prop, (∀ H', Nx H' → ∃ m', m' < m ∧ W (i + 1) m' H') ∧ ∀ x H', (Itr lo n).yld i H x H' → B Nx x H') :=
  turns n Pv start (fun H w => ⟨Nat.le_refl _, last H w⟩) fun i H hi w => ⟨hi, fun x H' ⟨same, given⟩ => by rw [same, given]; exact turn i H hi w⟩
theorem small13 {n : Nat} (h : n ≤ 100000) : n ≤ sizeLine := Nat.le_trans h (by decide)

section
variable {P : Program} {w : World} {K : PySem.W.Frag} {mg : Str → Option Value} {base : Heap}
theorem scWhole : FnScope ["thing"] ["thing"] (defScope sWhole) := ⟨rfl, rfl, rfl, by decide +kernel, rfl, by decide +kernel, by decide +kernel⟩
theorem scWithin : FnScope ["thing", "least", "most"] ["thing", "least", "most"] (defScope sWithin) := ⟨rfl, rfl, rfl, by decide +kernel, rfl, by decide +kernel, by decide +kernel⟩
theorem scHand : FnScope ["thing"] ["thing"] (defScope sHand) := ⟨rfl, rfl, rfl, by decide +kernel, rfl, by decide +kernel, by decide +kernel⟩
theorem ok_wholeG {f : Addr} {fd : FuncData} (F : Fun K "is_whole" "is_whole" sWhole f fd) (T : Txt K mg) : FnOk P w K mg base CX0 1 f fd ["thing"] (spWholeG K) := by
  refine F.ok scWhole (fun vs H Q E h => ?_) (fun cdv A outer s H vs Q E hr h => ?_)
  · obtain ⟨v, d, rfl, _⟩ := h
    rfl
  obtain ⟨v, d, rfl, hk, q⟩ := h
  refine ⟨_, pss_one (ps_ret (pe_and (pe_callB call_isi (by rfl) T.isi boot_isinstance (pa_cons (pv 0) (pa_cons (pe_bltn (v := .ty "int") (by rfl) T.int boot_int rfl) pa_nil)))
    (pe_one (pe_not (pe_callB call_isi (by rfl) T.isi boot_isinstance (pa_cons (pv 0) (pa_cons (pe_bltn (v := .ty "bool") (by rfl) T.bool boot_bool rfl) pa_nil))))))), ?_⟩
  obtain ⟨b1, b2, e1, e2, e3⟩ := kit_int d (K := K)
  rw [e3] at q
  refine ⟨_, rfl, v, V.ty "int", _, _, b1, rfl, .ty "int", (dp_ty hk), e1, b1, rfl, ?_⟩
  cases b1 with
  | false => exact iteF q
  | true => exact iteT ⟨_, rfl, v, V.ty "bool", _, _, b2, rfl, .ty "bool", (dp_ty hk), e2, b2, rfl, q⟩
theorem ok_withinG {f g : Addr} {fd gd : FuncData} (F : Fun K "is_whole_within" "is_whole_within" sWithin f fd) (W : Def P w K mg base "is_whole" ["thing"] 1 (spWholeG K) g gd) : FnOk P w K mg base CX0 2 f fd ["thing", "least", "most"] (spWithinG K) := by
  refine F.ok scWithin (fun vs H Q E h => ?_) (fun cdv A outer s H vs Q E hr h => ?_)
  · obtain ⟨v, d, lo, hi, rfl, _⟩ := h
    rfl
  obtain ⟨v, d, lo, hi, rfl, hk, q⟩ := h
  refine ⟨_, pss_one (ps_ret (pe_and (pe_call W.G hr rfl W.m W.k W.b .nil pass0 (pa_cons (pv 0) pa_nil)) (pe_one (pe_chain op_le op_le (pv 1) (pv 0) (pv 2))))), ?_⟩
  refine ⟨_, rfl, v, d, rfl, hk, isWholeD d, rfl, ?_⟩
  by_cases hw : ∃ n, d = .int n
  · obtain ⟨n, rfl⟩ := hw
    have ev : v = .int n := by
      cases hk; rfl
    subst ev
    refine iteT ⟨_, rfl, _, rfl, _, _, rfl, rfl, _, rfl, ?_⟩
    by_cases h1 : lo ≤ n
    · rw [decide_eq_true h1]
      refine iteT ⟨_, rfl, _, _, rfl, rfl, ?_⟩
      have e : within (.int n) lo hi = decide (n ≤ hi) := by unfold within; simp [h1]
      rw [e] at q
      exact q
    · rw [decide_eq_false h1]
      refine iteF ?_
      have e : within (.int n) lo hi = false := by unfold within; simp [h1]
      rw [e] at q
      exact q
  · have e1 : isWholeD d = false := by
      cases d with
      | int n => exact absurd ⟨n, rfl⟩ hw
      | _ => rfl
    have e2 : within d lo hi = false := by
      cases d with
      | int n => exact absurd ⟨n, rfl⟩ hw
      | _ => rfl
    rw [e1]
    rw [e2] at q
    exact iteF q
theorem ok_handG {f g : Addr} {fd gd : FuncData} (F : Fun K "is_hand" "is_hand" sHand f fd) (W : Def P w K mg base "is_whole_within" ["thing", "least", "most"] 2 (spWithinG K) g gd) : FnOk P w K mg base CX0 3 f fd ["thing"] (spHandG K) := by
  refine F.ok scHand (fun vs H Q E h => ?_) (fun cdv A outer s H vs Q E hr h => ?_)
  · obtain ⟨v, d, rfl, _⟩ := h
    rfl
  obtain ⟨v, d, rfl, hk, q⟩ := h
  refine ⟨_, pss_one (ps_ret (pe_call W.G hr rfl W.m W.k W.b .nil pass0 (pa_cons (pv 0) (pa_cons pe_int (pa_cons pe_int pa_nil))))), ?_⟩
  exact ⟨_, rfl, v, d, 0, 1, rfl, hk, q⟩
end
end TA

set_option Elab.async false
set_option maxRecDepth 100000
set_option maxHeartbeats 4000000
namespace TA
open PySem L2 PyProof.Rows
set_option linter.unusedVariables false
/-! a task's parts, of any data -/
theorem dpAll_get {K : PySem.W.Frag} {H : Hp} : ∀ {vs : List V} {ds : List PyData} {i : Nat} {x : V}, DpAll K H vs ds → vs[i]? = some x → ∃ d, ds[i]? = some d ∧ Dp K H x d
  | _, _, _, _, .nil, e => by simp at e
  | _, _, 0, _, .cons a b, e => ⟨_, rfl, by simp at e; rw [← e]; exact a⟩
  | _, _, i + 1, x, .cons a b, e => by
    obtain ⟨d, h1, h2⟩ := dpAll_get (i := i) (x := x) b (by simpa using e)
    exact ⟨d, by simpa using h1, h2⟩
theorem same_upd {H0 H : Hp} {p : Addr} {o : HO} (s : Same H0 H) (f : H0 p = none) : Same H0 (upd H p o) := fun b u e => by
  rw [upd_ne (ne_of_none e f)]
  exact s _ _ e
theorem take_bl (bs : List Bool) {i : Nat} {b : Bool} (h : bs[i]? = some b) : (bs.take i).map V.bl ++ [V.bl b] = (bs.take (i + 1)).map V.bl := by
  rw [List.take_add_one, h, List.map_append]
  rfl
def isLstD : PyData → Bool
  | .list _ => true
  | _ => false
theorem kit_lst (d : PyData) {K : PySem.W.Frag} : PySem.W.kitOne K (.type (tyN d)) (.type "list") = some (isLstD d) := by
  cases d with
  | none => exact (show PySem.W.kitOne K (.type "NoneType") (.type "list") = some false from kit_ty (by decide +kernel))
  | bool b => exact (show PySem.W.kitOne K (.type "bool") (.type "list") = some false from kit_ty (by decide +kernel))
  | int b => exact (show PySem.W.kitOne K (.type "int") (.type "list") = some false from kit_ty (by decide +kernel))
  | str b => exact (show PySem.W.kitOne K (.type "str") (.type "list") = some false from kit_ty (by decide +kernel))
  | list b => exact (show PySem.W.kitOne K (.type "list") (.type "list") = some true from kit_ty (by decide +kernel))
  | tuple b => exact (show PySem.W.kitOne K (.type "tuple") (.type "list") = some false from kit_ty (by decide +kernel))
  | dict b => exact (show PySem.W.kitOne K (.type "dict") (.type "list") = some false from kit_ty (by decide +kernel))
/-- what stands in a list of ints, one behind the other -/
def risI (ns : List Int) : Bool := ((List.range (ns.length - 1)).map fun i => decide (ns.getD i 0 < ns.getD (i + 1) 0)).all id
def intsOf : List PyData → List Int := List.map fun d => match d with
  | .int i => i
  | _ => 0
def outB (d : PyData) : Bool := within d 0 63
def outsB : PyData → Bool
  | .list ds => decide (0 < ds.length) && ((ds.map outB).all id && risI (intsOf ds))
  | _ => false
def rowsB : PyData → Bool
  | .list ds => decide (0 < ds.length) && (ds.map outsB).all id
  | _ => false
def aloneB : PyData → Bool
  | .list ds => decide (ds.length = 2) && (ds.map rowsB).all id
  | _ => false
theorem outs_ints {K : PySem.W.Frag} {H : Hp} : ∀ {ds : List PyData} {vs : List V}, DpAll K H vs ds → (ds.map outB).all id = true → vs = (intsOf ds).map V.int
  | [], _, h, _ => by cases h; rfl
  | d :: ds, _, h, a => by
    rw [List.map_cons, List.all_cons] at a
    obtain ⟨a1, a2⟩ := Bool.and_eq_true_iff.mp a
    cases h with
    | cons h1 h2 =>
      cases d with
      | int i =>
        cases h1
        rw [outs_ints h2 a2]
        rfl
      | _ => exact Bool.noConfusion (show false = true from a1)
def spOut (K : PySem.W.Frag) : Sp := fun vs H Q _ => ∃ (v : V) (d : PyData), vs = [v] ∧ Dp K H v d ∧ Q (.bl (outB d)) H
def spRisI (K : PySem.W.Frag) : Sp := fun vs H Q _ => ∃ (p : Addr) (ns : List Int), vs = [.ref p] ∧ SqL K H p (ns.map V.int) ∧ 1 ≤ ns.length ∧ ns.length ≤ 1000 ∧ ∀ H', Same H H' → Q (.bl (risI ns)) H'
def small (d : PyData) : Prop := ∀ ds, d = .list ds → ds.length ≤ 1000
def spOuts (K : PySem.W.Frag) : Sp := fun vs H Q _ => ∃ (v : V) (d : PyData), vs = [v] ∧ Dp K H v d ∧ small d ∧ ∀ H', Same H H' → Q (.bl (outsB d)) H'
def spRows (K : PySem.W.Frag) : Sp := fun vs H Q _ => ∃ (v : V) (d : PyData), vs = [v] ∧ Dp K H v d ∧ small d ∧ (∀ ds, d = .list ds → ∀ e ∈ ds, small e) ∧ ∀ H', Same H H' → Q (.bl (rowsB d)) H'
def spAlone (K : PySem.W.Frag) : Sp := fun vs H Q _ => ∃ (v : V) (d : PyData), vs = [v] ∧ Dp K H v d ∧ small d ∧ (∀ ds, d = .list ds → ∀ e ∈ ds, small e ∧ ∀ es, e = .list es → ∀ g ∈ es, small g) ∧ ∀ H', Same H H' → Q (.bl (aloneB d)) H'
section
variable {P : Program} {w : World} {K : PySem.W.Frag} {mg : Str → Option Value} {base : Heap}
theorem scOut : FnScope ["thing"] ["thing"] (defScope s_is_output) := ⟨rfl, rfl, rfl, by decide +kernel, rfl, by decide +kernel, by decide +kernel⟩
theorem ok_out {f g : Addr} {fd gd : FuncData} {t63 : Tok} (F : Fun K "is_output" "is_output" s_is_output f fd) (m63 : mg "MOST_OUTPUT" = some (.int 63 t63)) (W : Def P w K mg base "is_whole_within" ["thing", "least", "most"] 2 (spWithinG K) g gd) : FnOk P w K mg base CX0 3 f fd ["thing"] (spOut K) := by
  refine F.ok scOut (fun vs H Q E h => ?_) (fun cdv A outer s H vs Q E hr h => ?_)
  · obtain ⟨v, d, rfl, _⟩ := h
    rfl
  obtain ⟨v, d, rfl, hk, q⟩ := h
  refine ⟨_, pss_one (ps_ret (pe_call W.G hr rfl W.m W.k W.b .nil pass0 (pa_cons (pv 0) (pa_cons pe_int (pa_cons (pe_glob (v := .int 63) rfl m63 ⟨_, rfl⟩) pa_nil))))), ?_⟩
  exact ⟨_, rfl, v, d, 0, 63, rfl, hk, q⟩
theorem scRis : FnScope ["things", "at"] ["things"] (defScope s_is_rising) := ⟨rfl, rfl, rfl, by decide +kernel, rfl, by decide +kernel, by decide +kernel⟩
theorem ok_risI {f : Addr} {fd : FuncData} (F : Fun K "is_rising" "is_rising" s_is_rising f fd) (T : Txt K mg) : FnOk P w K mg base CX0 1 f fd ["things"] (spRisI K) := by
  refine F.ok scRis (fun vs H Q E h => ?_) (fun cdv A outer s H vs Q E hr h => ?_)
  · obtain ⟨p, ns, rfl, _⟩ := h
    rfl
  obtain ⟨p, ns, rfl, hS, n1, n2, q⟩ := h
  have nd := scRis.nd
  refine ⟨_, pss_one (ps_ret (pe_callB (cr_all rfl) (by rfl) T.all (by decide +kernel) (pa_cons
      (pe_lc (own := [("at", 1)]) (g := gName 1) (tt := tYes) (te := tOp (rI0 fun i j => .bl (decide (i < j))) (tOp (rIxL K) (tVar 0) (tVar 1)) (tOp (rIxL K) (tVar 0) (tOp (rI0 fun i j => .int (i + j)) (tVar 1) (tC (.int 1))))) rfl nd
        (pi_range1 (by rfl) T.range (pa_cons (pe_op op_sub (pe_callB call_len_seq (by rfl) T.len PySem.boot_len (pa_cons (pv 0) pa_nil)) pe_int) pa_nil))
        (blkOk_by (N := ["things", "at"]) (sc := defScope s_is_rising) (by decide +kernel)) (fun _ _ _ _ _ => pg_name (i := 1) nd rfl (Or.inl rfl)) (fun _ _ _ _ _ => pts_nil)
        (fun _ _ _ _ _ => (by refine pe_cmpR op_lt ?_ ?_ (nomark _); (exact pe_ix ix_list (pv 0) (pv 1) (fun _ _ => rfl)); (exact pe_ix ix_list (pv 0) (pe_op op_add (pv 1) pe_int) (fun _ _ => rfl))))) pa_nil))), ?_⟩
  refine ⟨_, rfl, p, _, rfl, .inl hS, _, _, rfl, rfl, ?_⟩
  rw [List.length_map]
  have e1 : ((ns.length : Nat) : Int) - 1 = ((ns.length - 1 : Nat) : Int) := by omega
  refine ⟨((ns.length - 1 : Nat) : Int), congrArg (fun z => [V.int z]) e1, by omega, by omega, fun D hD => ?_⟩
  refine range_turns (n := ns.length - 1) (fun i H' => Same H H' ∧ H' D = some (.lst ((((List.range (ns.length - 1)).map fun i => decide (ns.getD i 0 < ns.getD (i + 1) 0)).take i).map V.bl))) ⟨same_new hD _, upd_same⟩ ?_ ?_
  · rintro i H' hi ⟨s1, h1⟩
    have ei : (0 : Int) + (i : Int) = (i : Int) := by omega
    rw [ei]
    have g0 : ns[i]? = some (ns.getD i 0) := by rw [List.getD_eq_getElem?_getD, List.getElem?_eq_getElem (by omega)]; rfl
    have g1 : ns[i + 1]? = some (ns.getD (i + 1) 0) := by rw [List.getD_eq_getElem?_getD, List.getElem?_eq_getElem (by omega)]; rfl
    have hb : ((List.range (ns.length - 1)).map fun i => decide (ns.getD i 0 < ns.getD (i + 1) 0))[i]? = some (decide (ns.getD i 0 < ns.getD (i + 1) 0)) := by
      rw [List.getElem?_map, List.getElem?_range hi]; rfl
    refine ⟨rfl, _, rfl, _, rfl, p, _, _, _, rfl, rfl, s1.seq hS, atI_nat (by rw [List.getElem?_map, g0]; rfl), _, rfl, _, rfl, _, _, rfl, rfl, p, _, _, _, rfl, rfl, s1.seq hS, (by rw [show (i : Int) + 1 = ((i + 1 : Nat) : Int) by omega]; exact atI_nat (by rw [List.getElem?_map, g1]; rfl)), _, _, rfl, rfl, _, h1, ?_, same_upd s1 hD, by rw [upd_same, take_bl _ hb]⟩
    rw [List.length_map]
    exact Nat.lt_of_le_of_lt (List.length_take_le _ _) (Nat.lt_of_lt_of_le hi (Nat.le_trans (by omega) (show 1000 ≤ sizeLine by decide)))
  · rintro H' ⟨s1, h1⟩
    rw [List.take_of_length_le (by rw [List.length_map, List.length_range]; exact Nat.le_refl _)] at h1
    exact ⟨D, _, rfl, SqL.of h1, q _ s1⟩
theorem scOuts : FnScope ["thing", "x"] ["thing"] (defScope s_is_outputs) := ⟨rfl, rfl, rfl, by decide +kernel, rfl, by decide +kernel, by decide +kernel⟩
theorem ok_outs {f g1 g2 : Addr} {fd d1 d2 : FuncData} (F : Fun K "is_outputs" "is_outputs" s_is_outputs f fd) (T : Txt K mg) (W : Def P w K mg base "is_output" ["thing"] 3 (spOut K) g1 d1) (R : Def P w K mg base "is_rising" ["things"] 1 (spRisI K) g2 d2) : FnOk P w K mg base CX0 4 f fd ["thing"] (spOuts K) := by
  refine F.ok scOuts (fun vs H Q E h => ?_) (fun cdv A outer s H vs Q E hr h => ?_)
  · obtain ⟨v, d, rfl, _⟩ := h
    rfl
  obtain ⟨v, d, rfl, hk, hz, q⟩ := h
  have nd := scOuts.nd
  refine ⟨_, pss_one (ps_ret (pe_and (pe_callB call_isi (by rfl) T.isi boot_isinstance (pa_cons (pv 0) (pa_cons (pe_bltn (v := .ty "list") (by rfl) T.list boot_list rfl) pa_nil)))
    (pe_and (pe_cmpR op_gt (pe_callB call_len_seq (by rfl) T.len PySem.boot_len (pa_cons (pv 0) pa_nil)) pe_int (nomark _))
    (pe_and (pe_callB (cr_all rfl) (by rfl) T.all (by decide +kernel) (pa_cons
      (pe_lc (own := [("x", 1)]) (g := gName 1) (tt := tYes) (te := tCall (spOut K) [] E0 (tCons (tVar 1) tNil)) rfl nd (pi_list (pv 0)) (blkOk_by (N := ["thing", "x"]) (sc := defScope s_is_outputs) (by decide +kernel)) (fun _ _ _ _ _ => pg_name (i := 1) nd rfl (Or.inl rfl)) (fun _ _ _ _ _ => pts_nil)
        (fun _ _ _ _ _ => (by exact pe_call W.G hr rfl W.m W.k W.b .nil pass0 (pa_cons (pv 1) pa_nil)))) pa_nil))
    (pe_one (pe_call R.G (hr.mono (by decide)) rfl R.m R.k R.b .nil pass0 (pa_cons (pv 0) pa_nil))))))), ?_⟩
  refine ⟨_, rfl, v, .ty "list", _, _, isLstD d, rfl, .ty "list", dp_ty hk, kit_lst d, _, rfl, ?_⟩
  cases cl : isLstD d with
  | false =>
    have : outsB d = false := by cases d <;> first | rfl | cases cl
    rw [this] at q
    exact iteF (q _ (Same.refl H))
  | true =>
    obtain ⟨ds, rfl⟩ : ∃ ds, d = .list ds := by cases d <;> first | exact ⟨_, rfl⟩ | cases cl
    obtain ⟨p, vs, rfl, hS, hD⟩ : ∃ t vs, v = .ref t ∧ SqL K H t vs ∧ DpAll K H vs ds := by
      cases hk with
      | lst a b => exact ⟨_, _, rfl, a, b⟩
    have hl := dpAll_len hD
    have hds := hz ds rfl
    have eO : outsB (.list ds) = (decide (0 < ds.length) && ((ds.map outB).all id && risI (intsOf ds))) := rfl
    refine iteT ⟨_, rfl, p, _, rfl, .inl hS, _, _, rfl, rfl, ?_⟩
    by_cases c : 0 < ds.length
    case neg =>
      rw [eO, decide_eq_false c, Bool.false_and] at q
      refine ⟨_, rfl, iteF' (decide_eq_false (by omega)) ?_⟩
      exact q _ (Same.refl H)
    rw [eO, decide_eq_true c, Bool.true_and] at q
    refine ⟨_, rfl, iteT' (decide_eq_true (by omega)) ?_⟩
    refine ⟨_, rfl, p, rfl, ⟨_, hS⟩, fun D hD' => ?_⟩
    refine list_turns (xs := vs) (fun i H' => Same H H' ∧ H' D = some (.lst (((ds.map outB).take i).map V.bl))) ⟨same_new hD' _, upd_same⟩ (fun i H' _ h => h.1.seq hS) ?_ ?_
    · rintro i x H' hx ⟨s1, h1⟩
      obtain ⟨di, hdi, hxi⟩ := dpAll_get hD hx
      have hi : i < ds.length := (List.getElem?_eq_some_iff.mp hdi).1
      have hb : (ds.map outB)[i]? = some (outB di) := by rw [List.getElem?_map, hdi]; rfl
      refine ⟨rfl, _, rfl, x, di, rfl, dp_mono s1 _ _ hxi, _, h1, ?_, same_upd s1 hD', by rw [upd_same, take_bl _ hb]⟩
      rw [List.length_map]
      exact Nat.lt_of_le_of_lt (List.length_take_le _ _) (Nat.lt_of_lt_of_le hi (Nat.le_trans hds (by decide)))
    · rintro H1 ⟨s1, h1⟩
      rw [hl, ← List.length_map (f := outB), List.take_length] at h1
      refine ⟨D, _, rfl, SqL.of h1, _, rfl, ?_⟩
      cases ca : (ds.map outB).all id with
      | false =>
        rw [ca, Bool.false_and] at q
        exact iteF (q _ s1)
      | true =>
        rw [ca, Bool.true_and] at q
        have ev := outs_ints hD ca
        have hS' : SqL K H1 p ((intsOf ds).map V.int) := by rw [← ev]; exact s1.seq hS
        have li : (intsOf ds).length = ds.length := List.length_map _
        exact iteT ⟨_, rfl, p, intsOf ds, rfl, hS', by omega, by omega, fun H2 s2 => q _ (s1.trans s2)⟩
theorem sc_rows : FnScope ["thing", "outputs"] ["thing"] (defScope s_is_rows) := ⟨rfl, rfl, rfl, by decide +kernel, rfl, by decide +kernel, by decide +kernel⟩
theorem ok_rows {f g1 : Addr} {fd d1 : FuncData} (F : Fun K "is_rows" "is_rows" s_is_rows f fd) (T : Txt K mg) (W : Def P w K mg base "is_outputs" ["thing"] 4 (spOuts K) g1 d1) : FnOk P w K mg base CX0 5 f fd ["thing"] (spRows K) := by
  refine F.ok sc_rows (fun vs H Q E h => ?_) (fun cdv A outer s H vs Q E hr h => ?_)
  · obtain ⟨v, d, rfl, _⟩ := h
    rfl
  obtain ⟨v, d, rfl, hk, hz, hin, q⟩ := h
  have nd := sc_rows.nd
  refine ⟨_, pss_one (ps_ret (pe_and (pe_callB call_isi (by rfl) T.isi boot_isinstance (pa_cons (pv 0) (pa_cons (pe_bltn (v := .ty "list") (by rfl) T.list boot_list rfl) pa_nil)))
    (pe_and (pe_cmpR op_gt (pe_callB call_len_seq (by rfl) T.len PySem.boot_len (pa_cons (pv 0) pa_nil)) pe_int (nomark _))
    (pe_one (pe_callB (cr_all rfl) (by rfl) T.all (by decide +kernel) (pa_cons
      (pe_lc (own := [("outputs", 1)]) (g := gName 1) (tt := tYes) (te := tCall (spOuts K) [] E0 (tCons (tVar 1) tNil)) rfl nd (pi_list (pv 0)) (blkOk_by (N := ["thing", "outputs"]) (sc := defScope s_is_rows) (by decide +kernel)) (fun _ _ _ _ _ => pg_name (i := 1) nd rfl (Or.inl rfl)) (fun _ _ _ _ _ => pts_nil)
        (fun _ _ _ _ _ => (by exact pe_call W.G hr rfl W.m W.k W.b .nil pass0 (pa_cons (pv 1) pa_nil)))) pa_nil)))))), ?_⟩
  refine ⟨_, rfl, v, .ty "list", _, _, isLstD d, rfl, .ty "list", dp_ty hk, kit_lst d, _, rfl, ?_⟩
  cases cl : isLstD d with
  | false =>
    have : rowsB d = false := by cases d <;> first | rfl | cases cl
    rw [this] at q
    exact iteF (q _ (Same.refl H))
  | true =>
    obtain ⟨ds, rfl⟩ : ∃ ds, d = .list ds := by cases d <;> first | exact ⟨_, rfl⟩ | cases cl
    obtain ⟨p, vs, rfl, hS, hD⟩ : ∃ t vs, v = .ref t ∧ SqL K H t vs ∧ DpAll K H vs ds := by
      cases hk with
      | lst a b => exact ⟨_, _, rfl, a, b⟩
    have hl := dpAll_len hD
    have hds := hz ds rfl
    have eO : rowsB (.list ds) = (decide (0 < ds.length) && (ds.map outsB).all id) := rfl
    refine iteT ⟨_, rfl, p, _, rfl, .inl hS, _, _, rfl, rfl, ?_⟩
    by_cases c : 0 < ds.length
    case neg =>
      rw [eO, decide_eq_false c, Bool.false_and] at q
      refine ⟨_, rfl, iteF' (decide_eq_false (by omega)) ?_⟩
      exact q _ (Same.refl H)
    rw [eO, decide_eq_true c, Bool.true_and] at q
    refine ⟨_, rfl, iteT' (decide_eq_true (by omega)) ?_⟩
    refine ⟨_, rfl, p, rfl, ⟨_, hS⟩, fun D hD' => ?_⟩
    refine list_turns (xs := vs) (fun i H' => Same H H' ∧ H' D = some (.lst (((ds.map outsB).take i).map V.bl))) ⟨same_new hD' _, upd_same⟩ (fun i H' _ h => h.1.seq hS) ?_ ?_
    · rintro i x H' hx ⟨s1, h1⟩
      obtain ⟨di, hdi, hxi⟩ := dpAll_get hD hx
      have hi : i < ds.length := (List.getElem?_eq_some_iff.mp hdi).1
      have hb : (ds.map outsB)[i]? = some (outsB di) := by rw [List.getElem?_map, hdi]; rfl
      refine ⟨rfl, _, rfl, x, di, rfl, dp_mono s1 _ _ hxi, hin ds rfl di (List.mem_of_getElem? hdi), fun H2 s2 => ⟨_, s2 _ _ h1, ?_, same_upd (s1.trans s2) hD', by rw [upd_same, take_bl _ hb]⟩⟩
      rw [List.length_map]
      exact Nat.lt_of_le_of_lt (List.length_take_le _ _) (Nat.lt_of_lt_of_le hi (Nat.le_trans hds (by decide)))
    · rintro H1 ⟨s1, h1⟩
      rw [hl, ← List.length_map (f := outsB), List.take_length] at h1
      exact ⟨D, _, rfl, SqL.of h1, q _ s1⟩
theorem sc_alone : FnScope ["thing", "rows"] ["thing"] (defScope s_is_alone) := ⟨rfl, rfl, rfl, by decide +kernel, rfl, by decide +kernel, by decide +kernel⟩
theorem ok_alone {f g1 : Addr} {fd d1 : FuncData} (F : Fun K "is_alone" "is_alone" s_is_alone f fd) (T : Txt K mg) (W : Def P w K mg base "is_rows" ["thing"] 5 (spRows K) g1 d1) : FnOk P w K mg base CX0 6 f fd ["thing"] (spAlone K) := by
  refine F.ok sc_alone (fun vs H Q E h => ?_) (fun cdv A outer s H vs Q E hr h => ?_)
  · obtain ⟨v, d, rfl, _⟩ := h
    rfl
  obtain ⟨v, d, rfl, hk, hz, hin, q⟩ := h
  have nd := sc_alone.nd
  refine ⟨_, pss_one (ps_ret (pe_and (pe_callB call_isi (by rfl) T.isi boot_isinstance (pa_cons (pv 0) (pa_cons (pe_bltn (v := .ty "list") (by rfl) T.list boot_list rfl) pa_nil)))
    (pe_and (pe_cmpR op_eq (pe_callB call_len_seq (by rfl) T.len PySem.boot_len (pa_cons (pv 0) pa_nil)) pe_int (nomark _))
    (pe_one (pe_callB (cr_all rfl) (by rfl) T.all (by decide +kernel) (pa_cons
      (pe_lc (own := [("rows", 1)]) (g := gName 1) (tt := tYes) (te := tCall (spRows K) [] E0 (tCons (tVar 1) tNil)) rfl nd (pi_list (pv 0)) (blkOk_by (N := ["thing", "rows"]) (sc := defScope s_is_alone) (by decide +kernel)) (fun _ _ _ _ _ => pg_name (i := 1) nd rfl (Or.inl rfl)) (fun _ _ _ _ _ => pts_nil)
        (fun _ _ _ _ _ => (by exact pe_call W.G hr rfl W.m W.k W.b .nil pass0 (pa_cons (pv 1) pa_nil)))) pa_nil)))))), ?_⟩
  refine ⟨_, rfl, v, .ty "list", _, _, isLstD d, rfl, .ty "list", dp_ty hk, kit_lst d, _, rfl, ?_⟩
  cases cl : isLstD d with
  | false =>
    have : aloneB d = false := by cases d <;> first | rfl | cases cl
    rw [this] at q
    exact iteF (q _ (Same.refl H))
  | true =>
    obtain ⟨ds, rfl⟩ : ∃ ds, d = .list ds := by cases d <;> first | exact ⟨_, rfl⟩ | cases cl
    obtain ⟨p, vs, rfl, hS, hD⟩ : ∃ t vs, v = .ref t ∧ SqL K H t vs ∧ DpAll K H vs ds := by
      cases hk with
      | lst a b => exact ⟨_, _, rfl, a, b⟩
    have hl := dpAll_len hD
    have hds := hz ds rfl
    have eO : aloneB (.list ds) = (decide (ds.length = 2) && (ds.map rowsB).all id) := rfl
    refine iteT ⟨_, rfl, p, _, rfl, .inl hS, rfl, _, rfl, ?_⟩
    by_cases c : ds.length = 2
    case neg =>
      rw [eO, decide_eq_false c, Bool.false_and] at q
      refine iteF' (decide_eq_false fun e => by injection e with e; omega) ?_
      exact q _ (Same.refl H)
    rw [eO, decide_eq_true c, Bool.true_and] at q
    refine iteT' (decide_eq_true (by rw [hl, c]; rfl)) ?_
    refine ⟨_, rfl, p, rfl, ⟨_, hS⟩, fun D hD' => ?_⟩
    refine list_turns (xs := vs) (fun i H' => Same H H' ∧ H' D = some (.lst (((ds.map rowsB).take i).map V.bl))) ⟨same_new hD' _, upd_same⟩ (fun i H' _ h => h.1.seq hS) ?_ ?_
    · rintro i x H' hx ⟨s1, h1⟩
      obtain ⟨di, hdi, hxi⟩ := dpAll_get hD hx
      have hi : i < ds.length := (List.getElem?_eq_some_iff.mp hdi).1
      have hb : (ds.map rowsB)[i]? = some (rowsB di) := by rw [List.getElem?_map, hdi]; rfl
      refine ⟨rfl, _, rfl, x, di, rfl, dp_mono s1 _ _ hxi, (hin ds rfl di (List.mem_of_getElem? hdi)).1, (hin ds rfl di (List.mem_of_getElem? hdi)).2, fun H2 s2 => ⟨_, s2 _ _ h1, ?_, same_upd (s1.trans s2) hD', by rw [upd_same, take_bl _ hb]⟩⟩
      rw [List.length_map]
      exact Nat.lt_of_le_of_lt (List.length_take_le _ _) (Nat.lt_of_lt_of_le hi (Nat.le_trans hds (by decide)))
    · rintro H1 ⟨s1, h1⟩
      rw [hl, ← List.length_map (f := rowsB), List.take_length] at h1
      exact ⟨D, _, rfl, SqL.of h1, q _ s1⟩
end
end TA

set_option Elab.async false
set_option maxRecDepth 100000
set_option maxHeartbeats 4000000
namespace TA
open PySem L2 PyProof.Rows
set_option linter.unusedVariables false
def pairB : PyData → Bool
  | .tuple ds => decide (ds.length = 2) && (ds.map outB).all id
  | _ => false
def pairOf : PyData → List Int
  | .tuple ds => intsOf ds
  | _ => []
def risP (ps : List (List Int)) : Bool := ((List.range (ps.length - 1)).map fun i => HT.lexLt (ps.getD i []) (ps.getD (i + 1) [])).all id
def letB : PyData → Bool
  | .list ds => decide (0 < ds.length) && ((ds.map pairB).all id && risP (ds.map pairOf))
  | _ => false
def spPairB (K : PySem.W.Frag) : Sp := fun vs H Q _ => ∃ (v : V) (d : PyData), vs = [v] ∧ Dp K H v d ∧ ∀ H', Same H H' → Q (.bl (pairB d)) H'
/-- pairs of ints stand at these places -/
def PairsAt (K : PySem.W.Frag) (H : Hp) (xs : List V) (ps : List (List Int)) : Prop := xs.length = ps.length ∧ ∀ i : Nat, i < ps.length → ∃ a, xs[i]? = some (.ref a) ∧ SqT K H a ((ps.getD i []).map V.int)
def spRisP (K : PySem.W.Frag) : Sp := fun vs H Q _ => ∃ (p : Addr) (xs : List V) (ps : List (List Int)), vs = [.ref p] ∧ SqL K H p xs ∧ PairsAt K H xs ps ∧ 1 ≤ ps.length ∧ ps.length ≤ 1000 ∧ ∀ H', Same H H' → Q (.bl (risP ps)) H'
def spLetB (K : PySem.W.Frag) : Sp := fun vs H Q _ => ∃ (v : V) (d : PyData), vs = [v] ∧ Dp K H v d ∧ small d ∧ ∀ H', Same H H' → Q (.bl (letB d)) H'
theorem pairs_at {K : PySem.W.Frag} {H : Hp} {ds : List PyData} {vs : List V} (h : DpAll K H vs ds) (a : (ds.map pairB).all id = true) : PairsAt K H vs (ds.map pairOf) := by
  refine ⟨by rw [List.length_map]; exact dpAll_len h, fun i hi => ?_⟩
  rw [List.length_map] at hi
  have hl := dpAll_len h
  obtain ⟨d, hd, hx⟩ := dpAll_get h (List.getElem?_eq_getElem (show i < vs.length by omega))
  have hb : pairB d = true := by
    have := List.all_eq_true.mp a (pairB d) (List.mem_map.mpr ⟨d, List.mem_of_getElem? hd, rfl⟩)
    exact this
  cases d with
  | tuple es =>
    obtain ⟨_, b2⟩ := Bool.and_eq_true_iff.mp (show (decide (es.length = 2) && (es.map outB).all id) = true from hb)
    obtain ⟨t, xs, ex, ht, hes⟩ := dp_tup hx
    refine ⟨t, by rw [List.getElem?_eq_getElem (show i < vs.length by omega), ex], ?_⟩
    have e : (ds.map pairOf).getD i [] = intsOf es := by
      rw [List.getD_eq_getElem?_getD, List.getElem?_map, hd]; rfl
    rw [e, ← outs_ints hes b2]
    exact ht
  | _ => cases hb
section
variable {P : Program} {w : World} {K : PySem.W.Frag} {mg : Str → Option Value} {base : Heap}
theorem sc_outpair : FnScope ["thing", "x"] ["thing"] (defScope s_is_output_pair) := ⟨rfl, rfl, rfl, by decide +kernel, rfl, by decide +kernel, by decide +kernel⟩
theorem ok_outpair {f g1 : Addr} {fd d1 : FuncData} (F : Fun K "is_output_pair" "is_output_pair" s_is_output_pair f fd) (T : Txt K mg) (W : Def P w K mg base "is_output" ["thing"] 3 (spOut K) g1 d1) : FnOk P w K mg base CX0 4 f fd ["thing"] (spPairB K) := by
  refine F.ok sc_outpair (fun vs H Q E h => ?_) (fun cdv A outer s H vs Q E hr h => ?_)
  · obtain ⟨v, d, rfl, _⟩ := h
    rfl
  obtain ⟨v, d, rfl, hk, q⟩ := h
  have nd := sc_outpair.nd
  refine ⟨_, pss_one (ps_ret (pe_and (pe_callB call_isi (by rfl) T.isi boot_isinstance (pa_cons (pv 0) (pa_cons (pe_bltn (v := .ty "tuple") (by rfl) T.tuple boot_tuple rfl) pa_nil)))
    (pe_and (pe_cmpR op_eq (pe_callB call_len_seq (by rfl) T.len PySem.boot_len (pa_cons (pv 0) pa_nil)) pe_int (nomark _))
    (pe_one (pe_callB (cr_all rfl) (by rfl) T.all (by decide +kernel) (pa_cons
      (pe_lc (own := [("x", 1)]) (g := gName 1) (tt := tYes) (te := tCall (spOut K) [] E0 (tCons (tVar 1) tNil)) rfl nd (pi_tup (pv 0)) (blkOk_by (N := ["thing", "x"]) (sc := defScope s_is_output_pair) (by decide +kernel)) (fun _ _ _ _ _ => pg_name (i := 1) nd rfl (Or.inl rfl)) (fun _ _ _ _ _ => pts_nil)
        (fun _ _ _ _ _ => (by exact pe_call W.G hr rfl W.m W.k W.b .nil pass0 (pa_cons (pv 1) pa_nil)))) pa_nil)))))), ?_⟩
  refine ⟨_, rfl, v, .ty "tuple", _, _, isTupD d, rfl, .ty "tuple", dp_ty hk, kit_tup d, _, rfl, ?_⟩
  cases cl : isTupD d with
  | false =>
    have : pairB d = false := by cases d <;> first | rfl | cases cl
    rw [this] at q
    exact iteF (q _ (Same.refl H))
  | true =>
    obtain ⟨ds, rfl⟩ : ∃ ds, d = .tuple ds := by cases d <;> first | exact ⟨_, rfl⟩ | cases cl
    obtain ⟨p, vs, rfl, hS, hD⟩ := dp_tup hk
    have hl := dpAll_len hD
    have eO : pairB (.tuple ds) = (decide (ds.length = 2) && (ds.map outB).all id) := rfl
    refine iteT ⟨_, rfl, p, _, rfl, .inr hS, rfl, _, rfl, ?_⟩
    by_cases c : ds.length = 2
    case neg =>
      rw [eO, decide_eq_false c, Bool.false_and] at q
      refine iteF' (decide_eq_false fun e => by injection e with e; omega) ?_
      exact q _ (Same.refl H)
    rw [eO, decide_eq_true c, Bool.true_and] at q
    refine iteT' (decide_eq_true (by rw [hl, c]; rfl)) ?_
    refine ⟨_, rfl, p, rfl, ⟨_, hS⟩, fun D hD' => ?_⟩
    refine tup_turns (xs := vs) (fun i H' => Same H H' ∧ H' D = some (.lst (((ds.map outB).take i).map V.bl))) ⟨same_new hD' _, upd_same⟩ (fun i H' _ h => seqT_mono h.1 hS) ?_ ?_
    · rintro i x H' hx ⟨s1, h1⟩
      obtain ⟨di, hdi, hxi⟩ := dpAll_get hD hx
      have hi : i < ds.length := (List.getElem?_eq_some_iff.mp hdi).1
      have hb : (ds.map outB)[i]? = some (outB di) := by rw [List.getElem?_map, hdi]; rfl
      refine ⟨rfl, _, rfl, x, di, rfl, dp_mono s1 _ _ hxi, _, h1, ?_, same_upd s1 hD', by rw [upd_same, take_bl _ hb]⟩
      rw [List.length_map]
      exact Nat.lt_of_le_of_lt (List.length_take_le _ _) (Nat.lt_of_lt_of_le hi (by rw [c]; decide))
    · rintro H1 ⟨s1, h1⟩
      rw [hl, ← List.length_map (f := outB), List.take_length] at h1
      exact ⟨D, _, rfl, SqL.of h1, q _ s1⟩
theorem ok_risP {f : Addr} {fd : FuncData} (F : Fun K "is_rising" "is_rising" s_is_rising f fd) (T : Txt K mg) : FnOk P w K mg base CX0 1 f fd ["things"] (spRisP K) := by
  refine F.ok scRis (fun vs H Q E h => ?_) (fun cdv A outer s H vs Q E hr h => ?_)
  · obtain ⟨p, xs, ps, rfl, _⟩ := h
    rfl
  obtain ⟨p, xs, ps, rfl, hS, ⟨hl, hp⟩, n1, n2, q⟩ := h
  have nd := scRis.nd
  refine ⟨_, pss_one (ps_ret (pe_callB (cr_all rfl) (by rfl) T.all (by decide +kernel) (pa_cons
      (pe_lc (own := [("at", 1)]) (g := gName 1) (tt := tYes) (te := tOp (rLtT K) (tOp (rIxL K) (tVar 0) (tVar 1)) (tOp (rIxL K) (tVar 0) (tOp (rI0 fun i j => .int (i + j)) (tVar 1) (tC (.int 1))))) rfl nd
        (pi_range1 (by rfl) T.range (pa_cons (pe_op op_sub (pe_callB call_len_seq (by rfl) T.len PySem.boot_len (pa_cons (pv 0) pa_nil)) pe_int) pa_nil))
        (blkOk_by (N := ["things", "at"]) (sc := defScope s_is_rising) (by decide +kernel)) (fun _ _ _ _ _ => pg_name (i := 1) nd rfl (Or.inl rfl)) (fun _ _ _ _ _ => pts_nil)
        (fun _ _ _ _ _ => (by refine pe_cmpR (op_ltT ?_) ?_ ?_ (nomark _); (have := hr.un; show (A.deeper (envOfC "is_rising" (defScope s_is_rising) s.heap.objs.size f cdv)).units < cLine; omega); (exact pe_ix ix_list (pv 0) (pv 1) (fun _ _ => rfl)); (exact pe_ix ix_list (pv 0) (pe_op op_add (pv 1) pe_int) (fun _ _ => rfl))))) pa_nil))), ?_⟩
  refine ⟨_, rfl, p, _, rfl, .inl hS, _, _, rfl, rfl, ?_⟩
  rw [hl]
  have e1 : ((ps.length : Nat) : Int) - 1 = ((ps.length - 1 : Nat) : Int) := by omega
  refine ⟨((ps.length - 1 : Nat) : Int), congrArg (fun z => [V.int z]) e1, by omega, by omega, fun D hD => ?_⟩
  refine range_turns (n := ps.length - 1) (fun i H' => Same H H' ∧ H' D = some (.lst ((((List.range (ps.length - 1)).map fun i => HT.lexLt (ps.getD i []) (ps.getD (i + 1) [])).take i).map V.bl))) ⟨same_new hD _, upd_same⟩ ?_ ?_
  · rintro i H' hi ⟨s1, h1⟩
    have ei : (0 : Int) + (i : Int) = (i : Int) := by omega
    rw [ei]
    obtain ⟨a0, g0, t0⟩ := hp i (by omega)
    obtain ⟨a1, g1, t1⟩ := hp (i + 1) (by omega)
    have hb : ((List.range (ps.length - 1)).map fun i => HT.lexLt (ps.getD i []) (ps.getD (i + 1) []))[i]? = some (HT.lexLt (ps.getD i []) (ps.getD (i + 1) [])) := by
      rw [List.getElem?_map, List.getElem?_range hi]; rfl
    refine ⟨rfl, _, rfl, _, rfl, p, _, _, _, rfl, rfl, s1.seq hS, atI_nat g0, _, rfl, _, rfl, _, _, rfl, rfl, p, _, _, _, rfl, rfl, s1.seq hS, (by rw [show (i : Int) + 1 = ((i + 1 : Nat) : Int) by omega]; exact atI_nat g1), a0, a1, _, _, rfl, rfl, seqT_mono s1 t0, seqT_mono s1 t1, _, h1, ?_, same_upd s1 hD, by rw [upd_same, take_bl _ hb]⟩
    rw [List.length_map]
    exact Nat.lt_of_le_of_lt (List.length_take_le _ _) (Nat.lt_of_lt_of_le hi (Nat.le_trans (by omega) (show 1000 ≤ sizeLine by decide)))
  · rintro H' ⟨s1, h1⟩
    rw [List.take_of_length_le (by rw [List.length_map, List.length_range]; exact Nat.le_refl _)] at h1
    exact ⟨D, _, rfl, SqL.of h1, q _ s1⟩
end
end TA

set_option Elab.async false
set_option maxRecDepth 100000
set_option maxHeartbeats 4000000
namespace TA
open PySem L2 PyProof.Rows
set_option linter.unusedVariables false
section
variable {P : Program} {w : World} {K : PySem.W.Frag} {mg : Str → Option Value} {base : Heap}
theorem sc_let : FnScope ["thing", "x"] ["thing"] (defScope s_is_let) := ⟨rfl, rfl, rfl, by decide +kernel, rfl, by decide +kernel, by decide +kernel⟩
theorem ok_let {f g1 g2 : Addr} {fd d1 d2 : FuncData} (F : Fun K "is_let" "is_let" s_is_let f fd) (T : Txt K mg) (W : Def P w K mg base "is_output_pair" ["thing"] 4 (spPairB K) g1 d1) (R : Def P w K mg base "is_rising" ["things"] 1 (spRisP K) g2 d2) : FnOk P w K mg base CX0 5 f fd ["thing"] (spLetB K) := by
  refine F.ok sc_let (fun vs H Q E h => ?_) (fun cdv A outer s H vs Q E hr h => ?_)
  · obtain ⟨v, d, rfl, _⟩ := h
    rfl
  obtain ⟨v, d, rfl, hk, hz, q⟩ := h
  have nd := sc_let.nd
  refine ⟨_, pss_one (ps_ret (pe_and (pe_callB call_isi (by rfl) T.isi boot_isinstance (pa_cons (pv 0) (pa_cons (pe_bltn (v := .ty "list") (by rfl) T.list boot_list rfl) pa_nil)))
    (pe_and (pe_cmpR op_gt (pe_callB call_len_seq (by rfl) T.len PySem.boot_len (pa_cons (pv 0) pa_nil)) pe_int (nomark _))
    (pe_and (pe_callB (cr_all rfl) (by rfl) T.all (by decide +kernel) (pa_cons
      (pe_lc (own := [("x", 1)]) (g := gName 1) (tt := tYes) (te := tCall (spPairB K) [] E0 (tCons (tVar 1) tNil)) rfl nd (pi_list (pv 0)) (blkOk_by (N := ["thing", "x"]) (sc := defScope s_is_let) (by decide +kernel)) (fun _ _ _ _ _ => pg_name (i := 1) nd rfl (Or.inl rfl)) (fun _ _ _ _ _ => pts_nil)
        (fun _ _ _ _ _ => (by exact pe_call W.G hr rfl W.m W.k W.b .nil pass0 (pa_cons (pv 1) pa_nil)))) pa_nil))
    (pe_one (pe_call R.G (hr.mono (by decide)) rfl R.m R.k R.b .nil pass0 (pa_cons (pv 0) pa_nil))))))), ?_⟩
  refine ⟨_, rfl, v, .ty "list", _, _, isLstD d, rfl, .ty "list", dp_ty hk, kit_lst d, _, rfl, ?_⟩
  cases cl : isLstD d with
  | false =>
    have : letB d = false := by cases d <;> first | rfl | cases cl
    rw [this] at q
    exact iteF (q _ (Same.refl H))
  | true =>
    obtain ⟨ds, rfl⟩ : ∃ ds, d = .list ds := by cases d <;> first | exact ⟨_, rfl⟩ | cases cl
    obtain ⟨p, vs, rfl, hS, hD⟩ : ∃ t vs, v = .ref t ∧ SqL K H t vs ∧ DpAll K H vs ds := by
      cases hk with
      | lst a b => exact ⟨_, _, rfl, a, b⟩
    have hl := dpAll_len hD
    have hds := hz ds rfl
    have eO : letB (.list ds) = (decide (0 < ds.length) && ((ds.map pairB).all id && risP (ds.map pairOf))) := rfl
    refine iteT ⟨_, rfl, p, _, rfl, .inl hS, _, _, rfl, rfl, ?_⟩
    by_cases c : 0 < ds.length
    case neg =>
      rw [eO, decide_eq_false c, Bool.false_and] at q
      refine ⟨_, rfl, iteF' (decide_eq_false (by omega)) ?_⟩
      exact q _ (Same.refl H)
    rw [eO, decide_eq_true c, Bool.true_and] at q
    refine ⟨_, rfl, iteT' (decide_eq_true (by omega)) ?_⟩
    refine ⟨_, rfl, p, rfl, ⟨_, hS⟩, fun D hD' => ?_⟩
    refine list_turns (xs := vs) (fun i H' => Same H H' ∧ H' D = some (.lst (((ds.map pairB).take i).map V.bl))) ⟨same_new hD' _, upd_same⟩ (fun i H' _ h => h.1.seq hS) ?_ ?_
    · rintro i x H' hx ⟨s1, h1⟩
      obtain ⟨di, hdi, hxi⟩ := dpAll_get hD hx
      have hi : i < ds.length := (List.getElem?_eq_some_iff.mp hdi).1
      have hb : (ds.map pairB)[i]? = some (pairB di) := by rw [List.getElem?_map, hdi]; rfl
      refine ⟨rfl, _, rfl, x, di, rfl, dp_mono s1 _ _ hxi, fun H2 s2 => ⟨_, s2 _ _ h1, ?_, same_upd (s1.trans s2) hD', by rw [upd_same, take_bl _ hb]⟩⟩
      rw [List.length_map]
      exact Nat.lt_of_le_of_lt (List.length_take_le _ _) (Nat.lt_of_lt_of_le hi (Nat.le_trans hds (by decide)))
    · rintro H1 ⟨s1, h1⟩
      rw [hl, ← List.length_map (f := pairB), List.take_length] at h1
      refine ⟨D, _, rfl, SqL.of h1, _, rfl, ?_⟩
      cases ca : (ds.map pairB).all id with
      | false =>
        rw [ca, Bool.false_and] at q
        exact iteF (q _ s1)
      | true =>
        rw [ca, Bool.true_and] at q
        have hp := pairs_at (dpAll_mono s1 _ _ hD) ca
        have li : (ds.map pairOf).length = ds.length := List.length_map _
        exact iteT ⟨_, rfl, p, vs, ds.map pairOf, rfl, s1.seq hS, hp, by omega, by omega, fun H2 s2 => q _ (s1.trans s2)⟩
end
end TA

set_option Elab.async false
set_option maxRecDepth 100000
set_option maxHeartbeats 4000000
namespace TA
open PySem L2 PyProof.Rows
set_option linter.unusedVariables false
/-- a pair of inputs, so many of each hand -/
def inB (n0 n1 : Nat) : PyData → Bool
  | .tuple [x, y] => within x 0 ((n0 : Int) - 1) && within y 0 ((n1 : Int) - 1)
  | _ => false
theorem inB_no {n0 n1 : Nat} {d : PyData} (h : ∀ x y, d ≠ .tuple [x, y]) : inB n0 n1 d = false := by
  match d, h with
  | .tuple [x, y], h => exact absurd rfl (h x y)
  | .tuple [], _ | .tuple [_], _ | .tuple (_ :: _ :: _ :: _), _ | .none, _ | .bool _, _ | .int _, _ | .str _, _ | .list _, _ | .dict _, _ => rfl
theorem tup_cases (d : PyData) : (∃ x y, d = .tuple [x, y]) ∨ (∀ x y, d ≠ .tuple [x, y]) := by
  match d with
  | .tuple [x, y] => exact .inl ⟨x, y, rfl⟩
  | .tuple [] | .tuple [_] | .tuple (_ :: _ :: _ :: _) | .none | .bool _ | .int _ | .str _ | .list _ | .dict _ => exact .inr (fun x y e => by cases e)
theorem dp_pair {K : PySem.W.Frag} {H : Hp} {v : V} {d : PyData} (h : Dp K H v d) : (∃ a x y e f, v = .ref a ∧ d = .tuple [e, f] ∧ SqT K H a [x, y] ∧ Dp K H x e ∧ Dp K H y f) ∨ ((∀ x y, d ≠ .tuple [x, y]) ∧ (isTupD d = false ∨ (isTupD d = true ∧ ∃ a xs, v = .ref a ∧ SqT K H a xs ∧ xs.length ≠ 2))) := by
  rcases tup_cases d with ⟨e, f, rfl⟩ | hn
  · left
    obtain ⟨a, xs, rfl, hs, ha⟩ := dp_tup h
    cases ha with
    | cons h1 h2 =>
      cases h2 with
      | cons h2 h3 =>
        cases h3
        exact ⟨_, _, _, _, _, rfl, rfl, hs, h1, h2⟩
  · right
    refine ⟨hn, ?_⟩
    cases h with
    | @tup a xs ds h1 h2 =>
      refine .inr ⟨rfl, a, xs, rfl, h1, fun e => ?_⟩
      have el := dpAll_len h2
      rw [e] at el
      match ds, el, hn with
      | [x, y], _, hn => exact hn x y rfl
    | _ => exact .inl rfl
/-- the outputs let alone, as two lists of rows -/
structure AloneAt (K : PySem.W.Frag) (H : Hp) (al : Addr) (n0 n1 : Nat) : Prop where
  ex : ∃ (r0 r1 : Addr) (xs0 xs1 : List V), SqL K H al [.ref r0, .ref r1] ∧ SqL K H r0 xs0 ∧ SqL K H r1 xs1 ∧ xs0.length = n0 ∧ xs1.length = n1
theorem AloneAt.mono {K : PySem.W.Frag} {H H' : Hp} {al : Addr} {n0 n1 : Nat} (s : Same H H') (h : AloneAt K H al n0 n1) : AloneAt K H' al n0 n1 := by
  obtain ⟨r0, r1, xs0, xs1, a, b, c, d⟩ := h.ex
  exact ⟨r0, r1, xs0, xs1, s.seq a, s.seq b, s.seq c, d⟩
def spInp (K : PySem.W.Frag) : Sp := fun vs H Q _ => ∃ (v : V) (d : PyData) (al : Addr) (n0 n1 : Nat), vs = [v, .ref al] ∧ Dp K H v d ∧ AloneAt K H al n0 n1 ∧ ∀ H', Same H H' → Q (.bl (inB n0 n1 d)) H'
structure TxtH (K : PySem.W.Frag) (mg : Str → Option Value) : Prop where
  hands : ∃ hA, mg "HANDS" = some (.ref hA) ∧ ∀ H, SqT K H hA [.int 0, .int 1]
section
variable {P : Program} {w : World} {K : PySem.W.Frag} {mg : Str → Option Value} {base : Heap}
abbrev nInp : List Str := ["thing", "alone", "hand"]
theorem sc_inp : FnScope nInp ["thing", "alone"] (defScope s_is_input_pair) := ⟨rfl, rfl, rfl, by decide +kernel, rfl, by decide +kernel, by decide +kernel⟩
theorem ok_inp {f g1 : Addr} {fd d1 : FuncData} (F : Fun K "is_input_pair" "is_input_pair" s_is_input_pair f fd) (T : Txt K mg) (U : TxtH K mg) (W : Def P w K mg base "is_whole_within" ["thing", "least", "most"] 2 (spWithinG K) g1 d1) : FnOk P w K mg base CX0 3 f fd ["thing", "alone"] (spInp K) := by
  refine F.ok sc_inp (fun vs H Q E h => ?_) (fun cdv A outer s H vs Q E hr h => ?_)
  · obtain ⟨v, d, al, n0, n1, rfl, _⟩ := h
    rfl
  obtain ⟨v, d, al, n0, n1, rfl, hk, hA, q⟩ := h
  obtain ⟨hT, mH, hH⟩ := U.hands
  have nd := sc_inp.nd
  refine ⟨_, pss_one (ps_ret (pe_and (pe_callB call_isi (by rfl) T.isi boot_isinstance (pa_cons (pv 0) (pa_cons (pe_bltn (v := .ty "tuple") (by rfl) T.tuple boot_tuple rfl) pa_nil)))
    (pe_and (pe_cmpR op_eq (pe_callB call_len_seq (by rfl) T.len PySem.boot_len (pa_cons (pv 0) pa_nil)) pe_int (nomark _))
    (pe_one (pe_callB (cr_all rfl) (by rfl) T.all (by decide +kernel) (pa_cons
      (pe_lc (own := [("hand", 2)]) (g := gName 2) (tt := tYes) (te := tCall (spWithinG K) [] E0 (tCons (tOp (rIxT K) (tVar 0) (tVar 2)) (tCons (tC (.int 0)) (tCons (tOp (rI0 fun i j => .int (i - j)) (tCB (fun xs H Q => ∃ p ys, xs = [.ref p] ∧ (SqL K H p ys ∨ SqT K H p ys) ∧ Q (.int ys.length) H) (tCons (tOp (rIxL K) (tVar 1) (tVar 2)) tNil)) (tC (.int 1))) tNil)))) rfl nd
        (pi_tup (pe_glob (v := .ref hT) rfl mH rfl)) (blkOk_by (N := nInp) (sc := defScope s_is_input_pair) (by decide +kernel)) (fun _ _ _ _ _ => pg_name (i := 2) nd rfl (Or.inl rfl)) (fun _ _ _ _ _ => pts_nil)
        (fun _ _ _ _ _ => (by refine pe_call W.G hr rfl W.m W.k W.b .nil pass0 (pa_cons ?_ (pa_cons pe_int (pa_cons (pe_op op_sub ?_ pe_int) pa_nil))); (exact pe_ix ix_tup (pv 0) (pv 2) (fun _ _ => rfl)); (refine pe_callB call_len_seq (by rfl) T.len PySem.boot_len (pa_cons ?_ pa_nil); (exact pe_ix ix_list (pv 1) (pv 2) (fun _ _ => rfl)))))) pa_nil)))))), ?_⟩
  rcases dp_pair hk with ⟨a, x, y, e, g, rfl, rfl, ha, hx, hy⟩ | ⟨hn, c2 | ⟨c2, a, xs, rfl, ha, hl⟩⟩
  case inr.inl =>
    rw [inB_no hn] at q
    exact ⟨_, rfl, v, V.ty "tuple", _, _, false, rfl, .ty "tuple", dp_ty hk, (by rw [kit_tup, c2]), _, rfl, iteF (q _ (Same.refl H))⟩
  case inr.inr =>
    rw [inB_no hn] at q
    refine ⟨_, rfl, V.ref a, V.ty "tuple", _, _, true, rfl, .ty "tuple", dp_ty hk, (by rw [kit_tup, c2]), _, rfl, iteT ?_⟩
    refine ⟨_, rfl, a, _, rfl, .inr ha, rfl, _, rfl, iteF' (decide_eq_false fun e => hl (by injection e with e; omega)) ?_⟩
    exact q _ (Same.refl H)
  refine ⟨_, rfl, V.ref a, V.ty "tuple", _, _, true, rfl, .ty "tuple", dp_ty hk, kit_tup _, _, rfl, iteT ?_⟩
  refine ⟨_, rfl, a, _, rfl, .inr ha, rfl, _, rfl, iteT ?_⟩
  obtain ⟨r0, r1, xs0, xs1, k1, k2, k3, rfl, rfl⟩ := hA.ex
  refine ⟨hT, rfl, ⟨_, hH H⟩, fun D hD => ?_⟩
  refine tup_turns (xs := [V.int 0, V.int 1]) (fun i H' => Same H H' ∧ H' D = some (.lst (([within e 0 ((xs0.length : Int) - 1), within g 0 ((xs1.length : Int) - 1)].take i).map V.bl))) ⟨same_new hD _, upd_same⟩ (fun i H' _ _ => hH H') ?_ ?_
  · rintro i z H' hz ⟨s1, h1⟩
    rcases i with _ | _ | i
    · obtain rfl : z = .int 0 := by simpa using hz.symm
      exact ⟨rfl, _, rfl, _, rfl, a, _, _, _, rfl, rfl, seqT_mono s1 ha, (by rfl), _, rfl, _, rfl, al, _, _, _, rfl, rfl, s1.seq k1, (by rfl), r0, _, rfl, .inl (s1.seq k2), _, _, rfl, rfl, x, e, 0, _, rfl, dp_mono s1 _ _ hx, _, h1, (by show 0 < sizeLine; decide), same_upd s1 hD, by rw [upd_same]; rfl⟩
    · obtain rfl : z = .int 1 := by simpa using hz.symm
      exact ⟨rfl, _, rfl, _, rfl, a, _, _, _, rfl, rfl, seqT_mono s1 ha, (by rfl), _, rfl, _, rfl, al, _, _, _, rfl, rfl, s1.seq k1, (by rfl), r1, _, rfl, .inl (s1.seq k3), _, _, rfl, rfl, y, g, 0, _, rfl, dp_mono s1 _ _ hy, _, h1, (by show 1 < sizeLine; decide), same_upd s1 hD, by rw [upd_same]; rfl⟩
    · simp at hz
  · rintro H' ⟨s1, h1⟩
    refine ⟨D, _, rfl, SqL.of h1, ?_⟩
    have z := q _ s1
    have e2 : inB xs0.length xs1.length (.tuple [e, g]) = (within e 0 ((xs0.length : Int) - 1) && within g 0 ((xs1.length : Int) - 1)) := rfl
    rw [e2] at z
    show Q (.bl (_ && (_ && true))) H'
    rw [Bool.and_true]
    exact z
end
end TA

set_option Elab.async false
set_option maxRecDepth 100000
set_option maxHeartbeats 4000000
namespace TA
open PySem L2 PyProof.Rows
set_option linter.unusedVariables false
/-! a task's things in the heap -/
inductive A2 {α β : Type} (R : α → β → Prop) : List α → List β → Prop
  | nil : A2 R [] []
  | cons {x y xs ys} : R x y → A2 R xs ys → A2 R (x :: xs) (y :: ys)
theorem A2.len {α β : Type} {R : α → β → Prop} : ∀ {xs : List α} {ys : List β}, A2 R xs ys → xs.length = ys.length
  | _, _, .nil => rfl
  | _, _, .cons _ b => congrArg (· + 1) b.len
theorem A2.imp {α β : Type} {R S : α → β → Prop} (f : ∀ x y, R x y → S x y) : ∀ {xs : List α} {ys : List β}, A2 R xs ys → A2 S xs ys
  | _, _, .nil => .nil
  | _, _, .cons a b => .cons (f _ _ a) (b.imp f)
theorem A2.get {α β : Type} {R : α → β → Prop} : ∀ {xs : List α} {ys : List β} {i : Nat} {x : α}, A2 R xs ys → xs[i]? = some x → ∃ y, ys[i]? = some y ∧ R x y
  | _, _, i, _, .nil, e => by simp at e
  | _, _, 0, _, .cons a _, e => ⟨_, rfl, by simp at e; rw [← e]; exact a⟩
  | _, _, i + 1, x, .cons _ b, e => by
    obtain ⟨y, h1, h2⟩ := A2.get (i := i) (x := x) b (by simpa using e)
    exact ⟨y, by simpa using h1, h2⟩
theorem A2.at {α β : Type} {R : α → β → Prop} {xs : List α} {ys : List β} {i : Nat} {y : β} (h : A2 R xs ys) (e : ys[i]? = some y) : ∃ x, xs[i]? = some x ∧ R x y := by
  have hi : i < xs.length := by rw [h.len]; exact (List.getElem?_eq_some_iff.mp e).1
  obtain ⟨y', h1, h2⟩ := h.get (List.getElem?_eq_getElem hi)
  rw [e] at h1
  cases h1
  exact ⟨_, List.getElem?_eq_getElem hi, h2⟩
theorem A2.snoc {α β : Type} {R : α → β → Prop} : ∀ {xs : List α} {ys : List β} {x : α} {y : β}, A2 R xs ys → R x y → A2 R (xs ++ [x]) (ys ++ [y])
  | _, _, _, _, .nil, h => .cons h .nil
  | _, _, _, _, .cons a b, h => .cons a (b.snoc h)
theorem A2.mem {α β : Type} {R : α → β → Prop} {xs : List α} {ys : List β} {x : α} (h : A2 R xs ys) (m : x ∈ xs) : ∃ y, y ∈ ys ∧ R x y := by
  obtain ⟨i, e⟩ := List.getElem?_of_mem m
  obtain ⟨y, e2, r⟩ := h.get e
  exact ⟨y, List.mem_of_getElem? e2, r⟩
theorem A2.ofMap {α β γ : Type} {R : α → β → Prop} (f : γ → α) (g : γ → β) : ∀ (zs : List γ), (∀ z ∈ zs, R (f z) (g z)) → A2 R (zs.map f) (zs.map g)
  | [], _ => .nil
  | z :: zs, h => .cons (h z List.mem_cons_self) (A2.ofMap f g zs fun x m => h x (List.mem_cons_of_mem _ m))
/-- a pair of ints, a list of ints, rows of these, what is let alone, pairs let -/
def TpAt (H : Hp) (v : V) (p : Int × Int) : Prop := ∃ t, v = .ref t ∧ H t = some (.tup [.int p.1, .int p.2])
def RowAt (H : Hp) (v : V) (row : List Int) : Prop := ∃ t, v = .ref t ∧ H t = some (.lst (row.map .int))
def RowsAt (H : Hp) (v : V) (rows : List (List Int)) : Prop := ∃ t xs, v = .ref t ∧ H t = some (.lst xs) ∧ A2 (RowAt H) xs rows
def AlAt (H : Hp) (v : V) (al : Nat → List (List Int)) : Prop := ∃ t x0 x1, v = .ref t ∧ H t = some (.lst [x0, x1]) ∧ RowsAt H x0 (al 0) ∧ RowsAt H x1 (al 1)
def LetAt (H : Hp) (v : V) (l : List (Int × Int)) : Prop := ∃ t xs, v = .ref t ∧ H t = some (.lst xs) ∧ A2 (TpAt H) xs l
/-- pairs of inputs -/
abbrev IP := Nat × Nat
def kI (p : IP) : List Key := [.inl (p.1 : Int), .inl (p.2 : Int)]
def iI (p : IP) : Int × Int := ((p.1 : Int), (p.2 : Int))
abbrev BD := List (IP × List (Int × Int))
def EnAt (H : Hp) (e : List Key × V) (b : IP × List (Int × Int)) : Prop := e.1 = kI b.1 ∧ LetAt H e.2 b.2
def BoAt (H : Hp) (d : Addr) (bo : BD) : Prop := ∃ kvs, H d = some (.dT kvs) ∧ A2 (EnAt H) kvs bo
/-- what is no dict stands as it stood -/
def flatO (o : HO) : Prop := (∃ xs, o = .lst xs) ∨ (∃ xs, o = .tup xs)
def Kp (H H' : Hp) : Prop := ∀ b o, flatO o → H b = some o → H' b = some o
theorem Kp.lst {H H' : Hp} (s : Kp H H') {b xs} (e : H b = some (.lst xs)) : H' b = some (.lst xs) := s _ _ (.inl ⟨_, rfl⟩) e
theorem Kp.tup {H H' : Hp} (s : Kp H H') {b xs} (e : H b = some (.tup xs)) : H' b = some (.tup xs) := s _ _ (.inr ⟨_, rfl⟩) e
theorem Kp.refl (H : Hp) : Kp H H := fun _ _ _ e => e
theorem Kp.trans {H H1 H2 : Hp} (s : Kp H H1) (t : Kp H1 H2) : Kp H H2 := fun b o f e => t b o f (s b o f e)
theorem Kp.same {H H' : Hp} (s : Same H H') : Kp H H' := fun b o _ e => s b o e
theorem Kp.put {H : Hp} {d : Addr} {u : HO} {o : HO} (e : H d = some u) (n : ¬ flatO u) : Kp H (upd H d o) := fun b x f h => by
  by_cases c : b = d
  · subst c
    rw [e] at h
    cases h
    exact absurd f n
  · rw [upd_ne c]; exact h
theorem nf_dT {k : List (List Key × V)} : ¬ flatO (.dT k) := by rintro (⟨_, h⟩ | ⟨_, h⟩) <;> cases h
theorem nf_frz {o u} : ¬ flatO (.frz o u) := by rintro (⟨_, h⟩ | ⟨_, h⟩) <;> cases h
theorem TpAt.mono {H H' : Hp} (s : Kp H H') {v : V} {p : Int × Int} (h : TpAt H v p) : TpAt H' v p := by
  obtain ⟨t, e, h⟩ := h
  exact ⟨t, e, s.tup h⟩
theorem RowAt.mono {H H' : Hp} (s : Kp H H') {v : V} {p} (h : RowAt H v p) : RowAt H' v p := by
  obtain ⟨t, e, h⟩ := h
  exact ⟨t, e, s.lst h⟩
theorem RowsAt.mono {H H' : Hp} (s : Kp H H') {v : V} {p} (h : RowsAt H v p) : RowsAt H' v p := by
  obtain ⟨t, xs, e, h, a⟩ := h
  exact ⟨t, xs, e, s.lst h, a.imp fun _ _ r => r.mono s⟩
theorem AlAt.mono {H H' : Hp} (s : Kp H H') {v : V} {p} (h : AlAt H v p) : AlAt H' v p := by
  obtain ⟨t, x0, x1, e, h, a, b⟩ := h
  exact ⟨t, x0, x1, e, s.lst h, a.mono s, b.mono s⟩
theorem LetAt.mono {H H' : Hp} (s : Kp H H') {v : V} {p} (h : LetAt H v p) : LetAt H' v p := by
  obtain ⟨t, xs, e, h, a⟩ := h
  exact ⟨t, xs, e, s.lst h, a.imp fun _ _ r => r.mono s⟩
theorem EnAt.mono {H H' : Hp} (s : Kp H H') {v} {p} (h : EnAt H v p) : EnAt H' v p := ⟨h.1, h.2.mono s⟩
theorem BoAt.mono {H H' : Hp} (s : Same H H') {v} {p} (h : BoAt H v p) : BoAt H' v p := by
  obtain ⟨kvs, h, a⟩ := h
  exact ⟨kvs, s _ _ h, a.imp fun _ _ r => r.mono (.same s)⟩
def But (a : Addr) (H H' : Hp) : Prop := ∀ b o, b ≠ a → H b = some o → H' b = some o
theorem But.trans {a : Addr} {H H1 H2 : Hp} (h : But a H H1) (g : But a H1 H2) : But a H H2 := fun b o e q => g b o e (h b o e q)
theorem But.same {a : Addr} {H H' : Hp} (s : Same H H') : But a H H' := fun b o _ q => s b o q
theorem But.at {a : Addr} {H : Hp} {o : HO} : But a H (upd H a o) := fun b u nb e => by rw [upd_ne nb]; exact e
theorem But.kp {d : Addr} {H H' : Hp} {u : HO} (e : H d = some u) (n : ¬ flatO u) (s : But d H H') : Kp H H' := fun b x f h => s b x (fun c => by subst c; rw [e] at h; cases h; exact n f) h
/-- a dict that was locked and is unlocked again -/
theorem But.unlock {d : Addr} {H H' : Hp} {u : HO} (e : H d = some u) (s : But d H H') : Same H (upd H' d u) := fun b x h => by
  by_cases c : b = d
  · subst c
    rw [e] at h
    cases h
    exact upd_same
  · rw [upd_ne c]; exact s b x c h
theorem But.new {d p : Addr} {H0 H : Hp} {o : HO} (s : But d H0 H) (f : H0 p = none) : But d H0 (upd H p o) := fun b u nb e => by
  rw [upd_ne (ne_of_none e f)]
  exact s b u nb e
/-! the same as data -/
def pairD (p : Int × Int) : PyData := .tuple [.int p.1, .int p.2]
def rowD (row : List Int) : PyData := .list (row.map .int)
def rowsD (rows : List (List Int)) : PyData := .list (rows.map rowD)
def alD (al : Nat → List (List Int)) : PyData := .list [rowsD (al 0), rowsD (al 1)]
def letD (l : List (Int × Int)) : PyData := .list (l.map pairD)
theorem dp_ints {K : PySem.W.Frag} {H : Hp} : ∀ (row : List Int), DpAll K H (row.map V.int) (row.map PyData.int)
  | [] => .nil
  | i :: r => .cons (.int i) (dp_ints r)
theorem A2.dp {K : PySem.W.Frag} {H : Hp} {α : Type} {R : V → α → Prop} (f : α → PyData) (g : ∀ x y, R x y → Dp K H x (f y)) : ∀ {xs : List V} {ys : List α}, A2 R xs ys → DpAll K H xs (ys.map f)
  | _, _, .nil => .nil
  | _, _, .cons a b => .cons (g _ _ a) (b.dp f g)
theorem TpAt.dp {K : PySem.W.Frag} {H : Hp} {v : V} {p} (h : TpAt H v p) : Dp K H v (pairD p) := by
  obtain ⟨t, rfl, h⟩ := h
  exact .tup (SqT.of h) (.cons (.int _) (.cons (.int _) .nil))
theorem RowAt.dp {K : PySem.W.Frag} {H : Hp} {v : V} {p} (h : RowAt H v p) : Dp K H v (rowD p) := by
  obtain ⟨t, rfl, h⟩ := h
  exact .lst (SqL.of h) (dp_ints p)
theorem RowsAt.dp {K : PySem.W.Frag} {H : Hp} {v : V} {p} (h : RowsAt H v p) : Dp K H v (rowsD p) := by
  obtain ⟨t, xs, rfl, h, a⟩ := h
  exact .lst (SqL.of h) (a.dp rowD fun _ _ r => r.dp)
theorem AlAt.dp {K : PySem.W.Frag} {H : Hp} {v : V} {p} (h : AlAt H v p) : Dp K H v (alD p) := by
  obtain ⟨t, x0, x1, rfl, h, a, b⟩ := h
  exact .lst (SqL.of h) (.cons a.dp (.cons b.dp .nil))
theorem LetAt.dp {K : PySem.W.Frag} {H : Hp} {v : V} {p} (h : LetAt H v p) : Dp K H v (letD p) := by
  obtain ⟨t, xs, rfl, h, a⟩ := h
  exact .lst (SqL.of h) (a.dp pairD fun _ _ r => r.dp)
/-! what is drawn -/
def ltP (p q : Int × Int) : Prop := p.1 < q.1 ∨ (p.1 = q.1 ∧ p.2 < q.2)
def ltN (p q : IP) : Prop := p.1 < q.1 ∨ (p.1 = q.1 ∧ p.2 < q.2)
def okOut (x : Int) : Prop := 0 ≤ x ∧ x ≤ 63
def okRow (row : List Int) : Prop := 1 ≤ row.length ∧ row.length ≤ 60 ∧ row.Pairwise (· < ·) ∧ ∀ x ∈ row, okOut x
def okLet (l : List (Int × Int)) : Prop := 1 ≤ l.length ∧ l.length ≤ 60 ∧ l.Pairwise ltP ∧ ∀ p ∈ l, okOut p.1 ∧ okOut p.2
structure TD where
  al : Nat → List (List Int)
  bo : BD
structure WF (T : TD) : Prop where
  n0 : ∀ h, h < 2 → 1 ≤ (T.al h).length ∧ (T.al h).length ≤ 20
  row : ∀ h, h < 2 → ∀ r ∈ T.al h, okRow r
  srt : (T.bo.map (·.1)).Pairwise ltN
  rng : ∀ e ∈ T.bo, e.1.1 < (T.al 0).length ∧ e.1.2 < (T.al 1).length
  lets : ∀ e ∈ T.bo, okLet e.2
  com0 : ∀ a, a < (T.al 0).length → ∃ e ∈ T.bo, e.1.1 = a
  com1 : ∀ a, a < (T.al 1).length → ∃ e ∈ T.bo, e.1.2 = a
  many : T.bo.length ≤ 60
/-! the checks say yes to what is drawn -/
theorem risI_yes {ns : List Int} (h : ns.Pairwise (· < ·)) : risI ns = true := by
  unfold risI
  rw [List.all_eq_true]
  intro b hb
  obtain ⟨i, hi, rfl⟩ := List.mem_map.mp hb
  have hi := List.mem_range.mp hi
  have h1 : i < ns.length := by omega
  have h2 : i + 1 < ns.length := by omega
  show decide _ = true
  rw [decide_eq_true_eq, List.getD_eq_getElem?_getD, List.getD_eq_getElem?_getD, List.getElem?_eq_getElem h1, List.getElem?_eq_getElem h2]
  exact List.pairwise_iff_getElem.mp h i (i + 1) h1 h2 (by omega)
theorem out_yes {x : Int} (h : okOut x) : outB (.int x) = true := by
  unfold outB within
  exact decide_eq_true h
theorem intsOf_ints : ∀ row : List Int, intsOf (row.map PyData.int) = row
  | [] => rfl
  | x :: r => by
    have := intsOf_ints r
    unfold intsOf at this ⊢
    rw [List.map_cons, List.map_cons, this]
theorem outs_yes {row : List Int} (h : okRow row) : outsB (rowD row) = true := by
  show (decide (0 < (row.map PyData.int).length) && (((row.map PyData.int).map outB).all id && risI (intsOf (row.map PyData.int)))) = true
  rw [intsOf_ints, risI_yes h.2.2.1, List.length_map, decide_eq_true (show 0 < row.length by have := h.1; omega), Bool.and_true, Bool.true_and, List.all_eq_true]
  intro b hb
  obtain ⟨d, hd, rfl⟩ := List.mem_map.mp hb
  obtain ⟨x, hx, rfl⟩ := List.mem_map.mp hd
  exact out_yes (h.2.2.2 x hx)
theorem rows_yes {rows : List (List Int)} (h0 : 1 ≤ rows.length) (h : ∀ r ∈ rows, okRow r) : rowsB (rowsD rows) = true := by
  show (decide (0 < (rows.map rowD).length) && ((rows.map rowD).map outsB).all id) = true
  rw [List.length_map, decide_eq_true (show 0 < rows.length by omega), Bool.true_and, List.all_eq_true]
  intro b hb
  obtain ⟨d, hd, rfl⟩ := List.mem_map.mp hb
  obtain ⟨x, hx, rfl⟩ := List.mem_map.mp hd
  exact outs_yes (h x hx)
theorem alone_yes {T : TD} (W : WF T) : aloneB (alD T.al) = true := by
  show (decide (2 = 2) && [rowsB (rowsD (T.al 0)), rowsB (rowsD (T.al 1))].all id) = true
  rw [rows_yes (W.n0 0 (by decide)).1 (W.row 0 (by decide)), rows_yes (W.n0 1 (by decide)).1 (W.row 1 (by decide))]
  rfl
theorem lex_yes {p q : Int × Int} (h : ltP p q) : HT.lexLt [p.1, p.2] [q.1, q.2] = true := by
  rcases h with h | ⟨h1, h2⟩
  · have : ¬ p.1 = q.1 := by omega
    simp [HT.lexLt, h, this]
  · have : ¬ p.2 = q.2 := by omega
    simp [HT.lexLt, h1, h2, this]
theorem risP_yes {l : List (Int × Int)} (h : l.Pairwise ltP) : risP ((l.map pairD).map pairOf) = true := by
  unfold risP
  rw [List.all_eq_true]
  intro b hb
  obtain ⟨i, hi, rfl⟩ := List.mem_map.mp hb
  have hi := List.mem_range.mp hi
  rw [List.length_map, List.length_map] at hi
  have h1 : i < l.length := by omega
  have h2 : i + 1 < l.length := by omega
  have e : ∀ j (hj : j < l.length), ((l.map pairD).map pairOf).getD j [] = [l[j].1, l[j].2] := fun j hj => by
    rw [List.getD_eq_getElem?_getD, List.getElem?_map, List.getElem?_map, List.getElem?_eq_getElem hj]
    rfl
  show HT.lexLt _ _ = true
  rw [e i h1, e (i + 1) h2]
  exact lex_yes (List.pairwise_iff_getElem.mp h i (i + 1) h1 h2 (by omega))
theorem pair_yes {p : Int × Int} (h : okOut p.1 ∧ okOut p.2) : pairB (pairD p) = true := by
  show (decide (2 = 2) && [outB (.int p.1), outB (.int p.2)].all id) = true
  rw [out_yes h.1, out_yes h.2]
  rfl
theorem let_yes {l : List (Int × Int)} (h : okLet l) : letB (letD l) = true := by
  show (decide (0 < (l.map pairD).length) && (((l.map pairD).map pairB).all id && risP ((l.map pairD).map pairOf))) = true
  rw [risP_yes h.2.2.1, List.length_map, decide_eq_true (show 0 < l.length by have := h.1; omega), Bool.and_true, Bool.true_and, List.all_eq_true]
  intro b hb
  obtain ⟨d, hd, rfl⟩ := List.mem_map.mp hb
  obtain ⟨x, hx, rfl⟩ := List.mem_map.mp hd
  exact pair_yes (h.2.2.2 x hx)
theorem in_yes {n0 n1 : Nat} {p : IP} (h : p.1 < n0 ∧ p.2 < n1) : inB n0 n1 (pairD (iI p)) = true := by
  show (decide ((0 : Int) ≤ (p.1 : Int) ∧ (p.1 : Int) ≤ (n0 : Int) - 1) && decide ((0 : Int) ≤ (p.2 : Int) ∧ (p.2 : Int) ≤ (n1 : Int) - 1)) = true
  rw [decide_eq_true (show (0 : Int) ≤ (p.1 : Int) ∧ (p.1 : Int) ≤ (n0 : Int) - 1 by omega), decide_eq_true (show (0 : Int) ≤ (p.2 : Int) ∧ (p.2 : Int) ≤ (n1 : Int) - 1 by omega)]
  rfl
theorem small_row {row : List Int} (h : okRow row) : small (rowD row) := fun ds e => by
  cases e
  rw [List.length_map]
  have := h.2.1
  omega
end TA

set_option Elab.async false
set_option maxRecDepth 100000
set_option maxHeartbeats 4000000
namespace TA
open PySem L2 PyProof.Rows
set_option linter.unusedVariables false
structure Txt2 (K : PySem.W.Frag) (mg : Str → Option Value) : Prop where
  sorted : mg "sorted" = none
  set : mg "set" = none
  max : mg "max" = none
  zip : mg "zip" = none
  dict : mg "dict" = none
theorem hu65_of {A : Around} {k : Nat} (hr : Room k A) : A.units + 65 < cLine := by have := hr.un; omega
theorem keyT_turns {d : Addr} {o : Obj} {kvs : List (List Key × V)} {H0 : Hp} {Qd : Hp → Prop} {B : (Hp → Prop) → V → Hp → Prop} (Pv : Nat → Hp → Prop) (start : Pv 0 H0) (still : ∀ i H, Pv i H → H d = some (.frz o (.dT kvs)))
    (turn : ∀ i k v q H, kvs[i]? = some (k, v) → H q = some (.tup (k.map kV)) → Pv i H → B (Pv (i + 1)) (.ref q) H) (last : ∀ H, Pv kvs.length H → Qd H) :
    ∃ W : Nat → Nat → Hp → Prop, (∃ m, W 0 m H0) ∧ ∀ i m H, W i m H →
      ((Itkt d o kvs).stop i H ∧ Qd H) ∨ ((Itkt d o kvs).go i H ∧ ∃ Nx : Hp → Prop, (∀ H', Nx H' → ∃ m', m' < m ∧ W (i + 1) m' H') ∧ ∀ x H', (Itkt d o kvs).yld i H x H' → B Nx x H') :=
  turns kvs.length Pv start (fun H w => ⟨⟨still _ H w, Nat.le_refl _⟩, last H w⟩) fun i H hi w => ⟨⟨still i H w, hi⟩, fun x H' ⟨e, k, v, q, e1, e2, e3⟩ => by rw [e, e2]; exact turn i k v q H e1 e3 w⟩
theorem itemT_turns {d : Addr} {o : Obj} {kvs : List (List Key × V)} {H0 : Hp} {Qd : Hp → Prop} {B : (Hp → Prop) → V → Hp → Prop} (Pv : Nat → Hp → Prop) (start : Pv 0 H0) (still : ∀ i H, Pv i H → H d = some (.frz o (.dT kvs)))
    (turn : ∀ i k v q T H, kvs[i]? = some (k, v) → H q = some (.tup (k.map kV)) → H T = none → Pv i H → B (Pv (i + 1)) (.ref T) (upd H T (.tup [.ref q, v]))) (last : ∀ H, Pv kvs.length H → Qd H) :
    ∃ W : Nat → Nat → Hp → Prop, (∃ m, W 0 m H0) ∧ ∀ i m H, W i m H →
      ((Itit d o kvs).stop i H ∧ Qd H) ∨ ((Itit d o kvs).go i H ∧ ∃ Nx : Hp → Prop, (∀ H', Nx H' → ∃ m', m' < m ∧ W (i + 1) m' H') ∧ ∀ x H', (Itit d o kvs).yld i H x H' → B Nx x H') :=
  turns kvs.length Pv start (fun H w => ⟨⟨still _ H w, Nat.le_refl _⟩, last H w⟩) fun i H hi w => ⟨⟨still i H w, hi⟩, fun x H' ⟨T, q, k, v, e1, e2, e3, e4, e5⟩ => by rw [e3, e5]; exact turn i k v q T H e1 e2 e4 w⟩
/-! what comes, each once -/
def sel (h : Nat) (p : IP) : Nat := if h = 0 then p.1 else p.2
def distStep (acc : List Int) (x : Int) : List Int := if x ∈ acc then acc else acc ++ [x]
def dist (l : List Int) : List Int := l.foldl distStep []
theorem dist_snoc (l : List Int) (x : Int) : dist (l ++ [x]) = distStep (dist l) x := by
  unfold dist
  rw [List.foldl_append]
  rfl
theorem dist_mem_aux (x : Int) : ∀ (l acc : List Int), x ∈ l.foldl distStep acc ↔ x ∈ acc ∨ x ∈ l
  | [], acc => by simp
  | y :: l, acc => by
    rw [List.foldl_cons, dist_mem_aux x l]
    unfold distStep
    split
    · rename_i h
      constructor
      · rintro (a | a)
        · exact .inl a
        · exact .inr (List.mem_cons_of_mem _ a)
      · rintro (a | a)
        · exact .inl a
        · rcases List.mem_cons.mp a with rfl | a
          · exact .inl h
          · exact .inr a
    · rw [List.mem_append, List.mem_singleton, List.mem_cons]
      constructor
      · rintro ((a | a) | a)
        · exact .inl a
        · exact .inr (.inl a)
        · exact .inr (.inr a)
      · rintro (a | a | a)
        · exact .inl (.inl a)
        · exact .inl (.inr a)
        · exact .inr a
theorem dist_mem {l : List Int} {x : Int} : x ∈ dist l ↔ x ∈ l := by
  unfold dist
  rw [dist_mem_aux]
  simp
theorem dist_nd_aux : ∀ (l acc : List Int), acc.Nodup → (l.foldl distStep acc).Nodup
  | [], _, h => h
  | y :: l, acc, h => by
    rw [List.foldl_cons]
    refine dist_nd_aux l _ ?_
    unfold distStep
    split
    · exact h
    · rename_i c
      exact List.nodup_append.mpr ⟨h, by simp, fun a ha b hb e => by rw [List.mem_singleton] at hb; subst hb; subst e; exact c ha⟩
theorem dist_nd (l : List Int) : (dist l).Nodup := dist_nd_aux l [] List.nodup_nil
theorem nodup_sub : ∀ {xs ys : List Int}, xs.Nodup → (∀ x ∈ xs, x ∈ ys) → xs.length ≤ ys.length
  | [], _, _, _ => Nat.zero_le _
  | x :: xs, ys, h, s => by
    have hx := s x List.mem_cons_self
    obtain ⟨h1, h2⟩ := List.nodup_cons.mp h
    have r := nodup_sub (xs := xs) (ys := ys.erase x) h2 fun y hy => by
      have ne : y ≠ x := fun e => h1 (e ▸ hy)
      exact (List.mem_erase_of_ne ne).mpr (s y (List.mem_cons_of_mem _ hy))
    rw [List.length_erase_of_mem hx] at r
    have : 0 < ys.length := List.length_pos_of_mem hx
    rw [List.length_cons]
    omega
/-- all below n come, nothing else does -/
theorem dist_all {l : List Int} {n : Nat} (h1 : ∀ x ∈ l, ∃ a : Nat, a < n ∧ x = (a : Int)) (h2 : ∀ a : Nat, a < n → (a : Int) ∈ l) : (dist l).length = n := by
  have e : ((List.range n).map fun (a : Nat) => (a : Int)).length = n := by rw [List.length_map, List.length_range]
  have nd : ((List.range n).map fun (a : Nat) => (a : Int)).Nodup := List.Pairwise.map _ (fun a b (h : a ≠ b) => by show (a : Int) ≠ (b : Int); omega) List.nodup_range
  refine Nat.le_antisymm ?_ ?_
  · rw [← e]
    refine nodup_sub (dist_nd l) fun x hx => ?_
    obtain ⟨a, ha, rfl⟩ := h1 x (dist_mem.mp hx)
    exact List.mem_map.mpr ⟨a, List.mem_range.mpr ha, rfl⟩
  · have r := nodup_sub (xs := (List.range n).map fun (a : Nat) => (a : Int)) (ys := dist l) nd fun x hx => by
      obtain ⟨a, ha, rfl⟩ := List.mem_map.mp hx
      exact dist_mem.mpr (h2 a (List.mem_range.mp ha))
    rw [e] at r
    exact r
theorem dist_len_le (l : List Int) : (dist l).length ≤ l.length := nodup_sub (dist_nd l) fun x hx => dist_mem.mp hx
/-- row h of what is let alone -/
theorem AlAt.row {H : Hp} {v : V} {al : Nat → List (List Int)} (h : AlAt H v al) : ∃ t x0 x1, v = .ref t ∧ H t = some (.lst [x0, x1]) ∧ ∀ k, k < 2 → ∃ x, ([x0, x1] : List V)[k]? = some x ∧ RowsAt H x (al k) := by
  obtain ⟨t, x0, x1, e, h, a, b⟩ := h
  refine ⟨t, x0, x1, e, h, fun k hk => ?_⟩
  obtain rfl | rfl : k = 0 ∨ k = 1 := by omega
  · exact ⟨x0, rfl, a⟩
  · exact ⟨x1, rfl, b⟩
theorem kI_at {p : IP} {h : Nat} (hh : h < 2) : ((kI p).map kV)[h]? = some (.int (sel h p : Int)) := by
  obtain rfl | rfl : h = 0 ∨ h = 1 := by omega
  · rfl
  · rfl
theorem dec_nat {a b : Nat} : decide (V.int (a : Int) = V.int (b : Int)) = decide (a = b) := by
  by_cases c : a = b
  · rw [decide_eq_true c, c]; exact decide_eq_true rfl
  · rw [decide_eq_false c]; exact decide_eq_false fun e => by injection e with e; omega
def spEach (K : PySem.W.Frag) : Sp := fun vs H Q _ => ∃ (d : Addr) (v : V) (h : Nat) (kvs : List (List Key × V)) (ips : List IP) (al : Nat → List (List Int)), vs = [.ref d, v, .int (h : Int)] ∧ h < 2 ∧ H d = some (.dT kvs) ∧ kvs.map (·.1) = ips.map kI ∧ AlAt H v al ∧ ips.length ≤ 60 ∧
  ∀ H', Same H H' → Q (.bl (decide ((dist (ips.map fun p => ((sel h p : Nat) : Int))).length = (al h).length))) H'
section
variable {P : Program} {w : World} {K : PySem.W.Frag} {mg : Str → Option Value} {base : Heap}
abbrev nEach : List Str := ["both", "alone", "hand", "pair"]
theorem sc_each : FnScope nEach ["both", "alone", "hand"] (defScope s_each_comes) := ⟨rfl, rfl, rfl, by decide +kernel, rfl, by decide +kernel, by decide +kernel⟩
theorem ok_each {f : Addr} {fd : FuncData} (F : Fun K "each_comes" "each_comes" s_each_comes f fd) (T : Txt K mg) (T2 : Txt2 K mg) : FnOk P w K mg base CX0 1 f fd ["both", "alone", "hand"] (spEach K) := by
  refine F.ok sc_each (fun vs H Q E h => ?_) (fun cdv A outer s H vs Q E hr h => ?_)
  · obtain ⟨d, v, h, kvs, ips, al, rfl, _⟩ := h
    rfl
  obtain ⟨d, v, h, kvs, ips, al, rfl, hh, hd, hk, hA, hn, q⟩ := h
  have nd := sc_each.nd
  refine ⟨_, (pss_one (ps_ret (pe_cmpR op_eq (pe_callB call_len_SI (by rfl) T.len PySem.boot_len (pa_cons (pe_lock (pe_scI (own := [("pair", 3)]) (g := (gName 3)) (tt := tYes) (te := (tOp (rIxT K) (tVar 3) (tVar 2))) rfl nd (pi_keys (pv 0)) (blkOk_by (N := nEach) (sc := defScope s_each_comes) (by decide +kernel)) (fun _ _ _ _ _ => (by exact (pg_name (i := 3) nd rfl (Or.inl rfl)))) (fun _ _ _ _ _ => pts_nil) (fun _ _ _ _ _ => (by exact (pe_ix ix_tup (pv 3) (pv 2) (fun _ _ => rfl)))))) pa_nil)) (pe_callB call_len_seq (by rfl) T.len PySem.boot_len (pa_cons (pe_ix ix_list (pv 1) (pv 2) (fun _ _ => rfl)) pa_nil)) (nomark _)))), ?_⟩
  have hkl : kvs.length = ips.length := by
    have := congrArg List.length hk
    rwa [List.length_map, List.length_map] at this
  refine ⟨d, _, hd, trivial, fun od => ?_⟩
  have hd1 : (upd H d (.frz od (.dT kvs))) d = some (.frz od (.dT kvs)) := upd_same
  refine ⟨_, rfl, d, od, rfl, .inr ⟨kvs, hd1, fun D hD => ?_⟩⟩
  have nD : d ≠ D := ne_of_none hd1 hD
  refine keyT_turns (fun i H' => But d H H' ∧ H' d = some (.frz od (.dT kvs)) ∧ H' D = some (SetO w D (fun j => decide (j ∈ dist ((ips.take i).map fun p => ((sel h p : Nat) : Int)))) (dist ((ips.take i).map fun p => ((sel h p : Nat) : Int))).length)) ?_ (fun i H' h => h.2.1) ?_ ?_
  · refine ⟨But.at.trans (.same (same_new hD _)), by rw [upd_ne nD]; exact hd1, ?_⟩
    rw [upd_same]
    exact congrArg (fun z => some (SetO w D z 0)) (funext fun j => by simp [dist])
  · rintro i k v' qa H' hi hq ⟨b1, e1, e2⟩
    have hi2 : i < ips.length := by rw [← hkl]; exact (List.getElem?_eq_some_iff.mp hi).1
    have ek : k = kI ips[i] := by
      have z : (kvs.map (·.1))[i]? = some k := by rw [List.getElem?_map, hi]; rfl
      rw [hk, List.getElem?_map, List.getElem?_eq_getElem hi2] at z
      exact (Option.some.inj z).symm
    subst ek
    refine ⟨rfl, _, rfl, _, rfl, qa, _, _, _, rfl, rfl, SqT.of hq, atI_nat (kI_at hh), _, _, _, rfl, e2, ?_, ?_⟩
    · have := dist_len_le ((ips.take i).map fun p => ((sel h p : Nat) : Int))
      rw [List.length_map, List.length_take] at this
      unfold scanBound
      omega
    · have hDn : H D = none := by
        cases e : H D with
        | none => rfl
        | some o =>
          have z := But.at (H := H) (o := .frz od (.dT kvs)) D o (Ne.symm nD) e
          rw [z] at hD
          cases hD
      refine ⟨b1.new hDn, by rw [upd_ne nD]; exact e1, ?_⟩
      have et : (ips.take (i + 1)).map (fun p => ((sel h p : Nat) : Int)) = (ips.take i).map (fun p => ((sel h p : Nat) : Int)) ++ [((sel h ips[i] : Nat) : Int)] := by
        rw [List.take_add_one, List.getElem?_eq_getElem hi2, List.map_append]
        rfl
      rw [upd_same, et, dist_snoc]
      generalize dist ((ips.take i).map fun p => ((sel h p : Nat) : Int)) = L
      generalize ((sel h ips[i] : Nat) : Int) = x
      unfold distStep
      by_cases c : x ∈ L
      · rw [if_pos c, if_pos (decide_eq_true c)]
        refine congrArg (fun z => some (SetO w D z L.length)) (funext fun j => ?_)
        by_cases cj : j = x
        · subst cj; simp [c]
        · simp [cj]
      · rw [if_neg c, if_neg (by simp [c])]
        rw [List.length_append]
        refine congrArg (fun z => some (SetO w D z (L.length + 1))) (funext fun j => ?_)
        by_cases cj : j = x
        · subst cj; simp
        · simp [cj]
  · rintro H1 ⟨b1, e1, e2⟩
    rw [hkl, List.take_length] at e2
    have s1 : Same H (upd H1 d (.dT kvs)) := b1.unlock hd
    refine ⟨e1, D, _, _, rfl, (by rw [upd_ne (Ne.symm nD)]; exact e2), ?_⟩
    obtain ⟨t, x0, x1, rfl, ht, hrow⟩ := hA.row
    obtain ⟨x, hx, r, xs, rfl, hr2, ha2⟩ := hrow h hh
    refine ⟨_, rfl, _, rfl, t, _, _, _, rfl, rfl, SqL.of (s1 _ _ ht), atI_nat hx, r, xs, rfl, .inl (SqL.of (s1 _ _ hr2)), rfl, ?_⟩
    rw [dec_nat, ha2.len]
    exact q _ s1
end
end TA

set_option Elab.async false
set_option maxRecDepth 100000
set_option maxHeartbeats 4000000
namespace TA
open PySem L2 PyProof.Rows
set_option linter.unusedVariables false
theorem AlAt.at2 {K : PySem.W.Frag} {H : Hp} {v : V} {al : Nat → List (List Int)} (h : AlAt H v al) : ∃ t, v = .ref t ∧ AloneAt K H t (al 0).length (al 1).length := by
  obtain ⟨t, x0, x1, e, h, ⟨r0, xs0, rfl, h0, a0⟩, ⟨r1, xs1, rfl, h1, a1⟩⟩ := h
  exact ⟨t, e, ⟨r0, r1, xs0, xs1, SqL.of h, SqL.of h0, SqL.of h1, a0.len, a1.len⟩⟩
theorem all_true (n : Nat) : (List.replicate n true).all id = true := by
  rw [List.all_eq_true]
  intro b hb
  exact (List.mem_replicate.mp hb).2
theorem rep_snoc {n : Nat} : (List.replicate n true).map V.bl ++ [V.bl true] = (List.replicate (n + 1) true).map V.bl := by
  rw [List.replicate_succ', List.map_append]
  rfl
theorem comes_all {T : TD} (W : WF T) {h : Nat} (hh : h < 2) : (dist ((T.bo.map (·.1)).map fun p => ((sel h p : Nat) : Int))).length = (T.al h).length := by
  refine dist_all (fun x hx => ?_) (fun a ha => ?_)
  · obtain ⟨p, hp, rfl⟩ := List.mem_map.mp hx
    obtain ⟨e, he, rfl⟩ := List.mem_map.mp hp
    refine ⟨_, ?_, rfl⟩
    obtain ⟨r1, r2⟩ := W.rng e he
    obtain rfl | rfl : h = 0 ∨ h = 1 := by omega
    · exact r1
    · exact r2
  · obtain rfl | rfl : h = 0 ∨ h = 1 := by omega
    · obtain ⟨e, he, rfl⟩ := W.com0 a ha
      exact List.mem_map.mpr ⟨e.1, List.mem_map.mpr ⟨e, he, rfl⟩, rfl⟩
    · obtain ⟨e, he, rfl⟩ := W.com1 a ha
      exact List.mem_map.mpr ⟨e.1, List.mem_map.mpr ⟨e, he, rfl⟩, rfl⟩
theorem small_let {l : List (Int × Int)} (h : okLet l) : small (letD l) := fun ds e => by
  cases e
  rw [List.length_map]
  have := h.2.1
  omega
theorem keys_of {H : Hp} : ∀ {kvs : List (List Key × V)} {bo : BD}, A2 (EnAt H) kvs bo → kvs.map (·.1) = (bo.map (·.1)).map kI
  | _, _, .nil => rfl
  | _, _, .cons a b => by rw [List.map_cons, List.map_cons, List.map_cons, keys_of b, a.1]
theorem kI_tp {H : Hp} {q : Addr} {p : IP} (h : H q = some (.tup ((kI p).map kV))) : TpAt H (.ref q) (iI p) := ⟨q, rfl, h⟩
def spBoth (K : PySem.W.Frag) : Sp := fun vs H Q _ => ∃ (d : Addr) (v : V) (T : TD), vs = [.ref d, v] ∧ BoAt H d T.bo ∧ AlAt H v T.al ∧ WF T ∧ ∀ H', Same H H' → Q (.bl true) H'
section
variable {P : Program} {w : World} {K : PySem.W.Frag} {mg : Str → Option Value} {base : Heap}
abbrev nBoth : List Str := ["thing", "alone", "pair", "let", "hand"]
theorem sc_both : FnScope nBoth ["thing", "alone"] (defScope s_is_both) := ⟨rfl, rfl, rfl, by decide +kernel, rfl, by decide +kernel, by decide +kernel⟩
theorem ok_both {f g1 g2 g3 : Addr} {fd d1 d2 d3 : FuncData} (F : Fun K "is_both" "is_both" s_is_both f fd) (T : Txt K mg) (T2 : Txt2 K mg) (U : TxtH K mg) (W1 : Def P w K mg base "is_input_pair" ["thing", "alone"] 3 (spInp K) g1 d1)
    (W2 : Def P w K mg base "is_let" ["thing"] 5 (spLetB K) g2 d2) (W3 : Def P w K mg base "each_comes" ["both", "alone", "hand"] 1 (spEach K) g3 d3) : FnOk P w K mg base CX0 6 f fd ["thing", "alone"] (spBoth K) := by
  refine F.ok sc_both (fun vs H Q E h => ?_) (fun cdv A outer s H vs Q E hr h => ?_)
  · obtain ⟨d, v, D, rfl, _⟩ := h
    rfl
  obtain ⟨d, v, D, rfl, ⟨kvs, hd, ha⟩, hA, hW, q⟩ := h
  obtain ⟨hT, mH, hH⟩ := U.hands
  have nd := sc_both.nd
  refine ⟨_, (pss_one (ps_ret (pe_and (pe_callB call_isi (by rfl) T.isi boot_isinstance (pa_cons (pv 0) (pa_cons (pe_bltn (v := .ty "dict") (by rfl) T2.dict boot_dict rfl) pa_nil))) (pe_and (pe_callB (cr_all rfl) (by rfl) T.all (by decide +kernel) (pa_cons (pe_lock (pe_lc (own := [("pair", 2), ("let", 3)]) (g := (gTup K 2 (gCons (gName 2) (gCons (gName 3) gNil)))) (tt := tYes) (te := (tAndV (tCall (spInp K) [] E0 (tCons (tVar 2) (tCons (tVar 1) tNil))) (tCall (spLetB K) [] E0 (tCons (tVar 3) tNil)))) rfl nd (pi_itemsT (pv 0)) (blkOk_by (N := nBoth) (sc := defScope s_is_both) (by decide +kernel)) (fun _ _ _ _ _ => (by exact (pg_tup (by rfl) (pgs_cons (pg_name (i := 2) nd rfl (Or.inl rfl)) (pgs_cons (pg_name (i := 3) nd rfl (Or.inl rfl)) pgs_nil))))) (fun _ _ _ _ _ => pts_nil) (fun _ _ _ _ _ => (by exact (pe_and (pe_call W1.G (hr.mono (by decide)) rfl W1.m W1.k W1.b .nil pass0 (pa_cons (pv 2) (pa_cons (pv 1) pa_nil))) (pe_one (pe_call W2.G (hr.mono (by decide)) rfl W2.m W2.k W2.b .nil pass0 (pa_cons (pv 3) pa_nil)))))))) pa_nil)) (pe_one (pe_callB (cr_all rfl) (by rfl) T.all (by decide +kernel) (pa_cons (pe_lc (own := [("hand", 4)]) (g := (gName 4)) (tt := tYes) (te := (tCall (spEach K) [] E0 (tCons (tVar 0) (tCons (tVar 1) (tCons (tVar 4) tNil))))) rfl nd (pi_tup (pe_glob (v := .ref hT) rfl mH rfl)) (blkOk_by (N := nBoth) (sc := defScope s_is_both) (by decide +kernel)) (fun _ _ _ _ _ => (by exact (pg_name (i := 4) nd rfl (Or.inl rfl)))) (fun _ _ _ _ _ => pts_nil) (fun _ _ _ _ _ => (by exact (pe_call W3.G (hr.mono (by decide)) rfl W3.m W3.k W3.b .nil pass0 (pa_cons (pv 0) (pa_cons (pv 1) (pa_cons (pv 4) pa_nil))))))) pa_nil))))))), ?_⟩
  have hkl := ha.len
  refine ⟨_, rfl, V.ref d, .ty "dict", .type "dict", .type "dict", true, rfl, .ty "dict", .base (.dT hd), kit_ty (by decide +kernel), _, rfl, iteT ?_⟩
  refine ⟨d, _, hd, trivial, fun od => ?_⟩
  have hd1 : (upd H d (.frz od (.dT kvs))) d = some (.frz od (.dT kvs)) := upd_same
  refine ⟨_, rfl, d, od, kvs, rfl, hd1, fun L hL => ?_⟩
  have nL : d ≠ L := ne_of_none hd1 hL
  have hLn : H L = none := by
    cases e : H L with
    | none => rfl
    | some o =>
      have z := But.at (H := H) (o := .frz od (.dT kvs)) L o (Ne.symm nL) e
      rw [z] at hL
      cases hL
  refine itemT_turns (fun i H' => But d H H' ∧ H' d = some (.frz od (.dT kvs)) ∧ H' L = some (.lst ((List.replicate i true).map V.bl))) ⟨But.at.trans (.same (same_new hL _)), by rw [upd_ne nL]; exact hd1, upd_same⟩ (fun i H' h => h.2.1) ?_ ?_
  · rintro i k x qa Tt H' hi hq hTn ⟨b1, e1, e2⟩
    obtain ⟨eb, hbi, ek, hx⟩ := ha.get hi
    have hm := List.mem_of_getElem? hbi
    dsimp only at ek hx
    subst ek
    have s1 := same_new hTn (.tup [V.ref qa, x])
    have kp : Kp H (upd H' Tt (.tup [V.ref qa, x])) := (b1.kp hd nf_dT).trans (.same s1)
    obtain ⟨al, rfl, hAl⟩ := (hA.mono kp).at2 (K := K)
    have hi2 : i < kvs.length := (List.getElem?_eq_some_iff.mp hi).1
    refine ⟨Tt, _, rfl, SqT.of upd_same, rfl, _, _, rfl, _, _, rfl, rfl, rfl, _, rfl, _, rfl, _, _, al, _, _, rfl, (kI_tp (s1 _ _ hq)).dp, hAl, fun H2 s2 => ?_⟩
    rw [in_yes (hW.rng eb hm)]
    refine ⟨_, rfl, iteT ⟨_, rfl, _, _, rfl, ((hx.mono kp).mono (.same s2)).dp, small_let (hW.lets eb hm), fun H3 s3 => ?_⟩⟩
    rw [let_yes (hW.lets eb hm)]
    have s13 := (s1.trans s2).trans s3
    refine ⟨_, s13 _ _ e2, ?_, (b1.trans (.same s13)).new hLn, by rw [upd_ne nL]; exact s13 _ _ e1, by rw [upd_same, rep_snoc]⟩
    rw [List.length_map, List.length_replicate]
    have := hW.many
    exact Nat.lt_of_lt_of_le (show i < 100 by omega) (by decide)
  · rintro H1 ⟨b1, e1, e2⟩
    have s1 : Same H (upd H1 d (.dT kvs)) := b1.unlock hd
    refine ⟨e1, L, _, rfl, SqL.of (by rw [upd_ne (Ne.symm nL)]; exact e2), ?_⟩
    rw [all_true]
    refine ⟨_, rfl, iteT ⟨hT, rfl, ⟨_, hH _⟩, fun L2 hL2 => ?_⟩⟩
    generalize upd H1 d (.dT kvs) = H2 at s1 hL2 ⊢
    refine tup_turns (xs := [V.int 0, V.int 1]) (fun i H' => Same H H' ∧ H' L2 = some (.lst ((List.replicate i true).map V.bl))) ⟨s1.trans (same_new hL2 _), upd_same⟩ (fun i H' _ _ => hH H') ?_ ?_
    · rintro i z H' hz ⟨s3, h3⟩
      have hi : i < 2 := (List.getElem?_eq_some_iff.mp hz).1
      obtain rfl : z = .int (i : Int) := by
        obtain rfl | rfl : i = 0 ∨ i = 1 := by omega
        · simpa using hz.symm
        · simpa using hz.symm
      obtain ⟨al, x0, x1, rfl, _⟩ := id hA
      refine ⟨rfl, _, rfl, _, rfl, _, rfl, d, _, i, kvs, D.bo.map (·.1), D.al, rfl, hi, s3 _ _ hd, keys_of ha, hA.mono (.same s3), by rw [List.length_map]; exact hW.many, fun H4 s4 => ?_⟩
      rw [comes_all hW hi, decide_eq_true rfl]
      have hL2n : H L2 = none := by
        cases e : H L2 with
        | none => rfl
        | some o => rw [s1 _ _ e] at hL2; cases hL2
      refine ⟨_, s4 _ _ h3, ?_, same_upd (s3.trans s4) hL2n, by rw [upd_same, rep_snoc]⟩
      rw [List.length_map, List.length_replicate]
      exact Nat.lt_of_lt_of_le (show i < 100 by omega) (by decide)
    · rintro H3 ⟨s3, h3⟩
      refine ⟨L2, _, rfl, SqL.of h3, ?_⟩
      rw [all_true]
      exact q _ s3
end
end TA

set_option Elab.async false
set_option maxRecDepth 100000
set_option maxHeartbeats 4000000
namespace TA
open PySem L2 PyProof.Rows
set_option linter.unusedVariables false
abbrev s_init : Stmt := inClass s_Task 0
abbrev s_eq : Stmt := inClass s_Task 1
abbrev s_inputs : Stmt := inClass s_Task 2
abbrev s_pairs : Stmt := inClass s_Task 3
theorem kfld : ¬ (("alone" : Str) = "both") := by decide +kernel
/-- a task's fields -/
def flds (a d : Addr) : List (Str × V) := putF "both" (.ref d) (putF "alone" (.ref a) [])
theorem flds_eq (a d : Addr) : flds a d = ([("alone", V.ref a), ("both", V.ref d)] : List (Str × V)) := by
  show (if ("alone" : Str) = "both" then [(("alone" : Str), V.ref d)] else (("alone" : Str), V.ref a) :: putF "both" (V.ref d) []) = ([("alone", V.ref a), ("both", V.ref d)] : List (Str × V))
  rw [if_neg kfld]
  all_goals rfl
theorem flds_alone (a d : Addr) : (flds a d).lookup ("alone" : Str) = some (.ref a) := by
  unfold flds
  rw [lookup_putF, if_neg kfld, lookup_putF, if_pos rfl]
theorem flds_both (a d : Addr) : (flds a d).lookup ("both" : Str) = some (.ref d) := by
  unfold flds
  rw [lookup_putF, if_pos rfl]
theorem flds_no (a d : Addr) {m : Str} (h1 : ¬ m = "both") (h2 : ¬ m = "alone") : (flds a d).lookup m = none := by
  unfold flds
  rw [lookup_putF, if_neg h1, lookup_putF, if_neg h2]
  all_goals rfl
/-- a task stands at p -/
def TaskAt (C : Addr) (H : Hp) (p : Addr) (T : TD) : Prop := ∃ dx a d, H p = some (.ins C dx (flds a d)) ∧ AlAt H (.ref a) T.al ∧ BoAt H d T.bo
theorem TaskAt.mono {C : Addr} {H H' : Hp} (s : Same H H') {p : Addr} {T : TD} (h : TaskAt C H p T) : TaskAt C H' p T := by
  obtain ⟨dx, a, d, h1, h2, h3⟩ := h
  exact ⟨dx, a, d, s _ _ h1, h2.mono (.same s), h3.mono s⟩
/-- a task whose dict is perhaps walked just now -/
def BoR (H : Hp) (d : Addr) (bo : BD) : Prop := ∃ kvs, Rd H d (.dT kvs) ∧ A2 (EnAt H) kvs bo
def TaskR (C : Addr) (H : Hp) (p : Addr) (T : TD) : Prop := ∃ dx a d, H p = some (.ins C dx (flds a d)) ∧ AlAt H (.ref a) T.al ∧ BoR H d T.bo
theorem rd_same {H H' : Hp} (s : Same H H') {a : Addr} {u : HO} (h : Rd H a u) : Rd H' a u := by
  rcases h with h | ⟨o, h⟩
  · exact .inl (s _ _ h)
  · exact .inr ⟨o, s _ _ h⟩
theorem rd_some {H : Hp} {a : Addr} {u : HO} (h : Rd H a u) : H a ≠ none := by
  rcases h with h | ⟨o, h⟩ <;> rw [h] <;> exact fun c => by cases c
theorem BoR.mono {H H' : Hp} (s : Same H H') {v} {p} (h : BoR H v p) : BoR H' v p := by
  obtain ⟨kvs, h, a⟩ := h
  exact ⟨kvs, rd_same s h, a.imp fun _ _ r => r.mono (.same s)⟩
theorem TaskAt.r {C : Addr} {H : Hp} {p : Addr} {T : TD} (h : TaskAt C H p T) : TaskR C H p T := by
  obtain ⟨dx, a, d, h1, h2, kvs, h3, h4⟩ := h
  exact ⟨dx, a, d, h1, h2, kvs, .inl h3, h4⟩
theorem TaskR.mono {C : Addr} {H H' : Hp} (s : Same H H') {p : Addr} {T : TD} (h : TaskR C H p T) : TaskR C H' p T := by
  obtain ⟨dx, a, d, h1, h2, h3⟩ := h
  exact ⟨dx, a, d, s _ _ h1, h2.mono (.same s), h3.mono s⟩
theorem dget_rd {H : Hp} {a b : Addr} {kvs : List (List Key × V)} {k : List Key} (e : Rd H a (.dT kvs)) (eb : H b = some (.tup (k.map kV))) : DGet H a (.ref b) (valV kvs k) := .inr ⟨kvs, k, b, e, rfl, eb, rfl⟩
def rLenTR : List V → Hp → VK → Prop := fun xs H Q => ∃ (p : Addr) (kvs : List (List Key × V)), xs = [.ref p] ∧ Rd H p (.dT kvs) ∧ Q (.int ((kvs.length : Nat) : Int)) H
theorem len_dTR {X : Cx} : CallR X (.builtin "len") rLenTR := by
  intro pins s σ H xs us Q I r h
  obtain ⟨p, kvs, rfl, hp, q⟩ := h
  obtain ⟨u, rfl, rx⟩ := vals1 r
  obtain rfl : u = .ref p := rx
  obtain ⟨z, hd, ys, rel, dd⟩ := dt_rd I.hok hp
  have hl : kvs.length = ys.length := Paired.length rel
  refine call_len_dictH hd dd (by rw [← hl]; rw [sizeLine_eq] at z; omega) ?_
  rw [← hl]
  exact ⟨.int ((kvs.length : Nat) : Int), H, I.tok _, ⟨_, rfl⟩, q⟩
structure TxtC (K : PySem.W.Frag) (mg : Str → Option Value) (C : Addr) : Prop where
  cl : Cls K C
  nA : NoAttr K C "alone"
  nB : NoAttr K C "both"
  mg : mg "Task" = some (.ref C)
structure MDef (P : Program) (w : World) (K : PySem.W.Frag) (mg : Str → Option Value) (base : Heap) (C : Addr) (m : Str) (ps : List Str) (k : Nat) (sp : Sp) (f : Addr) (fd : FuncData) : Prop where
  G : FnOk P w K mg base CX0 k f fd ps sp
  b : Binds K fd ps []
  M : Meth K C m f
/-- what is new in H' behind H0, but for D -/
def nwx (H0 : Hp) (D : Addr) (H' : Hp) : Hp := fun b => if H0 b = none ∧ b ≠ D then H' b else none
theorem nwx_some {H0 : Hp} {D : Addr} {H' : Hp} {b : Addr} {o : HO} (h : nwx H0 D H' b = some o) : H0 b = none ∧ b ≠ D ∧ H' b = some o := by
  unfold nwx at h
  split at h
  · rename_i c
    exact ⟨c.1, c.2, h⟩
  · cases h
theorem nwx_put {H0 : Hp} {D : Addr} {H' : Hp} {b : Addr} {o : HO} (h0 : H0 b = none) (hD : b ≠ D) (h : H' b = some o) : nwx H0 D H' b = some o := by
  unfold nwx
  rw [if_pos ⟨h0, hD⟩, h]
theorem kp_nwx {H0 : Hp} {D : Addr} {H' : Hp} : Kp (nwx H0 D H') H' := fun b o _ h => (nwx_some h).2.2
theorem kp_nwx_but {H0 : Hp} {D : Addr} {H H' : Hp} (s : But D H H') : Kp (nwx H0 D H) (nwx H0 D H') := fun b o _ h => by
  obtain ⟨h1, h2, h3⟩ := nwx_some h
  exact nwx_put h1 h2 (s b o h2 h3)
theorem none_of_same {H H' : Hp} (s : Same H H') {b : Addr} (h : H' b = none) : H b = none := by
  cases e : H b with
  | none => rfl
  | some o => rw [s _ _ e] at h; cases h
theorem none_of_but {d : Addr} {H H' : Hp} (s : But d H H') {b : Addr} (n : b ≠ d) (h : H' b = none) : H b = none := by
  cases e : H b with
  | none => rfl
  | some o => rw [s _ _ n e] at h; cases h
theorem kp_nwx_in {H0 H1 : Hp} {D D1 : Addr} {H2 : Hp} (s : Same H0 H1) {o1 : HO} (e1 : H1 D1 = some o1) : Kp (nwx H1 D H2) (nwx H0 D1 H2) := fun b o _ h => by
  obtain ⟨h1, h2, h3⟩ := nwx_some h
  exact nwx_put (none_of_same s h1) (fun c => by subst c; rw [e1] at h1; cases h1) h3
/-- pairs let in a new list, the pairs' tuples anywhere -/
def Let2 (Hl H : Hp) (v : V) (l : List (Int × Int)) : Prop := ∃ t xs, v = .ref t ∧ Hl t = some (.lst xs) ∧ A2 (TpAt H) xs l
theorem Let2.mono {Hl Hl' H H' : Hp} (s : Kp Hl Hl') (s' : Kp H H') {v : V} {p} (h : Let2 Hl H v p) : Let2 Hl' H' v p := by
  obtain ⟨t, xs, e, h, a⟩ := h
  exact ⟨t, xs, e, s.lst h, a.imp fun _ _ r => r.mono s'⟩
def En2 (Hl H : Hp) (e : List Key × V) (b : IP × List (Int × Int)) : Prop := e.1 = kI b.1 ∧ Let2 Hl H e.2 b.2
theorem En2.mono {Hl Hl' H H' : Hp} (s : Kp Hl Hl') (s' : Kp H H') {v} {p} (h : En2 Hl H v p) : En2 Hl' H' v p := ⟨h.1, h.2.mono s s'⟩
theorem En2.en {Hl H : Hp} (s : Kp Hl H) {v} {p} (h : En2 Hl H v p) : EnAt H v p := by
  obtain ⟨e, t, xs, e2, h, a⟩ := h
  exact ⟨e, t, xs, e2, s.lst h, a⟩
theorem kI_inj {p q : IP} (h : kI p = kI q) : p = q := by
  unfold kI at h
  injection h with h1 h2
  injection h2 with h2 _
  injection h1 with h1
  injection h2 with h2
  have a : p.1 = q.1 := by omega
  have b : p.2 = q.2 := by omega
  exact Prod.ext a b
theorem valV_noneP : ∀ {kvs : List (List Key × V)} {k : List Key}, (∀ e ∈ kvs, e.1 ≠ k) → valV kvs k = none
  | [], _, _ => rfl
  | e :: r, k, h => by
    rw [valV_neg (h e List.mem_cons_self)]
    exact valV_noneP fun x hx => h x (List.mem_cons_of_mem _ hx)
theorem ltN_ne {p q : IP} (h : ltN p q) : p ≠ q := by
  rintro rfl
  rcases h with h | ⟨_, h⟩ <;> omega
/-- what a new task holds: its lists are new, all of them -/
def NewAt (C : Addr) (H H' : Hp) (p : Addr) (T : TD) : Prop := ∃ dx a d kvs, H' p = some (.ins C dx (flds a d)) ∧ AlAt (nwx H p H') (.ref a) T.al ∧ H d = none ∧ H' d = some (.dT kvs) ∧ A2 (En2 (nwx H p H') H') kvs T.bo
theorem NewAt.task {C : Addr} {H H' : Hp} {p : Addr} {T : TD} (h : NewAt C H H' p T) : TaskAt C H' p T := by
  obtain ⟨dx, a, d, kvs, h1, h2, _, h3, h4⟩ := h
  exact ⟨dx, a, d, h1, h2.mono kp_nwx, kvs, h3, h4.imp fun _ _ r => r.en kp_nwx⟩
def spInit (K : PySem.W.Frag) (C : Addr) : Sp := fun vs H Q _ => ∃ (p dx a d : Addr) (T : TD), vs = [.ref p, .ref a, .ref d] ∧ H p = some (.ins C dx []) ∧ AlAt H (.ref a) T.al ∧ BoAt H d T.bo ∧ WF T ∧
  ∀ H', But p H H' → NewAt C H H' p T → Q .non H'
theorem al_rows {H : Hp} {v : V} {al : Nat → List (List Int)} (h : AlAt H v al) : ∃ t xs, v = .ref t ∧ H t = some (.lst xs) ∧ A2 (RowsAt H) xs [al 0, al 1] := by
  obtain ⟨t, x0, x1, e, h, a, b⟩ := h
  exact ⟨t, _, e, h, .cons a (.cons b .nil)⟩
theorem al_of {H : Hp} {t : Addr} {xs : List V} {al : Nat → List (List Int)} (h : H t = some (.lst xs)) (a : A2 (RowsAt H) xs [al 0, al 1]) : AlAt H (.ref t) al := by
  cases a with
  | cons a b =>
    cases b with
    | cons b c =>
      cases c
      exact ⟨t, _, _, rfl, h, a, b⟩
theorem small_rows {T : TD} (W : WF T) {h : Nat} (hh : h < 2) : ∀ e ∈ (T.al h).map rowD, small e := fun e he => by
  obtain ⟨r, hr, rfl⟩ := List.mem_map.mp he
  exact small_row (W.row h hh r hr)
theorem take_get {α : Type} {l : List α} {i : Nat} {x : α} (h : l[i]? = some x) : l.take (i + 1) = l.take i ++ [x] := by
  rw [List.take_add_one, h]
  rfl
section
variable {P : Program} {w : World} {K : PySem.W.Frag} {mg : Str → Option Value} {base : Heap}
abbrev nInit : List Str := ["self", "alone", "both", "rows", "outputs", "pair", "let"]
theorem sc_init : FnScope nInit ["self", "alone", "both"] (defScope s_init) := ⟨rfl, rfl, rfl, by decide +kernel, rfl, by decide +kernel, by decide +kernel⟩
theorem ok_init {f g4 g5 C : Addr} {fd d4 d5 : FuncData} (F : Fun K "__init__" "Task.__init__" s_init f fd) (T : Txt K mg) (T2 : Txt2 K mg) (Z : TxtC K mg C) (W4 : Def P w K mg base "is_alone" ["thing"] 6 (spAlone K) g4 d4)
    (W5 : Def P w K mg base "is_both" ["thing", "alone"] 6 (spBoth K) g5 d5) : FnOk P w K mg base CX0 7 f fd ["self", "alone", "both"] (spInit K C) := by
  refine F.ok sc_init (fun vs H Q E h => ?_) (fun cdv A outer s H vs Q E hr h => ?_)
  · obtain ⟨p, dx, a, d, D, rfl, _⟩ := h
    rfl
  obtain ⟨p, dx, a, d, D, rfl, hp, hA, hB, hW, q⟩ := h
  have nd := sc_init.nd
  have hu := hu_of hr
  refine ⟨_, (pss_cons (ps_if (pt_not (pt_val (pe_call W4.G (hr.mono (by decide)) rfl W4.m W4.k W4.b .nil pass0 (pa_cons (pv 1) pa_nil))))
      pss_never
      pss_nil)
    (pss_cons (ps_if (pt_not (pt_val (pe_call W5.G (hr.mono (by decide)) rfl W5.m W5.k W5.b .nil pass0 (pa_cons (pv 2) (pa_cons (pv 1) pa_nil)))))
      pss_never
      pss_nil)
    (pss_cons (ps_fld (pv 0) (pe_lc (own := [("rows", 3)]) (g := (gName 3)) (tt := tYes) (te := (tLc (iList K (tVar 3)) (gName 4) tYes (tCB (fun xs H Q => ∃ p ys, xs = [.ref p] ∧ (SqL K H p ys ∨ SqT K H p ys) ∧ ∀ l, H l = none → Q (.ref l) (upd H l (.lst ys))) (tCons (tVar 4) tNil)) [4])) rfl nd (pi_list (pv 1)) (blkOk_by (N := nInit) (sc := defScope s_init) (by decide +kernel)) (fun _ _ _ _ _ => (by exact (pg_name (i := 3) nd rfl (Or.inl rfl)))) (fun _ _ _ _ _ => pts_nil) (fun _ _ _ _ _ => (by exact (pe_lc (own := [("outputs", 4)]) (g := (gName 4)) (tt := tYes) (te := (tCB (fun xs H Q => ∃ p ys, xs = [.ref p] ∧ (SqL K H p ys ∨ SqT K H p ys) ∧ ∀ l, H l = none → Q (.ref l) (upd H l (.lst ys))) (tCons (tVar 4) tNil))) rfl nd (pi_list (pv 3)) (blkOk_by (N := nInit)  (by kernel_rfl)) (fun _ _ _ _ _ => (by exact (pg_name (i := 4) nd rfl (Or.inl rfl)))) (fun _ _ _ _ _ => pts_nil) (fun _ _ _ _ _ => (by exact (pe_callTy call_list_of (by rfl) T.list boot_list (pa_cons (pv 4) pa_nil)))))))) rfl)
    (pss_one (ps_fld (pv 0) (pe_lock (pe_dcT (own := [("pair", 5), ("let", 6)]) (g := (gTup K 2 (gCons (gName 5) (gCons (gName 6) gNil)))) (tt := tYes) (tk := (tVar 5)) (tv := (tCB (fun xs H Q => ∃ p ys, xs = [.ref p] ∧ (SqL K H p ys ∨ SqT K H p ys) ∧ ∀ l, H l = none → Q (.ref l) (upd H l (.lst ys))) (tCons (tVar 6) tNil))) hu rfl nd (pi_itemsT (pv 2)) (blkOk_by (N := nInit) (sc := defScope s_init) (by decide +kernel)) (fun _ _ _ _ _ => (by exact (pg_tup (by rfl) (pgs_cons (pg_name (i := 5) nd rfl (Or.inl rfl)) (pgs_cons (pg_name (i := 6) nd rfl (Or.inl rfl)) pgs_nil))))) (fun _ _ _ _ _ => pts_nil) (fun _ _ _ _ _ => (by exact (pv 5))) (fun _ _ _ _ _ => (by exact (pe_callTy call_list_of (by rfl) T.list boot_list (pa_cons (pv 6) pa_nil)))))) rfl))))), ?_⟩
  refine ⟨_, rfl, _, _, rfl, hA.dp, (fun ds e => by cases e; exact (by decide : 2 ≤ 1000)), ?_, fun H1 s1 => ?_⟩
  · rintro ds e z hz
    cases e
    rcases List.mem_cons.mp hz with rfl | hz
    · refine ⟨fun es e => ?_, fun es e => ?_⟩
      · cases e
        rw [List.length_map]
        have := hW.n0 0 (by decide); omega
      · cases e
        exact small_rows hW (by decide)
    · obtain rfl := List.mem_singleton.mp hz
      refine ⟨fun es e => ?_, fun es e => ?_⟩
      · cases e
        rw [List.length_map]
        have := hW.n0 1 (by decide); omega
      · cases e
        exact small_rows hW (by decide)
  rw [alone_yes hW]
  refine ⟨true, rfl, iteF ?_⟩
  refine ⟨_, rfl, _, rfl, d, _, D, rfl, hB.mono s1, hA.mono (.same s1), hW, fun H2 s2 => ⟨true, rfl, iteF ?_⟩⟩
  have s12 := s1.trans s2
  obtain ⟨al, xs, e, hal, hrows⟩ := al_rows (hA.mono (.same s12))
  obtain rfl : a = al := by injection e
  clear e
  refine ⟨_, rfl, a, rfl, ⟨_, SqL.of hal⟩, fun D1 hD1 => ?_⟩
  have hD1n : H D1 = none := none_of_same s12 hD1
  refine list_turns (xs := xs) (fun i H' => Same H2 H' ∧ ∃ ys, H' D1 = some (.lst ys) ∧ A2 (RowsAt (nwx H2 D1 H')) ys ([D.al 0, D.al 1].take i)) ⟨same_new hD1 _, [], upd_same, .nil⟩ (fun i H' _ h => h.1.seq (SqL.of hal)) ?_ ?_
  · rintro i x H' hx ⟨s3, ys, hy, ay⟩
    obtain ⟨rows, hr1, t, zs, rfl, ht, az⟩ := hrows.get hx
    have ht3 := s3 _ _ ht
    have hsz : rows.length ≤ 20 := by
      have hi : i < 2 := (List.getElem?_eq_some_iff.mp hr1).1
      obtain rfl | rfl : i = 0 ∨ i = 1 := by omega
      · obtain rfl : D.al 0 = rows := by simpa using hr1
        exact (hW.n0 0 (by decide)).2
      · obtain rfl : D.al 1 = rows := by simpa using hr1
        exact (hW.n0 1 (by decide)).2
    refine ⟨rfl, _, rfl, t, rfl, ⟨_, SqL.of ht3⟩, fun D2 hD2 => ?_⟩
    refine list_turns (xs := zs) (fun j H4 => Same H' H4 ∧ ∃ us, H4 D2 = some (.lst us) ∧ A2 (RowAt (nwx H' D2 H4)) us (rows.take j)) ⟨same_new hD2 _, [], upd_same, .nil⟩ (fun j H4 _ h => h.1.seq (SqL.of ht3)) ?_ ?_
    · rintro j z H4 hz ⟨s4, us, hu4, au⟩
      obtain ⟨row, hr2, tt, rfl, htt⟩ := az.get hz
      have htt4 := s4 _ _ (s3 _ _ htt)
      refine ⟨rfl, _, rfl, tt, _, rfl, .inl (SqL.of htt4), fun l hl => ?_⟩
      have s5 := same_new hl (.lst (row.map V.int))
      have nl : l ≠ D2 := (ne_of_none hu4 hl).symm
      have hjr : us.length < rows.length := by
        rw [au.len, List.length_take]
        have := (List.getElem?_eq_some_iff.mp hr2).1
        omega
      refine ⟨us, s5 _ _ hu4, Nat.lt_of_lt_of_le (show us.length < 100 by omega) (by decide), ?_⟩
      refine ⟨same_upd (s4.trans s5) hD2, _, upd_same, ?_⟩
      rw [take_get hr2]
      refine A2.snoc (au.imp fun _ _ r => r.mono (kp_nwx_but ((But.same s5).trans But.at))) ⟨l, rfl, nwx_put (none_of_same s4 hl) nl ?_⟩
      rw [upd_ne nl]
      exact upd_same
    · rintro H4 ⟨s4, us, hu4, au⟩
      have hzl := az.len
      rw [hzl, List.take_length] at au
      have ne : D2 ≠ D1 := (ne_of_none hy hD2).symm
      refine ⟨ys, s4 _ _ hy, ?_, ?_⟩
      · rw [ay.len, List.length_take]
        exact Nat.lt_of_le_of_lt (Nat.min_le_right _ _) (by show 2 < sizeLine; decide)
      refine ⟨same_upd (s3.trans s4) hD1, _, upd_same, ?_⟩
      rw [take_get hr1]
      refine A2.snoc (ay.imp fun _ _ r => r.mono (kp_nwx_but ((But.same s4).trans But.at))) ?_
      have r0 : RowsAt (nwx H2 D1 H4) (.ref D2) rows := ⟨D2, us, rfl, nwx_put (none_of_same s3 hD2) ne hu4, au.imp fun _ _ r => r.mono (kp_nwx_in s3 hy)⟩
      exact r0.mono (kp_nwx_but But.at)
  · rintro H3 ⟨s3, ys, hy, ay⟩
    have hxl := hrows.len
    rw [hxl, List.take_length] at ay
    have hp3 := s3 _ _ (s12 _ _ hp)
    refine ⟨_, rfl, p, C, dx, _, rfl, hp3, Z.cl, Z.nA, (by show 0 < 1000; decide), ?_⟩
    have npD1 : D1 ≠ p := (ne_of_none (s12 _ _ hp) hD1).symm
    generalize hH5 : upd H3 p (.ins C dx (putF "alone" (.ref D1) [])) = H5
    have b5 : But p H H5 := by rw [← hH5]; exact (But.same (s12.trans s3)).trans But.at
    have hp5 : H5 p = some (.ins C dx (putF "alone" (.ref D1) [])) := by rw [← hH5]; exact upd_same
    have hD15 : H5 D1 = some (.lst ys) := by rw [← hH5, upd_ne npD1]; exact hy
    have ay5 : A2 (RowsAt (nwx H p H5)) ys [D.al 0, D.al 1] := ay.imp fun _ _ r => r.mono fun b o _ h => by
      obtain ⟨h1, h2, h3⟩ := nwx_some h
      have hb : b ≠ p := fun c => by subst c; rw [s12 _ _ hp] at h1; cases h1
      refine nwx_put (none_of_same s12 h1) hb ?_
      rw [← hH5, upd_ne hb]; exact h3
    obtain ⟨kvs, hd, ha⟩ := hB
    have ndp : d ≠ p := ne_of hd hp (fun z => by cases z)
    have hd5 : H5 d = some (.dT kvs) := b5 _ _ ndp hd
    have ha5 : A2 (EnAt H5) kvs D.bo := ha.imp fun _ _ r => r.mono (b5.kp hp (by rintro (⟨_, h⟩ | ⟨_, h⟩) <;> cases h))
    refine ⟨d, _, hd5, trivial, fun od => ?_⟩
    have hd6 : (upd H5 d (.frz od (.dT kvs))) d = some (.frz od (.dT kvs)) := upd_same
    refine ⟨_, rfl, d, od, kvs, rfl, hd6, fun L hL => ?_⟩
    have nL : d ≠ L := ne_of_none hd6 hL
    have hLn : H5 L = none := none_of_but But.at (Ne.symm nL) hL
    refine itemT_turns (fun i H' => But d H5 H' ∧ H' d = some (.frz od (.dT kvs)) ∧ ∃ ks, H' L = some (.dT ks) ∧ A2 (En2 (nwx H5 L H') H') ks (D.bo.take i)) ⟨But.at.trans (.same (same_new hL _)), by rw [upd_ne nL]; exact hd6, [], upd_same, .nil⟩ (fun i H' h => h.2.1) ?_ ?_
    · rintro i k x qa Tt H' hi hq hTn ⟨b1, e1, ks, e2, as⟩
      obtain ⟨eb, hbi, ek, hx⟩ := ha5.get hi
      dsimp only at ek hx
      subst ek
      have s1 := same_new hTn (.tup [V.ref qa, x])
      have kp : Kp H5 (upd H' Tt (.tup [V.ref qa, x])) := (b1.kp hd5 nf_dT).trans (.same s1)
      obtain ⟨t, xs2, rfl, ht, at2⟩ := hx.mono kp
      refine ⟨Tt, _, rfl, SqT.of upd_same, rfl, _, _, rfl, _, _, rfl, rfl, rfl, _, rfl, _, rfl, t, _, rfl, .inl (SqL.of ht), fun l hl => ?_⟩
      have s2 := same_new hl (.lst xs2)
      have hil : i < D.bo.length := (List.getElem?_eq_some_iff.mp hbi).1
      have hks : ks.length < 100 := by
        rw [as.len, List.length_take]
        have := hW.many
        omega
      refine ⟨ks, _, qa, rfl, s2 _ _ (s1 _ _ hq), s2 _ _ (s1 _ _ e2), Nat.lt_of_lt_of_le hks (by decide), ?_⟩
      have nl : l ≠ L := (ne_of_none (s1 _ _ e2) hl).symm
      have hvn : valV ks (kI eb.1) = none := valV_noneP fun e he c => by
        obtain ⟨y, hy1, hy2, _⟩ := as.mem he
        rw [hy2] at c
        have c := kI_inj c
        obtain ⟨j, hj⟩ := List.getElem?_of_mem hy1
        have hjl : j < i := by
          have := (List.getElem?_eq_some_iff.mp hj).1
          rw [List.length_take] at this
          omega
        rw [List.getElem?_take_of_lt hjl] at hj
        have sr := List.pairwise_iff_getElem.mp hW.srt j i (by rw [List.length_map]; omega) (by rw [List.length_map]; exact hil) hjl
        rw [List.getElem_map, List.getElem_map, (List.getElem?_eq_some_iff.mp hj).2, (List.getElem?_eq_some_iff.mp hbi).2] at sr
        exact ltN_ne sr c
      rw [putK_new _ hvn]
      have s12' := s1.trans s2
      have kpl : Kp (upd (upd H' Tt (.tup [V.ref qa, V.ref t])) l (.lst xs2)) (upd (upd (upd H' Tt (.tup [V.ref qa, V.ref t])) l (.lst xs2)) L (.dT (ks ++ [(kI eb.1, V.ref l)]))) := .put (s12' _ _ e2) nf_dT
      refine ⟨(b1.trans (.same s12')).new hLn, by rw [upd_ne nL]; exact s12' _ _ e1, _, upd_same, ?_⟩
      rw [take_get hbi]
      refine A2.snoc (as.imp fun _ _ r => r.mono (kp_nwx_but ((But.same s12').trans But.at)) ((Kp.same s12').trans kpl)) ⟨rfl, l, xs2, rfl, nwx_put ?_ nl ?_, at2.imp fun _ _ r => r.mono ((Kp.same s2).trans kpl)⟩
      · refine none_of_but (b1.trans (.same s1)) (fun c => ?_) hl
        subst c
        rw [s1 _ _ e1] at hl
        cases hl
      · rw [upd_ne nl]; exact upd_same
    · rintro H6 ⟨b1, e1, ks, e2, as⟩
      rw [ha5.len, List.take_length] at as
      have s6 : Same H5 (upd H6 d (.dT kvs)) := b1.unlock hd5
      generalize hH7 : upd H6 d (.dT kvs) = H7 at s6
      have e27 : H7 L = some (.dT ks) := by rw [← hH7, upd_ne (Ne.symm nL)]; exact e2
      have kp67 : Kp H6 H7 := by rw [← hH7]; exact .put e1 nf_frz
      refine ⟨e1, ?_⟩
      have hp7 := s6 _ _ hp5
      refine ⟨_, rfl, p, C, dx, _, rfl, hp7, Z.cl, Z.nB, (by show 1 < 1000; decide), ?_⟩
      have npL : L ≠ p := fun c => by subst c; rw [hp5] at hLn; cases hLn
      have nLp : H L = none := none_of_but b5 npL hLn
      have b7 : But p H (upd H7 p (.ins C dx (flds D1 L))) := (b5.trans (.same s6)).trans But.at
      refine q _ b7 ⟨dx, D1, L, ks, upd_same, al_of (nwx_put hD1n npD1 ?_) (ay5.imp fun _ _ r => r.mono (kp_nwx_but ((But.same s6).trans But.at))), nLp, ?_, as.imp fun _ _ r => r.mono (fun b o _ h => ?_) ?_⟩
      · rw [upd_ne npD1]; exact s6 _ _ hD15
      · rw [upd_ne npL]; exact e27
      · obtain ⟨h1, h2, h3⟩ := nwx_some h
        have hb : b ≠ p := fun c => by subst c; rw [hp5] at h1; cases h1
        have hbd : b ≠ d := fun c => by subst c; rw [hd5] at h1; cases h1
        refine nwx_put (none_of_but b5 hb h1) hb ?_
        rw [upd_ne hb, ← hH7, upd_ne hbd]
        exact h3
      · exact kp67.trans (.put hp7 (by rintro (⟨_, h⟩ | ⟨_, h⟩) <;> cases h))
end
end TA

set_option Elab.async false
set_option maxRecDepth 100000
set_option maxHeartbeats 4000000
namespace TA
open PySem L2 PyProof.Rows
set_option linter.unusedVariables false
theorem inV_int (x : Int) (fs : List Int) : inV (.int x) (fs.map V.int) = decide (x ∈ fs) := by
  induction fs with
  | nil => rfl
  | cons y r ih =>
    show (eqV (.int y) (.int x) || inV (.int x) (r.map V.int)) = _
    rw [ih]
    by_cases c : y = x
    · subst c
      rw [show eqV (.int y) (.int y) = true from by simp [eqV]]
      simp
    · rw [show eqV (.int y) (.int x) = false from by simp [eqV, c]]
      by_cases m : x ∈ r
      · simp [m]
      · have : ¬ x = y := fun e => c e.symm
        simp [m, this]
theorem flat_ints (fs : List Int) : (fs.map V.int).all flatV = true := by
  rw [List.all_eq_true]
  intro v hv
  obtain ⟨x, _, rfl⟩ := List.mem_map.mp hv
  rfl
def hasK (bo : BD) (xy : Int × Int) : Bool := bo.any fun e => decide (iI e.1 = xy)
theorem hasK_yes {bo : BD} {e : IP × List (Int × Int)} (h : e ∈ bo) : hasK bo (iI e.1) = true := List.any_eq_true.mpr ⟨e, h, decide_eq_true rfl⟩
def k2 (xy : Int × Int) : List Key := [.inl xy.1, .inl xy.2]
theorem k2_iff {p : IP} {xy : Int × Int} : kI p = k2 xy ↔ iI p = xy := by
  unfold kI k2 iI
  constructor
  · intro h
    injection h with h1 h2
    injection h2 with h2 _
    injection h1 with h1
    injection h2 with h2
    exact Prod.ext h1 h2
  · intro h
    rw [← h]
theorem some_hasK {H : Hp} : ∀ {kvs : List (List Key × V)} {bo : BD}, A2 (EnAt H) kvs bo → ∀ xy, (valV kvs (k2 xy)).isSome = hasK bo xy
  | _, _, .nil, _ => rfl
  | (k, v) :: kvs, b :: bo, .cons a r, xy => by
    obtain ⟨ek, _⟩ := a
    dsimp only at ek
    subst ek
    show _ = (decide (iI b.1 = xy) || hasK bo xy)
    by_cases c : iI b.1 = xy
    · rw [valV_pos (k2_iff.mpr c), decide_eq_true c]
      rfl
    · rw [valV_neg (fun h => c (k2_iff.mp h)), some_hasK r xy, decide_eq_false c, Bool.false_or]
theorem iI_inj {p q : IP} (h : iI p = iI q) : p = q := by
  unfold iI at h
  injection h with h1 h2
  exact Prod.ext (by omega) (by omega)
/-- what the dict holds at a pair that comes -/
theorem val_at {H : Hp} : ∀ {kvs : List (List Key × V)} {bo : BD}, A2 (EnAt H) kvs bo → (bo.map (·.1)).Pairwise ltN → ∀ e ∈ bo, ∃ v, valV kvs (kI e.1) = some v ∧ LetAt H v e.2
  | _, _, .nil, _, e, m => by cases m
  | (k, v) :: kvs, b :: bo, .cons a r, s, e, m => by
    obtain ⟨ek, hl⟩ := a
    dsimp only at ek hl
    subst ek
    rw [List.map_cons, List.pairwise_cons] at s
    rcases List.mem_cons.mp m with rfl | m
    · exact ⟨v, valV_pos rfl, hl⟩
    · rw [valV_neg (fun h => ltN_ne (s.1 _ (List.mem_map.mpr ⟨e, m, rfl⟩)) (kI_inj h))]
      exact val_at r s.2 e m
def rowB (d : PyData) (m : Nat) : Bool := match d with
  | .list ds => decide (ds.length = m) && (ds.map outB).all id
  | _ => false
def chosenB (d : PyData) (n0 n1 : Nat) : Bool := match d with
  | .list [d0, d1] => rowB d0 n0 && rowB d1 n1
  | _ => false
def okA (T : TD) (ch : Nat → List Int) (h a : Nat) : Prop := (ch h).getD a 0 ∈ (T.al h).getD a []
instance {T : TD} {ch : Nat → List Int} {h a : Nat} : Decidable (okA T ch h a) := by unfold okA; exact inferInstance
def spInputs (K : PySem.W.Frag) (C : Addr) : Sp := fun vs H Q _ => ∃ (p : Addr) (h : Nat) (T : TD), vs = [.ref p, .int (h : Int)] ∧ h < 2 ∧ TaskR C H p T ∧ Q (.int ((T.al h).length : Int)) H
def spPairs (K : PySem.W.Frag) (C : Addr) : Sp := fun vs H Q _ => ∃ (p : Addr) (T : TD), vs = [.ref p] ∧ TaskAt C H p T ∧ WF T ∧ ∀ (r : Addr) (xs : List V), H r = none → A2 (TpAt H) xs (T.bo.map fun e => iI e.1) → Q (.ref r) (upd H r (.lst xs))
def spPair (K : PySem.W.Frag) (C : Addr) : Sp := fun vs H Q _ => ∃ (p : Addr) (v : V) (T : TD) (xy : Int × Int), vs = [.ref p, v] ∧ TaskR C H p T ∧ WF T ∧ TpAt H v xy ∧ ∀ H', Same H H' → Q (.bl (hasK T.bo xy)) H'
def spRow (K : PySem.W.Frag) : Sp := fun vs H Q _ => ∃ (v : V) (d : PyData) (m : Nat), vs = [v, .int (m : Int)] ∧ Dp K H v d ∧ small d ∧ ∀ H', Same H H' → Q (.bl (rowB d m)) H'
def spChosen (K : PySem.W.Frag) (C : Addr) : Sp := fun vs H Q _ => ∃ (p : Addr) (v : V) (d : PyData) (T : TD), vs = [.ref p, v] ∧ TaskR C H p T ∧ Dp K H v d ∧ (∀ ds, d = .list ds → ∀ e ∈ ds, small e) ∧ ∀ H', Same H H' → Q (.bl (chosenB d (T.al 0).length (T.al 1).length)) H'
/-- what alone_fault tells -/
def AloneRes (T : TD) (ch : Nat → List Int) (fv : V) (H' : Hp) : Prop := (fv = .non ∧ ∀ h a, h < 2 → a < (T.al h).length → okA T ch h a) ∨
  ∃ r h a, fv = .ref r ∧ H' r = some (.tup [.str "alone", .int ((h : Nat) : Int), .int ((a : Nat) : Int)]) ∧ h < 2 ∧ a < (T.al h).length ∧ ¬ okA T ch h a ∧ ∀ h' a', h' < 2 → a' < (T.al h').length → (h' < h ∨ (h' = h ∧ a' < a)) → okA T ch h' a'
def spAloneF (K : PySem.W.Frag) (C : Addr) : Sp := fun vs H Q _ => ∃ (p : Addr) (v : V) (T : TD) (ch : Nat → List Int), vs = [.ref p, v] ∧ TaskAt C H p T ∧ WF T ∧ RowsAt H v [ch 0, ch 1] ∧ (∀ h, h < 2 → (ch h).length = (T.al h).length) ∧
  ∀ fv H', Same H H' → AloneRes T ch fv H' → Q fv H'
section
variable {P : Program} {w : World} {K : PySem.W.Frag} {mg : Str → Option Value} {base : Heap}
abbrev nInputs : List Str := ["self", "hand"]
theorem sc_inputs : FnScope nInputs nInputs (defScope s_inputs) := ⟨rfl, rfl, rfl, by decide +kernel, rfl, by decide +kernel, by decide +kernel⟩
theorem within_hand {h : Nat} (hh : h < 2) : within (.int (h : Int)) 0 1 = true := by
  show decide ((0 : Int) ≤ (h : Int) ∧ (h : Int) ≤ 1) = true
  exact decide_eq_true (by omega)
theorem ok_inputs {f g C : Addr} {fd gd : FuncData} (F : Fun K "inputs" "Task.inputs" s_inputs f fd) (T : Txt K mg) (Z : TxtC K mg C) (WH : Def P w K mg base "is_hand" ["thing"] 3 (spHandG K) g gd) : FnOk P w K mg base CX0 4 f fd nInputs (spInputs K C) := by
  refine F.ok sc_inputs (fun vs H Q E h => ?_) (fun cdv A outer s H vs Q E hr h => ?_)
  · obtain ⟨p, h, D, rfl, _⟩ := h
    rfl
  obtain ⟨p, h, D, rfl, hh, hT, q⟩ := h
  refine ⟨_, (pss_cons (ps_if (pt_not (pt_val (pe_call WH.G (hr.mono (by decide)) rfl WH.m WH.k WH.b .nil pass0 (pa_cons (pv 1) pa_nil))))
      pss_never
      pss_nil)
    (pss_one (ps_ret (pe_callB call_len_seq (by rfl) T.len PySem.boot_len (pa_cons (pe_ix ix_list (pe_fld (pv 0) rfl) (pv 1) (fun _ _ => rfl)) pa_nil))))), ?_⟩
  obtain ⟨dx, a, d, hp, hA, _⟩ := hT
  obtain ⟨t, x0, x1, e, ht, hrow⟩ := hA.row
  obtain rfl : a = t := by injection e
  obtain ⟨x, hx, r, xs, rfl, hr2, ha2⟩ := hrow h hh
  refine ⟨_, rfl, _, _, rfl, .int _, ?_⟩
  rw [within_hand hh]
  refine ⟨true, rfl, iteF ?_⟩
  refine ⟨_, rfl, p, C, dx, _, _, rfl, hp, Z.cl, Z.nA, flds_alone _ _, _, rfl, a, _, _, _, rfl, rfl, SqL.of ht, atI_nat hx, r, xs, rfl, .inl (SqL.of hr2), ?_⟩
  rw [ha2.len]
  exact q
abbrev nPairs : List Str := ["self"]
theorem sc_pairs : FnScope nPairs nPairs (defScope s_pairs) := ⟨rfl, rfl, rfl, by decide +kernel, rfl, by decide +kernel, by decide +kernel⟩
theorem keys_sorted {T : TD} (W : WF T) {L : List (Addr × List Int)} (h1 : (L.map (·.2)).Perm (T.bo.map fun e => [((e.1.1 : Nat) : Int), ((e.1.2 : Nat) : Int)])) (h2 : L.Pairwise (fun q r => TS.code 64 q.2 ≤ TS.code 64 r.2)) :
    L.map (·.2) = T.bo.map fun e => [((e.1.1 : Nat) : Int), ((e.1.2 : Nat) : Int)] := by
  have n0 := (W.n0 0 (by decide)).2
  have n1 := (W.n0 1 (by decide)).2
  have bd : ∀ x ∈ T.bo.map (fun e => [((e.1.1 : Nat) : Int), ((e.1.2 : Nat) : Int)]), ∃ a b : Nat, a < 20 ∧ b < 20 ∧ x = [(a : Int), (b : Int)] := fun x hx => by
    obtain ⟨e, he, rfl⟩ := List.mem_map.mp hx
    have := W.rng e he
    exact ⟨e.1.1, e.1.2, by omega, by omega, rfl⟩
  refine List.Perm.eq_of_pairwise (le := fun a b => TS.code 64 a ≤ TS.code 64 b) (fun a b ha hb h h' => ?_) (List.pairwise_map.mpr h2) ?_ h1
  · obtain ⟨a1, a2, _, _, rfl⟩ := bd a (h1.mem_iff.mp ha)
    obtain ⟨b1, b2, _, _, rfl⟩ := bd b hb
    rw [code_pair, code_pair] at h h'
    have e1 : a1 = b1 := by omega
    have e2 : a2 = b2 := by omega
    rw [e1, e2]
  · rw [List.pairwise_map]
    have s := W.srt
    rw [List.pairwise_map] at s
    refine s.imp_of_mem fun {a b} ha hb h => ?_
    have := W.rng a ha
    have := W.rng b hb
    rw [code_pair, code_pair]
    rcases h with h | ⟨h, h'⟩
    · omega
    · omega
theorem ok_pairs {f C : Addr} {fd : FuncData} (F : Fun K "pairs" "Task.pairs" s_pairs f fd) (T2 : Txt2 K mg) (Z : TxtC K mg C) : FnOk P w K mg base CX0 1 f fd nPairs (spPairs K C) := by
  refine F.ok sc_pairs (fun vs H Q E h => ?_) (fun cdv A outer s H vs Q E hr h => ?_)
  · obtain ⟨p, D, rfl, _⟩ := h
    rfl
  obtain ⟨p, D, rfl, hT, hW, q⟩ := h
  refine ⟨_, (pss_one (ps_ret (pe_callB (cr_sortedDT (d := 2) (B := 64) (by decide) rfl) (by rfl) T2.sorted (by decide +kernel) (pa_cons (pe_fld (pv 0) rfl) pa_nil)))), ?_⟩
  obtain ⟨dx, a, d, hp, hA, kvs, hd, ha⟩ := hT
  refine ⟨_, rfl, p, C, dx, _, _, rfl, hp, Z.cl, Z.nB, flds_both _ _, d, kvs, D.bo.map (fun e => [((e.1.1 : Nat) : Int), ((e.1.2 : Nat) : Int)]), rfl, .inl hd, ?_, ?_, ?_, fun L r h1 h2 h3 hr0 => ?_⟩
  · rw [keys_of ha, List.map_map, List.map_map]
    rfl
  · rw [List.length_map]
    have := hW.many
    omega
  · intro ns hns
    obtain ⟨e, he, rfl⟩ := List.mem_map.mp hns
    have := hW.rng e he
    have := (hW.n0 0 (by decide)).2
    have := (hW.n0 1 (by decide)).2
    refine ⟨rfl, fun m hm => ?_⟩
    rcases List.mem_cons.mp hm with rfl | hm
    · omega
    · obtain rfl := List.mem_singleton.mp hm
      omega
  · refine q r _ hr0 ?_
    have e := keys_sorted hW h1 h2
    clear h1 h2 q
    generalize D.bo = bo at e
    induction L generalizing bo with
    | nil =>
      cases bo with
      | nil => exact .nil
      | cons _ _ => cases e
    | cons x L ih =>
      cases bo with
      | nil => cases e
      | cons b bo =>
        rw [List.map_cons, List.map_cons] at e
        injection e with e1 e2
        refine .cons ⟨x.1, rfl, ?_⟩ (ih (fun y hy => h3 y (List.mem_cons_of_mem _ hy)) bo e2)
        rw [h3 x List.mem_cons_self, e1]
        rfl
abbrev nIsPair : List Str := ["task", "thing"]
theorem sc_ispair : FnScope nIsPair nIsPair (defScope s_is_pair) := ⟨rfl, rfl, rfl, by decide +kernel, rfl, by decide +kernel, by decide +kernel⟩
theorem inB_hasK {T : TD} (W : WF T) {xy : Int × Int} (h : inB (T.al 0).length (T.al 1).length (pairD xy) = false) : hasK T.bo xy = false := by
  cases c : hasK T.bo xy with
  | false => rfl
  | true =>
    obtain ⟨e, he, h1⟩ := List.any_eq_true.mp c
    have h2 := of_decide_eq_true h1
    rw [← h2, in_yes (W.rng e he)] at h
    cases h
theorem ok_ispair {f g C : Addr} {fd gd : FuncData} (F : Fun K "is_pair" "is_pair" s_is_pair f fd) (T : Txt K mg) (Z : TxtC K mg C) (W1 : Def P w K mg base "is_input_pair" ["thing", "alone"] 3 (spInp K) g gd) : FnOk P w K mg base CX0 4 f fd nIsPair (spPair K C) := by
  refine F.ok sc_ispair (fun vs H Q E h => ?_) (fun cdv A outer s H vs Q E hr h => ?_)
  · obtain ⟨p, v, D, xy, rfl, _⟩ := h
    rfl
  obtain ⟨p, v, D, xy, rfl, hT, hW, hv, q⟩ := h
  have hu := hu_of hr
  refine ⟨_, (pss_one (ps_ret (pe_and (pe_call W1.G (hr.mono (by decide)) rfl W1.m W1.k W1.b .nil pass0 (pa_cons (pv 1) (pa_cons (pe_fld (pv 0) rfl) pa_nil))) (pe_one (pe_cmp (pc_din hu (pv 1) (pe_fld (pv 0) rfl)) rfl))))), ?_⟩
  obtain ⟨dx, a, d, hp, hA, hB⟩ := hT
  obtain ⟨al, e, hal⟩ := hA.at2 (K := K)
  obtain rfl : a = al := by injection e
  refine ⟨_, rfl, _, rfl, p, C, dx, _, _, rfl, hp, Z.cl, Z.nA, flds_alone _ _, v, _, a, _, _, rfl, hv.dp, hal, fun H1 s1 => ⟨_, rfl, ?_⟩⟩
  cases c : inB (D.al 0).length (D.al 1).length (pairD xy) with
  | false =>
    rw [inB_hasK hW c] at q
    exact iteF (q _ s1)
  | true =>
    obtain ⟨kvs, hd, ha⟩ := hB.mono s1
    obtain ⟨t, rfl, ht⟩ := hv.mono (.same s1)
    refine iteT ⟨_, rfl, _, rfl, p, C, dx, _, _, rfl, s1 _ _ hp, Z.cl, Z.nB, flds_both _ _, d, _, rfl, dget_rd (k := k2 xy) hd ht, ?_⟩
    rw [some_hasK ha]
    exact q _ s1
abbrev nRow : List Str := ["thing", "many", "x"]
theorem sc_row : FnScope nRow ["thing", "many"] (defScope s_is_row) := ⟨rfl, rfl, rfl, by decide +kernel, rfl, by decide +kernel, by decide +kernel⟩
theorem ok_row {f g : Addr} {fd gd : FuncData} (F : Fun K "is_row" "is_row" s_is_row f fd) (T : Txt K mg) (WO : Def P w K mg base "is_output" ["thing"] 3 (spOut K) g gd) : FnOk P w K mg base CX0 4 f fd ["thing", "many"] (spRow K) := by
  refine F.ok sc_row (fun vs H Q E h => ?_) (fun cdv A outer s H vs Q E hr h => ?_)
  · obtain ⟨v, d, m, rfl, _⟩ := h
    rfl
  obtain ⟨v, d, m, rfl, hk, hz, q⟩ := h
  have nd := sc_row.nd
  refine ⟨_, (pss_one (ps_ret (pe_and (pe_callB call_isi (by rfl) T.isi boot_isinstance (pa_cons (pv 0) (pa_cons (pe_bltn (v := .ty "list") (by rfl) T.list boot_list rfl) pa_nil))) (pe_and (pe_cmpR op_eq (pe_callB call_len_seq (by rfl) T.len PySem.boot_len (pa_cons (pv 0) pa_nil)) (pv 1) (nomark _)) (pe_one (pe_callB (cr_all rfl) (by rfl) T.all (by decide +kernel) (pa_cons (pe_lc (own := [("x", 2)]) (g := (gName 2)) (tt := tYes) (te := (tCall (spOut K) [] E0 (tCons (tVar 2) tNil))) rfl nd (pi_list (pv 0)) (blkOk_by (N := nRow) (sc := defScope s_is_row) (by decide +kernel)) (fun _ _ _ _ _ => (by exact (pg_name (i := 2) nd rfl (Or.inl rfl)))) (fun _ _ _ _ _ => pts_nil) (fun _ _ _ _ _ => (by exact (pe_call WO.G (hr.mono (by decide)) rfl WO.m WO.k WO.b .nil pass0 (pa_cons (pv 2) pa_nil))))) pa_nil))))))), ?_⟩
  refine ⟨_, rfl, v, .ty "list", _, _, isLstD d, rfl, .ty "list", dp_ty hk, kit_lst d, _, rfl, ?_⟩
  cases cl : isLstD d with
  | false =>
    have : rowB d m = false := by cases d <;> first | rfl | cases cl
    rw [this] at q
    exact iteF (q _ (Same.refl H))
  | true =>
    obtain ⟨ds, rfl⟩ : ∃ ds, d = .list ds := by cases d <;> first | exact ⟨_, rfl⟩ | cases cl
    obtain ⟨p, vs, rfl, hS, hD⟩ : ∃ t vs, v = .ref t ∧ SqL K H t vs ∧ DpAll K H vs ds := by
      cases hk with
      | lst a b => exact ⟨_, _, rfl, a, b⟩
    have hl := dpAll_len hD
    have hds := hz ds rfl
    have eO : rowB (.list ds) m = (decide (ds.length = m) && (ds.map outB).all id) := rfl
    refine iteT ⟨_, rfl, p, _, rfl, .inl hS, _, rfl, rfl, _, rfl, ?_⟩
    rw [hl, dec_nat]
    by_cases c : ds.length = m
    case neg =>
      rw [eO, decide_eq_false c, Bool.false_and] at q
      refine iteF' (decide_eq_false c) ?_
      exact q _ (Same.refl H)
    rw [eO, decide_eq_true c, Bool.true_and] at q
    refine iteT' (decide_eq_true c) ?_
    refine ⟨_, rfl, p, rfl, ⟨_, hS⟩, fun D hD' => ?_⟩
    refine list_turns (xs := vs) (fun i H' => Same H H' ∧ H' D = some (.lst (((ds.map outB).take i).map V.bl))) ⟨same_new hD' _, upd_same⟩ (fun i H' _ h => h.1.seq hS) ?_ ?_
    · rintro i x H' hx ⟨s1, h1⟩
      obtain ⟨di, hdi, hxi⟩ := dpAll_get hD hx
      have hi : i < ds.length := (List.getElem?_eq_some_iff.mp hdi).1
      have hb : (ds.map outB)[i]? = some (outB di) := by rw [List.getElem?_map, hdi]; rfl
      refine ⟨rfl, _, rfl, x, di, rfl, dp_mono s1 _ _ hxi, _, h1, ?_, same_upd s1 hD', by rw [upd_same, take_bl _ hb]⟩
      rw [List.length_map]
      exact Nat.lt_of_le_of_lt (List.length_take_le _ _) (Nat.lt_of_lt_of_le hi (Nat.le_trans hds (by decide)))
    · rintro H1 ⟨s1, h1⟩
      rw [hl, ← List.length_map (f := outB), List.take_length] at h1
      exact ⟨D, _, rfl, SqL.of h1, q _ s1⟩
end
end TA

set_option Elab.async false
set_option maxRecDepth 100000
set_option maxHeartbeats 4000000
namespace TA
open PySem L2 PyProof.Rows
set_option linter.unusedVariables false
theorem two_cases (ds : List PyData) : (∃ x y, ds = [x, y]) ∨ ds.length ≠ 2 := by
  match ds with
  | [x, y] => exact .inl ⟨x, y, rfl⟩
  | [] | [_] | _ :: _ :: _ :: _ => exact .inr (by simp)
theorem chosen_no {ds : List PyData} {n0 n1 : Nat} (h : ds.length ≠ 2) : chosenB (.list ds) n0 n1 = false := by
  match ds, h with
  | [x, y], h => exact absurd rfl h
  | [], _ | [_], _ | _ :: _ :: _ :: _, _ => rfl
theorem hand_at {i : Nat} {z : V} (h : ([V.int 0, V.int 1] : List V)[i]? = some z) : i < 2 ∧ z = .int (i : Int) := by
  have hi : i < 2 := (List.getElem?_eq_some_iff.mp h).1
  refine ⟨hi, ?_⟩
  obtain rfl | rfl : i = 0 ∨ i = 1 := by omega
  · simpa using h.symm
  · simpa using h.symm
section
variable {P : Program} {w : World} {K : PySem.W.Frag} {mg : Str → Option Value} {base : Heap}
abbrev nChosen : List Str := ["task", "thing", "hand"]
theorem sc_chosen : FnScope nChosen ["task", "thing"] (defScope s_is_chosen) := ⟨rfl, rfl, rfl, by decide +kernel, rfl, by decide +kernel, by decide +kernel⟩
theorem ok_chosen {f g1 g2 C : Addr} {fd d1 d2 : FuncData} (F : Fun K "is_chosen" "is_chosen" s_is_chosen f fd) (T : Txt K mg) (U : TxtH K mg) (Z : TxtC K mg C) (WR : Def P w K mg base "is_row" ["thing", "many"] 4 (spRow K) g1 d1)
    (Inp : MDef P w K mg base C "inputs" nInputs 4 (spInputs K C) g2 d2) : FnOk P w K mg base CX0 5 f fd ["task", "thing"] (spChosen K C) := by
  refine F.ok sc_chosen (fun vs H Q E h => ?_) (fun cdv A outer s H vs Q E hr h => ?_)
  · obtain ⟨p, v, d, D, rfl, _⟩ := h
    rfl
  obtain ⟨p, v, d, D, rfl, hTk, hk, hz, q⟩ := h
  obtain ⟨hT, mH, hH⟩ := U.hands
  have nd := sc_chosen.nd
  refine ⟨_, (pss_one (ps_ret (pe_and (pe_callB call_isi (by rfl) T.isi boot_isinstance (pa_cons (pv 1) (pa_cons (pe_bltn (v := .ty "list") (by rfl) T.list boot_list rfl) pa_nil))) (pe_and (pe_cmpR op_eq (pe_callB call_len_seq (by rfl) T.len PySem.boot_len (pa_cons (pv 1) pa_nil)) pe_int (nomark _)) (pe_one (pe_callB (cr_all rfl) (by rfl) T.all (by decide +kernel) (pa_cons (pe_lc (own := [("hand", 2)]) (g := (gName 2)) (tt := tYes) (te := (tCall (spRow K) [] E0 (tCons (tOp (rIxL K) (tVar 1) (tVar 2)) (tCons (tMeth C "inputs" (spInputs K C) [] E0 (tVar 0) (tCons (tVar 2) tNil)) tNil)))) rfl nd (pi_tup (pe_glob (v := .ref hT) rfl mH rfl)) (blkOk_by (N := nChosen) (sc := defScope s_is_chosen) (by decide +kernel)) (fun _ _ _ _ _ => (by exact (pg_name (i := 2) nd rfl (Or.inl rfl)))) (fun _ _ _ _ _ => pts_nil) (fun _ _ _ _ _ => (by exact (pe_call WR.G (hr.mono (by decide)) rfl WR.m WR.k WR.b .nil pass0 (pa_cons (pe_ix ix_list (pv 1) (pv 2) (fun _ _ => rfl)) (pa_cons (pe_meth (pv 0) Z.cl Inp.M Inp.G (hr.mono (by decide)) Inp.b .nil pass0 (pa_cons (pv 2) pa_nil)) pa_nil)))))) pa_nil))))))), ?_⟩
  refine ⟨_, rfl, v, .ty "list", _, _, isLstD d, rfl, .ty "list", dp_ty hk, kit_lst d, _, rfl, ?_⟩
  cases cl : isLstD d with
  | false =>
    have : chosenB d (D.al 0).length (D.al 1).length = false := by cases d <;> first | rfl | cases cl
    rw [this] at q
    exact iteF (q _ (Same.refl H))
  | true =>
    obtain ⟨ds, rfl⟩ : ∃ ds, d = .list ds := by cases d <;> first | exact ⟨_, rfl⟩ | cases cl
    obtain ⟨t, vs, rfl, hS, hD⟩ : ∃ t vs, v = .ref t ∧ SqL K H t vs ∧ DpAll K H vs ds := by
      cases hk with
      | lst a b => exact ⟨_, _, rfl, a, b⟩
    have hl := dpAll_len hD
    refine iteT ⟨_, rfl, t, _, rfl, .inl hS, rfl, _, rfl, ?_⟩
    rcases two_cases ds with ⟨x, y, rfl⟩ | c
    case inr =>
      rw [chosen_no c] at q
      refine iteF' (decide_eq_false fun e => c (by injection e with e; omega)) ?_
      exact q _ (Same.refl H)
    refine iteT' (decide_eq_true (by rw [hl]; rfl)) ?_
    cases hD with
    | cons hx hD =>
    cases hD with
    | cons hy hD =>
    cases hD
    rename_i vx vy
    refine ⟨hT, rfl, ⟨_, hH _⟩, fun L hL => ?_⟩
    refine tup_turns (xs := [V.int 0, V.int 1]) (fun i H' => Same H H' ∧ H' L = some (.lst (([rowB x (D.al 0).length, rowB y (D.al 1).length].take i).map V.bl))) ⟨same_new hL _, upd_same⟩ (fun i H' _ _ => hH H') ?_ ?_
    · rintro i z H' hz' ⟨s3, h3⟩
      obtain ⟨hi, rfl⟩ := hand_at hz'
      obtain ⟨u, e, hu1, hu2, hu3⟩ : ∃ u e, ([vx, vy] : List V)[i]? = some u ∧ ([x, y] : List PyData)[i]? = some e ∧ Dp K H u e := by
        obtain rfl | rfl : i = 0 ∨ i = 1 := by omega
        · exact ⟨vx, x, rfl, rfl, hx⟩
        · exact ⟨vy, y, rfl, rfl, hy⟩
      obtain ⟨dx, a, d, hp, hA, hB⟩ := hTk.mono s3
      refine ⟨rfl, _, rfl, _, rfl, t, _, _, _, rfl, rfl, s3.seq hS, atI_nat hu1, ?_⟩
      refine ⟨_, rfl, p, dx, _, rfl, hp, flds_no _ _ (by decide +kernel) (by decide +kernel), _, rfl, p, i, D, rfl, hi, ⟨dx, a, d, hp, hA, hB⟩, ?_⟩
      refine ⟨u, e, (D.al i).length, rfl, dp_mono s3 _ _ hu3, hz _ rfl _ (List.mem_of_getElem? hu2), fun H4 s4 => ?_⟩
      have hb : [rowB x (D.al 0).length, rowB y (D.al 1).length][i]? = some (rowB e (D.al i).length) := by
        obtain rfl | rfl : i = 0 ∨ i = 1 := by omega
        · obtain rfl : x = e := by simpa using hu2
          rfl
        · obtain rfl : y = e := by simpa using hu2
          rfl
      refine ⟨_, s4 _ _ h3, ?_, same_upd (s3.trans s4) hL, by rw [upd_same, take_bl _ hb]⟩
      rw [List.length_map]
      exact Nat.lt_of_le_of_lt (List.length_take_le _ _) (Nat.lt_of_lt_of_le hi (by decide))
    · rintro H3 ⟨s3, h3⟩
      refine ⟨L, _, rfl, SqL.of h3, ?_⟩
      have e1 : chosenB (.list [x, y]) (D.al 0).length (D.al 1).length = (([rowB x (D.al 0).length, rowB y (D.al 1).length].take [V.int 0, V.int 1].length).all id) := by
        show (rowB x _ && rowB y _) = (rowB x _ && (rowB y _ && true))
        rw [Bool.and_true]
      rw [e1] at q
      exact q _ s3
abbrev nAF : List Str := ["task", "alone", "hand", "at"]
theorem sc_af : FnScope nAF ["task", "alone"] (defScope s_alone_fault) := ⟨rfl, rfl, rfl, by decide +kernel, rfl, by decide +kernel, by decide +kernel⟩
theorem ok_af {f g2 C : Addr} {fd d2 : FuncData} (F : Fun K "alone_fault" "alone_fault" s_alone_fault f fd) (T : Txt K mg) (U : TxtH K mg) (Z : TxtC K mg C)
    (Inp : MDef P w K mg base C "inputs" nInputs 4 (spInputs K C) g2 d2) : FnOk P w K mg base CX0 5 f fd ["task", "alone"] (spAloneF K C) := by
  refine F.ok sc_af (fun vs H Q E h => ?_) (fun cdv A outer s H vs Q E hr h => ?_)
  · obtain ⟨p, v, D, ch, rfl, _⟩ := h
    rfl
  obtain ⟨p, v, D, ch, rfl, hTk, hW, hR, hlen, q0⟩ := h
  obtain ⟨hT, mH, hH⟩ := U.hands
  have nd := sc_af.nd
  refine ⟨_, (pss_cons (ps_for PassesOwn.never (by rfl) (pi_tup (pe_glob (v := .ref hT) rfl mH rfl)) (pg_name (i := 2) nd rfl (Or.inl rfl))
      (pss_one (ps_for PassesOwn.never (by rfl) (pi_range1 (by rfl) T.range (pa_cons (pe_meth (pv 0) Z.cl Inp.M Inp.G (hr.mono (by decide)) Inp.b .nil pass0 (pa_cons (pv 2) pa_nil)) pa_nil)) (pg_name (i := 3) nd rfl (Or.inl rfl))
      (pss_one (ps_if (pt_cmpR op_notIn_seq (pe_ix ix_list (pe_ix ix_list (pv 1) (pv 2) (fun _ _ => rfl)) (pv 3) (fun _ _ => rfl)) (pe_ix ix_list (pe_ix ix_list (pe_fld (pv 0) rfl) (pv 2) (fun _ _ => rfl)) (pv 3) (fun _ _ => rfl)) (by rfl))
      (pss_one (ps_ret (pe_tup (pa_cons pe_str (pa_cons (pv 2) (pa_cons (pv 3) pa_nil))))))
      pss_nil)))))
    (pss_one (ps_ret pe_non))), ?_⟩
  refine ⟨hT, rfl, ⟨_, hH _⟩, for_tup (xs := [V.int 0, V.int 1]) (fun i σ H' => ∃ g1 g2, σ = [some (.ref p), some v, g1, g2] ∧ Same H H' ∧ ∀ h a, h < i → a < (D.al h).length → okA D ch h a) ⟨_, _, rfl, Same.refl H, fun h a hh => absurd hh (Nat.not_lt_zero _)⟩ (fun i σ H' _ _ => hH H') ?_ ?_⟩
  · rintro i z σ H' hz ⟨g1, g2, rfl, s1, ok1⟩
    obtain ⟨hi, rfl⟩ := hand_at hz
    obtain ⟨dx, a, d, hp, hA, hB⟩ := hTk.mono s1
    have n0 := hW.n0 i hi
    refine ⟨_, rfl, p, dx, _, rfl, hp, flds_no _ _ (by decide +kernel) (by decide +kernel), _, rfl, p, i, D, rfl, hi, TaskAt.r ⟨dx, a, d, hp, hA, hB⟩, ?_⟩
    refine ⟨_, rfl, by omega, by omega, for_range (n := (D.al i).length) (fun j σ H2 => ∃ g2, σ = [some (.ref p), some v, some (.int (i : Int)), g2] ∧ Same H H2 ∧ ∀ a, a < j → okA D ch i a) ⟨_, rfl, s1, fun a ha => absurd ha (Nat.not_lt_zero _)⟩ ?_ ?_⟩
    · rintro j σ H2 hj ⟨g2, rfl, s2, ok2⟩
      have ej : (0 : Int) + (j : Int) = (j : Int) := by omega
      rw [ej]
      obtain ⟨t, xs, rfl, ht, ar⟩ := hR.mono (.same s2)
      obtain ⟨y, hy, r, rfl, hr'⟩ := ar.at (i := i) (y := ch i) (by
        obtain rfl | rfl : i = 0 ∨ i = 1 := by omega
        · rfl
        · rfl)
      obtain ⟨dx2, a2, d2, hp2, hA2, hB2⟩ := hTk.mono s2
      obtain ⟨t3, x0, x1, e3, ht3, hrow3⟩ := hA2.row
      obtain rfl : a2 = t3 := by injection e3
      obtain ⟨x, hx, r3, xs3, rfl, hr3, ha3⟩ := hrow3 i hi
      obtain ⟨y3, hy3, r4, rfl, hr4⟩ := ha3.at (i := j) (y := (D.al i)[j]) (List.getElem?_eq_getElem hj)
      have hcj : j < (ch i).length := by rw [hlen i hi]; exact hj
      have gc : ((ch i).map V.int)[j]? = some (.int ((ch i).getD j 0)) := by rw [List.getElem?_map, List.getD_eq_getElem?_getD, List.getElem?_eq_getElem hcj]; rfl
      refine ⟨_, rfl, _, rfl, t, _, _, _, rfl, rfl, SqL.of ht, atI_nat hy, _, rfl, r, _, _, _, rfl, rfl, SqL.of hr', atI_nat gc, ?_⟩
      refine ⟨_, rfl, p, C, dx2, _, _, rfl, hp2, Z.cl, Z.nA, flds_alone _ _, _, rfl, a2, _, _, _, rfl, rfl, SqL.of ht3, atI_nat hx, _, rfl, r3, _, _, _, rfl, rfl, SqL.of hr3, atI_nat hy3, ?_⟩
      refine ⟨r4, _, rfl, .inl (SqL.of hr4), rfl, flat_ints _, _, rfl, ?_⟩
      have eA : inV (.int ((ch i).getD j 0)) ((D.al i)[j].map V.int) = decide (okA D ch i j) := by
        rw [inV_int]
        refine decide_eq_decide.mpr ?_
        unfold okA
        rw [List.getD_eq_getElem?_getD (l := D.al i), List.getElem?_eq_getElem hj]
        rfl
      by_cases c : okA D ch i j
      · refine iteF' (by simp only [if_true]; rw [eA, decide_eq_true c]; rfl) ?_
        refine ⟨_, rfl, s2, fun a ha => ?_⟩
        rcases Nat.lt_succ_iff_lt_or_eq.mp ha with h | rfl
        · exact ok2 a h
        · exact c
      · refine iteT' (by simp only [if_true]; rw [eA, decide_eq_false c]; rfl) ?_
        refine ⟨_, rfl, _, rfl, (by show 3 ≤ sizeLine; decide), fun u hu => ?_⟩
        refine q0 (.ref u) _ (s2.trans (same_new hu _)) (.inr ⟨u, i, j, rfl, upd_same, hi, hj, c, fun h' a' hh' ha' e => ?_⟩)
        rcases e with e | ⟨rfl, e⟩
        · exact ok1 h' a' e ha'
        · exact ok2 a' e
    · rintro σ H2 ⟨g2, rfl, s2, ok2⟩
      refine ⟨_, _, rfl, s2, fun h a hh ha => ?_⟩
      rcases Nat.lt_succ_iff_lt_or_eq.mp hh with h' | rfl
      · exact ok1 h a h' ha
      · exact ok2 a ha
  · rintro σ H' ⟨g1, g2, rfl, s1, ok1⟩
    exact q0 .non H' s1 (.inl ⟨rfl, fun h a hh ha => ok1 h a hh ha⟩)
end
end TA

set_option Elab.async false
set_option maxRecDepth 100000
set_option maxHeartbeats 4000000
namespace TA
open PySem L2 PyProof.Rows
set_option linter.unusedVariables false
/-! boxes -/
def selO (h : Nat) (o : Int × Int) : Int := if h = 0 then o.1 else o.2
def ansB (l : List (Int × Int)) (h : Nat) (o : Int) : Bool := decide (o ∈ l.map (selO h))
theorem selO_at {h : Nat} (hh : h < 2) (o : Int × Int) : ([V.int o.1, V.int o.2] : List V)[h]? = some (.int (selO h o)) := by
  obtain rfl | rfl : h = 0 ∨ h = 1 := by omega
  · rfl
  · rfl
theorem iI_at {h : Nat} (hh : h < 2) (p : IP) : ([V.int (iI p).1, V.int (iI p).2] : List V)[h]? = some (.int ((sel h p : Nat) : Int)) := by
  obtain rfl | rfl : h = 0 ∨ h = 1 := by omega
  · rfl
  · rfl
theorem atI_one {xs : List V} {h : Nat} {v : V} (hh : h < 2) (e : xs[1 - h]? = some v) : atI xs ((1 : Int) - (h : Int)) = some v := by
  have : (1 : Int) - (h : Int) = ((1 - h : Nat) : Int) := by omega
  rw [this]
  exact atI_nat e
def oddsP (T : TD) (h a : Nat) (o : Int) (e : IP × List (Int × Int)) : Bool := decide (sel h e.1 = a) && !ansB e.2 h o
def oddsF (T : TD) (h a : Nat) (o : Int) : Option Nat := (T.bo.find? (oddsP T h a o)).map fun e => sel (1 - h) e.1
def oV : Option Nat → V
  | none => .non
  | some b => .int (b : Int)
def spAnswered (K : PySem.W.Frag) (C : Addr) : Sp := fun vs H Q _ => ∃ (p : Addr) (v : V) (h : Nat) (o : Int) (T : TD) (e : IP × List (Int × Int)), vs = [.ref p, v, .int (h : Int), .int o] ∧ h < 2 ∧ TaskAt C H p T ∧ WF T ∧ e ∈ T.bo ∧ TpAt H v (iI e.1) ∧ ∀ H', Same H H' → Q (.bl (ansB e.2 h o)) H'
def spOdds (K : PySem.W.Frag) (C : Addr) : Sp := fun vs H Q _ => ∃ (p : Addr) (h a : Nat) (o : Int) (T : TD), vs = [.ref p, .int (h : Int), .int (a : Int), .int o] ∧ h < 2 ∧ TaskAt C H p T ∧ WF T ∧ ∀ H', Same H H' → Q (oV (oddsF T h a o)) H'
section
variable {P : Program} {w : World} {K : PySem.W.Frag} {mg : Str → Option Value} {base : Heap}
abbrev nAnswered : List Str := ["task", "pair", "hand", "output", "outputs"]
theorem sc_answered : FnScope nAnswered ["task", "pair", "hand", "output"] (defScope s_is_answered) := ⟨rfl, rfl, rfl, by decide +kernel, rfl, by decide +kernel, by decide +kernel⟩
theorem ok_answered {f C : Addr} {fd : FuncData} (F : Fun K "is_answered" "is_answered" s_is_answered f fd) (Z : TxtC K mg C) : FnOk P w K mg base CX0 1 f fd ["task", "pair", "hand", "output"] (spAnswered K C) := by
  refine F.ok sc_answered (fun vs H Q E h => ?_) (fun cdv A outer s H vs Q E hr h => ?_)
  · obtain ⟨p, v, h, o, D, e, rfl, _⟩ := h
    rfl
  obtain ⟨p, v, h, o, D, e, rfl, hh, hTk, hW, he, hv, q⟩ := h
  have nd := sc_answered.nd
  have hu := hu_of hr
  refine ⟨_, (pss_one (ps_ret (pe_cmpR op_in_seq (pv 3) (pe_lc (own := [("outputs", 4)]) (g := (gName 4)) (tt := tYes) (te := (tOp (rIxT K) (tVar 4) (tVar 2))) rfl nd (pi_list (pe_dget hu (pe_fld (pv 0) rfl) (pv 1) (fun _ _ => rfl))) (blkOk_by (N := nAnswered) (sc := defScope s_is_answered) (by decide +kernel)) (fun _ _ _ _ _ => (by exact (pg_name (i := 4) nd rfl (Or.inl rfl)))) (fun _ _ _ _ _ => pts_nil) (fun _ _ _ _ _ => (by exact (pe_ix ix_tup (pv 4) (pv 2) (fun _ _ => rfl))))) (by rfl)))), ?_⟩
  obtain ⟨dx, a, d, hp, hA, kvs, hd, ha⟩ := hTk
  obtain ⟨t, rfl, ht⟩ := hv
  obtain ⟨lv, hlv, l, xs, rfl, hl, hx⟩ := val_at ha hW.srt e he
  refine ⟨_, rfl, _, rfl, p, C, dx, _, _, rfl, hp, Z.cl, Z.nB, flds_both _ _, _, rfl, d, _, rfl, hlv ▸ DGet.t (k := kI e.1) hd ht, l, rfl, ⟨_, SqL.of hl⟩, fun L hL => ?_⟩
  refine list_turns (xs := xs) (fun i H' => Same H H' ∧ H' L = some (.lst (((e.2.take i).map (selO h)).map V.int))) ⟨same_new hL _, upd_same⟩ (fun i H' _ h => h.1.seq (SqL.of hl)) ?_ ?_
  · rintro i x H' hxi ⟨s1, h1⟩
    obtain ⟨oo, ho, tt, rfl, htt⟩ := hx.get hxi
    refine ⟨rfl, _, rfl, _, rfl, tt, _, _, _, rfl, rfl, SqT.of (s1 _ _ htt), atI_nat (selO_at hh oo), _, h1, ?_, same_upd s1 hL, ?_⟩
    · rw [List.length_map, List.length_map, List.length_take]
      have := (hW.lets e he).2.1
      exact Nat.lt_of_le_of_lt (Nat.le_trans (Nat.min_le_right _ _) this) (by decide)
    · rw [upd_same, take_get ho, List.map_append, List.map_append]
      rfl
  · rintro H1 ⟨s1, h1⟩
    rw [hx.len, List.take_length] at h1
    refine ⟨L, _, rfl, .inl (SqL.of h1), rfl, flat_ints _, ?_⟩
    show Q (.bl (inV (.int o) ((e.2.map (selO h)).map V.int))) H1
    rw [inV_int]
    exact q _ s1
abbrev nOdds : List Str := ["task", "hand", "at", "output", "pair"]
theorem sc_odds : FnScope nOdds ["task", "hand", "at", "output"] (defScope s_at_odds) := ⟨rfl, rfl, rfl, by decide +kernel, rfl, by decide +kernel, by decide +kernel⟩
theorem ok_odds {f g1 g2 C : Addr} {fd d1 d2 : FuncData} (F : Fun K "at_odds" "at_odds" s_at_odds f fd) (T : Txt K mg) (Z : TxtC K mg C) (WAn : Def P w K mg base "is_answered" ["task", "pair", "hand", "output"] 1 (spAnswered K C) g1 d1)
    (Prs : MDef P w K mg base C "pairs" nPairs 1 (spPairs K C) g2 d2) : FnOk P w K mg base CX0 2 f fd ["task", "hand", "at", "output"] (spOdds K C) := by
  refine F.ok sc_odds (fun vs H Q E h => ?_) (fun cdv A outer s H vs Q E hr h => ?_)
  · obtain ⟨p, h, a, o, D, rfl, _⟩ := h
    rfl
  obtain ⟨p, h, a, o, D, rfl, hh, hTk, hW, q⟩ := h
  have nd := sc_odds.nd
  refine ⟨_, (pss_cons (ps_for PassesOwn.never (by rfl) (pi_list (pe_meth0 (pv 0) Z.cl Prs.M Prs.G (hr.mono (by decide)) Prs.b .nil pass0)) (pg_name (i := 4) nd rfl (Or.inl rfl))
      (pss_one (ps_if (PW.pt (pw_and (pt_cmpR op_eq (pe_ix ix_tup (pv 4) (pv 1) (fun _ _ => rfl)) (pv 2) (nomark _)) (pw_and1 (pt_not (pt_val (pe_call WAn.G (hr.mono (by decide)) rfl WAn.m WAn.k WAn.b .nil pass0 (pa_cons (pv 0) (pa_cons (pv 4) (pa_cons (pv 1) (pa_cons (pv 3) pa_nil))))))))))
      (pss_one (ps_ret (pe_ix ix_tup (pv 4) (pe_op op_sub pe_int (pv 1)) (fun _ _ => rfl))))
      pss_nil)))
    (pss_one (ps_ret pe_non))), ?_⟩
  obtain ⟨dx, a0, d, hp, hA, hB⟩ := id hTk
  refine ⟨_, rfl, p, dx, _, rfl, hp, flds_no _ _ (by decide +kernel) (by decide +kernel), p, D, rfl, hTk, hW, fun r xs hr0 hx => ?_⟩
  have s0 := same_new hr0 (.lst xs)
  have hr1 : (upd H r (.lst xs)) r = some (.lst xs) := upd_same
  refine ⟨r, rfl, ⟨_, SqL.of hr1⟩, for_list (xs := xs) (fun i σ H' => ∃ g, σ = [some (.ref p), some (.int (h : Int)), some (.int (a : Int)), some (.int o), g] ∧ Same (upd H r (.lst xs)) H' ∧ ∀ j (hj : j < D.bo.length), j < i → oddsP D h a o D.bo[j] = false) ⟨_, rfl, Same.refl _, fun j _ h => absurd h (Nat.not_lt_zero _)⟩ (fun i σ H' _ ⟨_, _, s1, _⟩ => s1.seq (SqL.of hr1)) ?_ ?_⟩
  · rintro i x σ H' hxi ⟨g, rfl, s1, hn⟩
    obtain ⟨y, hy, tt, rfl, htt⟩ := hx.get hxi
    rw [List.getElem?_map] at hy
    obtain ⟨e, hbe, rfl⟩ := Option.map_eq_some_iff.mp hy
    have hib : i < D.bo.length := (List.getElem?_eq_some_iff.mp hbe).1
    have heq : D.bo[i] = e := (List.getElem?_eq_some_iff.mp hbe).2
    have hem := List.mem_of_getElem? hbe
    have htt1 := s1 _ _ (s0 _ _ htt)
    refine ⟨_, rfl, _, rfl, tt, _, _, _, rfl, rfl, SqT.of htt1, atI_nat (iI_at hh e.1), _, rfl, rfl, _, rfl, ?_⟩
    rw [dec_nat]
    by_cases c1 : sel h e.1 = a
    case neg =>
      refine iteF' (decide_eq_false c1) ?_
      refine iteF ⟨_, rfl, s1, fun j hj hji => ?_⟩
      rcases Nat.lt_succ_iff_lt_or_eq.mp hji with z | rfl
      · exact hn j hj z
      · rw [heq]
        unfold oddsP
        rw [decide_eq_false c1, Bool.false_and]
    refine iteT' (decide_eq_true c1) ?_
    refine ⟨_, rfl, _, rfl, _, rfl, _, rfl, p, _, h, o, D, e, rfl, hh, hTk.mono (s0.trans s1), hW, hem, ⟨tt, rfl, htt1⟩, fun H2 s2 => ⟨_, rfl, ?_⟩⟩
    cases c2 : ansB e.2 h o with
    | true =>
      refine iteF ⟨_, rfl, s1.trans s2, fun j hj hji => ?_⟩
      rcases Nat.lt_succ_iff_lt_or_eq.mp hji with z | rfl
      · exact hn j hj z
      · rw [heq]
        unfold oddsP
        rw [c2]
        exact Bool.and_false _
    | false =>
      refine iteT ⟨_, rfl, _, rfl, _, _, rfl, rfl, tt, _, _, _, rfl, rfl, SqT.of (s2 _ _ htt1), atI_one hh (iI_at (by omega) e.1), ?_⟩
      have ef : oddsF D h a o = some (sel (1 - h) e.1) := by
        have z : D.bo.find? (oddsP D h a o) = some e := by
          refine List.find?_eq_some_iff_getElem.mpr ⟨?_, i, hib, heq, fun j hji => ?_⟩
          · unfold oddsP
            rw [decide_eq_true c1, c2]
            rfl
          · rw [hn j (by omega) hji]
            rfl
        unfold oddsF
        rw [z]
        rfl
      have z := q H2 ((s0.trans s1).trans s2)
      rw [ef] at z
      exact z
  · rintro σ H' ⟨g, rfl, s1, hn⟩
    have ef : oddsF D h a o = none := by
      have z : D.bo.find? (oddsP D h a o) = none := by
        rw [List.find?_eq_none]
        intro e he
        obtain ⟨j, hj⟩ := List.getElem?_of_mem he
        obtain ⟨hj1, hj2⟩ := List.getElem?_eq_some_iff.mp hj
        have := hn j hj1 (by rw [hx.len, List.length_map]; exact hj1)
        rw [hj2] at this
        rw [this]
        exact Bool.false_ne_true
      unfold oddsF
      rw [z]
      rfl
    have z := q H' (s0.trans s1)
    rw [ef] at z
    exact z
end
end TA

set_option Elab.async false
set_option maxRecDepth 100000
set_option maxHeartbeats 4000000
namespace TA
open PySem L2 PyProof.Rows
set_option linter.unusedVariables false
def wonO (ch : Nat → List Int) (h : Nat) (p : IP) : Int := (ch (1 - h)).getD (sel (1 - h) p) 0
def ansL (ch : Nat → List Int) (h : Nat) (e : IP × List (Int × Int)) : List Int := (e.2.filter fun o => decide (selO (1 - h) o = wonO ch h e.1)).map (selO h)
def ansO (ch : Nat → List Int) (h : Nat) (e : IP × List (Int × Int)) : Int := (ansL ch h e).headD 0
def ansKV (ch : Nat → List Int) (h : Nat) (bo : BD) : List (List Key × V) := bo.map fun e => (kI e.1, V.int (ansO ch h e))
def spAnsTo (K : PySem.W.Frag) (C : Addr) : Sp := fun vs H Q _ => ∃ (p : Addr) (h : Nat) (v : V) (T : TD) (ch : Nat → List Int), vs = [.ref p, .int (h : Int), v] ∧ h < 2 ∧ TaskAt C H p T ∧ WF T ∧ RowsAt H v [ch 0, ch 1] ∧ (∀ h, h < 2 → (ch h).length = (T.al h).length) ∧
  (∀ e ∈ T.bo, ansL ch h e ≠ []) ∧ ∀ (r : Addr) (H' : Hp), Same H H' → H r = none → H' r = some (.dT (ansKV ch h T.bo)) → Q (.ref r) H'
theorem filt_snoc {α : Type} (p : α → Bool) (l : List α) (x : α) : (l ++ [x]).filter p = if p x = true then l.filter p ++ [x] else l.filter p := by
  rw [List.filter_append]
  by_cases c : p x = true
  · rw [if_pos c, List.filter_cons_of_pos c]
    rfl
  · rw [if_neg c, List.filter_cons_of_neg c]
    exact List.append_nil _
section
variable {P : Program} {w : World} {K : PySem.W.Frag} {mg : Str → Option Value} {base : Heap}
abbrev nAnsTo : List Str := ["task", "hand", "alone", "answers", "pair", "won", "outputs"]
theorem sc_ansto : FnScope nAnsTo ["task", "hand", "alone"] (defScope s_answers_to) := ⟨rfl, rfl, rfl, by decide +kernel, rfl, by decide +kernel, by decide +kernel⟩
theorem ok_ansto {f g2 C : Addr} {fd d2 : FuncData} (F : Fun K "answers_to" "answers_to" s_answers_to f fd) (T : Txt K mg) (Z : TxtC K mg C)
    (Prs : MDef P w K mg base C "pairs" nPairs 1 (spPairs K C) g2 d2) : FnOk P w K mg base CX0 2 f fd ["task", "hand", "alone"] (spAnsTo K C) := by
  refine F.ok sc_ansto (fun vs H Q E h => ?_) (fun cdv A outer s H vs Q E hr h => ?_)
  · obtain ⟨p, h, v, D, ch, rfl, _⟩ := h
    rfl
  obtain ⟨p, h, v, D, ch, rfl, hh, hTk, hW, hR, hlen, hne, q⟩ := h
  have nd := sc_ansto.nd
  have hu := hu_of hr
  refine ⟨_, (pss_cons (ps_set (i := 3) nd rfl (Or.inl rfl) pe_dnewT)
    (pss_cons (ps_for PassesOwn.never (by rfl) (pi_list (pe_meth0 (pv 0) Z.cl Prs.M Prs.G (hr.mono (by decide)) Prs.b .nil pass0)) (pg_name (i := 4) nd rfl (Or.inl rfl))
      (pss_cons (ps_set (i := 5) nd rfl (Or.inr rfl) (pe_ix ix_list (pe_ix ix_list (pv 2) (pe_op op_sub pe_int (pv 1)) (fun _ _ => rfl)) (pe_ix ix_tup (pv 4) (pe_op op_sub pe_int (pv 1)) (fun _ _ => rfl)) (fun _ _ => rfl)))
    (pss_one (ps_dput hu (pv 3) (pv 4) (pe_ix ix_list (pe_lc (own := [("outputs", 6)]) (g := (gName 6)) (tt := (tTest (tOp rEq (tOp (rIxT K) (tVar 6) (tOp (rI0 fun i j => .int (i - j)) (tC (.int 1)) (tVar 1))) (tVar 5)))) (te := (tOp (rIxT K) (tVar 6) (tVar 1))) rfl nd (pi_list (pe_dget hu (pe_fld (pv 0) rfl) (pv 4) (fun _ _ => rfl))) (blkOk_by (N := nAnsTo) (sc := defScope s_answers_to) (by decide +kernel)) (fun _ _ _ _ _ => (by exact (pg_name (i := 6) nd rfl (Or.inl rfl)))) (fun _ _ _ _ _ => pts_one (by exact (pt_cmpR op_eq (pe_ix ix_tup (pv 6) (pe_op op_sub pe_int (pv 1)) (fun _ _ => rfl)) (pv 5) (nomark _)))) (fun _ _ _ _ _ => (by exact (pe_ix ix_tup (pv 6) (pv 1) (fun _ _ => rfl))))) pe_int (fun _ _ => rfl)) rfl))))
    (pss_one (ps_ret (pv 3))))), ?_⟩
  intro L hL
  have s0 := same_new hL (.dT [])
  obtain ⟨dx, a0, d, hp, hA, hB⟩ := hTk.mono s0
  refine ⟨_, rfl, p, dx, _, rfl, hp, flds_no _ _ (by decide +kernel) (by decide +kernel), p, D, rfl, ⟨dx, a0, d, hp, hA, hB⟩, hW, fun r xs hr0 hx => ?_⟩
  have s1 := same_new hr0 (.lst xs)
  have hr1 : (upd (upd H L (.dT [])) r (.lst xs)) r = some (.lst xs) := upd_same
  have hrH : H r = none := none_of_same s0 hr0
  have hLr : L ≠ r := ne_of_none upd_same hr0
  have s01 := s0.trans s1
  refine ⟨r, rfl, ⟨_, SqL.of hr1⟩, for_list (xs := xs) (fun i σ H' => ∃ g1 g2 g3, σ = [some (.ref p), some (.int (h : Int)), some v, some (.ref L), g1, g2, g3] ∧ Same H H' ∧ H' r = some (.lst xs) ∧ A2 (TpAt H') xs (D.bo.map fun e => iI e.1) ∧ H' L = some (.dT (ansKV ch h (D.bo.take i)))) ⟨_, _, _, rfl, s01, hr1, hx.imp fun _ _ r => r.mono (.same s1), s1 _ _ upd_same⟩ (fun i σ H' _ ⟨_, _, _, _, _, e, _⟩ => SqL.of e) ?_ ?_⟩
  · rintro i x σ H' hxi ⟨g1, g2, g3, rfl, sH, hrr, hxx, hLL⟩
    obtain ⟨y, hy, tt, rfl, htt⟩ := hxx.get hxi
    rw [List.getElem?_map] at hy
    obtain ⟨e, hbe, rfl⟩ := Option.map_eq_some_iff.mp hy
    have hib : i < D.bo.length := (List.getElem?_eq_some_iff.mp hbe).1
    have hem := List.mem_of_getElem? hbe
    obtain ⟨rg0, rg1⟩ := hW.rng e hem
    -- won
    obtain ⟨t, ys, rfl, ht, ar⟩ := hR.mono (.same sH)
    have h1 : 1 - h < 2 := by omega
    obtain ⟨z, hz, rr, rfl, hrow⟩ := ar.at (i := 1 - h) (y := ch (1 - h)) (by
      obtain rfl | rfl : h = 0 ∨ h = 1 := by omega
      · rfl
      · rfl)
    have hsl : sel (1 - h) e.1 < (ch (1 - h)).length := by
      rw [hlen _ h1]
      obtain rfl | rfl : h = 0 ∨ h = 1 := by omega
      · exact rg1
      · exact rg0
    have gw : ((ch (1 - h)).map V.int)[sel (1 - h) e.1]? = some (.int (wonO ch h e.1)) := by
      unfold wonO
      rw [List.getElem?_map, List.getD_eq_getElem?_getD, List.getElem?_eq_getElem hsl]
      rfl
    refine ⟨_, rfl, _, rfl, _, _, rfl, rfl, t, _, _, _, rfl, rfl, SqL.of ht, atI_one hh hz, _, rfl, _, rfl, _, _, rfl, rfl, tt, _, _, _, rfl, rfl, SqT.of htt, atI_one hh (iI_at h1 e.1), rr, _, _, _, rfl, rfl, SqL.of hrow, atI_nat gw, ?_⟩
    -- answers[pair]
    obtain ⟨dx, a0, d, hp, hA, kvs, hd, ha⟩ := hTk.mono sH
    obtain ⟨lv, hlv, l, zs, rfl, hl, hzs⟩ := val_at ha hW.srt e hem
    refine ⟨_, rfl, p, C, dx, _, _, rfl, hp, Z.cl, Z.nB, flds_both _ _, _, rfl, d, _, rfl, hlv ▸ DGet.t (k := kI e.1) hd htt, l, rfl, ⟨_, SqL.of hl⟩, fun M hM => ?_⟩
    refine list_turns (xs := zs) (fun j H2 => Same H' H2 ∧ H2 M = some (.lst ((((e.2.take j).filter fun o => decide (selO (1 - h) o = wonO ch h e.1)).map (selO h)).map V.int))) ⟨same_new hM _, upd_same⟩ (fun j H2 _ h => h.1.seq (SqL.of hl)) ?_ ?_
    · rintro j z H2 hzj ⟨s2, h2⟩
      obtain ⟨oo, ho, to, rfl, hto⟩ := hzs.get hzj
      have hto2 := s2 _ _ hto
      refine ⟨rfl, _, rfl, _, rfl, _, _, rfl, rfl, to, _, _, _, rfl, rfl, SqT.of hto2, atI_one hh (selO_at h1 oo), _, rfl, rfl, _, rfl, ?_⟩
      by_cases c : selO (1 - h) oo = wonO ch h e.1
      · refine iteT' (decide_eq_true (by rw [c])) ?_
        refine ⟨_, rfl, _, rfl, to, _, _, _, rfl, rfl, SqT.of hto2, atI_nat (selO_at hh oo), _, h2, ?_, same_upd s2 hM, ?_⟩
        · rw [List.length_map, List.length_map]
          refine Nat.lt_of_le_of_lt (List.length_filter_le _ _) ?_
          rw [List.length_take]
          have := (hW.lets e hem).2.1
          exact Nat.lt_of_le_of_lt (Nat.le_trans (Nat.min_le_right _ _) this) (by decide)
        · rw [upd_same, take_get ho, filt_snoc, if_pos (decide_eq_true c), List.map_append, List.map_append]
          rfl
      · refine iteF' (decide_eq_false fun q => c (by injection q)) ?_
        refine ⟨s2, ?_⟩
        rw [take_get ho, filt_snoc, if_neg (by rw [decide_eq_false c]; exact Bool.false_ne_true)]
        exact h2
    · rintro H2 ⟨s2, h2⟩
      rw [hzs.len, List.take_length] at h2
      have h2 : H2 M = some (.lst ((ansL ch h e).map V.int)) := h2
      have g0 : ((ansL ch h e).map V.int)[0]? = some (.int (ansO ch h e)) := by
        have := hne e hem
        unfold ansO
        cases c : ansL ch h e with
        | nil => exact absurd c this
        | cons x r => rfl
      refine ⟨M, _, _, _, rfl, rfl, SqL.of h2, atI_nat (j := 0) g0, ?_⟩
      have hLn : ansKV ch h (D.bo.take (i + 1)) = putK (ansKV ch h (D.bo.take i)) (kI e.1) (.int (ansO ch h e)) := by
        have hvn : valV (ansKV ch h (D.bo.take i)) (kI e.1) = none := valV_noneP fun kv hkv c => by
          obtain ⟨e', he', rfl⟩ := List.mem_map.mp hkv
          have c : kI e'.1 = kI e.1 := c
          have c := kI_inj c
          obtain ⟨j, hj⟩ := List.getElem?_of_mem he'
          have hjl : j < i := by
            have := (List.getElem?_eq_some_iff.mp hj).1
            rw [List.length_take] at this
            omega
          rw [List.getElem?_take_of_lt hjl] at hj
          have sr := List.pairwise_iff_getElem.mp hW.srt j i (by rw [List.length_map]; omega) (by rw [List.length_map]; exact hib) hjl
          rw [List.getElem_map, List.getElem_map, (List.getElem?_eq_some_iff.mp hj).2, (List.getElem?_eq_some_iff.mp hbe).2] at sr
          exact ltN_ne sr c
        rw [putK_new _ hvn, take_get hbe]
        unfold ansKV
        rw [List.map_append]
        rfl
      have hLL2 := s2 _ _ hLL
      refine ⟨_, rfl, _, rfl, L, _, rfl, DPut.t (k := kI e.1) hLL2 (s2 _ _ htt) ?_, ?_⟩
      · unfold ansKV
        rw [List.length_map, List.length_take]
        have := hW.many
        exact Nat.lt_of_le_of_lt (Nat.le_trans (Nat.min_le_right _ _) this) (by decide)
      refine ⟨_, _, _, rfl, same_upd (sH.trans s2) hL, by rw [upd_ne (Ne.symm hLr)]; exact s2 _ _ hrr, hxx.imp fun _ _ r => r.mono ((Kp.same s2).trans (.put hLL2 nf_dT)), ?_⟩
      rw [upd_same, hLn]
  · rintro σ H' ⟨g1, g2, g3, rfl, sH, hrr, hxx, hLL⟩
    rw [hx.len, List.length_map, List.take_length] at hLL
    exact ⟨_, rfl, q L H' sH hL hLL⟩
end
end TA

set_option Elab.async false
set_option maxRecDepth 100000
set_option maxHeartbeats 4000000
namespace TA
open PySem L2 PyProof.Rows
set_option linter.unusedVariables false
def okS (T : TD) (h a : Nat) (o : Int) : Bool := (oddsF T h a o).isNone
def canB (T : TD) (h a : Nat) : Bool := ((T.al h).getD a []).any (okS T h a)
theorem okS_iff {T : TD} {h a : Nat} {o : Int} : okS T h a o = true ↔ ∀ e ∈ T.bo, sel h e.1 = a → ansB e.2 h o = true := by
  unfold okS oddsF
  rw [Option.isNone_map, Option.isNone_iff_eq_none, List.find?_eq_none]
  unfold oddsP
  constructor
  · intro q e he hs
    have := q e he
    rw [decide_eq_true hs, Bool.true_and] at this
    simpa using this
  · intro q e he c
    obtain ⟨c1, c2⟩ := Bool.and_eq_true_iff.mp c
    rw [q e he (of_decide_eq_true c1)] at c2
    cases c2
theorem inV_non {row : List Int} {T : TD} {h a : Nat} : inV .non (row.map fun o => oV (oddsF T h a o)) = row.any (okS T h a) := by
  induction row with
  | nil => rfl
  | cons x r ih =>
    show (eqV (oV (oddsF T h a x)) .non || inV .non (r.map fun o => oV (oddsF T h a o))) = (okS T h a x || r.any (okS T h a))
    rw [ih]
    unfold okS
    cases oddsF T h a x with
    | none => rfl
    | some b => rfl
theorem flat_oV {row : List Int} {T : TD} {h a : Nat} : (row.map fun o => oV (oddsF T h a o)).all flatV = true := by
  rw [List.all_eq_true]
  intro v hv
  obtain ⟨x, _, rfl⟩ := List.mem_map.mp hv
  cases oddsF T h a x with
  | none => rfl
  | some b => rfl
theorem first_any {p : Int → Bool} : ∀ {row : List Int}, row.any p = true → ∃ (j : Nat) (o : Int), row[j]? = some o ∧ p o = true ∧ ∀ (m : Nat) (o' : Int), m < j → row[m]? = some o' → p o' = false
  | [], h => by cases h
  | x :: r, h => by
    cases c : p x with
    | true => exact ⟨0, x, rfl, c, fun m o' hm => absurd hm (Nat.not_lt_zero _)⟩
    | false =>
      rw [List.any_cons, c, Bool.false_or] at h
      obtain ⟨j, o, h1, h2, h3⟩ := first_any h
      refine ⟨j + 1, o, h1, h2, fun m o' hm e => ?_⟩
      cases m with
      | zero =>
        obtain rfl : x = o' := by simpa using e
        exact c
      | succ m => exact h3 m o' (by omega) (by simpa using e)
def goodS (T : TD) (h a : Nat) (o : Int) : Prop := o ∈ (T.al h).getD a [] ∧ okS T h a o = true
theorem ansL_ne {T : TD} (W : WF T) {ch : Nat → List Int} (hl : ∀ h, h < 2 → (ch h).length = (T.al h).length) (hg : ∀ h a, h < 2 → a < (T.al h).length → goodS T h a ((ch h).getD a 0)) {h : Nat} (hh : h < 2) : ∀ e ∈ T.bo, ansL ch h e ≠ [] := by
  intro e he c
  have hr : sel (1 - h) e.1 < (T.al (1 - h)).length := by
    obtain ⟨r0, r1⟩ := W.rng e he
    obtain rfl | rfl : h = 0 ∨ h = 1 := by omega
    · exact r1
    · exact r0
  have g := okS_iff.mp (hg (1 - h) _ (by omega) hr).2 e he rfl
  have m := of_decide_eq_true (show decide (_ ∈ _) = true from g)
  obtain ⟨o, ho, eo⟩ := List.mem_map.mp m
  have : o ∈ e.2.filter fun o => decide (selO (1 - h) o = wonO ch h e.1) := List.mem_filter.mpr ⟨ho, decide_eq_true eo⟩
  have z : selO h o ∈ ansL ch h e := List.mem_map.mpr ⟨o, this, rfl⟩
  rw [c] at z
  cases z
/-- what boxed tells where there is a protocol -/
structure BxAt (H H' : Hp) (r : Addr) (T : TD) (ch : Nat → List Int) (t al an r0 r1 d0 d1 : Addr) : Prop where
  h_r : H' r = some (.tup [.str "boxed", .ref t])
  h_t : H' t = some (.tup [.ref al, .ref an])
  h_al : H' al = some (.lst [.ref r0, .ref r1])
  h_r0 : H' r0 = some (.lst ((ch 0).map .int))
  h_r1 : H' r1 = some (.lst ((ch 1).map .int))
  h_an : H' an = some (.lst [.ref d0, .ref d1])
  h_d0 : H' d0 = some (.dT (ansKV ch 0 T.bo))
  h_d1 : H' d1 = some (.dT (ansKV ch 1 T.bo))
  f0 : H r0 = none
  f1 : H d1 = none
  f2 : H d0 = none
def spBoxed (K : PySem.W.Frag) (C : Addr) : Sp := fun vs H Q _ => ∃ (p : Addr) (T : TD), vs = [.ref p] ∧ TaskAt C H p T ∧ WF T ∧
  (∀ H' r ch t al an r0 r1 d0 d1, Same H H' → BxAt H H' r T ch t al an r0 r1 d0 d1 → (∀ h, h < 2 → (ch h).length = (T.al h).length) → (∀ h a, h < 2 → a < (T.al h).length → goodS T h a ((ch h).getD a 0)) → Q (.ref r) H') ∧
  (∀ (H' : Hp) (r t l : Addr) (h a : Nat), Same H H' → H' r = some (.tup [.str "bar", .ref t]) → H' t = some (.tup [.int (h : Int), .int (a : Int), .ref l]) → H' l = some (.lst (((T.al h).getD a []).map fun o => oV (oddsF T h a o))) → H l = none → h < 2 → a < (T.al h).length → canB T h a = false → Q (.ref r) H')
section
variable {P : Program} {w : World} {K : PySem.W.Frag} {mg : Str → Option Value} {base : Heap}
abbrev nBoxed : List Str := ["task", "alone", "hand", "at", "outputs", "others", "output"]
theorem sc_boxed : FnScope nBoxed ["task"] (defScope s_boxed) := ⟨rfl, rfl, rfl, by decide +kernel, rfl, by decide +kernel, by decide +kernel⟩
theorem ok_boxed {f g1 g2 g3 C : Addr} {fd d1 d2 d3 : FuncData} (F : Fun K "boxed" "boxed" s_boxed f fd) (T : Txt K mg) (U : TxtH K mg) (Z : TxtC K mg C) (WOd : Def P w K mg base "at_odds" ["task", "hand", "at", "output"] 2 (spOdds K C) g1 d1)
    (WTo : Def P w K mg base "answers_to" ["task", "hand", "alone"] 2 (spAnsTo K C) g2 d2) (Inp : MDef P w K mg base C "inputs" nInputs 4 (spInputs K C) g3 d3) : FnOk P w K mg base CX0 5 f fd ["task"] (spBoxed K C) := by
  refine F.ok sc_boxed (fun vs H Q E h => ?_) (fun cdv A outer s H vs Q E hr h => ?_)
  · obtain ⟨p, D, rfl, _⟩ := h
    rfl
  obtain ⟨p, D, rfl, hTk, hW, qA, qB⟩ := h
  obtain ⟨hT, mH, hH⟩ := U.hands
  have nd := sc_boxed.nd
  refine ⟨_, (pss_cons (ps_set (i := 1) nd rfl (Or.inl rfl) (pe_lst (pa_cons (pe_lst pa_nil) (pa_cons (pe_lst pa_nil) pa_nil))))
    (pss_cons (ps_for PassesOwn.never (by rfl) (pi_tup (pe_glob (v := .ref hT) rfl mH rfl)) (pg_name (i := 2) nd rfl (Or.inr rfl))
      (pss_one (ps_for PassesOwn.never (by rfl) (pi_range1 (by rfl) T.range (pa_cons (pe_meth (pv 0) Z.cl Inp.M Inp.G (hr.mono (by decide)) Inp.b .nil pass0 (pa_cons (pv 2) pa_nil)) pa_nil)) (pg_name (i := 3) nd rfl (Or.inr rfl))
      (pss_cons (ps_set (i := 4) nd rfl (Or.inl rfl) (pe_ix ix_list (pe_ix ix_list (pe_fld (pv 0) rfl) (pv 2) (fun _ _ => rfl)) (pv 3) (fun _ _ => rfl)))
    (pss_cons (ps_setLc (i := 5) (own := [("output", 6)]) (g := (gName 6)) (tt := tYes) (te := (tCall (spOdds K C) [] E0 (tCons (tVar 0) (tCons (tVar 2) (tCons (tVar 3) (tCons (tVar 6) tNil)))))) rfl nd rfl rfl (sw_true rfl rfl rfl (by decide +kernel)) (pi_list (pv 4)) (blkOk_by (N := nBoxed) (sc := defScope s_boxed) (by decide +kernel)) (fun _ _ _ _ _ => (by exact (pg_name (i := 6) nd rfl (Or.inl rfl)))) (fun _ _ _ _ _ => pts_nil) (fun _ _ _ _ _ => (by exact (pe_call WOd.G (hr.mono (by decide)) rfl WOd.m WOd.k WOd.b .nil pass0 (pa_cons (pv 0) (pa_cons (pv 2) (pa_cons (pv 3) (pa_cons (pv 6) pa_nil))))))))
    (pss_cons (ps_if (pt_cmpR op_notIn_seq pe_non (pv 5) (by rfl))
      (pss_one (ps_ret (pe_tup (pa_cons pe_str (pa_cons (pe_tup (pa_cons (pv 2) (pa_cons (pv 3) (pa_cons (pv 5) pa_nil)))) pa_nil)))))
      pss_nil)
    (pss_one (ps_expr (pe_bm PySem.F.plainAttrs_list PySem.F.slot_list_append PySem.F.type_list_append mt_append (pe_ix ix_list (pv 1) (pv 2) (fun _ _ => rfl)) (pa_cons (pe_ix ix_list (pv 4) (pe_bm PySem.F.plainAttrs_list PySem.F.slot_list_index PySem.F.type_list_index mt_index (pv 5) (pa_cons pe_non pa_nil)) (fun _ _ => rfl)) pa_nil))))))))))
    (pss_one (ps_ret (pe_tup (pa_cons pe_str (pa_cons (pe_tup (pa_cons (pv 1) (pa_cons (pe_lst (pa_cons (pe_call WTo.G (hr.mono (by decide)) rfl WTo.m WTo.k WTo.b .nil pass0 (pa_cons (pv 0) (pa_cons pe_int (pa_cons (pv 1) pa_nil)))) (pa_cons (pe_call WTo.G (hr.mono (by decide)) rfl WTo.m WTo.k WTo.b .nil pass0 (pa_cons (pv 0) (pa_cons pe_int (pa_cons (pv 1) pa_nil)))) pa_nil))) pa_nil))) pa_nil))))))), ?_⟩
  refine ⟨(by show 0 ≤ sizeLine; decide), fun A0 h0 => ⟨(by show 0 ≤ sizeLine; decide), fun A1 h1 => ⟨(by show 2 ≤ sizeLine; decide), fun A2' h2 => ?_⟩⟩⟩
  have s1 := same_new h0 (.lst [])
  have s2 := same_new h1 (.lst [])
  have s3 := same_new h2 (.lst [V.ref A0, V.ref A1])
  have n01 : A0 ≠ A1 := ne_of_none upd_same h1
  have n02 : A0 ≠ A2' := ne_of_none (s2 _ _ upd_same) h2
  have n12 : A1 ≠ A2' := ne_of_none upd_same h2
  have f1 : H A1 = none := none_of_same s1 h1
  have f2 : H A2' = none := none_of_same (s1.trans s2) h2
  let Af : Nat → Addr := fun h => if h = 0 then A0 else A1
  have Af0 : Af 0 = A0 := rfl
  have Af1 : Af 1 = A1 := rfl
  have nAf : ∀ h, h < 2 → Af h ≠ A2' ∧ H (Af h) = none := fun h hh => by
    obtain rfl | rfl : h = 0 ∨ h = 1 := by omega
    · exact ⟨n02, h0⟩
    · exact ⟨n12, f1⟩
  have dAf : ∀ h h', h < 2 → h' < 2 → h ≠ h' → Af h ≠ Af h' := fun h h' a b c => by
    obtain rfl | rfl : h = 0 ∨ h = 1 := by omega
    · obtain rfl : h' = 1 := by omega
      exact n01
    · obtain rfl : h' = 0 := by omega
      exact Ne.symm n01
  have hAat : ∀ h, h < 2 → ([V.ref A0, V.ref A1] : List V)[h]? = some (.ref (Af h)) := fun h hh => by
    obtain rfl | rfl : h = 0 ∨ h = 1 := by omega
    · rfl
    · rfl
  refine ⟨hT, rfl, ⟨_, hH _⟩, for_tup (xs := [V.int 0, V.int 1]) (fun i σ H' => ∃ g2 g3 g4 g5 g6 cs, σ = [some (.ref p), some (.ref A2'), g2, g3, g4, g5, g6] ∧ Same H H' ∧ H' A2' = some (.lst [.ref A0, .ref A1]) ∧ (∀ h, h < 2 → H' (Af h) = some (.lst ((cs h).map V.int))) ∧
    (∀ h, h < 2 → (cs h).length = if h < i then (D.al h).length else 0) ∧ ∀ h a, h < 2 → a < (cs h).length → goodS D h a ((cs h).getD a 0)) ⟨_, _, _, _, _, fun _ => [], rfl, (s1.trans s2).trans s3, upd_same, ?_, fun h hh => rfl, fun h a _ ha => absurd ha (Nat.not_lt_zero _)⟩ (fun i σ H' _ _ => hH H') ?_ ?_⟩
  · intro h hh
    obtain rfl | rfl : h = 0 ∨ h = 1 := by omega
    · exact s3 _ _ (s2 _ _ upd_same)
    · exact s3 _ _ upd_same
  · rintro i z σ H' hz ⟨g2, g3, g4, g5, g6, cs, rfl, sH, hA2, hAf, hln, hgd⟩
    obtain ⟨hi, rfl⟩ := hand_at hz
    obtain ⟨dx, a, d, hp, hA, hB⟩ := hTk.mono sH
    have n0 := hW.n0 i hi
    refine ⟨_, rfl, p, dx, _, rfl, hp, flds_no _ _ (by decide +kernel) (by decide +kernel), _, rfl, p, i, D, rfl, hi, TaskAt.r ⟨dx, a, d, hp, hA, hB⟩, ?_⟩
    refine ⟨_, rfl, by omega, by omega, for_range (n := (D.al i).length) (fun j σ H2 => ∃ g3 g4 g5 g6 cs, σ = [some (.ref p), some (.ref A2'), some (.int (i : Int)), g3, g4, g5, g6] ∧ Same H H2 ∧ H2 A2' = some (.lst [.ref A0, .ref A1]) ∧ (∀ h, h < 2 → H2 (Af h) = some (.lst ((cs h).map V.int))) ∧
      (∀ h, h < 2 → (cs h).length = if h < i then (D.al h).length else if h = i then j else 0) ∧ ∀ h a, h < 2 → a < (cs h).length → goodS D h a ((cs h).getD a 0)) ⟨_, _, _, _, cs, rfl, sH, hA2, hAf, fun h hh => ?_, hgd⟩ ?_ ?_⟩
    · rw [hln h hh]
      by_cases c : h < i
      · rw [if_pos c, if_pos c]
      · rw [if_neg c, if_neg c]
        split <;> rfl
    · clear hln hgd hAf hA2 hA hB hp
      rintro j σ H2 hj ⟨g3, g4, g5, g6, cs, rfl, sH2, hA2, hAf, hln, hgd⟩
      have ej : (0 : Int) + (j : Int) = (j : Int) := by omega
      rw [ej]
      obtain ⟨dx2, a2, d2, hp2, hA2t, hB2⟩ := hTk.mono sH2
      obtain ⟨t3, x0, x1, e3, ht3, hrow3⟩ := hA2t.row
      obtain rfl : a2 = t3 := by injection e3
      obtain ⟨x, hx, r3, xs3, rfl, hr3, ha3⟩ := hrow3 i hi
      have ejj : (D.al i)[j]? = some (D.al i)[j] := List.getElem?_eq_getElem hj
      obtain ⟨y3, hy3, r4, rfl, hr4⟩ := ha3.at (i := j) (y := (D.al i)[j]) ejj
      have eg : (D.al i).getD j [] = (D.al i)[j] := by rw [List.getD_eq_getElem?_getD, ejj]; rfl
      have hrl : (D.al i)[j].length ≤ 60 := (hW.row i hi _ (List.mem_of_getElem? ejj)).2.1
      generalize hrw : (D.al i)[j] = row at hr4 eg hrl
      refine ⟨_, rfl, p, C, dx2, _, _, rfl, hp2, Z.cl, Z.nA, flds_alone _ _, _, rfl, a2, _, _, _, rfl, rfl, SqL.of ht3, atI_nat hx, _, rfl, r3, _, _, _, rfl, rfl, SqL.of hr3, atI_nat hy3, ?_⟩
      refine ⟨_, rfl, r4, rfl, ⟨_, SqL.of hr4⟩, fun L hL => ?_⟩
      refine list_turns (xs := row.map V.int) (fun k H3 => Same H2 H3 ∧ H3 L = some (.lst ((row.take k).map fun o => oV (oddsF D i j o)))) ⟨same_new hL _, upd_same⟩ (fun k H3 _ h => h.1.seq (SqL.of hr4)) ?_ ?_
      · rintro k z H3 hk ⟨s4, h4⟩
        obtain ⟨o, ho, rfl⟩ : ∃ o, row[k]? = some o ∧ z = .int o := by
          rw [List.getElem?_map] at hk
          obtain ⟨o, h1, h2⟩ := Option.map_eq_some_iff.mp hk
          exact ⟨o, h1, h2.symm⟩
        refine ⟨rfl, _, rfl, _, rfl, _, rfl, _, rfl, p, i, j, o, D, rfl, hi, hTk.mono (sH2.trans s4), hW, fun H4 s5 => ⟨_, s5 _ _ h4, ?_, same_upd (s4.trans s5) hL, ?_⟩⟩
        · rw [List.length_map, List.length_take]
          exact Nat.lt_of_le_of_lt (Nat.le_trans (Nat.min_le_right _ _) hrl) (by decide)
        · rw [upd_same, take_get ho, List.map_append]
          rfl
      · rintro H3 ⟨s4, h4⟩
        rw [List.length_map, List.take_length] at h4
        have hA2' := s4 _ _ hA2
        have hr4' := s4 _ _ hr4
        refine ⟨_, rfl, L, _, rfl, .inl (SqL.of h4), rfl, flat_oV, _, rfl, ?_⟩
        simp only [if_true]
        rw [inV_non]
        cases c : row.any (okS D i j) with
        | false =>
          refine iteT ⟨_, rfl, _, rfl, _, rfl, (by show 3 ≤ sizeLine; decide), fun t ht => ⟨(by show 2 ≤ sizeLine; decide), fun r hr => ?_⟩⟩
          have s5 := same_new ht (.tup [V.int (i : Int), V.int (j : Int), V.ref L])
          have s6 := same_new hr (.tup [V.str "bar", V.ref t])
          refine qB _ r t L i j (((sH2.trans s4).trans s5).trans s6) upd_same (s6 _ _ upd_same) ?_ (none_of_same sH2 hL) hi hj ?_
          · rw [eg]; exact s6 _ _ (s5 _ _ h4)
          · unfold canB
            rw [eg]; exact c
        | true =>
          obtain ⟨m, o, hm, hpo, hmin⟩ := first_any c
          have hiA := s4 _ _ (hAf i hi)
          refine iteF ⟨_, rfl, _, rfl, A2', _, _, _, rfl, rfl, SqL.of hA2', atI_nat (hAat i hi), .inl ⟨rfl, _, SqL.of hiA⟩, _, rfl, _, rfl, .inl ⟨rfl, _, SqL.of h4⟩, L, _, _, m, .non, rfl, rfl, SqL.of h4, rfl, flat_oV, ?_, rfl, ?_, r4, _, _, _, rfl, rfl, SqL.of hr4', atI_nat (by rw [List.getElem?_map, hm]; rfl), Af i, _, _, rfl, rfl, hiA, ?_, ?_⟩
          · rw [List.getElem?_map, hm]
            unfold okS at hpo
            show some (oV (oddsF D i j o)) = some V.non
            rw [Option.isNone_iff_eq_none.mp hpo]
            rfl
          · intro m' z' hm' hz'
            rw [List.getElem?_map] at hz'
            obtain ⟨o', ho', rfl⟩ := Option.map_eq_some_iff.mp hz'
            have := hmin m' o' hm' ho'
            unfold okS at this
            cases q : oddsF D i j o' with
            | none => rw [q] at this; cases this
            | some b => rfl
          · rw [List.length_map, hln i hi, if_neg (Nat.lt_irrefl _), if_pos rfl]
            exact Nat.lt_of_lt_of_le (show j < 100 by omega) (by decide)
          · refine ⟨_, _, _, _, fun h => if h = i then cs h ++ [o] else cs h, rfl, same_upd (sH2.trans s4) (nAf i hi).2, by rw [upd_ne (Ne.symm (nAf i hi).1)]; exact hA2', fun h hh => ?_, fun h hh => ?_, fun h a hh ha => ?_⟩
            · by_cases c1 : h = i
              · subst c1
                rw [upd_same]
                show _ = some (HO.lst ((if h = h then cs h ++ [o] else cs h).map V.int))
                rw [if_pos rfl, List.map_append]
                rfl
              · rw [upd_ne (dAf h i hh hi c1)]
                show _ = some (HO.lst ((if h = i then cs h ++ [o] else cs h).map V.int))
                rw [if_neg c1]
                exact s4 _ _ (hAf h hh)
            · show (if h = i then cs h ++ [o] else cs h).length = _
              by_cases c1 : h = i
              · subst c1
                rw [if_pos rfl, List.length_append, hln h hi, if_neg (Nat.lt_irrefl _), if_pos rfl, if_neg (Nat.lt_irrefl _), if_pos rfl]
                rfl
              · rw [if_neg c1, hln h hh, if_neg c1, if_neg c1]
            · show goodS D h a ((if h = i then cs h ++ [o] else cs h).getD a 0)
              have ha : a < (if h = i then cs h ++ [o] else cs h).length := ha
              by_cases c1 : h = i
              · subst c1
                rw [if_pos rfl] at ha ⊢
                have hl := hln h hi
                rw [if_neg (Nat.lt_irrefl _), if_pos rfl] at hl
                rw [List.length_append] at ha
                by_cases c2 : a < (cs h).length
                · have := hgd h a hi c2
                  rw [List.getD_eq_getElem?_getD, List.getElem?_append_left c2, ← List.getD_eq_getElem?_getD]
                  exact this
                · have : a = (cs h).length := by
                    have e : ([o] : List Int).length = 1 := rfl
                    omega
                  subst this
                  rw [List.getD_eq_getElem?_getD, List.getElem?_append_right (Nat.le_refl _), Nat.sub_self, hl]
                  exact ⟨by rw [eg]; exact List.mem_of_getElem? hm, hpo⟩
              · rw [if_neg c1] at ha ⊢
                exact hgd h a hh ha
    · rintro σ H2 ⟨g3, g4, g5, g6, cs, rfl, sH2, hA2, hAf, hln, hgd⟩
      refine ⟨_, _, _, _, _, cs, rfl, sH2, hA2, hAf, fun h hh => ?_, hgd⟩
      rw [hln h hh]
      by_cases c : h < i
      · rw [if_pos c, if_pos (by omega)]
      · by_cases c2 : h = i
        · rw [if_neg c, if_pos c2, if_pos (by omega), c2]
        · rw [if_neg c, if_neg c2, if_neg (by omega)]
  · rintro σ H' ⟨g2, g3, g4, g5, g6, cs, rfl, sH, hA2, hAf, hln, hgd⟩
    have hln' : ∀ h, h < 2 → (cs h).length = (D.al h).length := fun h hh => by
      rw [hln h hh, if_pos (by exact hh)]
    have hgd' : ∀ h a, h < 2 → a < (D.al h).length → goodS D h a ((cs h).getD a 0) := fun h a hh ha => hgd h a hh (by rw [hln' h hh]; exact ha)
    have rows : ∀ {H2 : Hp}, Same H' H2 → RowsAt H2 (.ref A2') [cs 0, cs 1] := fun {H2} s => ⟨A2', _, rfl, s _ _ hA2, .cons ⟨A0, rfl, s _ _ (hAf 0 (by decide))⟩ (.cons ⟨A1, rfl, s _ _ (hAf 1 (by decide))⟩ .nil)⟩
    refine ⟨_, rfl, _, rfl, _, rfl, p, 0, _, D, cs, rfl, by decide, hTk.mono sH, hW, rows (Same.refl _), hln', ansL_ne hW hln' hgd' (by decide), fun e0 H2 s5 f5 h5 => ?_⟩
    refine ⟨_, rfl, _, rfl, p, 1, _, D, cs, rfl, by decide, hTk.mono (sH.trans s5), hW, rows s5, hln', ansL_ne hW hln' hgd' (by decide), fun e1 H3 s6 f6 h6 => ?_⟩
    refine ⟨(by show 2 ≤ sizeLine; decide), fun an han => ⟨(by show 2 ≤ sizeLine; decide), fun t ht => ⟨(by show 2 ≤ sizeLine; decide), fun r hr => ?_⟩⟩⟩
    have s7 := same_new han (.lst [V.ref e0, V.ref e1])
    have s8 := same_new ht (.tup [V.ref A2', V.ref an])
    have s9 := same_new hr (.tup [V.str "boxed", V.ref t])
    have s789 := (s7.trans s8).trans s9
    have s59 := (s5.trans s6).trans s789
    exact qA _ r cs t A2' an A0 A1 e0 e1 (sH.trans s59) ⟨upd_same, s9 _ _ upd_same, s59 _ _ hA2, s59 _ _ (hAf 0 (by decide)), s59 _ _ (hAf 1 (by decide)), s9 _ _ (s8 _ _ upd_same), s789 _ _ (s6 _ _ h5), s789 _ _ h6, h0, none_of_same (sH.trans s5) f6, none_of_same sH f5⟩ hln' hgd'
end
end TA

set_option Elab.async false
set_option maxRecDepth 100000
set_option maxHeartbeats 4000000
namespace TA
open PySem L2 PyProof.Rows
set_option linter.unusedVariables false
/-! data that may be compared -/
def Ok (n : Nat) (d : PyData) : Prop := d.canLay0 = true ∧ d.depth ≤ n
theorem Ok.shaped {n : Nat} {d : PyData} (h : Ok n d) (e : n ≤ 64) : SeqAt.shaped d = true := by
  unfold SeqAt.shaped
  rw [h.1, decide_eq_true (Nat.le_trans h.2 e)]
  rfl
theorem ok_int {n : Nat} (i : Int) : Ok (n + 1) (.int i) := ⟨by simp [PyData.canLay0], by simp [PyData.depth]⟩
theorem ok_non {n : Nat} : Ok (n + 1) .none := ⟨by simp [PyData.canLay0], by simp [PyData.depth]⟩
theorem ok_all {n : Nat} : ∀ {ds : List PyData}, (∀ d ∈ ds, Ok n d) → PyData.canLayAll0 ds = true ∧ PyData.depthAll ds ≤ n
  | [], _ => ⟨rfl, by simp [PyData.depthAll]⟩
  | d :: ds, q => by
    obtain ⟨a, b⟩ := ok_all (ds := ds) (fun x hx => q x (List.mem_cons_of_mem _ hx))
    obtain ⟨c, e⟩ := q d List.mem_cons_self
    refine ⟨by simp [PyData.canLayAll0, a, c], ?_⟩
    simp only [PyData.depthAll]
    omega
theorem ok_list {n : Nat} {ds : List PyData} (q : ∀ d ∈ ds, Ok n d) : Ok (n + 1) (.list ds) := by
  obtain ⟨a, b⟩ := ok_all q
  refine ⟨by simpa [PyData.canLay0] using a, ?_⟩
  simp only [PyData.depth]
  omega
theorem ok_tuple {n : Nat} {ds : List PyData} (q : ∀ d ∈ ds, Ok n d) : Ok (n + 1) (.tuple ds) := by
  obtain ⟨a, b⟩ := ok_all q
  refine ⟨by simpa [PyData.canLay0] using a, ?_⟩
  simp only [PyData.depth]
  omega
theorem okD_pair (p : Int × Int) : Ok 2 (pairD p) := ok_tuple fun d hd => by
  rcases List.mem_cons.mp hd with rfl | hd
  · exact ok_int _
  · obtain rfl := List.mem_singleton.mp hd
    exact ok_int _
theorem okD_pairs (l : List (Int × Int)) : Ok 3 (.list (l.map pairD)) := ok_list fun d hd => by
  obtain ⟨p, _, rfl⟩ := List.mem_map.mp hd
  exact okD_pair p
theorem eqv_pair (p q : Int × Int) : PyData.eqv (pairD p) (pairD q) = decide (p = q) := by
  show ((p.1 == q.1) && ((p.2 == q.2) && true)) = decide (p = q)
  rw [Bool.and_true]
  by_cases h : p = q
  · subst h
    simp
  · rw [decide_eq_false h]
    by_cases h1 : p.1 = q.1
    · have : ¬ p.2 = q.2 := fun h2 => h (Prod.ext h1 h2)
      simp [this]
    · simp [h1]
theorem any_pair (l : List (Int × Int)) (p : Int × Int) : ((l.map pairD).any fun z => PyData.eqv z (pairD p)) = decide (p ∈ l) := by
  rw [List.any_map]
  by_cases h : p ∈ l
  · rw [decide_eq_true h, List.any_eq_true]
    exact ⟨p, h, by show PyData.eqv (pairD p) (pairD p) = true; rw [eqv_pair, decide_eq_true rfl]⟩
  · rw [decide_eq_false h, List.any_eq_false]
    intro q hq c
    have c : PyData.eqv (pairD q) (pairD p) = true := c
    rw [eqv_pair] at c
    exact h (of_decide_eq_true c ▸ hq)
/-! the checks of boxed protocols and bars -/
def anKV (an : Nat → IP × List (Int × Int) → Int) (h : Nat) (bo : BD) : List (List Key × V) := bo.map fun e => (kI e.1, V.int (an h e))
/-- a task at p whose dict is not the one at d -/
def TaskX (C : Addr) (H : Hp) (p : Addr) (T : TD) (d : Addr) : Prop := ∃ dx a d', H p = some (.ins C dx (flds a d')) ∧ AlAt H (.ref a) T.al ∧ BoR H d' T.bo ∧ d' ≠ d
theorem TaskX.task {C : Addr} {H : Hp} {p : Addr} {T : TD} {d : Addr} (h : TaskX C H p T d) : TaskR C H p T := by
  obtain ⟨dx, a, d', h1, h2, h3, _⟩ := h
  exact ⟨dx, a, d', h1, h2, h3⟩
theorem TaskX.mono {C : Addr} {H H' : Hp} (s : Same H H') {p : Addr} {T : TD} {d : Addr} (h : TaskX C H p T d) : TaskX C H' p T d := by
  obtain ⟨dx, a, d', h1, h2, h3, h4⟩ := h
  exact ⟨dx, a, d', s _ _ h1, h2.mono (.same s), h3.mono s, h4⟩
theorem TaskX.new {C : Addr} {H H' : Hp} (s : Same H H') {p : Addr} {T : TD} {d : Addr} (h : TaskR C H p T) (n : H d = none) : TaskX C H' p T d := by
  obtain ⟨dx, a, d', h1, h2, h3⟩ := h
  refine ⟨dx, a, d', s _ _ h1, h2.mono (.same s), h3.mono s, fun c => ?_⟩
  subst c
  obtain ⟨kvs, h3, _⟩ := h3
  exact rd_some h3 n
theorem TaskX.but {C : Addr} {H H' : Hp} {d : Addr} {k : List (List Key × V)} (e : H d = some (.dT k)) (s : But d H H') {p : Addr} {T : TD} (h : TaskX C H p T d) : TaskR C H' p T := by
  obtain ⟨dx, a, d', h1, h2, ⟨kvs, h3, h5⟩, h4⟩ := h
  have kp := s.kp e nf_dT
  exact ⟨dx, a, d', s _ _ (ne_of h1 e (fun z => by cases z)) h1, h2.mono kp, kvs, h3.imp (s _ _ h4) (fun ⟨o, z⟩ => ⟨o, s _ _ h4 z⟩), h5.imp fun _ _ r => r.mono kp⟩
structure BxF (C : Addr) (H : Hp) (p t : Addr) (T : TD) (ch : Nat → List Int) (an : Nat → IP × List (Int × Int) → Int) (al ans d0 d1 : Addr) : Prop where
  ht : H t = some (.tup [.ref al, .ref ans])
  hal : RowsAt H (.ref al) [ch 0, ch 1]
  hans : H ans = some (.lst [.ref d0, .ref d1])
  h0 : H d0 = some (.dT (anKV an 0 T.bo))
  h1 : H d1 = some (.dT (anKV an 1 T.bo))
  x0 : TaskX C H p T d0
  x1 : TaskX C H p T d1
  len : ∀ h, h < 2 → (ch h).length = (T.al h).length
  outc : ∀ h, h < 2 → ∀ x ∈ ch h, okOut x
  outa : ∀ h, h < 2 → ∀ e ∈ T.bo, okOut (an h e)
theorem BxF.mono {C : Addr} {H H' : Hp} (s : Same H H') {p t : Addr} {T : TD} {ch an al ans d0 d1} (b : BxF C H p t T ch an al ans d0 d1) : BxF C H' p t T ch an al ans d0 d1 :=
  ⟨s _ _ b.ht, b.hal.mono (.same s), s _ _ b.hans, s _ _ b.h0, s _ _ b.h1, b.x0.mono s, b.x1.mono s, b.len, b.outc, b.outa⟩
def pairO (h : Nat) (x w : Int) : Int × Int := if h = 0 then (x, w) else (w, x)
def okAns (ch : Nat → List Int) (an : Nat → IP × List (Int × Int) → Int) (h : Nat) (e : IP × List (Int × Int)) : Prop := pairO h (an h e) (wonO ch h e.1) ∈ e.2
def spIsAns (K : PySem.W.Frag) (C : Addr) : Sp := fun vs H Q _ => ∃ (p d : Addr) (T : TD) (h : Nat) (an : Nat → IP × List (Int × Int) → Int), vs = [.ref p, .ref d] ∧ TaskX C H p T d ∧ WF T ∧ H d = some (.dT (anKV an h T.bo)) ∧ (∀ e ∈ T.bo, okOut (an h e)) ∧ ∀ H', Same H H' → Q (.bl true) H'
def spIsBoxed (K : PySem.W.Frag) (C : Addr) : Sp := fun vs H Q _ => ∃ (p t : Addr) (T : TD) (ch : Nat → List Int) (an : Nat → IP × List (Int × Int) → Int) (al ans d0 d1 : Addr), vs = [.ref p, .ref t] ∧ WF T ∧ BxF C H p t T ch an al ans d0 d1 ∧ ∀ H', Same H H' → Q (.bl true) H'
section
variable {P : Program} {w : World} {K : PySem.W.Frag} {mg : Str → Option Value} {base : Heap}
abbrev nIsAns : List Str := ["task", "thing", "pair", "output"]
theorem sc_isans : FnScope nIsAns ["task", "thing"] (defScope s_is_answers) := ⟨rfl, rfl, rfl, by decide +kernel, rfl, by decide +kernel, by decide +kernel⟩
theorem ok_isans {f g1 g2 C : Addr} {fd d1 d2 : FuncData} (F : Fun K "is_answers" "is_answers" s_is_answers f fd) (T : Txt K mg) (T2 : Txt2 K mg) (Z : TxtC K mg C) (WP : Def P w K mg base "is_pair" ["task", "thing"] 4 (spPair K C) g1 d1)
    (WO : Def P w K mg base "is_output" ["thing"] 3 (spOut K) g2 d2) : FnOk P w K mg base CX0 5 f fd ["task", "thing"] (spIsAns K C) := by
  refine F.ok sc_isans (fun vs H Q E h => ?_) (fun cdv A outer s H vs Q E hr h => ?_)
  · obtain ⟨p, d, D, h, an, rfl, _⟩ := h
    rfl
  obtain ⟨p, d, D, h, an, rfl, hX, hW, hd, ho, q⟩ := h
  have nd := sc_isans.nd
  refine ⟨_, (pss_one (ps_ret (pe_and (pe_callB call_isi (by rfl) T.isi boot_isinstance (pa_cons (pv 1) (pa_cons (pe_bltn (v := .ty "dict") (by rfl) T2.dict boot_dict rfl) pa_nil))) (pe_and (pe_cmpR op_eq (pe_callB call_len_dT (by rfl) T.len PySem.boot_len (pa_cons (pv 1) pa_nil)) (pe_callB len_dTR (by rfl) T.len PySem.boot_len (pa_cons (pe_fld (pv 0) rfl) pa_nil)) (nomark _)) (pe_one (pe_callB (cr_all rfl) (by rfl) T.all (by decide +kernel) (pa_cons (pe_lock (pe_lc (own := [("pair", 2), ("output", 3)]) (g := (gTup K 2 (gCons (gName 2) (gCons (gName 3) gNil)))) (tt := tYes) (te := (tAndV (tCall (spPair K C) [] E0 (tCons (tVar 0) (tCons (tVar 2) tNil))) (tCall (spOut K) [] E0 (tCons (tVar 3) tNil)))) rfl nd (pi_itemsT (pv 1)) (blkOk_by (N := nIsAns) (sc := defScope s_is_answers) (by decide +kernel)) (fun _ _ _ _ _ => (by exact (pg_tup (by rfl) (pgs_cons (pg_name (i := 2) nd rfl (Or.inl rfl)) (pgs_cons (pg_name (i := 3) nd rfl (Or.inl rfl)) pgs_nil))))) (fun _ _ _ _ _ => pts_nil) (fun _ _ _ _ _ => (by exact (pe_and (pe_call WP.G (hr.mono (by decide)) rfl WP.m WP.k WP.b .nil pass0 (pa_cons (pv 0) (pa_cons (pv 2) pa_nil))) (pe_one (pe_call WO.G (hr.mono (by decide)) rfl WO.m WO.k WO.b .nil pass0 (pa_cons (pv 3) pa_nil)))))))) pa_nil))))))), ?_⟩
  obtain ⟨dx, a, d', hp, hA, ⟨kvs, hd', ha⟩, hne⟩ := id hX
  have hkl : (anKV an h D.bo).length = D.bo.length := List.length_map _
  refine ⟨_, rfl, V.ref d, .ty "dict", .type "dict", .type "dict", true, rfl, .ty "dict", .base (.dT hd), kit_ty (by decide +kernel), _, rfl, iteT ?_⟩
  refine ⟨_, rfl, d, _, rfl, hd, _, rfl, p, C, dx, _, _, rfl, hp, Z.cl, Z.nB, flds_both _ _, d', kvs, rfl, hd', rfl, _, rfl, ?_⟩
  refine iteT' (by rw [dec_nat]; exact decide_eq_true (by rw [hkl, ha.len])) ?_
  refine ⟨d, _, hd, trivial, fun od => ?_⟩
  have hd1 : (upd H d (.frz od (.dT (anKV an h D.bo)))) d = some (.frz od (.dT (anKV an h D.bo))) := upd_same
  refine ⟨_, rfl, d, od, _, rfl, hd1, fun L hL => ?_⟩
  have nL : d ≠ L := ne_of_none hd1 hL
  have hLn : H L = none := none_of_but But.at (Ne.symm nL) hL
  refine itemT_turns (fun i H' => But d H H' ∧ H' d = some (.frz od (.dT (anKV an h D.bo))) ∧ H' L = some (.lst ((List.replicate i true).map V.bl))) ⟨But.at.trans (.same (same_new hL _)), by rw [upd_ne nL]; exact hd1, upd_same⟩ (fun i H' h => h.2.1) ?_ ?_
  · rintro i k x qa Tt H' hi hq hTn ⟨b1, e1, e2⟩
    unfold anKV at hi
    rw [List.getElem?_map] at hi
    obtain ⟨eb, hbi, e⟩ := Option.map_eq_some_iff.mp hi
    injection e with e3 e4
    subst e3
    subst e4
    have hm := List.mem_of_getElem? hbi
    have s1 := same_new hTn (.tup [V.ref qa, V.int (an h eb)])
    have hi2 : i < D.bo.length := (List.getElem?_eq_some_iff.mp hbi).1
    refine ⟨Tt, _, rfl, SqT.of upd_same, rfl, _, _, rfl, _, _, rfl, rfl, rfl, _, rfl, _, rfl, p, _, D, iI eb.1, rfl, hX.but hd (b1.trans (.same s1)), hW, kI_tp (s1 _ _ hq), fun H2 s2 => ?_⟩
    rw [hasK_yes hm]
    refine ⟨_, rfl, iteT ⟨_, rfl, _, _, rfl, .int _, ?_⟩⟩
    rw [out_yes (ho eb hm)]
    have s13 := s1.trans s2
    refine ⟨_, s13 _ _ e2, ?_, (b1.trans (.same s13)).new hLn, by rw [upd_ne nL]; exact s13 _ _ e1, by rw [upd_same, rep_snoc]⟩
    rw [List.length_map, List.length_replicate]
    have := hW.many
    exact Nat.lt_of_lt_of_le (show i < 100 by omega) (by decide)
  · rintro H1 ⟨b1, e1, e2⟩
    have s1 : Same H (upd H1 d (.dT (anKV an h D.bo))) := b1.unlock hd
    refine ⟨e1, L, _, rfl, SqL.of (by rw [upd_ne (Ne.symm nL)]; exact e2), ?_⟩
    rw [all_true]
    exact q _ s1
abbrev nIsBoxed : List Str := ["task", "thing", "answers"]
theorem sc_isboxed : FnScope nIsBoxed ["task", "thing"] (defScope s_is_boxed) := ⟨rfl, rfl, rfl, by decide +kernel, rfl, by decide +kernel, by decide +kernel⟩
theorem row_yes {c : List Int} {n : Nat} (h : c.length = n) (o : ∀ x ∈ c, okOut x) : rowB (rowD c) n = true := by
  show (decide ((c.map PyData.int).length = n) && ((c.map PyData.int).map outB).all id) = true
  rw [List.length_map, decide_eq_true h, Bool.true_and, List.all_eq_true]
  intro b hb
  obtain ⟨d, hd, rfl⟩ := List.mem_map.mp hb
  obtain ⟨x, hx, rfl⟩ := List.mem_map.mp hd
  exact out_yes (o x hx)
theorem BxF.chosen {C : Addr} {H : Hp} {p t : Addr} {T : TD} {ch an al ans d0 d1} (b : BxF C H p t T ch an al ans d0 d1) : chosenB (rowsD [ch 0, ch 1]) (T.al 0).length (T.al 1).length = true := by
  show (rowB (rowD (ch 0)) _ && rowB (rowD (ch 1)) _) = true
  rw [row_yes (b.len 0 (by decide)) (b.outc 0 (by decide)), row_yes (b.len 1 (by decide)) (b.outc 1 (by decide))]
  rfl
theorem ok_isboxed {f g1 g2 C : Addr} {fd d1 d2 : FuncData} (F : Fun K "is_boxed" "is_boxed" s_is_boxed f fd) (T : Txt K mg) (Z : TxtC K mg C) (WC : Def P w K mg base "is_chosen" ["task", "thing"] 5 (spChosen K C) g1 d1)
    (WIA : Def P w K mg base "is_answers" ["task", "thing"] 5 (spIsAns K C) g2 d2) : FnOk P w K mg base CX0 6 f fd ["task", "thing"] (spIsBoxed K C) := by
  refine F.ok sc_isboxed (fun vs H Q E h => ?_) (fun cdv A outer s H vs Q E hr h => ?_)
  · obtain ⟨p, t, D, ch, an, al, ans, e0, e1, rfl, _⟩ := h
    rfl
  obtain ⟨p, t, D, ch, an, al, ans, e0, e1, rfl, hW, B, q⟩ := h
  have nd := sc_isboxed.nd
  refine ⟨_, (pss_one (ps_ret (pe_and (pe_callB call_isi (by rfl) T.isi boot_isinstance (pa_cons (pv 1) (pa_cons (pe_bltn (v := .ty "tuple") (by rfl) T.tuple boot_tuple rfl) pa_nil))) (pe_and (pe_cmpR op_eq (pe_callB call_len_seq (by rfl) T.len PySem.boot_len (pa_cons (pv 1) pa_nil)) pe_int (nomark _)) (pe_and (pe_call WC.G (hr.mono (by decide)) rfl WC.m WC.k WC.b .nil pass0 (pa_cons (pv 0) (pa_cons (pe_ix ix_tup (pv 1) pe_int (fun _ _ => rfl)) pa_nil))) (pe_and (pe_callB call_isi (by rfl) T.isi boot_isinstance (pa_cons (pe_ix ix_tup (pv 1) pe_int (fun _ _ => rfl)) (pa_cons (pe_bltn (v := .ty "list") (by rfl) T.list boot_list rfl) pa_nil))) (pe_and (pe_cmpR op_eq (pe_callB call_len_seq (by rfl) T.len PySem.boot_len (pa_cons (pe_ix ix_tup (pv 1) pe_int (fun _ _ => rfl)) pa_nil)) pe_int (nomark _)) (pe_one (pe_callB (cr_all rfl) (by rfl) T.all (by decide +kernel) (pa_cons (pe_lc (own := [("answers", 2)]) (g := (gName 2)) (tt := tYes) (te := (tCall (spIsAns K C) [] E0 (tCons (tVar 0) (tCons (tVar 2) tNil)))) rfl nd (pi_list (pe_ix ix_tup (pv 1) pe_int (fun _ _ => rfl))) (blkOk_by (N := nIsBoxed) (sc := defScope s_is_boxed) (by decide +kernel)) (fun _ _ _ _ _ => (by exact (pg_name (i := 2) nd rfl (Or.inl rfl)))) (fun _ _ _ _ _ => pts_nil) (fun _ _ _ _ _ => (by exact (pe_call WIA.G (hr.mono (by decide)) rfl WIA.m WIA.k WIA.b .nil pass0 (pa_cons (pv 0) (pa_cons (pv 2) pa_nil)))))) pa_nil)))))))))), ?_⟩
  refine ⟨_, rfl, V.ref t, .ty "tuple", .type "tuple", .type "tuple", true, rfl, .ty "tuple", .base (.tup B.ht), kit_ty (by decide +kernel), _, rfl, iteT ?_⟩
  refine ⟨_, rfl, t, _, rfl, .inr (SqT.of B.ht), rfl, _, rfl, iteT ?_⟩
  refine ⟨_, rfl, _, rfl, t, _, _, _, rfl, rfl, SqT.of B.ht, (by rfl), p, _, _, D, rfl, B.x0.task, B.hal.dp, ?_, fun H1 s1 => ?_⟩
  · rintro ds e z hz
    cases e
    rcases List.mem_cons.mp hz with rfl | hz
    · intro es e
      cases e
      rw [List.length_map, B.len 0 (by decide)]
      have := hW.n0 0 (by decide); omega
    · obtain rfl := List.mem_singleton.mp hz
      intro es e
      cases e
      rw [List.length_map, B.len 1 (by decide)]
      have := hW.n0 1 (by decide); omega
  rw [B.chosen]
  have B1 := B.mono s1
  refine ⟨_, rfl, iteT ?_⟩
  refine ⟨_, rfl, t, _, _, _, rfl, rfl, SqT.of B1.ht, (by rfl), V.ref ans, .ty "list", .type "list", .type "list", true, rfl, .ty "list", .base (.lst B1.hans), kit_ty (by decide +kernel), _, rfl, iteT ?_⟩
  refine ⟨_, rfl, t, _, _, _, rfl, rfl, SqT.of B1.ht, (by rfl), ans, _, rfl, .inl (SqL.of B1.hans), rfl, _, rfl, iteT ?_⟩
  refine ⟨_, rfl, t, _, _, _, rfl, rfl, SqT.of B1.ht, (by rfl), ans, rfl, ⟨_, SqL.of B1.hans⟩, fun L hL => ?_⟩
  refine list_turns (xs := [V.ref e0, V.ref e1]) (fun i H' => Same H1 H' ∧ H' L = some (.lst ((List.replicate i true).map V.bl))) ⟨same_new hL _, upd_same⟩ (fun i H' _ h => SqL.of (h.1 _ _ B1.hans)) ?_ ?_
  · rintro i x H' hx ⟨s3, h3⟩
    have hi : i < 2 := (List.getElem?_eq_some_iff.mp hx).1
    have B3 := B1.mono s3
    obtain ⟨d, rfl, hX, hd⟩ : ∃ d, x = .ref d ∧ TaskX C H' p D d ∧ H' d = some (.dT (anKV an i D.bo)) := by
      obtain rfl | rfl : i = 0 ∨ i = 1 := by omega
      · exact ⟨e0, by simpa using hx.symm, B3.x0, B3.h0⟩
      · exact ⟨e1, by simpa using hx.symm, B3.x1, B3.h1⟩
    refine ⟨rfl, _, rfl, _, rfl, p, d, D, i, an, rfl, hX, hW, hd, B.outa i hi, fun H4 s4 => ⟨_, s4 _ _ h3, ?_, same_upd (s3.trans s4) hL, by rw [upd_same, rep_snoc]⟩⟩
    rw [List.length_map, List.length_replicate]
    exact Nat.lt_of_lt_of_le (show i < 100 by omega) (by decide)
  · rintro H3 ⟨s3, h3⟩
    refine ⟨L, _, rfl, SqL.of h3, ?_⟩
    rw [all_true]
    exact q _ (s1.trans s3)
end
end TA

set_option Elab.async false
set_option maxRecDepth 100000
set_option maxHeartbeats 4000000
namespace TA
open PySem L2 PyProof.Rows
set_option linter.unusedVariables false
theorem anKV_at {bo : BD} (s : (bo.map (·.1)).Pairwise ltN) (an : Nat → IP × List (Int × Int) → Int) (h : Nat) : ∀ e ∈ bo, valV (anKV an h bo) (kI e.1) = some (.int (an h e)) := by
  induction bo with
  | nil => intro e m; cases m
  | cons b bo ih =>
    intro e m
    rw [List.map_cons, List.pairwise_cons] at s
    show valV ((kI b.1, V.int (an h b)) :: anKV an h bo) (kI e.1) = _
    rcases List.mem_cons.mp m with rfl | m
    · exact valV_pos rfl
    · rw [valV_neg (fun c => ltN_ne (s.1 _ (List.mem_map.mpr ⟨e, m, rfl⟩)) (kI_inj c))]
      exact ih s.2 e m
/-- None where there is no fault; where there is one, a new tuple -/
def Res (fv : V) (H' : Hp) (good : Prop) : Prop := (fv = .non ∧ good) ∨ (∃ r xs, fv = .ref r ∧ H' r = some (.tup xs)) ∧ ¬ good
def spAnsF (K : PySem.W.Frag) (C : Addr) : Sp := fun vs H Q _ => ∃ (p d : Addr) (h : Nat) (v : V) (T : TD) (ch : Nat → List Int) (an : Nat → IP × List (Int × Int) → Int), vs = [.ref p, .int (h : Int), v, .ref d] ∧ h < 2 ∧ TaskAt C H p T ∧ WF T ∧ RowsAt H v [ch 0, ch 1] ∧ (∀ h, h < 2 → (ch h).length = (T.al h).length) ∧ H d = some (.dT (anKV an h T.bo)) ∧
  ∀ fv H', Same H H' → Res fv H' (∀ e ∈ T.bo, okAns ch an h e) → Q fv H'
def spBoxF (K : PySem.W.Frag) (C : Addr) : Sp := fun vs H Q _ => ∃ (p t : Addr) (T : TD) (ch : Nat → List Int) (an : Nat → IP × List (Int × Int) → Int) (al ans d0 d1 : Addr), vs = [.ref p, .ref t] ∧ WF T ∧ TaskAt C H p T ∧ BxF C H p t T ch an al ans d0 d1 ∧
  ∀ fv H', Same H H' → Res fv H' ((∀ h a, h < 2 → a < (T.al h).length → okA T ch h a) ∧ ∀ h, h < 2 → ∀ e ∈ T.bo, okAns ch an h e) → Q fv H'
section
variable {P : Program} {w : World} {K : PySem.W.Frag} {mg : Str → Option Value} {base : Heap}
abbrev nAnsF : List Str := ["task", "hand", "alone", "answers", "pair", "told"]
theorem sc_ansf : FnScope nAnsF ["task", "hand", "alone", "answers"] (defScope s_answers_fault) := ⟨rfl, rfl, rfl, by decide +kernel, rfl, by decide +kernel, by decide +kernel⟩
theorem set_told {h : Nat} (hh : h < 2) (x w : Int) : ([V.int x, V.int x] : List V).set (1 - h) (V.int w) = [V.int (pairO h x w).1, V.int (pairO h x w).2] := by
  obtain rfl | rfl : h = 0 ∨ h = 1 := by omega
  · rfl
  · rfl
theorem ok_ansf {f g2 C : Addr} {fd d2 : FuncData} (F : Fun K "answers_fault" "answers_fault" s_answers_fault f fd) (T : Txt K mg) (Z : TxtC K mg C)
    (Prs : MDef P w K mg base C "pairs" nPairs 1 (spPairs K C) g2 d2) : FnOk P w K mg base CX0 2 f fd ["task", "hand", "alone", "answers"] (spAnsF K C) := by
  refine F.ok sc_ansf (fun vs H Q E h => ?_) (fun cdv A outer s H vs Q E hr h => ?_)
  · obtain ⟨p, d, h, v, D, ch, an, rfl, _⟩ := h
    rfl
  obtain ⟨p, d, h, v, D, ch, an, rfl, hh, hTk, hW, hR, hlen, hd, q0⟩ := h
  have nd := sc_ansf.nd
  have hu := hu_of hr
  have hu65 := hu65_of hr
  refine ⟨_, (pss_cons (ps_for PassesOwn.never (by rfl) (pi_list (pe_meth0 (pv 0) Z.cl Prs.M Prs.G (hr.mono (by decide)) Prs.b .nil pass0)) (pg_name (i := 4) nd rfl (Or.inl rfl))
      (pss_cons (ps_set (i := 5) nd rfl (Or.inl rfl) (pe_lst (pa_cons (pe_dget hu (pv 3) (pv 4) (fun _ _ => rfl)) (pa_cons (pe_dget hu (pv 3) (pv 4) (fun _ _ => rfl)) pa_nil))))
    (pss_cons (ps_asg (pe_ix ix_list (pe_ix ix_list (pv 2) (pe_op op_sub pe_int (pv 1)) (fun _ _ => rfl)) (pe_ix ix_tup (pv 4) (pe_op op_sub pe_int (pv 1)) (fun _ _ => rfl)) (fun _ _ => rfl)) (pg_sub (pv 5) (pe_op op_sub pe_int (pv 1)) set_list))
    (pss_one (ps_if (pt_cmpR (op_notInD hu65) (pe_callTy call_tuple_of (by rfl) T.tuple boot_tuple (pa_cons (pv 5) pa_nil)) (pe_dget hu (pe_fld (pv 0) rfl) (pv 4) (fun _ _ => rfl)) (by rfl))
      (pss_one (ps_ret (pe_tup (pa_cons pe_str (pa_cons (pv 1) (pa_cons (pv 4) pa_nil))))))
      pss_nil)))))
    (pss_one (ps_ret pe_non))), ?_⟩
  obtain ⟨dx, a0, db, hp, hA, hB⟩ := id hTk
  refine ⟨_, rfl, p, dx, _, rfl, hp, flds_no _ _ (by decide +kernel) (by decide +kernel), p, D, rfl, hTk, hW, fun r xs hr0 hx => ?_⟩
  have s1 := same_new hr0 (.lst xs)
  have hr1 : (upd H r (.lst xs)) r = some (.lst xs) := upd_same
  refine ⟨r, rfl, ⟨_, SqL.of hr1⟩, for_list (xs := xs) (fun i σ H' => ∃ g1 g2, σ = [some (.ref p), some (.int (h : Int)), some v, some (.ref d), g1, g2] ∧ Same (upd H r (.lst xs)) H' ∧ ∀ e ∈ D.bo.take i, okAns ch an h e) ⟨_, _, rfl, Same.refl _, fun e he => by cases he⟩ (fun i σ H' _ ⟨_, _, _, s, _⟩ => s.seq (SqL.of hr1)) ?_ ?_⟩
  · rintro i x σ H' hxi ⟨g1, g2, rfl, s2, hok⟩
    have sH := s1.trans s2
    obtain ⟨y, hy, tt, rfl, htt⟩ := (hx.imp fun _ _ r => r.mono (.same sH)).get hxi
    rw [List.getElem?_map] at hy
    obtain ⟨e, hbe, rfl⟩ := Option.map_eq_some_iff.mp hy
    have hem := List.mem_of_getElem? hbe
    obtain ⟨rg0, rg1⟩ := hW.rng e hem
    have hd' := sH _ _ hd
    have hv1 := anKV_at hW.srt an h e hem
    refine ⟨_, rfl, _, rfl, d, _, rfl, hv1 ▸ DGet.t (k := kI e.1) hd' htt, _, rfl, _, rfl, d, _, rfl, hv1 ▸ DGet.t (k := kI e.1) hd' htt, (by show 2 ≤ sizeLine; decide), fun L hL => ?_⟩
    have s3 := same_new hL (.lst [V.int (an h e), V.int (an h e)])
    obtain ⟨t, ys, rfl, ht, ar⟩ := hR.mono (.same (sH.trans s3))
    have h1 : 1 - h < 2 := by omega
    obtain ⟨z, hz, rr, rfl, hrow⟩ := ar.at (i := 1 - h) (y := ch (1 - h)) (by
      obtain rfl | rfl : h = 0 ∨ h = 1 := by omega
      · rfl
      · rfl)
    have hsl : sel (1 - h) e.1 < (ch (1 - h)).length := by
      rw [hlen _ h1]
      obtain rfl | rfl : h = 0 ∨ h = 1 := by omega
      · exact rg1
      · exact rg0
    have gw : ((ch (1 - h)).map V.int)[sel (1 - h) e.1]? = some (.int (wonO ch h e.1)) := by
      unfold wonO
      rw [List.getElem?_map, List.getD_eq_getElem?_getD, List.getElem?_eq_getElem hsl]
      rfl
    have e1h : (1 : Int) - (h : Int) = ((1 - h : Nat) : Int) := by omega
    refine ⟨_, rfl, _, rfl, _, _, rfl, rfl, t, _, _, _, rfl, rfl, SqL.of ht, atI_one hh hz, _, rfl, _, rfl, _, _, rfl, rfl, tt, _, _, _, rfl, rfl, SqT.of (s3 _ _ htt), atI_one hh (iI_at h1 e.1), rr, _, _, _, rfl, rfl, SqL.of hrow, atI_nat gw, ?_⟩
    refine ⟨_, rfl, _, rfl, _, _, rfl, rfl, L, _, _, 1 - h, rfl, rfl, upd_same, (by
      rw [e1h]
      obtain rfl | rfl : h = 0 ∨ h = 1 := by omega
      · rfl
      · rfl), ?_⟩
    rw [set_told hh]
    have sL : Same H' (upd (upd H' L (.lst [V.int (an h e), V.int (an h e)])) L (.lst [V.int (pairO h (an h e) (wonO ch h e.1)).1, V.int (pairO h (an h e) (wonO ch h e.1)).2])) := same_upd s3 hL
    refine ⟨_, rfl, L, _, rfl, .inl ⟨SqL.of upd_same, fun u hu' => ?_⟩⟩
    have s4 := same_new hu' (.tup [V.int (pairO h (an h e) (wonO ch h e.1)).1, V.int (pairO h (an h e) (wonO ch h e.1)).2])
    have s34 := sL.trans s4
    obtain ⟨dx2, a2, d2, hp2, hA2, kvs, hd2, ha2⟩ := hTk.mono (sH.trans s34)
    obtain ⟨lv, hlv, hlet⟩ := val_at ha2 hW.srt e hem
    refine ⟨_, rfl, p, C, dx2, _, _, rfl, hp2, Z.cl, Z.nB, flds_both _ _, _, rfl, d2, _, rfl, hlv ▸ DGet.t (k := kI e.1) hd2 (s34 _ _ htt), pairD (pairO h (an h e) (wonO ch h e.1)), e.2.map pairD, (TpAt.dp ⟨u, rfl, upd_same⟩), hlet.dp, (okD_pair _).shaped (by decide), (okD_pairs _).shaped (by decide), _, rfl, ?_⟩
    rw [any_pair]
    by_cases c : okAns ch an h e
    · rw [decide_eq_true (show pairO h (an h e) (wonO ch h e.1) ∈ e.2 from c)]
      refine iteF ⟨_, _, rfl, s2.trans s34, fun e' he' => ?_⟩
      rw [take_get hbe] at he'
      rcases List.mem_append.mp he' with h' | h'
      · exact hok e' h'
      · obtain rfl := List.mem_singleton.mp h'
        exact c
    · rw [decide_eq_false (show ¬ pairO h (an h e) (wonO ch h e.1) ∈ e.2 from c)]
      refine iteT ⟨_, rfl, _, rfl, (by show 3 ≤ sizeLine; decide), fun r2 hr2 => ?_⟩
      exact q0 _ _ ((sH.trans s34).trans (same_new hr2 _)) (.inr ⟨⟨r2, _, rfl, upd_same⟩, fun g => c (g e hem)⟩)
  · rintro σ H' ⟨g1, g2, rfl, s2, hok⟩
    refine q0 _ _ (s1.trans s2) (.inl ⟨rfl, fun e he => hok e ?_⟩)
    rw [hx.len, List.length_map, List.take_length]
    exact he
abbrev nBoxF : List Str := ["task", "thing", "alone", "answers", "fault", "hand"]
theorem sc_boxf : FnScope nBoxF ["task", "thing"] (defScope s_boxed_fault) := ⟨rfl, rfl, rfl, by decide +kernel, rfl, by decide +kernel, by decide +kernel⟩
theorem ok_boxf {f g1 g2 g3 C : Addr} {fd d1 d2 d3 : FuncData} (F : Fun K "boxed_fault" "boxed_fault" s_boxed_fault f fd) (T : Txt K mg) (U : TxtH K mg) (Z : TxtC K mg C) (WIB : Def P w K mg base "is_boxed" ["task", "thing"] 6 (spIsBoxed K C) g1 d1)
    (WA : Def P w K mg base "alone_fault" ["task", "alone"] 5 (spAloneF K C) g2 d2) (WAF : Def P w K mg base "answers_fault" ["task", "hand", "alone", "answers"] 2 (spAnsF K C) g3 d3) : FnOk P w K mg base CX0 7 f fd ["task", "thing"] (spBoxF K C) := by
  refine F.ok sc_boxf (fun vs H Q E h => ?_) (fun cdv A outer s H vs Q E hr h => ?_)
  · obtain ⟨p, t, D, ch, an, al, ans, e0, e1, rfl, _⟩ := h
    rfl
  obtain ⟨p, t, D, ch, an, al, ans, e0, e1, rfl, hW, hTk, B, q0⟩ := h
  obtain ⟨hT, mH, hH⟩ := U.hands
  have nd := sc_boxf.nd
  refine ⟨_, (pss_cons (ps_if (pt_not (pt_val (pe_call WIB.G (hr.mono (by decide)) rfl WIB.m WIB.k WIB.b .nil pass0 (pa_cons (pv 0) (pa_cons (pv 1) pa_nil)))))
      (pss_one (ps_ret (pe_tup (pa_cons pe_str pa_nil))))
      pss_nil)
    (pss_cons (ps_asg (pv 1) (pg_tup (by rfl) (pgs_cons (pg_name (i := 2) nd rfl (Or.inl rfl)) (pgs_cons (pg_name (i := 3) nd rfl (Or.inl rfl)) pgs_nil))))
    (pss_cons (ps_set (i := 4) nd rfl (Or.inl rfl) (pe_call WA.G (hr.mono (by decide)) rfl WA.m WA.k WA.b .nil pass0 (pa_cons (pv 0) (pa_cons (pv 2) pa_nil))))
    (pss_cons (ps_for PassesOwn.never (by rfl) (pi_tup (pe_glob (v := .ref hT) rfl mH rfl)) (pg_name (i := 5) nd rfl (Or.inl rfl))
      (pss_one (ps_if (pt_cmpR op_isN (pv 4) pe_non (nomark _))
      (pss_one (ps_set (i := 4) nd rfl (Or.inl rfl) (pe_call WAF.G (hr.mono (by decide)) rfl WAF.m WAF.k WAF.b .nil pass0 (pa_cons (pv 0) (pa_cons (pv 5) (pa_cons (pv 2) (pa_cons (pe_ix ix_list (pv 3) (pv 5) (fun _ _ => rfl)) pa_nil)))))))
      pss_nil)))
    (pss_one (ps_ret (pv 4))))))), ?_⟩
  refine ⟨_, rfl, _, rfl, p, t, D, ch, an, al, ans, e0, e1, rfl, hW, B, fun H1 s1 => ⟨true, rfl, iteF ?_⟩⟩
  have B1 := B.mono s1
  refine ⟨_, rfl, t, _, rfl, SqT.of B1.ht, rfl, _, _, rfl, _, _, rfl, rfl, ?_⟩
  refine ⟨_, rfl, _, rfl, p, _, D, ch, rfl, hTk.mono s1, hW, B1.hal, B.len, fun fv H2 s2 hres => ?_⟩
  have B2 := B1.mono s2
  have s12 := s1.trans s2
  refine ⟨hT, rfl, ⟨_, hH _⟩, for_tup (xs := [V.int 0, V.int 1]) (fun i σ H' => ∃ fv g, σ = [some (.ref p), some (.ref t), some (.ref al), some (.ref ans), some fv, g] ∧ Same H2 H' ∧ Res fv H' ((∀ h a, h < 2 → a < (D.al h).length → okA D ch h a) ∧ ∀ h, h < i → ∀ e ∈ D.bo, okAns ch an h e)) ⟨fv, _, rfl, Same.refl _, ?_⟩ (fun i σ H' _ _ => hH H') ?_ ?_⟩
  · rcases hres with ⟨rfl, g⟩ | ⟨r, h, a, rfl, e, hh, ha, c, _⟩
    · exact .inl ⟨rfl, g, fun h hh => absurd hh (Nat.not_lt_zero _)⟩
    · exact .inr ⟨⟨r, _, rfl, e⟩, fun g => c (g.1 h a hh ha)⟩
  · rintro i z σ H' hz ⟨fv, g, rfl, s3, hres⟩
    obtain ⟨hi, rfl⟩ := hand_at hz
    have B3 := B2.mono s3
    refine ⟨_, rfl, rfl, _, rfl, ?_⟩
    rcases hres with ⟨rfl, g1, g2⟩ | ⟨⟨r, xs, rfl, e⟩, c⟩
    case inr =>
      refine iteF ⟨_, _, rfl, s3, .inr ⟨⟨r, xs, rfl, e⟩, fun g => c ⟨g.1, fun h hh => g.2 h (by omega)⟩⟩⟩
    refine iteT ?_
    obtain ⟨d, hd1, hd2⟩ : ∃ d, ([V.ref e0, V.ref e1] : List V)[i]? = some (.ref d) ∧ H' d = some (.dT (anKV an i D.bo)) := by
      obtain rfl | rfl : i = 0 ∨ i = 1 := by omega
      · exact ⟨e0, rfl, B3.h0⟩
      · exact ⟨e1, rfl, B3.h1⟩
    refine ⟨_, rfl, _, rfl, _, rfl, _, rfl, _, rfl, ans, _, _, _, rfl, rfl, SqL.of B3.hans, atI_nat hd1, p, d, i, _, D, ch, an, rfl, hi, ((hTk.mono s1).mono s2).mono s3, hW, B3.hal, B.len, hd2, fun fv H4 s4 hr4 => ?_⟩
    refine ⟨_, _, rfl, s3.trans s4, ?_⟩
    rcases hr4 with ⟨rfl, g3⟩ | ⟨h5, c⟩
    · refine .inl ⟨rfl, g1, fun h hh => ?_⟩
      rcases Nat.lt_succ_iff_lt_or_eq.mp hh with h' | rfl
      · exact g2 h h'
      · exact g3
    · exact .inr ⟨h5, fun g => c (g.2 i (Nat.lt_succ_self _))⟩
  · rintro σ H' ⟨fv, g, rfl, s3, hres⟩
    exact ⟨_, rfl, q0 fv H' (s12.trans s3) hres⟩
end
end TA

set_option Elab.async false
set_option maxRecDepth 100000
set_option maxHeartbeats 4000000
namespace TA
open PySem L2 PyProof.Rows
set_option linter.unusedVariables false
def WellAt (H : Hp) (a : Addr) (n : Int) : Prop := ∃ x y z : Int, H a = some (.lst [.int x, .int y, .int z]) ∧ 0 ≤ x ∧ 0 ≤ y ∧ y < 2147483647 ∧ 0 ≤ z ∧ z ≤ n
theorem WellAt.same {H H' : Hp} {a : Addr} {n : Int} (s : Same H H') (w : WellAt H a n) : WellAt H' a n := by
  obtain ⟨x, y, z, h, r⟩ := w
  exact ⟨x, y, z, s _ _ h, r⟩
theorem join3 {b : Bool} {X : Prop} {R : L2.St → Hp → Prop} {σ : L2.St} {H : Hp} (Iv : L2.St → Hp → Prop) (h0 : b = false → Iv σ H) (k : ∀ σ Hc, Iv σ Hc → R σ Hc) (h1 : b = true → (∀ σ Hc, Iv σ Hc → R σ Hc) → X) : if b = true then X else R σ H := by
  cases b with
  | false => exact iteF (k σ H (h0 rfl))
  | true => exact iteT (h1 rfl k)
def spCell (K : PySem.W.Frag) : Sp := fun vs H Q _ => ∃ (a : Addr) (ns : List Int) (k : Int), vs = [.ref a, .int k] ∧ SqL K H a (ns.map V.int) ∧ ns.length ≤ 1000 ∧ 0 ≤ k ∧ ∀ c : Int, Q (.int c) H
def spDigit : Sp := fun vs H Q _ => ∃ (a : Addr) (n m : Int), vs = [.ref a, .int m] ∧ ((∃ x : Int, H a = some (.lst [.int x])) ∨ WellAt H a n) ∧ 0 ≤ n ∧ n < 999999 ∧ 0 < m ∧ m < 1000 ∧ ∀ (r : Int) (H' : Hp), 0 ≤ r → r < m → But a H H' → WellAt H' a (n + 1) → Q (.int r) H'
theorem WellAt.but {H H' : Hp} {a d : Addr} {n : Int} (w : WellAt H a n) (ne : a ≠ d) (s : But d H H') : WellAt H' a n := by
  obtain ⟨x, y, z, h, r⟩ := w
  exact ⟨x, y, z, s _ _ ne h, r⟩
theorem WellAt.up {H : Hp} {a : Addr} {n m : Int} (w : WellAt H a n) (h : n ≤ m) : WellAt H a m := by
  obtain ⟨x, y, z, h0, a1, a2, a3, a4, a5⟩ := w
  exact ⟨x, y, z, h0, a1, a2, a3, a4, by omega⟩
theorem WellAt.ne {H : Hp} {a b : Addr} {n : Int} (w : WellAt H a n) (h : H b = none) : a ≠ b := by
  obtain ⟨x, y, z, h0, _⟩ := w
  exact ne_of_none h0 h
/-- a well that is drawn from, or not yet -/
def Dr (H : Hp) (a : Addr) (n : Int) : Prop := (∃ x : Int, H a = some (.lst [.int x])) ∨ WellAt H a n
def spFew : Sp := fun vs H Q _ => ∃ (a : Addr) (n g m : Int), vs = [.ref a, .int g, .int m] ∧ Dr H a n ∧ 0 ≤ n ∧ n < 999900 ∧ 0 < g ∧ g < 64 ∧ 0 < m ∧ m ≤ 4 ∧
  ∀ (p : Addr) (ns : List Int) (H' : Hp), But a H H' → H p = none → H' p = some (.lst (ns.map V.int)) → WellAt H' a (n + 5) → 1 ≤ ns.length → ns.length ≤ 4 → ns.Pairwise (· < ·) → (∀ x ∈ ns, 0 ≤ x ∧ x < g) → Q (.ref p) H'
section
variable {P : Program} {w : World} {K : PySem.W.Frag} {mg : Str → Option Value} {base : Heap}
theorem scCell : FnScope ["_law_script", "_law_k"] ["_law_script", "_law_k"] (defScope sCell) := ⟨rfl, rfl, rfl, by decide +kernel, rfl, by decide +kernel, by decide +kernel⟩
theorem ok_cell {f : Addr} {fd : FuncData} (F : Fun K "_law_cell_at" "_law_cell_at" sCell f fd) (T : Txt K mg) : FnOk P w K mg base CX0 1 f fd ["_law_script", "_law_k"] (spCell K) := by
  refine F.ok scCell (fun vs H Q E h => ?_) (fun cdv A outer s H vs Q E hr h => ?_)
  · obtain ⟨a, ns, k, rfl, _⟩ := h
    rfl
  obtain ⟨a, ns, k, rfl, hS, hn, hk, q⟩ := h
  refine ⟨_, pss_cons (ps_if (pt_cmpR op_lt (pv 1) (pe_callB call_len_seq (by rfl) T.len PySem.boot_len (pa_cons (pv 0) pa_nil)) (nomark _)) (pss_one (ps_ret (pe_ix ix_list (pv 0) (pv 1) (fun _ _ => rfl)))) pss_nil)
    (pss_one (ps_ret pe_int)), ?_⟩
  refine ⟨_, rfl, _, rfl, a, _, rfl, .inl hS, _, _, rfl, rfl, _, rfl, ?_⟩
  refine ite2 (fun c => ?_) (fun c => ?_)
  · have c' : k < (((ns.map V.int).length : Nat) : Int) := of_decide_eq_true c
    rw [List.length_map] at c'
    have hk' : k.toNat < ns.length := by omega
    have ek : k = ((k.toNat : Nat) : Int) := by omega
    have g : atI (ns.map V.int) ((k.toNat : Nat) : Int) = some (.int ns[k.toNat]) := atI_nat (by rw [List.getElem?_map, List.getElem?_eq_getElem hk'] <;> rfl)
    rw [← ek] at g
    exact ⟨_, rfl, _, rfl, a, _, _, _, rfl, rfl, hS, g, q _⟩
  · exact q 0
theorem scDigit : FnScope ["_law_state", "_law_base", "_law_cell", "_law_found", "_law_number"] ["_law_state", "_law_base"] (defScope s__law_digit) := ⟨rfl, rfl, rfl, by decide +kernel, rfl, by decide +kernel, by decide +kernel⟩
theorem ok_digit {f : Addr} {fd : FuncData} (F : Fun K "_law_digit" "_law_digit" s__law_digit f fd) (T : Txt K mg) : FnOk P w K mg base CX0 1 f fd ["_law_state", "_law_base"] spDigit := by
  refine F.ok scDigit (fun vs H Q E h => ?_) (fun cdv A outer s H vs Q E hr h => ?_)
  · obtain ⟨a, n, m, rfl, _⟩ := h
    rfl
  obtain ⟨a, n, m, rfl, hst, hn0, hn, hm, hm2, q⟩ := h
  have nd := scDigit.nd
  have ix : ∀ {X : Cx} {e1 e2 : Expr} {t1 t2 : TE} {p : Pos}, PE X e1 t1 → PE X e2 t2 → PlainIx e2 → PE X (.Subscript e1 e2 p) (tOp (rIxL X.K) t1 t2) := fun h1 h2 h3 => pe_ix ix_list h1 h2 h3
  refine ⟨_, pss_cons (ps_if (pt_cmpR op_eq (pe_callB call_len_seq (by rfl) T.len PySem.boot_len (pa_cons (pv 0) pa_nil)) pe_int (nomark _))
      (pss_cons (ps_set (i := 2) nd rfl (Or.inl rfl) (pe_ix ix_list (pv 0) pe_int (fun _ _ => rfl)))
      (pss_cons (ps_asg (pe_ix ix_list (pe_lst (pa_cons pe_int (pa_cons (pv 2) pa_nil))) (pe_callTy call_int1 (by rfl) T.int boot_int (pa_cons (pe_cmpR op_ge (pv 2) (pe_op op_pow pe_int pe_int) (nomark _)) pa_nil)) (fun _ _ => rfl)) (pg_sub (pv 0) pe_int set_list))
      (pss_one (ps_expr (pe_bm PySem.F.plainAttrs_list PySem.F.slot_list_extend PySem.F.type_list_extend mt_extend (pv 0) (pa_cons (pe_lst (pa_cons (pe_op op_mod (pv 2) pe_int) (pa_cons pe_int pa_nil))) pa_nil)))))) pss_nil)
    (pss_cons (ps_if (pt_cmpR op_gt (pe_ix ix_list (pv 0) pe_int (fun _ _ => rfl)) pe_int (nomark _))
      (pss_cons (ps_set (i := 3) nd rfl (Or.inl rfl) (pe_op op_mod (pe_ix ix_list (pv 0) pe_int (fun _ _ => rfl)) (pv 1)))
      (pss_cons (ps_asg (pe_op op_fdiv (pe_ix ix_list (pv 0) pe_int (fun _ _ => rfl)) (pv 1)) (pg_sub (pv 0) pe_int set_list))
      (pss_one (ps_ret (pv 3))))) pss_nil)
    (pss_cons (ps_asg (pe_op op_add (pe_ix ix_list (pv 0) pe_int (fun _ _ => rfl)) pe_int) (pg_sub (pv 0) pe_int set_list))
    (pss_cons (ps_set (i := 4) nd rfl (Or.inl rfl) (pe_op op_mod (pe_op op_mul (pe_op op_add (pe_op op_add (pe_ix ix_list (pv 0) pe_int (fun _ _ => rfl)) (pe_op op_mul pe_int (pe_ix ix_list (pv 0) pe_int (fun _ _ => rfl)))) pe_int) pe_int) pe_int))
    (pss_cons (ps_set (i := 4) nd rfl (Or.inl rfl) (pe_op op_mod (pe_op op_mul (pv 4) (pe_op op_add (pe_op op_fdiv (pv 4) pe_int) pe_int)) pe_int))
    (pss_one (ps_ret (pe_op op_mod (pe_op op_mod (pe_op op_mul (pv 4) (pe_op op_add (pe_op op_fdiv (pv 4) pe_int) pe_int)) pe_int) (pv 1)))))))), ?_⟩
  obtain ⟨xs, hxs, hlen⟩ : ∃ xs, H a = some (.lst xs) ∧ ((xs.length = 1 ∧ ∃ x : Int, xs = [.int x]) ∨ (xs.length = 3 ∧ WellAt H a n)) := by
    rcases hst with ⟨x, h⟩ | ⟨x, y, z, h, r⟩
    · exact ⟨_, h, .inl ⟨rfl, x, rfl⟩⟩
    · exact ⟨_, h, .inr ⟨rfl, x, y, z, h, r⟩⟩
  refine ⟨_, rfl, a, xs, rfl, .inl (SqL.of hxs), rfl, _, rfl, ?_⟩
  refine join3 (fun σ Hc => ∃ g, σ = [some (.ref a), some (.int m), g, none, none] ∧ But a H Hc ∧ WellAt Hc a n) ?_ ?_ ?_
  · intro hb
    rcases hlen with ⟨h1, _⟩ | ⟨_, hw⟩
    · rw [h1] at hb
      cases hb
    · exact ⟨none, rfl, fun b o _ e => e, hw⟩
  · rintro σ Hc ⟨g, rfl, b, x, y, z, hL, hx, hy, hy2, hz, hz2⟩
    refine ⟨_, rfl, a, _, _, _, rfl, rfl, SqL.of hL, rfl, _, _, rfl, rfl, _, rfl, ?_⟩
    refine ite2 (fun c => ?_) (fun c => ?_)
    · refine ⟨_, rfl, a, _, _, _, rfl, rfl, SqL.of hL, rfl, _, rfl, _, _, rfl, rfl, hm, ?_⟩
      refine ⟨_, rfl, a, _, _, _, rfl, rfl, SqL.of hL, rfl, _, rfl, _, _, rfl, rfl, ⟨hm, by omega⟩, ?_⟩
      refine ⟨_, rfl, a, _, _, 0, rfl, rfl, hL, rfl, _, rfl, ?_⟩
      exact q _ _ (Int.emod_nonneg _ (by omega)) (Int.emod_lt_of_pos _ hm) (b.trans But.at) ⟨_, y, z, upd_same, Int.ediv_nonneg hx (by omega), hy, hy2, hz, by omega⟩
    · have hL2 : (upd Hc a (.lst [.int x, .int y, .int (z + 1)])) a = some (.lst [.int x, .int y, .int (z + 1)]) := upd_same
      refine ⟨_, rfl, a, _, _, _, rfl, rfl, SqL.of hL, rfl, _, _, rfl, rfl, ?_⟩
      refine ⟨_, rfl, a, _, _, 2, rfl, rfl, hL, rfl, ?_⟩
      refine ⟨_, rfl, a, _, _, _, rfl, rfl, SqL.of hL2, rfl, _, rfl, a, _, _, _, rfl, rfl, SqL.of hL2, rfl, _, _, rfl, rfl, .inl ⟨by decide, by decide⟩, _, _, rfl, rfl, _, _, rfl, rfl, _, _, rfl, rfl, .inr ⟨by decide, by decide⟩, _, _, rfl, rfl, (by show (0 : Int) < 2147483647; decide), ?_⟩
      have n0 := Int.emod_nonneg ((y + 7919 * (z + 1) + 1) * 48271) (show (2147483647 : Int) ≠ 0 by decide)
      have n1 := Int.emod_lt_of_pos ((y + 7919 * (z + 1) + 1) * 48271) (show (0 : Int) < 2147483647 by decide)
      generalize ((y + 7919 * (z + 1) + 1) * 48271) % 2147483647 = i at n0 n1 ⊢
      refine ⟨_, rfl, _, rfl, _, _, rfl, rfl, ⟨by decide, by decide⟩, _, _, rfl, rfl, _, _, rfl, rfl, .inl ⟨by omega, by omega⟩, _, _, rfl, rfl, (by show (0 : Int) < 2147483647; decide), ?_⟩
      have k0 := Int.emod_nonneg (i * (i / 1009 + 69621)) (show (2147483647 : Int) ≠ 0 by decide)
      have k1 := Int.emod_lt_of_pos (i * (i / 1009 + 69621)) (show (0 : Int) < 2147483647 by decide)
      generalize (i * (i / 1009 + 69621)) % 2147483647 = j at k0 k1 ⊢
      refine ⟨_, rfl, _, rfl, _, _, rfl, rfl, ⟨by decide, by decide⟩, _, _, rfl, rfl, _, _, rfl, rfl, .inl ⟨by omega, by omega⟩, _, _, rfl, rfl, (by show (0 : Int) < 2147483399; decide), _, rfl, _, _, rfl, rfl, hm, ?_⟩
      exact q _ _ (Int.emod_nonneg _ (by omega)) (Int.emod_lt_of_pos _ hm) (b.trans But.at) ⟨x, y, z + 1, upd_same, hx, hy, hy2, by omega, by omega⟩
  · intro hb k
    obtain ⟨x, rfl⟩ : ∃ x : Int, xs = [.int x] := by
      rcases hlen with ⟨_, h⟩ | ⟨h3, _⟩
      · exact h
      · rw [h3] at hb
        cases hb
    refine ⟨_, rfl, a, _, _, _, rfl, rfl, SqL.of hxs, rfl, ?_⟩
    refine ⟨_, rfl, (by show 2 ≤ sizeLine; decide), fun l hl => ?_⟩
    have s1 := same_new hl (.lst [V.int 0, V.int x])
    refine ⟨_, rfl, _, _, rfl, rfl, ⟨by decide, by decide, by decide⟩, _, _, rfl, rfl, .inr ⟨_, rfl, ?_⟩⟩
    obtain ⟨y, hy, y0⟩ : ∃ y : Int, atI [V.int 0, V.int x] (if decide (x ≥ 10 ^ (18 : Int).toNat) = true then 1 else 0) = some (.int y) ∧ 0 ≤ y := by
      by_cases c : x ≥ 10 ^ (18 : Int).toNat
      · rw [decide_eq_true c]
        have : (0 : Int) ≤ 10 ^ (18 : Int).toNat := by decide
        exact ⟨x, rfl, by omega⟩
      · rw [decide_eq_false c]
        exact ⟨0, rfl, Int.le_refl 0⟩
    refine ⟨l, _, _, _, rfl, rfl, SqL.of upd_same, hy, _, rfl, a, [.int x], _, 0, rfl, rfl, s1 _ _ hxs, rfl, ?_⟩
    have hL : (upd (upd H l (.lst [V.int 0, V.int x])) a (.lst ([V.int x].set 0 (.int y)))) a = some (.lst [.int y]) := upd_same
    refine ⟨_, rfl, .inl ⟨rfl, _, SqL.of hL⟩, _, rfl, _, _, rfl, rfl, (by show (0 : Int) < 2147483647; decide), (by show 2 ≤ sizeLine; decide), fun l2 hl2 => ?_⟩
    have nl : a ≠ l2 := ne_of_none hL hl2
    refine ⟨a, l2, [.int y], _, rfl, rfl, (by rw [upd_ne nl]; exact hL), upd_same, (by show 3 ≤ sizeLine; decide), ?_⟩
    refine k _ _ ⟨_, rfl, ?_, y, x % 2147483647, 0, upd_same, y0, Int.emod_nonneg _ (by decide), Int.emod_lt_of_pos _ (by decide), Int.le_refl 0, hn0⟩
    exact (((But.same s1).trans But.at).trans (But.same (same_new hl2 _))).trans But.at
abbrev nFew : List Str := ["_law_state", "_law_great", "_law_most", "_law_k"]
theorem sc_few : FnScope nFew ["_law_state", "_law_great", "_law_most"] (defScope s__law_few) := ⟨rfl, rfl, rfl, by decide +kernel, rfl, by decide +kernel, by decide +kernel⟩
theorem ok_few {f g1 : Addr} {fd d1 : FuncData} (F : Fun K "_law_few" "_law_few" s__law_few f fd) (T : Txt K mg) (T2 : Txt2 K mg) (Dg : Def P w K mg base "_law_digit" ["_law_state", "_law_base"] 1 spDigit g1 d1) : FnOk P w K mg base CX0 2 f fd ["_law_state", "_law_great", "_law_most"] spFew := by
  refine F.ok sc_few (fun vs H Q E h => ?_) (fun cdv A outer s H vs Q E hr h => ?_)
  · obtain ⟨a, n, g, m, rfl, _⟩ := h
    rfl
  obtain ⟨a, n, g, m, rfl, hD, hn0, hn, hg0, hg, hm0, hm, q⟩ := h
  have nd := sc_few.nd
  refine ⟨_, (pss_one (ps_ret (pe_callB (cr_sortedSet rfl) (by rfl) T2.sorted (by decide +kernel) (pa_cons (pe_callTy (cr_setOfI rfl) (by rfl) T2.set (by decide +kernel) (pa_cons (pe_lc (own := [("_law_k", 3)]) (g := (gName 3)) (tt := tYes) (te := (tCall spDigit [] E0 (tCons (tVar 0) (tCons (tVar 1) tNil)))) rfl nd (pi_range1 (by rfl) T.range (pa_cons (pe_op op_add pe_int (pe_call Dg.G (hr.mono (by decide)) rfl Dg.m Dg.k Dg.b .nil pass0 (pa_cons (pv 0) (pa_cons (pv 2) pa_nil)))) pa_nil)) (blkOk_by (N := nFew) (sc := defScope s__law_few) (by decide +kernel)) (fun _ _ _ _ _ => (by exact (pg_name (i := 3) nd rfl (Or.inl rfl)))) (fun _ _ _ _ _ => pts_nil) (fun _ _ _ _ _ => (by exact (pe_call Dg.G (hr.mono (by decide)) rfl Dg.m Dg.k Dg.b .nil pass0 (pa_cons (pv 0) (pa_cons (pv 1) pa_nil)))))) pa_nil)) pa_nil)))), ?_⟩
  refine ⟨_, rfl, _, rfl, a, n, m, rfl, hD, hn0, by omega, hm0, by omega, fun r H1 r0 r1 b1 w1 => ?_⟩
  refine ⟨_, _, rfl, rfl, 1 + r, rfl, by omega, by omega, fun D hD1 => ?_⟩
  have haD : a ≠ D := w1.ne hD1
  have s1 := same_new hD1 (.lst [])
  refine range_turns (n := (1 + r).toNat) (fun i H' => But a H1 H' ∧ WellAt H' a (n + 1 + (i : Int)) ∧ ∃ ns : List Int, H' D = some (.lst (ns.map V.int)) ∧ ns.length = i ∧ ∀ x ∈ ns, 0 ≤ x ∧ x < g) ⟨.same s1, ?_, [], upd_same, rfl, fun x hx => by cases hx⟩ ?_ ?_
  · have := w1.same s1
    simpa using this
  · rintro i H' hi ⟨b2, w2, ns, h2, hl, hb⟩
    refine ⟨rfl, _, rfl, _, rfl, a, n + 1 + (i : Int), g, rfl, .inr w2, by omega, by omega, hg0, by omega, fun x H3 x0 x1 b3 w3 => ?_⟩
    have h3 := b3 _ _ (Ne.symm haD) h2
    refine ⟨_, h3, ?_, (b2.trans b3).new hD1, ?_, ns ++ [x], by rw [upd_same, List.map_append]; rfl, by rw [List.length_append, hl]; rfl, fun y hy => ?_⟩
    · rw [List.length_map, hl]
      exact Nat.lt_of_lt_of_le (show i < 100 by omega) (by decide)
    · have := w3.but haD But.at (H' := upd H3 D (.lst (ns.map V.int ++ [V.int x])))
      rw [show n + 1 + ((i + 1 : Nat) : Int) = n + 1 + (i : Int) + 1 by omega]
      exact this
    · rcases List.mem_append.mp hy with hy | hy
      · exact hb y hy
      · obtain rfl := List.mem_singleton.mp hy
        exact ⟨x0, x1⟩
  · rintro H2 ⟨b2, w2, ns, h2, hl, hb⟩
    refine ⟨D, ns, rfl, SqL.of h2, by omega, fun c k hc hk => ?_⟩
    have s3 := same_new hc (SetO w c (fun j => decide (j ∈ ns)) k)
    refine ⟨c, _, k, rfl, upd_same, by omega, fun ms p hs hmem hlm hp => ?_⟩
    have s4 := same_new hp (.lst (ms.map V.int))
    have bAll := ((b1.trans b2).trans (.same s3)).trans (.same s4)
    have hpn : H p = none := none_of_but ((b1.trans b2).trans (.same s3)) (Ne.symm ((w2.same s3).ne hp)) hp
    refine q p ms _ bAll hpn upd_same (((w2.same s3).same s4).up (by omega)) ?_ (by omega) hs (fun x hx => hb x (of_decide_eq_true ((hmem x).mp hx)))
    rcases ms with _ | ⟨x, ms⟩
    · have : ns ≠ [] := by
        intro e
        rw [e] at hl
        simp at hl
        omega
      obtain ⟨y, hy⟩ := List.exists_mem_of_ne_nil _ this
      have := (hmem y).mpr (decide_eq_true hy)
      cases this
    · exact Nat.succ_le_succ (Nat.zero_le _)
end
end TA

set_option Elab.async false
set_option maxRecDepth 100000
set_option maxHeartbeats 4000000
namespace TA
open PySem L2 PyProof.Rows
set_option linter.unusedVariables false
theorem TpAt.but {H H' : Hp} {d : Addr} {zs : List V} (e : H d = some (.lst zs)) (s : But d H H') {v : V} {p : Int × Int} (h : TpAt H v p) : TpAt H' v p := by
  obtain ⟨t, rfl, h⟩ := h
  exact ⟨t, rfl, s _ _ (ne_of h e (fun z => by cases z)) h⟩
theorem WellAt.lst {H : Hp} {a : Addr} {n : Int} (w : WellAt H a n) : ∃ zs, H a = some (.lst zs) := by
  obtain ⟨x, y, z, h0, _⟩ := w
  exact ⟨_, h0⟩
theorem Dr.lst {H : Hp} {a : Addr} {n : Int} (w : Dr H a n) : ∃ zs, H a = some (.lst zs) := by
  rcases w with ⟨x, h⟩ | w
  · exact ⟨_, h⟩
  · exact w.lst
/-- pairs below g, so many at most, sorted -/
def okL (g : Int) (l : List (Int × Int)) : Prop := 1 ≤ l.length ∧ l.length ≤ 40 ∧ l.Pairwise ltP ∧ ∀ p ∈ l, (0 ≤ p.1 ∧ p.1 < g) ∧ (0 ≤ p.2 ∧ p.2 < g)
def spOuts2 : Sp := fun vs H Q _ => ∃ (a : Addr) (n g : Int), vs = [.ref a, .int g] ∧ Dr H a n ∧ 0 ≤ n ∧ n < 999900 ∧ 2 ≤ g ∧ g ≤ 8 ∧
  ∀ (p : Addr) (xs : List V) (l : List (Int × Int)) (H' : Hp), But a H H' → H p = none → H' p = some (.lst xs) → A2 (TpAt H') xs l → WellAt H' a (n + 15) → okL g l → Q (.ref p) H'
theorem tp_ks {H : Hp} : ∀ {xs : List V} {l : List (Int × Int)}, A2 (TpAt H) xs l → ∃ ks : List (Addr × List Int), xs = ks.map (fun p => V.ref p.1) ∧ ks.map (·.2) = l.map (fun p => [p.1, p.2]) ∧ ∀ p ∈ ks, H p.1 = some (.tup (p.2.map V.int))
  | _, _, .nil => ⟨[], rfl, rfl, fun p hp => by cases hp⟩
  | _, _, .cons (y := y) ⟨t, ex, h⟩ r => by
    obtain ⟨ks, e1, e2, e3⟩ := tp_ks r
    refine ⟨(t, [y.1, y.2]) :: ks, by rw [List.map_cons, ex, e1], by rw [List.map_cons, List.map_cons, e2], fun p hp => ?_⟩
    rcases List.mem_cons.mp hp with rfl | hp
    · exact h
    · exact e3 p hp
theorem A2.app {α β : Type} {R : α → β → Prop} : ∀ {xs xs' : List α} {ys ys' : List β}, A2 R xs ys → A2 R xs' ys' → A2 R (xs ++ xs') (ys ++ ys')
  | _, _, _, _, .nil, h => h
  | _, _, _, _, .cons a b, h => .cons a (b.app h)
theorem nodup_le {α : Type} [DecidableEq α] : ∀ {xs ys : List α}, xs.Nodup → (∀ x ∈ xs, x ∈ ys) → xs.length ≤ ys.length
  | [], _, _, _ => Nat.zero_le _
  | x :: xs, ys, h, s => by
    have hx := s x List.mem_cons_self
    obtain ⟨h1, h2⟩ := List.nodup_cons.mp h
    have r := nodup_le (xs := xs) (ys := ys.erase x) h2 fun y hy => by
      have ne : y ≠ x := fun e => h1 (e ▸ hy)
      exact (List.mem_erase_of_ne ne).mpr (s y (List.mem_cons_of_mem _ hy))
    rw [List.length_erase_of_mem hx] at r
    have : 0 < ys.length := List.length_pos_of_mem hx
    rw [List.length_cons]
    omega
def toP (q : Addr × List Int) : Int × Int := (q.2.getD 0 0, q.2.getD 1 0)
section
variable {P : Program} {w : World} {K : PySem.W.Frag} {mg : Str → Option Value} {base : Heap}
abbrev nOuts : List Str := ["_law_state", "_law_great", "_law_way", "_law_close", "_law_x", "_law_y", "_law_k"]
theorem sc_outs : FnScope nOuts ["_law_state", "_law_great"] (defScope s__law_outs) := ⟨rfl, rfl, rfl, by decide +kernel, rfl, by decide +kernel, by decide +kernel⟩
theorem ok_outs2 {f g1 : Addr} {fd d1 : FuncData} (F : Fun K "_law_outs" "_law_outs" s__law_outs f fd) (T : Txt K mg) (T2 : Txt2 K mg) (Dg : Def P w K mg base "_law_digit" ["_law_state", "_law_base"] 1 spDigit g1 d1) : FnOk P w K mg base CX0 2 f fd ["_law_state", "_law_great"] spOuts2 := by
  refine F.ok sc_outs (fun vs H Q E h => ?_) (fun cdv A outer s H vs Q E hr h => ?_)
  · obtain ⟨a, n, g, rfl, _⟩ := h
    rfl
  obtain ⟨a, n, g, rfl, hD, hn0, hn, hg0, hg, q⟩ := h
  have nd := sc_outs.nd
  have hu64 : (A.deeper (envOfC "_law_outs" (defScope s__law_outs) s.heap.objs.size f cdv)).units + 64 < cLine := by have := hr.un; omega
  refine ⟨_, (pss_cons (ps_set (i := 2) nd rfl (Or.inl rfl) (pe_call Dg.G (hr.mono (by decide)) rfl Dg.m Dg.k Dg.b .nil pass0 (pa_cons (pv 0) (pa_cons pe_int pa_nil))))
    (pss_cons (ps_if (pt_cmpR op_eq (pv 2) pe_int (nomark _))
      (pss_cons (ps_set (i := 3) nd rfl (Or.inl rfl) (pe_lst pa_nil))
    (pss_cons (ps_for PassesOwn.never (by rfl) (pi_range1 (by rfl) T.range (pa_cons (pv 1) pa_nil)) (pg_name (i := 4) nd rfl (Or.inr rfl))
      (pss_one (ps_set (i := 3) nd rfl (Or.inl rfl) (pe_op op_cat (pv 3) (pe_lc (own := [("_law_y", 5)]) (g := (gName 5)) (tt := tYes) (te := (tTup (tCons (tVar 4) (tCons (tVar 5) tNil)))) rfl nd (pi_range2 (by rfl) T.range (pa_cons (pe_callB (call_max2 rfl) (by rfl) T2.max (by decide +kernel) (pa_cons pe_int (pa_cons (pe_op op_sub (pv 4) pe_int) pa_nil))) (pa_cons (pe_callB (call_min2 rfl) (by rfl) T.min (by decide +kernel) (pa_cons (pv 1) (pa_cons (pe_op op_add (pv 4) pe_int) pa_nil))) pa_nil))) (blkOk_by (N := nOuts) (sc := defScope s__law_outs) (by decide +kernel)) (fun _ _ _ _ _ => (by exact (pg_name (i := 5) nd rfl (Or.inl rfl)))) (fun _ _ _ _ _ => pts_nil) (fun _ _ _ _ _ => (by exact (pe_tup (pa_cons (pv 4) (pa_cons (pv 5) pa_nil))))))))))
    (pss_one (ps_ret (pv 3)))))
      pss_nil)
    (pss_cons (ps_if (pt_cmpR op_eq (pv 2) pe_int (nomark _))
      (pss_one (ps_ret (pe_lc (own := [("_law_x", 4)]) (g := (gName 4)) (tt := tYes) (te := (tTup (tCons (tVar 4) (tCons (tVar 4) tNil)))) rfl nd (pi_range1 (by rfl) T.range (pa_cons (pv 1) pa_nil)) (blkOk_by (N := nOuts) (sc := defScope s__law_outs) (by decide +kernel)) (fun _ _ _ _ _ => (by exact (pg_name (i := 4) nd rfl (Or.inl rfl)))) (fun _ _ _ _ _ => pts_nil) (fun _ _ _ _ _ => (by exact (pe_tup (pa_cons (pv 4) (pa_cons (pv 4) pa_nil))))))))
      pss_nil)
    (pss_one (ps_ret (pe_callB (cr_sortedT rfl) (by rfl) T2.sorted (by decide +kernel) (pa_cons (pe_callTy (cr_setOfT rfl hu64) (by rfl) T2.set (by decide +kernel) (pa_cons (pe_lc (own := [("_law_k", 6)]) (g := (gName 6)) (tt := tYes) (te := (tTup (tCons (tCall spDigit [] E0 (tCons (tVar 0) (tCons (tVar 1) tNil))) (tCons (tCall spDigit [] E0 (tCons (tVar 0) (tCons (tVar 1) tNil))) tNil)))) rfl nd (pi_range1 (by rfl) T.range (pa_cons (pe_op op_add pe_int (pe_call Dg.G (hr.mono (by decide)) rfl Dg.m Dg.k Dg.b .nil pass0 (pa_cons (pv 0) (pa_cons pe_int pa_nil)))) pa_nil)) (blkOk_by (N := nOuts) (sc := defScope s__law_outs) (by decide +kernel)) (fun _ _ _ _ _ => (by exact (pg_name (i := 6) nd rfl (Or.inl rfl)))) (fun _ _ _ _ _ => pts_nil) (fun _ _ _ _ _ => (by exact (pe_tup (pa_cons (pe_call Dg.G (hr.mono (by decide)) rfl Dg.m Dg.k Dg.b .nil pass0 (pa_cons (pv 0) (pa_cons (pv 1) pa_nil))) (pa_cons (pe_call Dg.G (hr.mono (by decide)) rfl Dg.m Dg.k Dg.b .nil pass0 (pa_cons (pv 0) (pa_cons (pv 1) pa_nil))) pa_nil)))))) pa_nil)) pa_nil))))))), ?_⟩
  refine ⟨_, rfl, a, n, 4, rfl, hD, hn0, by omega, by decide, by decide, fun r H1 r0 r1 b1 w1 => ?_⟩
  refine ⟨_, rfl, rfl, _, rfl, ?_⟩
  refine ite2 (fun c => ?_) (fun c => ?_)
  · clear c
    refine ⟨(by show 0 ≤ sizeLine; decide), fun c0 hc0 => ?_⟩
    have s1 := same_new hc0 (.lst [])
    have hc0n : H c0 = none := none_of_but b1 (Ne.symm (w1.ne hc0)) hc0
    refine ⟨_, rfl, g, rfl, by omega, by omega, for_range (n := g.toNat) (fun i σ H' => ∃ g4 g5 g6 cl xs l, σ = [some (.ref a), some (.int g), some (.int r), some (.ref cl), g4, g5, g6] ∧ Same H1 H' ∧ H1 cl = none ∧ H' cl = some (.lst xs) ∧ A2 (TpAt H') xs l ∧ i ≤ l.length ∧ l.length ≤ 3 * i ∧ l.Pairwise ltP ∧ (∀ p ∈ l, p.1 < (i : Int)) ∧ ∀ p ∈ l, (0 ≤ p.1 ∧ p.1 < g) ∧ (0 ≤ p.2 ∧ p.2 < g)) ⟨_, _, _, c0, [], [], rfl, s1, hc0, upd_same, .nil, Nat.le_refl _, Nat.le_refl _, .nil, (fun p hp => nomatch hp), (fun p hp => nomatch hp)⟩ ?_ ?_⟩
    · rintro i σ H' hi ⟨g4, g5, g6, cl, xs, l, rfl, sH, hcn, hcl, hx, hl1, hl2, hpw, hlt, hbd⟩
      have ej : (0 : Int) + (i : Int) = (i : Int) := by omega
      rw [ej]
      refine ⟨_, rfl, _, rfl, _, _, rfl, rfl, _, _, rfl, _, rfl, _, rfl, _, _, rfl, rfl, _, _, rfl, ?_⟩
      have ehi : ∃ hi' : Int, (if (i : Int) + 2 < g then (i : Int) + 2 else g) = hi' ∧ (i : Int) < hi' ∧ hi' ≤ (i : Int) + 2 ∧ hi' ≤ g := ⟨_, rfl, by split <;> omega, by split <;> omega, by split <;> omega⟩
      have elo : ∃ lo : Int, (if (i : Int) - 1 > 0 then (i : Int) - 1 else 0) = lo ∧ 0 ≤ lo ∧ lo ≤ (i : Int) ∧ (i : Int) - 1 ≤ lo := ⟨_, rfl, by split <;> omega, by split <;> omega, by split <;> omega⟩
      obtain ⟨hi', eh, h1, h2, h3⟩ := ehi
      obtain ⟨lo, el, l1, l2, l3⟩ := elo
      refine ⟨lo, hi', by rw [eh, el], ⟨by omega, by omega, by omega, by omega⟩, fun D hD => ?_⟩
      have sD := same_new hD (.lst [])
      have hclD : cl ≠ D := ne_of_none hcl hD
      refine range_turns (lo := lo) (n := (hi' - lo).toNat) (fun k H2 => Same H' H2 ∧ ∃ ys, H2 D = some (.lst ys) ∧ A2 (TpAt H2) ys ((List.range k).map fun (j : Nat) => ((i : Int), lo + (j : Int)))) ⟨sD, [], upd_same, .nil⟩ ?_ ?_
      · rintro k H2 hk ⟨s2, ys, hy, ay⟩
        refine ⟨rfl, _, rfl, _, rfl, (by show 2 ≤ sizeLine; decide), fun t ht => ?_⟩
        have s3 := same_new ht (.tup [V.int (i : Int), V.int (lo + (k : Int))])
        have hk3 : ys.length ≤ 3 := by rw [ay.len, List.length_map, List.length_range]; omega
        refine ⟨ys, s3 _ _ hy, Nat.lt_of_le_of_lt hk3 (by decide), same_upd (s2.trans s3) hD, _, upd_same, ?_⟩
        have e : (List.range (k + 1)).map (fun j : Nat => ((i : Int), lo + (j : Int))) = (List.range k).map (fun j : Nat => ((i : Int), lo + (j : Int))) ++ [((i : Int), lo + (k : Int))] := by
          rw [List.range_succ, List.map_append]; rfl
        rw [e]
        exact A2.snoc (ay.imp fun _ _ r => (r.mono (.same s3)).but (s3 _ _ hy) But.at) (TpAt.but (s3 _ _ hy) But.at ⟨t, rfl, upd_same⟩)
      · rintro H2 ⟨s2, ys, hy, ay⟩
        have hyl : ys.length = (hi' - lo).toNat := by rw [ay.len, List.length_map, List.length_range]
        have hxl := hx.len
        have hg2 : i < 8 := by omega
        refine ⟨cl, D, _, _, rfl, rfl, s2 _ _ hcl, hy, ?_, fun p hp => ?_⟩
        · exact Nat.le_trans (show xs.length + ys.length ≤ 100 by omega) (by decide)
        have s3 := same_new hp (.lst (xs ++ ys))
        have sAll := s2.trans s3
        refine ⟨_, _, _, p, xs ++ ys, l ++ (List.range (hi' - lo).toNat).map (fun j : Nat => ((i : Int), lo + (j : Int))), rfl, sH.trans sAll, none_of_same (sH.trans s2) hp, upd_same, ?_, ?_, ?_, ?_, ?_, ?_⟩
        · have a1 := hx.imp fun _ _ r => r.mono (.same sAll)
          have a2 := ay.imp fun _ _ r => r.mono (.same s3)
          exact A2.app a1 a2
        · rw [List.length_append, List.length_map, List.length_range]; omega
        · rw [List.length_append, List.length_map, List.length_range]; omega
        · refine List.pairwise_append.mpr ⟨hpw, ?_, fun p hp q hq => ?_⟩
          · rw [List.pairwise_map]
            exact List.Pairwise.imp (fun {a b} (h : a < b) => .inr ⟨rfl, by show lo + (a : Int) < lo + (b : Int); omega⟩) List.pairwise_lt_range
          · obtain ⟨j, _, rfl⟩ := List.mem_map.mp hq
            exact .inl (hlt p hp)
        · intro p hp
          rcases List.mem_append.mp hp with h | h
          · have := hlt p h; omega
          · obtain ⟨j, _, rfl⟩ := List.mem_map.mp h
            show (i : Int) < ((i + 1 : Nat) : Int)
            omega
        · intro p hp
          rcases List.mem_append.mp hp with h | h
          · exact hbd p h
          · obtain ⟨j, hj, rfl⟩ := List.mem_map.mp h
            have hj := List.mem_range.mp hj
            show (0 ≤ (i : Int) ∧ (i : Int) < g) ∧ (0 ≤ lo + (j : Int) ∧ lo + (j : Int) < g)
            omega
    · rintro σ H' ⟨g4, g5, g6, cl, xs, l, rfl, sH, hcn, hcl, hx, hl1, hl2, hpw, hlt, hbd⟩
      refine ⟨_, rfl, q cl xs l H' (b1.trans (.same sH)) (none_of_but b1 (Ne.symm (w1.ne hcn)) hcn) hcl hx ((w1.same sH).up (by omega)) ⟨by omega, by omega, hpw, hbd⟩⟩
  refine ⟨_, rfl, rfl, _, rfl, ?_⟩
  refine ite2 (fun c2 => ?_) (fun c2 => ?_)
  · clear c2
    refine ⟨_, rfl, g, rfl, by omega, by omega, fun D hD => ?_⟩
    have sD := same_new hD (.lst [])
    refine range_turns (n := g.toNat) (fun k H2 => Same H1 H2 ∧ ∃ ys, H2 D = some (.lst ys) ∧ A2 (TpAt H2) ys ((List.range k).map fun (j : Nat) => ((j : Int), (j : Int)))) ⟨sD, [], upd_same, .nil⟩ ?_ ?_
    · rintro k H2 hk ⟨s2, ys, hy, ay⟩
      have ej : (0 : Int) + (k : Int) = (k : Int) := by omega
      rw [ej]
      refine ⟨rfl, _, rfl, _, rfl, (by show 2 ≤ sizeLine; decide), fun t ht => ?_⟩
      have s3 := same_new ht (.tup [V.int (k : Int), V.int (k : Int)])
      have hk3 : ys.length ≤ 8 := by rw [ay.len, List.length_map, List.length_range]; omega
      refine ⟨ys, s3 _ _ hy, Nat.lt_of_le_of_lt hk3 (by decide), same_upd (s2.trans s3) hD, _, upd_same, ?_⟩
      have e : (List.range (k + 1)).map (fun j : Nat => ((j : Int), (j : Int))) = (List.range k).map (fun j : Nat => ((j : Int), (j : Int))) ++ [((k : Int), (k : Int))] := by
        rw [List.range_succ, List.map_append]; rfl
      rw [e]
      exact A2.snoc (ay.imp fun _ _ r => (r.mono (.same s3)).but (s3 _ _ hy) But.at) (TpAt.but (s3 _ _ hy) But.at ⟨t, rfl, upd_same⟩)
    · rintro H2 ⟨s2, ys, hy, ay⟩
      refine q D ys _ H2 (b1.trans (.same s2)) (none_of_but b1 (Ne.symm (w1.ne hD)) hD) hy ay ((w1.same s2).up (by omega)) ⟨?_, ?_, ?_, fun p hp => ?_⟩
      · rw [List.length_map, List.length_range]; omega
      · rw [List.length_map, List.length_range]; omega
      · rw [List.pairwise_map]
        exact List.Pairwise.imp (fun {a b} (h : a < b) => .inl (by show (a : Int) < (b : Int); omega)) List.pairwise_lt_range
      · obtain ⟨j, hj, rfl⟩ := List.mem_map.mp hp
        have hj := List.mem_range.mp hj
        show (0 ≤ (j : Int) ∧ (j : Int) < g) ∧ (0 ≤ (j : Int) ∧ (j : Int) < g)
        omega
  · refine ⟨_, rfl, a, n + 1, 6, rfl, .inr w1, by omega, by omega, by decide, by decide, fun r2 H2 r20 r21 b2 w2 => ?_⟩
    refine ⟨_, _, rfl, rfl, 1 + r2, rfl, by omega, by omega, fun D hD => ?_⟩
    have haD : a ≠ D := w2.ne hD
    have s1 := same_new hD (.lst [])
    refine range_turns (n := (1 + r2).toNat) (fun i H' => But a H2 H' ∧ WellAt H' a (n + 2 + 2 * (i : Int)) ∧ ∃ xs l, H' D = some (.lst xs) ∧ A2 (TpAt H') xs l ∧ l.length = i ∧ ∀ p ∈ l, (0 ≤ p.1 ∧ p.1 < g) ∧ (0 ≤ p.2 ∧ p.2 < g)) ⟨.same s1, ?_, [], [], upd_same, .nil, rfl, fun x hx => by cases hx⟩ ?_ ?_
    · have := w2.same s1
      rw [show n + 2 + 2 * ((0 : Nat) : Int) = n + 1 + 1 by omega]
      exact this
    · rintro i H' hi ⟨b3, w3, xs, l, h2, ax, hl, hb⟩
      refine ⟨rfl, _, rfl, _, rfl, a, n + 2 + 2 * (i : Int), g, rfl, .inr w3, by omega, by omega, by omega, by omega, fun x H3 x0 x1 b4 w4 => ?_⟩
      refine ⟨_, rfl, _, rfl, a, n + 2 + 2 * (i : Int) + 1, g, rfl, .inr w4, by omega, by omega, by omega, by omega, fun y H4 y0 y1 b5 w5 => ?_⟩
      refine ⟨(by show 2 ≤ sizeLine; decide), fun t ht => ?_⟩
      have s6 := same_new ht (.tup [V.int x, V.int y])
      have h4 : H4 D = some (.lst xs) := b5 _ _ (Ne.symm haD) (b4 _ _ (Ne.symm haD) h2)
      obtain ⟨z3, e3⟩ := w3.lst
      obtain ⟨z4, e4⟩ := w4.lst
      refine ⟨xs, s6 _ _ h4, ?_, (((b3.trans b4).trans b5).trans (.same s6)).new hD, ?_, _, l ++ [(x, y)], upd_same, ?_, by rw [List.length_append, hl]; rfl, fun p hp => ?_⟩
      · rw [ax.len, hl]
        exact Nat.lt_of_lt_of_le (show i < 100 by omega) (by decide)
      · rw [show n + 2 + 2 * ((i + 1 : Nat) : Int) = n + 2 + 2 * (i : Int) + 1 + 1 by omega]
        exact (w5.same s6).but haD But.at
      · exact A2.snoc (ax.imp fun _ _ r => ((((r.but e3 b4).but e4 b5).mono (.same s6)).but (s6 _ _ h4) But.at)) (TpAt.but (s6 _ _ h4) But.at ⟨t, rfl, upd_same⟩)
      · rcases List.mem_append.mp hp with h | h
        · exact hb p h
        · obtain rfl := List.mem_singleton.mp h
          exact ⟨⟨x0, x1⟩, ⟨y0, y1⟩⟩
    · rintro H3 ⟨b3, w3, xs, l, h2, ax, hl, hb⟩
      obtain ⟨ks, rfl, ek, hk⟩ := tp_ks ax
      have hkl : ks.length = l.length := by
        have := congrArg List.length ek
        rwa [List.length_map, List.length_map] at this
      have hks : ∀ p ∈ ks, ∃ x y, p.2 = [x, y] ∧ (0 ≤ x ∧ x < g) ∧ (0 ≤ y ∧ y < g) := fun p hp => by
        have : p.2 ∈ ks.map (·.2) := List.mem_map.mpr ⟨p, hp, rfl⟩
        rw [ek] at this
        obtain ⟨z, hz, e⟩ := List.mem_map.mp this
        exact ⟨z.1, z.2, e.symm, hb z hz⟩
      refine ⟨D, ks, rfl, SqL.of h2, fun p hp => SqT.of (hk p hp), by omega, fun c L hc hL1 hL2 => ?_⟩
      have s4 := same_new hc (SetTO P w c L)
      refine ⟨c, L, 2, 64, rfl, upd_same, fun p hp => SqT.of (s4 _ _ (hk p (hL1 p hp))), by decide, fun p hp => ?_, fun L' p hperm hnd hlen hpw hp => ?_⟩
      · obtain ⟨x, y, e, h1, h2⟩ := hks p (hL1 p hp)
        rw [e]
        refine ⟨rfl, fun m hm => ?_⟩
        rcases List.mem_cons.mp hm with rfl | hm
        · omega
        · obtain rfl := List.mem_singleton.mp hm
          omega
      have s5 := same_new hp (.lst (L'.map fun q => V.ref q.1))
      have hin : ∀ z ∈ L', z ∈ ks := fun z hz => hL1 z (hperm.mem_iff.mp hz)
      have bAll : But a H2 (upd (upd H3 c (SetTO P w c L)) p (.lst (L'.map fun q => V.ref q.1))) := (b3.trans (.same s4)).trans (.same s5)
      have pn2 : H2 p = none := none_of_but (b3.trans (.same s4)) (Ne.symm ((w3.same s4).ne hp)) hp
      have pn1 : H1 p = none := none_of_but b2 (Ne.symm ((w3.same s4).ne hp)) pn2
      have a2 : A2 (TpAt (upd (upd H3 c (SetTO P w c L)) p (.lst (L'.map fun q => V.ref q.1)))) (L'.map fun q => V.ref q.1) (L'.map toP) := A2.ofMap _ _ L' fun z hz => by
        obtain ⟨x, y, e, _, _⟩ := hks z (hin z hz)
        refine ⟨z.1, rfl, ?_⟩
        have := s5 _ _ (s4 _ _ (hk z (hin z hz)))
        rw [e] at this
        unfold toP
        rw [e]
        exact this
      refine q p _ _ _ ((b1.trans b2).trans bAll) (none_of_but b1 (Ne.symm ((w3.same s4).ne hp)) pn1) upd_same a2 (((w3.same s4).same s5).up (by omega)) ⟨?_, ?_, ?_, fun z hz => ?_⟩
      · rw [List.length_map]
        have hne : ks ≠ [] := by
          intro e
          rw [e] at hkl
          simp at hkl
          omega
        obtain ⟨z, hz⟩ := List.exists_mem_of_ne_nil _ hne
        obtain ⟨y, hy, _⟩ := List.mem_map.mp (hL2 z hz)
        exact List.length_pos_of_mem (hperm.mem_iff.mpr hy)
      · rw [List.length_map]
        have e1 : L'.length ≤ ks.length := by
          have := hperm.length_eq
          have h3 : (L'.map (·.2)).length ≤ (ks.map (·.2)).length := nodup_le hnd fun x hx => by
            obtain ⟨z, hz, rfl⟩ := List.mem_map.mp hx
            exact List.mem_map.mpr ⟨z, hin z hz, rfl⟩
          rwa [List.length_map, List.length_map] at h3
        omega
      · rw [List.pairwise_map]
        have hnd' : L'.Pairwise fun q r => q.2 ≠ r.2 := List.pairwise_map.mp hnd
        refine (hpw.and hnd').imp_of_mem fun {x y} hx hy h => ?_
        obtain ⟨x1, x2, ex, bx1, bx2⟩ := hks x (hin x hx)
        obtain ⟨y1, y2, ey, by1, by2⟩ := hks y (hin y hy)
        rw [ex, ey] at h
        have := L2.pair_lt h.1 h.2 ⟨bx1.1, by omega⟩ ⟨bx2.1, by omega⟩ ⟨by1.1, by omega⟩ ⟨by2.1, by omega⟩
        unfold toP
        rw [ex, ey]
        exact this
      · obtain ⟨y, hy, rfl⟩ := List.mem_map.mp hz
        obtain ⟨x1, x2, ex, bx1, bx2⟩ := hks y (hin y hy)
        unfold toP
        rw [ex]
        exact ⟨bx1, bx2⟩
end
end TA

set_option Elab.async false
set_option maxRecDepth 100000
set_option maxHeartbeats 4000000
namespace TA
open PySem L2 PyProof.Rows
set_option linter.unusedVariables false
/-- a heap seen at some places alone -/
def vw (p : Addr → Bool) (H : Hp) : Hp := fun b => if p b = true then H b else none
theorem vw_some {p : Addr → Bool} {H : Hp} {b : Addr} {o : HO} (h : vw p H b = some o) : p b = true ∧ H b = some o := by
  unfold vw at h
  split at h
  · rename_i c; exact ⟨c, h⟩
  · cases h
theorem vw_put {p : Addr → Bool} {H : Hp} {b : Addr} {o : HO} (c : p b = true) (h : H b = some o) : vw p H b = some o := by
  unfold vw
  rw [if_pos c, h]
theorem vw_kp {p : Addr → Bool} {H : Hp} : Kp (vw p H) H := fun b o _ h => (vw_some h).2
theorem vw_mono {p q : Addr → Bool} {H H' : Hp} (s : ∀ b o, p b = true → flatO o → H b = some o → q b = true ∧ H' b = some o) : Kp (vw p H) (vw q H') := fun b o f h => by
  obtain ⟨h1, h2⟩ := vw_some h
  obtain ⟨h3, h4⟩ := s b o h1 f h2
  exact vw_put h3 h4
/-- all but a -/
def pA (a : Addr) : Addr → Bool := fun b => decide (b ≠ a)
theorem pA_ok {a b : Addr} : pA a b = true ↔ b ≠ a := decide_eq_true_iff
theorem vwA_but {a : Addr} {H H' : Hp} (s : But a H H') : Kp (vw (pA a) H) (vw (pA a) H') := vw_mono fun b o h _ e => ⟨h, s b o (pA_ok.mp h) e⟩
theorem vwA_put {a d : Addr} {H : Hp} {k : List (List Key × V)} {o : HO} (e : H d = some (.dT k)) : Kp (vw (pA a) H) (vw (pA a) (upd H d o)) := vw_mono fun b u h f g => ⟨h, Kp.put e nf_dT b u f g⟩
theorem orB {b : Bool} {H : Hp} {B : Hp → Prop} {R : Prop} (Iv : Hp → Prop) (h0 : b = true → Iv H) (k : ∀ Hc, Iv Hc → B Hc) (r : b = false → (∀ Hc, Iv Hc → B Hc) → R) : if b = true then B H else R := by
  cases b with
  | true => exact iteT (k H (h0 rfl))
  | false => exact iteF (r rfl k)
theorem nat_mod {x n : Nat} : ((x : Int) % (n : Int)) = ((x % n : Nat) : Int) := by omega
theorem mod_dec {x n y : Nat} : decide (V.int ((x : Int) % (n : Int)) = V.int (y : Int)) = decide (x % n = y) := by rw [nat_mod, dec_nat]
/-- the law's dict under way, up to the pair (i, j) -/
def PIn (H0 : Hp) (a Lm D1 B : Addr) (n0 n1 : Nat) (n : Int) (al : Nat → List (List Int)) (i j : Nat) (H' : Hp) : Prop := ∃ (bo : BD) (kvs : List (List Key × V)), But a H0 H' ∧ H' Lm = some (.lst [V.int (n0 : Int), V.int (n1 : Int)]) ∧ WellAt H' a (n + 60 + 70 * (i : Int) + 17 * (j : Int)) ∧
  AlAt (vw (pA a) H') (.ref D1) al ∧ H' B = some (.dT kvs) ∧ A2 (EnAt (vw (pA a) H')) kvs bo ∧ (bo.map (·.1)).Pairwise ltN ∧ (∀ e ∈ bo, (e.1.1 < i ∨ (e.1.1 = i ∧ e.1.2 < j)) ∧ e.1.1 < n0 ∧ e.1.2 < n1 ∧ okLet e.2) ∧ (∀ x y, (x < i ∧ y < n1) ∨ (x = i ∧ y < j) → (x % n1 = y ∨ y % n0 = x) → ∃ e ∈ bo, e.1 = (x, y)) ∧ bo.length ≤ 4 * i + j
def spParts : Sp := fun vs H Q _ => ∃ (a : Addr) (n m : Int), vs = [.ref a, .int m] ∧ Dr H a n ∧ 0 ≤ n ∧ n < 900000 ∧ 0 < m ∧ m ≤ 4 ∧
  ∀ (r al d : Addr) (T : TD) (H' : Hp), But a H H' → H r = none → H al = none → H d = none → H' r = some (.tup [.ref al, .ref d]) → AlAt (vw (pA a) H') (.ref al) T.al → (∃ kvs, H' d = some (.dT kvs) ∧ A2 (EnAt (vw (pA a) H')) kvs T.bo) → WellAt H' a (n + 500) → WF T →
    (∀ h, h < 2 → ((T.al h).length : Int) ≤ m) → (∀ h, h < 2 → ∀ r ∈ T.al h, ∀ x ∈ r, x < 6) → Q (.ref r) H'
theorem okL_let {g : Int} {l : List (Int × Int)} (h : okL g l) (hg : g ≤ 8) : okLet l := ⟨h.1, by have := h.2.1; omega, h.2.2.1, fun p hp => by
  obtain ⟨⟨a, b⟩, c, d⟩ := h.2.2.2 p hp
  exact ⟨⟨a, by omega⟩, ⟨c, by omega⟩⟩⟩
theorem two_list {rs : List (List (List Int))} (h : rs.length = 2) : rs = [rs.getD 0 [], rs.getD 1 []] := by
  match rs, h with
  | [x, y], _ => rfl
section
variable {P : Program} {w : World} {K : PySem.W.Frag} {mg : Str → Option Value} {base : Heap}
abbrev nParts : List Str := ["_law_state", "_law_most", "_law_many", "_law_great", "_law_a", "_law_alone", "_law_both", "_law_b", "_law_hand"]
theorem sc_parts : FnScope nParts ["_law_state", "_law_most"] (defScope s__law_parts) := ⟨rfl, rfl, rfl, by decide +kernel, rfl, by decide +kernel, by decide +kernel⟩
theorem ok_parts {f g1 g2 g3 : Addr} {fd d1 d2 d3 : FuncData} (F : Fun K "_law_parts" "_law_parts" s__law_parts f fd) (T : Txt K mg) (T2 : Txt2 K mg) (Dg : Def P w K mg base "_law_digit" ["_law_state", "_law_base"] 1 spDigit g1 d1)
    (Few : Def P w K mg base "_law_few" ["_law_state", "_law_great", "_law_most"] 2 spFew g2 d2) (Outs : Def P w K mg base "_law_outs" ["_law_state", "_law_great"] 2 spOuts2 g3 d3) : FnOk P w K mg base CX0 3 f fd ["_law_state", "_law_most"] spParts := by
  refine F.ok sc_parts (fun vs H Q E h => ?_) (fun cdv A outer s H vs Q E hr h => ?_)
  · obtain ⟨a, n, m, rfl, _⟩ := h
    rfl
  obtain ⟨a, n, m, rfl, hD, hn0, hn, hm0, hm, q⟩ := h
  have nd := sc_parts.nd
  have hu := hu_of hr
  refine ⟨_, (pss_cons (ps_set (i := 2) nd rfl (Or.inr rfl) (pe_lst (pa_cons (pe_op op_add pe_int (pe_call Dg.G (hr.mono (by decide)) rfl Dg.m Dg.k Dg.b .nil pass0 (pa_cons (pv 0) (pa_cons (pv 1) pa_nil)))) (pa_cons (pe_op op_add pe_int (pe_call Dg.G (hr.mono (by decide)) rfl Dg.m Dg.k Dg.b .nil pass0 (pa_cons (pv 0) (pa_cons (pv 1) pa_nil)))) pa_nil))))
    (pss_cons (ps_set (i := 3) nd rfl (Or.inr rfl) (pe_op op_add pe_int (pe_call Dg.G (hr.mono (by decide)) rfl Dg.m Dg.k Dg.b .nil pass0 (pa_cons (pv 0) (pa_cons pe_int pa_nil)))))
    (pss_cons (ps_setLc (i := 5) (own := [("_law_hand", 8)]) (g := (gName 8)) (tt := tYes) (te := (tLc (iRng1 (tCons (tOp (rIxL K) (tVar 2) (tVar 8)) tNil)) (gName 4) tYes (tCall (spFew) [] E0 (tCons (tVar 0) (tCons (tVar 3) (tCons (tC (.int 3)) tNil)))) [4])) rfl nd rfl rfl (sw_true rfl rfl rfl (by decide +kernel)) (pi_range1 (by rfl) T.range (pa_cons pe_int pa_nil)) (blkOk_by (N := nParts) (sc := defScope s__law_parts) (by decide +kernel)) (fun _ _ _ _ _ => (by exact (pg_name (i := 8) nd rfl (Or.inl rfl)))) (fun _ _ _ _ _ => pts_nil) (fun _ _ _ _ _ => (by exact (pe_lc (own := [("_law_a", 4)]) (g := (gName 4)) (tt := tYes) (te := (tCall (spFew) [] E0 (tCons (tVar 0) (tCons (tVar 3) (tCons (tC (.int 3)) tNil))))) rfl nd (pi_range1 (by rfl) T.range (pa_cons (pe_ix ix_list (pv 2) (pv 8) (fun _ _ => rfl)) pa_nil)) (blkOk_by (N := nParts)  (by kernel_rfl)) (fun _ _ _ _ _ => (by exact (pg_name (i := 4) nd rfl (Or.inl rfl)))) (fun _ _ _ _ _ => pts_nil) (fun _ _ _ _ _ => (by exact (pe_call Few.G (hr.mono (by decide)) rfl Few.m Few.k Few.b .nil pass0 (pa_cons (pv 0) (pa_cons (pv 3) (pa_cons pe_int pa_nil))))))))))
    (pss_cons (ps_set (i := 6) nd rfl (Or.inl rfl) pe_dnewT)
    (pss_cons (ps_for PassesOwn.never (by rfl) (pi_range1 (by rfl) T.range (pa_cons (pe_ix ix_list (pv 2) pe_int (fun _ _ => rfl)) pa_nil)) (pg_name (i := 4) nd rfl (Or.inl rfl))
      (pss_one (ps_for PassesOwn.never (by rfl) (pi_range1 (by rfl) T.range (pa_cons (pe_ix ix_list (pv 2) pe_int (fun _ _ => rfl)) pa_nil)) (pg_name (i := 7) nd rfl (Or.inl rfl))
      (pss_one (ps_if (PW.pt (pw_or (pt_cmpR op_eq (pe_op op_mod (pv 4) (pe_ix ix_list (pv 2) pe_int (fun _ _ => rfl))) (pv 7) (nomark _)) (pw_or (pt_cmpR op_eq (pe_op op_mod (pv 7) (pe_ix ix_list (pv 2) pe_int (fun _ _ => rfl))) (pv 4) (nomark _)) (pw_or1 (pt_cmpR op_gt (pe_call Dg.G (hr.mono (by decide)) rfl Dg.m Dg.k Dg.b .nil pass0 (pa_cons (pv 0) (pa_cons pe_int pa_nil))) pe_int (nomark _))))))
      (pss_one (ps_dput hu (pv 6) (pe_tup (pa_cons (pv 4) (pa_cons (pv 7) pa_nil))) (pe_call Outs.G (hr.mono (by decide)) rfl Outs.m Outs.k Outs.b .nil pass0 (pa_cons (pv 0) (pa_cons (pv 3) pa_nil))) rfl))
      pss_nil)))))
    (pss_one (ps_ret (pe_tup (pa_cons (pv 5) (pa_cons (pv 6) pa_nil)))))))))), ?_⟩
  refine ⟨_, rfl, _, rfl, a, n, m, rfl, hD, hn0, by omega, hm0, by omega, fun r0 H1 r00 r01 b1 w1 => ?_⟩
  refine ⟨_, _, rfl, rfl, _, rfl, _, rfl, a, n + 1, m, rfl, .inr w1, by omega, by omega, hm0, by omega, fun r1 H2 r10 r11 b2 w2 => ?_⟩
  refine ⟨_, _, rfl, rfl, (by show 2 ≤ sizeLine; decide), fun Lm hLm => ?_⟩
  have s3 := same_new hLm (.lst [V.int (1 + r0), V.int (1 + r1)])
  obtain ⟨n0, hn0'⟩ : ∃ n0 : Nat, 1 + r0 = (n0 : Int) := ⟨(1 + r0).toNat, by omega⟩
  obtain ⟨n1, hn1'⟩ : ∃ n1 : Nat, 1 + r1 = (n1 : Int) := ⟨(1 + r1).toNat, by omega⟩
  show gName 2 (V.ref Lm) _ (upd H2 Lm (HO.lst [V.int (1 + r0), V.int (1 + r1)])) _
  rw [hn0', hn1'] at s3 ⊢
  have q0 : 1 ≤ n0 ∧ (n0 : Int) ≤ m := by omega
  have q1 : 1 ≤ n1 ∧ (n1 : Int) ≤ m := by omega
  refine ⟨_, rfl, a, n + 1 + 1, 4, rfl, .inr (w2.same s3), by omega, by omega, by decide, by decide, fun r2 H4 r20 r21 b4 w4 => ?_⟩
  have hLa : a ≠ Lm := w2.ne hLm
  have hLm4 : H4 Lm = some (.lst [V.int (n0 : Int), V.int (n1 : Int)]) := b4 _ _ (Ne.symm hLa) upd_same
  have hmN : ∀ h, h < 2 → ∃ k : Nat, ([V.int (n0 : Int), V.int (n1 : Int)] : List V)[h]? = some (.int (k : Int)) ∧ k = (if h = 0 then n0 else n1) ∧ 1 ≤ k ∧ (k : Int) ≤ m := fun h hh => by
    obtain rfl | rfl : h = 0 ∨ h = 1 := by omega
    · exact ⟨n0, rfl, rfl, q0.1, q0.2⟩
    · exact ⟨n1, rfl, rfl, q1.1, q1.2⟩
  refine ⟨_, _, rfl, rfl, ?_⟩
  obtain ⟨g, hg, hg2, hg6⟩ : ∃ g : Int, 2 + r2 = g ∧ 2 ≤ g ∧ g ≤ 5 := ⟨_, rfl, by omega, by omega⟩
  show gName 3 (V.int (2 + r2)) _ _ _
  rw [hg]
  have b04 : But a H H4 := ((b1.trans b2).trans (.same s3)).trans b4
  refine ⟨2, rfl, by decide, by decide, fun D1 hD1 => ?_⟩
  have s5 := same_new hD1 (.lst [])
  have haD1 : a ≠ D1 := w4.ne hD1
  have hLD1 : Lm ≠ D1 := ne_of_none hLm4 hD1
  let p1 : Addr → Bool := fun b => decide (b ≠ a ∧ b ≠ D1)
  have p1_ok : ∀ b, p1 b = true ↔ (b ≠ a ∧ b ≠ D1) := fun b => decide_eq_true_iff
  refine range_turns (n := 2) (fun i H' => But a H4 H' ∧ WellAt H' a (n + 3 + 21 * (i : Int)) ∧ ∃ ys rs, H' D1 = some (.lst ys) ∧ A2 (RowsAt (vw p1 H')) ys rs ∧ rs.length = i ∧ ∀ k rr, rs[k]? = some rr → rr.length = (if k = 0 then n0 else n1) ∧ ∀ r ∈ rr, (1 ≤ r.length ∧ r.length ≤ 4 ∧ r.Pairwise (· < ·) ∧ ∀ x ∈ r, 0 ≤ x ∧ x < g)) ⟨.same s5, ?_, [], [], upd_same, .nil, rfl, fun k rr e => by simp at e⟩ ?_ ?_
  · have := w4.same s5
    rw [show n + 3 + 21 * ((0 : Nat) : Int) = n + 1 + 1 + 1 by omega]
    exact this
  · rintro i H' hi ⟨b5, w5, ys, rs, hy, ay, hrl, hrr⟩
    have ej : (0 : Int) + (i : Int) = (i : Int) := by omega
    rw [ej]
    obtain ⟨k, hk1, hk2, hk3, hk4⟩ := hmN i hi
    have hLm' := b5 _ _ (Ne.symm hLa) hLm4
    refine ⟨rfl, _, rfl, _, rfl, Lm, _, _, _, rfl, rfl, SqL.of hLm', atI_nat hk1, (k : Int), rfl, by omega, by omega, fun D2 hD2 => ?_⟩
    have s6 := same_new hD2 (.lst [])
    have haD2 : a ≠ D2 := w5.ne hD2
    have hD12 : D1 ≠ D2 := ne_of_none hy hD2
    let p2 : Addr → Bool := fun b => decide (b ≠ a ∧ b ≠ D1 ∧ b ≠ D2)
    have p2_ok : ∀ b, p2 b = true ↔ (b ≠ a ∧ b ≠ D1 ∧ b ≠ D2) := fun b => decide_eq_true_iff
    refine range_turns (n := k) (fun j H6 => But a H' H6 ∧ WellAt H6 a (n + 3 + 21 * (i : Int) + 5 * (j : Int)) ∧ ∃ us rr, H6 D2 = some (.lst us) ∧ A2 (RowAt (vw p2 H6)) us rr ∧ rr.length = j ∧ ∀ r ∈ rr, (1 ≤ r.length ∧ r.length ≤ 4 ∧ r.Pairwise (· < ·) ∧ ∀ x ∈ r, 0 ≤ x ∧ x < g)) ⟨.same s6, ?_, [], [], upd_same, .nil, rfl, fun r hr => nomatch hr⟩ ?_ ?_
    · have := w5.same s6
      rw [show n + 3 + 21 * (i : Int) + 5 * ((0 : Nat) : Int) = n + 3 + 21 * (i : Int) by omega]
      exact this
    · rintro j H6 hj ⟨b6, w6, us, rr, hu6, au, hul, hub⟩
      refine ⟨rfl, _, rfl, _, rfl, a, _, g, 3, rfl, .inr w6, by omega, by omega, by omega, by omega, by decide, by decide, fun p ns H7 b7 hp7 hp7' w7 l1 l2 l3 l4 => ?_⟩
      have hD27 := b7 _ _ (Ne.symm haD2) hu6
      have np2 : p ≠ D2 := (ne_of_none hu6 hp7).symm
      have np1 : p ≠ D1 := (ne_of_none (b6 _ _ (Ne.symm haD1) hy) hp7).symm
      have npa : p ≠ a := (w6.ne hp7).symm
      refine ⟨us, hD27, ?_, (b6.trans b7).new hD2, ?_, _, rr ++ [ns], upd_same, ?_, by rw [List.length_append, hul]; rfl, fun r hr => ?_⟩
      · rw [au.len, hul]
        exact Nat.lt_of_lt_of_le (show j < 100 by omega) (by decide)
      · rw [show n + 3 + 21 * (i : Int) + 5 * ((j + 1 : Nat) : Int) = n + 3 + 21 * (i : Int) + 5 * (j : Int) + 5 by omega]
        exact w7.but haD2 But.at
      · refine A2.snoc (au.imp fun _ _ r => r.mono (vw_mono fun b o h f e => ⟨h, ?_⟩)) ⟨p, rfl, vw_put ((p2_ok p).mpr ⟨npa, np1, np2⟩) (by rw [upd_ne np2]; exact hp7')⟩
        obtain ⟨z1, z2, z3⟩ := (p2_ok b).mp h
        rw [upd_ne z3]
        exact b7 _ _ z1 e
      · rcases List.mem_append.mp hr with h | h
        · exact hub r h
        · obtain rfl := List.mem_singleton.mp h
          exact ⟨l1, l2, l3, l4⟩
    · rintro H6 ⟨b6, w6, us, rr, hu6, au, hul, hub⟩
      have hy6 := b6 _ _ (Ne.symm haD1) hy
      refine ⟨ys, hy6, ?_, (b5.trans b6).new hD1, ?_, _, rs ++ [rr], upd_same, ?_, by rw [List.length_append, hrl]; rfl, fun k' rr' e => ?_⟩
      · rw [ay.len, hrl]
        exact Nat.lt_of_lt_of_le hi (by decide)
      · refine WellAt.up (n := n + 3 + 21 * (i : Int) + 5 * (k : Int)) (w6.but haD1 But.at) ?_
        have : k ≤ 4 := by omega
        omega
      · refine A2.snoc (ay.imp fun _ _ r => r.mono (vw_mono fun b o h f e => ⟨h, ?_⟩)) ⟨D2, us, rfl, vw_put ((p1_ok D2).mpr ⟨Ne.symm haD2, Ne.symm hD12⟩) (by rw [upd_ne (Ne.symm hD12)]; exact hu6), au.imp fun _ _ r => r.mono (vw_mono fun b o h f e => ?_)⟩
        · obtain ⟨z1, z2⟩ := (p1_ok b).mp h
          rw [upd_ne z2]
          exact b6 _ _ z1 e
        · obtain ⟨z1, z2, z3⟩ := (p2_ok b).mp h
          exact ⟨(p1_ok b).mpr ⟨z1, z2⟩, by rw [upd_ne z2]; exact e⟩
      · by_cases c : k' < rs.length
        · rw [List.getElem?_append_left c] at e
          exact hrr k' rr' e
        · have c2 : k' = rs.length := by
            have := (List.getElem?_eq_some_iff.mp e).1
            rw [List.length_append] at this
            have e1 : ([rr] : List (List (List Int))).length = 1 := rfl
            omega
          subst c2
          rw [List.getElem?_append_right (Nat.le_refl _), Nat.sub_self] at e
          obtain rfl : rr = rr' := by simpa using e
          refine ⟨?_, hub⟩
          rw [hul, hk2, hrl]
  · rintro H5 ⟨b5, w5, ys, rs, hy, ay, hrl, hrr⟩
    have hLm5 := b5 _ _ (Ne.symm hLa) hLm4
    let al : Nat → List (List Int) := fun h => rs.getD h []
    have hal : A2 (RowsAt (vw p1 H5)) ys [al 0, al 1] := by
      have := two_list hrl
      rw [this] at ay
      exact ay
    have halP : ∀ h, h < 2 → (al h).length = (if h = 0 then n0 else n1) ∧ ∀ r ∈ al h, (1 ≤ r.length ∧ r.length ≤ 4 ∧ r.Pairwise (· < ·) ∧ ∀ x ∈ r, 0 ≤ x ∧ x < g) := fun h hh => by
      refine hrr h (al h) ?_
      show rs[h]? = some (rs.getD h [])
      rw [List.getD_eq_getElem?_getD, List.getElem?_eq_getElem (show h < rs.length by omega)]
      rfl
    have hAl : AlAt (vw (pA a) H5) (.ref D1) al := by
      refine al_of (vw_put (pA_ok.mpr (Ne.symm haD1)) hy) (hal.imp fun _ _ r => r.mono (vw_mono fun b o h f e => ⟨pA_ok.mpr ((p1_ok b).mp h).1, e⟩))
    intro B hB
    have s6 := same_new hB (.dT [])
    have haB : a ≠ B := w5.ne hB
    have b0B : But a H (upd H5 B (.dT [])) := (b04.trans b5).trans (.same s6)
    refine ⟨_, rfl, Lm, _, _, _, rfl, rfl, SqL.of (s6 _ _ hLm5), (by rfl), (n0 : Int), rfl, by omega, by omega, ?_⟩
    have hBn : H B = none := none_of_but (b04.trans b5) (Ne.symm haB) hB
    have hDn : H D1 = none := none_of_but b04 (Ne.symm haD1) hD1
    have hBD : B ≠ D1 := (ne_of_none hy hB).symm
    have hBL : B ≠ Lm := (ne_of_none hLm5 hB).symm
    have q04 : n0 ≤ 4 := by omega
    have q14 : n1 ≤ 4 := by omega
    refine for_range (n := n0) (fun i σ H' => ∃ g4 g7, σ = [some (.ref a), some (.int m), some (.ref Lm), some (.int g), g4, some (.ref D1), some (.ref B), g7, none] ∧ PIn H a Lm D1 B n0 n1 n al i 0 H') ⟨_, _, rfl, [], [], b0B, s6 _ _ hLm5, ?_, hAl.mono (vwA_but (.same s6)), upd_same, .nil, .nil, (fun e he => nomatch he), (fun x y hx => ?_), Nat.zero_le _⟩ ?_ ?_
    · refine WellAt.up (w5.same s6) ?_
      omega
    · rcases hx with ⟨h1, _⟩ | ⟨_, h2⟩
      · exact absurd h1 (Nat.not_lt_zero _)
      · exact absurd h2 (Nat.not_lt_zero _)
    · rintro i σ H' hi ⟨g4, g7, rfl, hP⟩
      have ej : (0 : Int) + (i : Int) = (i : Int) := by omega
      rw [ej]
      have hL' : H' Lm = some (.lst [V.int (n0 : Int), V.int (n1 : Int)]) := by
        obtain ⟨bo, kvs, _, h, _⟩ := hP
        exact h
      refine ⟨_, rfl, Lm, _, _, _, rfl, rfl, SqL.of hL', (by rfl), (n1 : Int), rfl, by omega, by omega, ?_⟩
      refine for_range (n := n1) (fun j σ H' => ∃ g7, σ = [some (.ref a), some (.int m), some (.ref Lm), some (.int g), some (.int (i : Int)), some (.ref D1), some (.ref B), g7, none] ∧ PIn H a Lm D1 B n0 n1 n al i j H') ⟨_, rfl, hP⟩ ?_ ?_
      · clear hP hL'
        rintro j σ H' hj ⟨g7, rfl, bo, kvs, bH, hL', wH, hA', hB', ha', hsr, hrg, hcv, hbl⟩
        have ej : (0 : Int) + (j : Int) = (j : Int) := by omega
        rw [ej]
        refine ⟨_, rfl, _, rfl, Lm, _, _, _, rfl, rfl, SqL.of hL', (by rfl), _, _, rfl, rfl, (by show (0 : Int) < (n1 : Int); omega), _, rfl, rfl, _, rfl, ?_⟩
        have skip : ∀ Hc, ¬ (i % n1 = j ∨ j % n0 = i) → But a H' Hc → WellAt Hc a (n + 60 + 70 * (i : Int) + 17 * (j : Int) + 1) → PIn H a Lm D1 B n0 n1 n al i (j + 1) Hc := fun Hc nc bc wc => by
          refine ⟨bo, kvs, bH.trans bc, bc _ _ (Ne.symm hLa) hL', wc.up (by omega), hA'.mono (vwA_but bc), bc _ _ (Ne.symm haB) hB', ha'.imp fun _ _ r => r.mono (vwA_but bc), hsr, fun e he => ?_, fun x y h c => ?_, by omega⟩
          · obtain ⟨h1, h2⟩ := hrg e he
            exact ⟨by omega, h2⟩
          · rcases h with h | ⟨h1, h2⟩
            · exact hcv x y (.inl h) c
            · rcases Nat.lt_succ_iff_lt_or_eq.mp h2 with h3 | h3
              · exact hcv x y (.inr ⟨h1, h3⟩) c
              · subst h1; subst h3
                exact absurd c nc
        have body : ∀ (D : Ends) (Hc : Hp), But a H' Hc → WellAt Hc a (n + 60 + 70 * (i : Int) + 17 * (j : Int) + 1) → (∀ Hn, PIn H a Lm D1 B n0 n1 n al i (j + 1) Hn → D.nx [some (.ref a), some (.int m), some (.ref Lm), some (.int g), some (.int (i : Int)), some (.ref D1), some (.ref B), some (.int (j : Int)), none] Hn) →
            sDPut (tVar 6) (tTup (tCons (tVar 4) (tCons (tVar 7) tNil))) (tCall spOuts2 [] E0 (tCons (tVar 0) (tCons (tVar 3) tNil))) D [some (.ref a), some (.int m), some (.ref Lm), some (.int g), some (.int (i : Int)), some (.ref D1), some (.ref B), some (.int (j : Int)), none] Hc := by
          intro D Hc bc wc next
          refine ⟨_, rfl, _, rfl, a, _, g, rfl, .inr wc, by omega, by omega, hg2, by omega, fun p xs l H6 b6 hp6 hp6' ax w6 okl => ?_⟩
          refine ⟨_, rfl, _, rfl, _, rfl, (by show 2 ≤ sizeLine; decide), fun t ht => ?_⟩
          have s7 := same_new ht (.tup [V.int (i : Int), V.int (j : Int)])
          have bcc := bc.trans b6
          have hB6 : H6 B = some (.dT kvs) := bcc _ _ (Ne.symm haB) hB'
          have hvn : valV kvs (kI (i, j)) = none := valV_noneP fun e he c => by
            obtain ⟨y, hy1, hy2, _⟩ := ha'.mem he
            rw [hy2] at c
            have c := kI_inj c
            have h1 := (hrg y hy1).1
            rw [c] at h1
            have h1 : i < i ∨ (i = i ∧ j < j) := h1
            omega
          have hsz : kvs.length ≤ 20 := by rw [ha'.len]; omega
          refine ⟨B, _, rfl, DPut.t (k := kI (i, j)) (s7 _ _ hB6) upd_same (Nat.lt_of_le_of_lt hsz (by decide)), ?_⟩
          rw [putK_new _ hvn]
          have hB7 := s7 _ _ hB6
          have kpA : Kp (vw (pA a) H') (vw (pA a) (upd (upd H6 t (.tup [V.int (i : Int), V.int (j : Int)])) B (.dT (kvs ++ [(kI (i, j), V.ref p)])))) := ((vwA_but (bcc.trans (.same s7)))).trans (vwA_put hB7)
          have npa : p ≠ a := (wc.ne hp6).symm
          have npB : p ≠ B := fun c => by subst c; rw [bc _ _ (Ne.symm haB) hB'] at hp6; cases hp6
          refine next _ ⟨bo ++ [((i, j), l)], _, ((bH.trans bcc).trans (.same s7)).new hBn, by rw [upd_ne (Ne.symm hBL)]; exact s7 _ _ (bcc _ _ (Ne.symm hLa) hL'), ((w6.same s7).but haB But.at).up (by omega), hA'.mono kpA, upd_same, ?_, ?_, ?_, ?_, ?_⟩
          · refine A2.snoc (ha'.imp fun _ _ r => r.mono kpA) ⟨rfl, p, xs, rfl, vw_put (pA_ok.mpr npa) (by rw [upd_ne npB]; exact s7 _ _ hp6'), ?_⟩
            obtain ⟨z6, e6⟩ := w6.lst
            refine ax.imp fun v xy r => ?_
            obtain ⟨tt, rfl, htt⟩ := r
            have nta : tt ≠ a := ne_of htt e6 (fun z => by cases z)
            have ntB : tt ≠ B := ne_of htt hB6 (fun z => by cases z)
            exact ⟨tt, rfl, vw_put (pA_ok.mpr nta) (by rw [upd_ne ntB]; exact s7 _ _ htt)⟩
          · rw [List.map_append]
            refine List.pairwise_append.mpr ⟨hsr, by simp, fun x hx y hy => ?_⟩
            obtain ⟨e, he, rfl⟩ := List.mem_map.mp hx
            obtain rfl : y = (i, j) := by simpa using hy
            exact (hrg e he).1
          · intro e he
            rcases List.mem_append.mp he with h | h
            · obtain ⟨h1, h2⟩ := hrg e h
              exact ⟨by omega, h2⟩
            · obtain rfl := List.mem_singleton.mp h
              exact ⟨.inr ⟨rfl, Nat.lt_succ_self _⟩, hi, hj, okL_let okl (by omega)⟩
          · intro x y h c
            rcases h with h | ⟨h1, h2⟩
            · obtain ⟨e, he, h3⟩ := hcv x y (.inl h) c
              exact ⟨e, List.mem_append_left _ he, h3⟩
            · rcases Nat.lt_succ_iff_lt_or_eq.mp h2 with h3 | h3
              · obtain ⟨e, he, h4⟩ := hcv x y (.inr ⟨h1, h3⟩) c
                exact ⟨e, List.mem_append_left _ he, h4⟩
              · subst h1; subst h3
                exact ⟨_, List.mem_append_right _ (List.mem_singleton.mpr rfl), rfl⟩
          · rw [List.length_append]
            have e1 : ([((i, j), l)] : BD).length = 1 := rfl
            omega
        by_cases c1 : i % n1 = j
        · exact iteT' (mod_dec.trans (decide_eq_true c1)) (iteT (body _ H' (.same (Same.refl _)) (wH.up (by omega)) fun Hn h => ⟨_, rfl, h⟩))
        refine iteF' (mod_dec.trans (decide_eq_false c1)) ?_
        refine ⟨_, rfl, _, rfl, Lm, _, _, _, rfl, rfl, SqL.of hL', (by rfl), _, _, rfl, rfl, (by show (0 : Int) < (n0 : Int); omega), _, rfl, rfl, _, rfl, ?_⟩
        by_cases c2 : j % n0 = i
        · exact iteT' (mod_dec.trans (decide_eq_true c2)) (iteT (body _ H' (.same (Same.refl _)) (wH.up (by omega)) fun Hn h => ⟨_, rfl, h⟩))
        refine iteF' (mod_dec.trans (decide_eq_false c2)) ?_
        refine ⟨_, rfl, a, _, 3, rfl, .inr wH, by omega, by omega, by decide, by decide, fun r5 H6 r50 r51 b6 w6 => ?_⟩
        refine ⟨_, _, rfl, rfl, _, rfl, ?_⟩
        by_cases c3 : (0 : Int) < r5
        · exact iteT' (decide_eq_true c3) (body _ H6 b6 w6 fun Hn h => ⟨_, rfl, h⟩)
        · exact iteF' (decide_eq_false c3) ⟨_, rfl, skip H6 (fun c => c.elim c1 c2) b6 w6⟩
      · rintro σ H2 ⟨g7, rfl, bo, kvs, bH, hL', wH, hA', hB', ha', hsr, hrg, hcv, hbl⟩
        refine ⟨_, _, rfl, bo, kvs, bH, hL', wH.up (by omega), hA', hB', ha', hsr, fun e he => ?_, fun x y hx c => ?_, by omega⟩
        · obtain ⟨h1, h2⟩ := hrg e he
          exact ⟨by omega, h2⟩
        · rcases hx with ⟨h, hy⟩ | ⟨_, h⟩
          · rcases Nat.lt_succ_iff_lt_or_eq.mp h with h | h
            · exact hcv x y (.inl ⟨h, hy⟩) c
            · exact hcv x y (.inr ⟨h, hy⟩) c
          · exact absurd h (Nat.not_lt_zero _)
    · rintro σ H' ⟨g4, g7, rfl, bo, kvs, bH, hL', wH, hA', hB', ha', hsr, hrg, hcv, hbl⟩
      refine ⟨_, rfl, _, rfl, (by show 2 ≤ sizeLine; decide), fun r hr => ?_⟩
      have s8 := same_new hr (.tup [V.ref D1, V.ref B])
      have hrn : H r = none := none_of_but bH (Ne.symm (wH.ne hr)) hr
      have e0 : (al 0).length = n0 := (halP 0 (by decide)).1
      have e1 : (al 1).length = n1 := (halP 1 (by decide)).1
      refine q r D1 B ⟨al, bo⟩ _ (bH.trans (.same s8)) hrn hDn hBn upd_same (hA'.mono (vwA_but (.same s8))) ⟨kvs, s8 _ _ hB', ha'.imp fun _ _ r => r.mono (vwA_but (.same s8))⟩ ((wH.same s8).up (by omega)) ⟨fun h hh => ?_, fun h hh r hr => ?_, hsr, fun e he => ?_, fun e he => (hrg e he).2.2.2, fun x hx => ?_, fun y hy => ?_, by show bo.length ≤ 60; omega⟩ (fun h hh => ?_) (fun h hh r hr x hx => ?_)
      · obtain rfl | rfl : h = 0 ∨ h = 1 := by omega
        · show 1 ≤ (al 0).length ∧ (al 0).length ≤ 20
          omega
        · show 1 ≤ (al 1).length ∧ (al 1).length ≤ 20
          omega
      · obtain ⟨z1, z2, z3, z4⟩ := (halP h hh).2 r hr
        exact ⟨z1, by omega, z3, fun x hx => ⟨(z4 x hx).1, by have := (z4 x hx).2; omega⟩⟩
      · show e.1.1 < (al 0).length ∧ e.1.2 < (al 1).length
        rw [e0, e1]
        exact ⟨(hrg e he).2.1, (hrg e he).2.2.1⟩
      · have hx : x < n0 := by rw [← e0]; exact hx
        obtain ⟨e, he, h⟩ := hcv x (x % n1) (.inl ⟨hx, Nat.mod_lt _ (by omega)⟩) (.inl rfl)
        exact ⟨e, he, by rw [h]⟩
      · have hy : y < n1 := by rw [← e1]; exact hy
        obtain ⟨e, he, h⟩ := hcv (y % n0) y (.inl ⟨Nat.mod_lt _ (by omega), hy⟩) (.inr rfl)
        exact ⟨e, he, by rw [h]⟩
      · obtain rfl | rfl : h = 0 ∨ h = 1 := by omega
        · show (((al 0).length : Nat) : Int) ≤ m
          omega
        · show (((al 1).length : Nat) : Int) ≤ m
          omega
      · obtain ⟨z1, z2, z3, z4⟩ := (halP h hh).2 r hr
        have := (z4 x hx).2
        omega
end
end TA

set_option Elab.async false
set_option maxRecDepth 100000
set_option maxHeartbeats 4000000
namespace TA
open PySem L2 PyProof.Rows
set_option linter.unusedVariables false
/-- xs[i] as an augmented assignment reads it, 0 ≤ i -/
theorem get_list {X : Cx} : PGet X (fun o i H Q => ∃ (p : Addr) (xs : List V) (k : Nat) (v : V), o = .ref p ∧ i = .int (k : Int) ∧ SqL X.K H p xs ∧ xs[k]? = some v ∧ Q v H) := by
  intro pins s σ H o i ov iv Q I ro ri h
  obtain ⟨p, xs, k, v, rfl, rfl, hq, he, q⟩ := h
  cases ro
  obtain ⟨t, rfl⟩ := ri
  obtain ⟨its, r, pl, hz⟩ := I.list hq
  obtain ⟨w, ew, rw'⟩ := r.get he
  have hl := r.length
  have hn := line63
  have hk : k < xs.length := (List.getElem?_eq_some_iff.mp he).1
  refine getItem_listL (l := its) pl.isList (by omega) ?_ (by simpa using ew) ⟨v, H, I, rw', q⟩
  omega
/-! weavings with a box -/
def HW (ws : List Int) : Prop := ∀ x ∈ ws, x = 0 ∨ x = 1
def winG : List Int → Nat → Nat → Option Nat
  | [], _, _ => none
  | h :: r, a, b => if h = 0 then (if a = 1 then some 0 else winG r (a + 1) b) else (if b = 1 then some 1 else winG r a (b + 1))
def win (ws : List Int) : Option Nat := winG ws 0 0
def oN : Option Nat → V
  | none => .non
  | some h => .int ((h : Nat) : Int)
def wbB (ws : List Int) : Bool := decide (ws.count 0 ≤ 3) && decide (ws.count 1 ≤ 3) && (match win ws with
  | none => true
  | some h => decide (ws.count ((h : Nat) : Int) = 2))
theorem winG_lt : ∀ {ws : List Int} {a b h : Nat}, winG ws a b = some h → h < 2
  | [], _, _, _, e => by cases e
  | x :: r, a, b, h, e => by
    unfold winG at e
    split at e
    · split at e
      · cases e; decide
      · exact winG_lt e
    · split at e
      · cases e; decide
      · exact winG_lt e
theorem win_lt {ws : List Int} {h : Nat} (e : win ws = some h) : h < 2 := winG_lt e
structure TxtB (K : PySem.W.Frag) (mg : Str → Option Value) : Prop where
  two : ∃ t, mg "STEPS_TO_BOX" = some (.int 2 t)
  three : ∃ t, mg "STEPS_OF_LOSER" = some (.int 3 t)
def spWin : Sp := fun vs H Q _ => ∃ (l : Addr) (ws : List Int), vs = [.ref l] ∧ H l = some (.lst (ws.map V.int)) ∧ HW ws ∧ ∀ H', Same H H' → Q (oN (win ws)) H'
def spBW : Sp := fun vs H Q _ => ∃ (l : Addr) (ws : List Int), vs = [.ref l] ∧ H l = some (.lst (ws.map V.int)) ∧ HW ws ∧ ws.length ≤ 20 ∧ ∀ H', Same H H' → Q (.bl (wbB ws)) H'
theorem ws_at {ws : List Int} {i : Nat} {x : V} (h : (ws.map V.int)[i]? = some x) : ∃ k, x = .int k ∧ ws[i]? = some k := by
  rw [List.getElem?_map] at h
  obtain ⟨k, hk, rfl⟩ := Option.map_eq_some_iff.mp h
  exact ⟨k, rfl, hk⟩
theorem drop_get {α : Type} {l : List α} {i : Nat} {x : α} (h : l[i]? = some x) : l.drop i = x :: l.drop (i + 1) := by
  obtain ⟨hi, rfl⟩ := List.getElem?_eq_some_iff.mp h
  exact List.drop_eq_getElem_cons hi
section
variable {P : Program} {w : World} {K : PySem.W.Frag} {mg : Str → Option Value} {base : Heap}
abbrev nWin : List Str := ["weaving", "steps", "hand"]
theorem sc_win : FnScope nWin ["weaving"] (defScope s_winner) := ⟨rfl, rfl, rfl, by decide +kernel, rfl, by decide +kernel, by decide +kernel⟩
theorem ok_win {f : Addr} {fd : FuncData} (F : Fun K "winner" "winner" s_winner f fd) (T : Txt K mg) (B : TxtB K mg) : FnOk P w K mg base CX0 1 f fd ["weaving"] spWin := by
  refine F.ok sc_win (fun vs H Q E h => ?_) (fun cdv A outer s H vs Q E hr h => ?_)
  · obtain ⟨l, ws, rfl, _⟩ := h
    rfl
  obtain ⟨l, ws, rfl, hl, hw, q⟩ := h
  have nd := sc_win.nd
  obtain ⟨t2, m2⟩ := B.two
  refine ⟨_, (pss_cons (ps_set (i := 1) nd rfl (Or.inl rfl) (pe_lst (pa_cons pe_int (pa_cons pe_int pa_nil))))
    (pss_cons (ps_for PassesOwn.never (by rfl) (pi_list (pv 0)) (pg_name (i := 2) nd rfl (Or.inl rfl))
      (pss_cons (ps_augS (pv 1) (pv 2) get_list pe_int ip_add set_list)
    (pss_one (ps_if (pt_cmpR op_eq (pe_ix ix_list (pv 1) (pv 2) (fun _ _ => rfl)) (pe_glob (v := .int 2) rfl m2 ⟨_, rfl⟩) (nomark _))
      (pss_one (ps_ret (pv 2)))
      pss_nil))))
    (pss_one (ps_ret pe_non)))), ?_⟩
  refine ⟨(by show 2 ≤ sizeLine; decide), fun S hS => ?_⟩
  have s1 := same_new hS (.lst [V.int 0, V.int 0])
  refine ⟨_, rfl, l, rfl, ⟨_, SqL.of (s1 _ _ hl)⟩, for_list (xs := ws.map V.int) (fun i σ H' => ∃ (g : Option V) (a b : Nat), σ = [some (.ref l), some (.ref S), g] ∧ Same H H' ∧ H' S = some (.lst [V.int ((a : Nat) : Int), V.int ((b : Nat) : Int)]) ∧ winG (ws.drop i) a b = win ws) ⟨_, 0, 0, rfl, s1, upd_same, rfl⟩ (fun i σ H' _ ⟨g, a, b, _, s2, _⟩ => SqL.of (s2 _ _ hl)) ?_ ?_⟩
  · rintro i x σ H' hx ⟨g, a, b, rfl, s2, hSS, hg⟩
    obtain ⟨k, rfl, hk⟩ := ws_at hx
    rw [drop_get hk] at hg
    unfold winG at hg
    obtain rfl | rfl := hw k (List.mem_of_getElem? hk)
    · rw [if_pos rfl] at hg
      refine ⟨_, rfl, _, rfl, S, _, 0, _, rfl, rfl, SqL.of hSS, rfl, _, _, rfl, rfl, S, [V.int ((a : Nat) : Int), V.int ((b : Nat) : Int)], _, 0, rfl, rfl, hSS, rfl, ?_⟩
      have s3 : Same H (upd H' S (.lst [V.int ((a : Nat) + 1 : Int), V.int ((b : Nat) : Int)])) := same_upd s2 hS
      refine ⟨_, rfl, _, rfl, S, _, _, _, rfl, rfl, SqL.of upd_same, rfl, rfl, _, rfl, ?_⟩
      by_cases c : a = 1
      · subst c
        rw [if_pos rfl] at hg
        refine iteT' (by decide) ⟨_, rfl, ?_⟩
        have := q _ s3
        rw [← hg] at this
        exact this
      · rw [if_neg c] at hg
        refine iteF' (decide_eq_false fun e => c (by have e : V.int ((a : Int) + 1) = V.int 2 := e; injection e with e; omega)) ?_
        exact ⟨_, a + 1, b, rfl, s3, upd_same, hg⟩
    · rw [if_neg (by decide)] at hg
      refine ⟨_, rfl, _, rfl, S, _, 1, _, rfl, rfl, SqL.of hSS, rfl, _, _, rfl, rfl, S, [V.int ((a : Nat) : Int), V.int ((b : Nat) : Int)], _, 1, rfl, rfl, hSS, rfl, ?_⟩
      have s3 : Same H (upd H' S (.lst [V.int ((a : Nat) : Int), V.int ((b : Nat) + 1 : Int)])) := same_upd s2 hS
      refine ⟨_, rfl, _, rfl, S, _, _, _, rfl, rfl, SqL.of upd_same, rfl, rfl, _, rfl, ?_⟩
      by_cases c : b = 1
      · subst c
        rw [if_pos rfl] at hg
        refine iteT' (by decide) ⟨_, rfl, ?_⟩
        have := q _ s3
        rw [← hg] at this
        exact this
      · rw [if_neg c] at hg
        refine iteF' (decide_eq_false fun e => c (by have e : V.int ((b : Int) + 1) = V.int 2 := e; injection e with e; omega)) ?_
        exact ⟨_, a, b + 1, rfl, s3, upd_same, hg⟩
  · rintro σ H' ⟨g, a, b, rfl, s2, _, hg⟩
    rw [List.length_map, List.drop_length] at hg
    have := q _ s2
    rw [← hg] at this
    exact this
abbrev nBW : List Str := ["thing", "won", "hand"]
theorem sc_bw : FnScope nBW ["thing"] (defScope s_is_boxed_weaving) := ⟨rfl, rfl, rfl, by decide +kernel, rfl, by decide +kernel, by decide +kernel⟩
theorem ok_bw {f g1 g2 : Addr} {fd d1 d2 : FuncData} (F : Fun K "is_boxed_weaving" "is_boxed_weaving" s_is_boxed_weaving f fd) (T : Txt K mg) (T2 : Txt2 K mg) (U : TxtH K mg) (B : TxtB K mg) (WH : Def P w K mg base "is_hand" ["thing"] 3 (spHandG K) g1 d1)
    (Wn : Def P w K mg base "winner" ["weaving"] 1 spWin g2 d2) : FnOk P w K mg base CX0 4 f fd ["thing"] spBW := by
  refine F.ok sc_bw (fun vs H Q E h => ?_) (fun cdv A outer s H vs Q E hr h => ?_)
  · obtain ⟨l, ws, rfl, _⟩ := h
    rfl
  obtain ⟨l, ws, rfl, hl, hw, hn, q⟩ := h
  have nd := sc_bw.nd
  obtain ⟨t2, m2⟩ := B.two
  obtain ⟨t3, m3⟩ := B.three
  obtain ⟨hT, mH, hH⟩ := U.hands
  refine ⟨_, (pss_cons (ps_if (PW.pt (pw_or (pt_not (pt_val (pe_callB call_isi (by rfl) T.isi boot_isinstance (pa_cons (pv 0) (pa_cons (pe_bltn (v := .ty "list") (by rfl) T.list boot_list rfl) pa_nil))))) (pw_or1 (pt_not (pt_val (pe_callB (cr_all rfl) (by rfl) T.all (by decide +kernel) (pa_cons (pe_lc (own := [("hand", 2)]) (g := (gName 2)) (tt := tYes) (te := (tCall (spHandG K) [] E0 (tCons (tVar 2) tNil))) rfl nd (pi_list (pv 0)) (blkOk_by (N := nBW) (sc := defScope s_is_boxed_weaving) (by decide +kernel)) (fun _ _ _ _ _ => (by exact (pg_name (i := 2) nd rfl (Or.inl rfl)))) (fun _ _ _ _ _ => pts_nil) (fun _ _ _ _ _ => (by exact (pe_call WH.G (hr.mono (by decide)) rfl WH.m WH.k WH.b .nil pass0 (pa_cons (pv 2) pa_nil))))) pa_nil)))))))
      (pss_one (ps_ret pe_bl))
      pss_nil)
    (pss_cons (ps_if (pt_cmpR op_gt (pe_callB (cr_max rfl) (by rfl) T2.max (by decide +kernel) (pa_cons (pe_lc (own := [("hand", 2)]) (g := (gName 2)) (tt := tYes) (te := (tBM K "list" (rCntI K) (tVar 0) (tCons (tVar 2) tNil))) rfl nd (pi_tup (pe_glob (v := .ref hT) rfl mH rfl)) (blkOk_by (N := nBW) (sc := defScope s_is_boxed_weaving) (by decide +kernel)) (fun _ _ _ _ _ => (by exact (pg_name (i := 2) nd rfl (Or.inl rfl)))) (fun _ _ _ _ _ => pts_nil) (fun _ _ _ _ _ => (by exact (pe_bm PySem.F.plainAttrs_list PySem.F.slot_list_count PySem.F.type_list_count mt_lcount (pv 0) (pa_cons (pv 2) pa_nil))))) pa_nil)) (pe_glob (v := .int 3) rfl m3 ⟨_, rfl⟩) (nomark _))
      (pss_one (ps_ret pe_bl))
      pss_nil)
    (pss_cons (ps_set (i := 1) nd rfl (Or.inl rfl) (pe_call Wn.G (hr.mono (by decide)) rfl Wn.m Wn.k Wn.b .nil pass0 (pa_cons (pv 0) pa_nil)))
    (pss_one (ps_ret (pe_or (pe_cmpR op_isN (pv 1) pe_non (nomark _)) (pe_one (pe_cmpR op_eq (pe_bm PySem.F.plainAttrs_list PySem.F.slot_list_count PySem.F.type_list_count mt_lcount (pv 0) (pa_cons (pv 1) pa_nil)) (pe_glob (v := .int 2) rfl m2 ⟨_, rfl⟩) (nomark _))))))))), ?_⟩
  refine ⟨_, rfl, V.ref l, .ty "list", .type "list", .type "list", true, rfl, .ty "list", .base (.lst hl), kit_ty (by decide +kernel), _, rfl, iteF ?_⟩
  refine ⟨_, rfl, l, rfl, ⟨_, SqL.of hl⟩, fun L hL => ?_⟩
  refine list_turns (xs := ws.map V.int) (fun i H' => Same H H' ∧ H' L = some (.lst ((List.replicate i true).map V.bl))) ⟨same_new hL _, upd_same⟩ (fun i H' _ h => h.1.seq (SqL.of hl)) ?_ ?_
  · rintro i x H' hx ⟨s3, h3⟩
    obtain ⟨k, rfl, hk⟩ := ws_at hx
    refine ⟨rfl, _, rfl, _, _, rfl, .int _, ?_⟩
    rw [show within (.int k) 0 1 = true by obtain rfl | rfl := hw k (List.mem_of_getElem? hk) <;> rfl]
    refine ⟨_, h3, ?_, same_upd s3 hL, by rw [upd_same, rep_snoc]⟩
    rw [List.length_map, List.length_replicate]
    have := (List.getElem?_eq_some_iff.mp hk).1
    exact Nat.lt_of_lt_of_le (show i < 100 by omega) (by decide)
  · rintro H3 ⟨s3, h3⟩
    refine ⟨L, _, rfl, SqL.of h3, ?_⟩
    rw [all_true]
    refine ⟨_, rfl, iteF ?_⟩
    refine ⟨hT, rfl, ⟨_, hH _⟩, fun D hD => ?_⟩
    refine tup_turns (xs := [V.int 0, V.int 1]) (fun i H' => Same H H' ∧ H' D = some (.lst (([((ws.count 0 : Nat) : Int), ((ws.count 1 : Nat) : Int)].take i).map V.int))) ⟨s3.trans (same_new hD _), upd_same⟩ (fun i H' _ _ => hH H') ?_ ?_
    · rintro i z H' hz ⟨s4, h4⟩
      obtain ⟨hi, rfl⟩ := hand_at hz
      refine ⟨rfl, _, rfl, .inl ⟨rfl, _, SqL.of (s4 _ _ hl)⟩, _, rfl, l, ws, _, rfl, rfl, SqL.of (s4 _ _ hl), _, h4, ?_, same_upd s4 (none_of_same s3 hD), ?_⟩
      · rw [List.length_map]
        exact Nat.lt_of_le_of_lt (List.length_take_le _ _) (Nat.lt_of_lt_of_le hi (by decide))
      · rw [upd_same]
        obtain rfl | rfl : i = 0 ∨ i = 1 := by omega
        · rfl
        · rfl
    · rintro H4 ⟨s4, h4⟩
      refine ⟨D, [((ws.count 0 : Nat) : Int), ((ws.count 1 : Nat) : Int)], rfl, SqL.of h4, Nat.zero_lt_two, fun m hm hle => ?_⟩
      have hmax : (m > 3) ↔ ¬ (ws.count 0 ≤ 3 ∧ ws.count 1 ≤ 3) := by
        have h0 := hle _ List.mem_cons_self
        have h1 := hle _ (List.mem_cons_of_mem _ List.mem_cons_self)
        rcases List.mem_cons.mp hm with rfl | hm
        · omega
        · obtain rfl := List.mem_singleton.mp hm
          omega
      refine ⟨_, _, rfl, rfl, _, rfl, ?_⟩
      by_cases c : ws.count 0 ≤ 3 ∧ ws.count 1 ≤ 3
      case neg =>
        refine iteT' (decide_eq_true (hmax.mpr c)) ?_
        have := q _ s4
        rw [show wbB ws = false by
          unfold wbB
          rw [← Bool.decide_and, decide_eq_false c, Bool.false_and]] at this
        exact this
      refine iteF' (decide_eq_false fun e => hmax.mp e c) ?_
      refine ⟨_, rfl, l, ws, rfl, s4 _ _ hl, hw, fun H5 s5 => ?_⟩
      have s45 := s4.trans s5
      have q := q _ s45
      have e0 : wbB ws = (match win ws with
        | none => true
        | some h => decide (ws.count ((h : Nat) : Int) = 2)) := by
        unfold wbB
        rw [← Bool.decide_and, decide_eq_true c, Bool.true_and]
      rw [e0] at q
      cases hwn : win ws with
      | none =>
        rw [hwn] at q
        exact ⟨_, rfl, rfl, _, rfl, iteT q⟩
      | some h =>
        rw [hwn] at q
        refine ⟨_, rfl, rfl, _, rfl, iteF ⟨_, rfl, .inl ⟨rfl, _, SqL.of (s45 _ _ hl)⟩, _, rfl, l, ws, _, rfl, rfl, SqL.of (s45 _ _ hl), rfl, ?_⟩⟩
        have e1 : decide (V.int ((ws.count ((h : Nat) : Int) : Nat) : Int) = V.int 2) = decide (ws.count ((h : Nat) : Int) = 2) := dec_nat
        rw [e1]
        exact q
end
end TA

set_option Elab.async false
set_option maxRecDepth 100000
set_option maxHeartbeats 4000000
namespace TA
open PySem L2 PyProof.Rows
set_option linter.unusedVariables false
structure RaiseC (K : PySem.W.Frag) (mg : Str → Option Value) (n : Str) (C : Addr) : Prop where
  m : mg n = some (.ref C)
  x : PySem.W.excIn K C [.type "ValueError", .type "Exception", .type "BaseException", .type "object"] "ValueError.__new__" = true
  k : PySem.W.keepIn K (.ref C) = true
  b : PySem.W.subIn K (.ref C) (.type "BaseException") = some true
  t : PySem.W.typeIn K (.ref C) = some (.type "type")
def oI : Option Int → V
  | none => .non
  | some i => .int i
/-- what a hand tells alone -/
def chO (ch : Nat → List Int) (h : Nat) (p : IP) : Int := (ch h).getD (sel h p) 0
/-- what a hand tells behind a weaving with a box -/
def tellO (ch : Nat → List Int) (an : Nat → IP × List (Int × Int) → Int) (ws : List Int) (e : IP × List (Int × Int)) (h : Nat) : Option Int := if win ws = some h then some (chO ch h e.1) else if ws.count ((h : Nat) : Int) = 3 then some (an h e) else none
def spTell (C cW : Addr) : Sp := fun vs H Q E => ∃ (p t : Addr) (T : TD) (ch : Nat → List Int) (an : Nat → IP × List (Int × Int) → Int) (al ans d0 d1 tt lw : Addr) (ws : List Int) (e : IP × List (Int × Int)), vs = [.ref p, .ref t, .ref tt, .ref lw] ∧ WF T ∧ BxF C H p t T ch an al ans d0 d1 ∧ e ∈ T.bo ∧ TpAt H (.ref tt) (iI e.1) ∧
  H lw = some (.lst (ws.map V.int)) ∧ HW ws ∧ ws.length ≤ 20 ∧ (wbB ws = false → ∀ H', Same H H' → E (.ref cW) none H') ∧
  (wbB ws = true → ∀ (r : Addr) (H' : Hp), Same H H' → H' r = some (.tup [oI (tellO ch an ws e 0), oI (tellO ch an ws e 1)]) → Q (.ref r) H')
section
variable {P : Program} {w : World} {K : PySem.W.Frag} {mg : Str → Option Value} {base : Heap}
abbrev nTell : List Str := ["task", "boxed", "inputs", "weaving", "alone", "answers", "won", "told", "hand"]
theorem sc_tell : FnScope nTell ["task", "boxed", "inputs", "weaving"] (defScope s_tell_boxed) := ⟨rfl, rfl, rfl, by decide +kernel, rfl, by decide +kernel, by decide +kernel⟩
theorem oN_eq {o : Option Nat} {h : Nat} : (V.int ((h : Nat) : Int) = oN o) ↔ o = some h := by
  cases o with
  | none => exact ⟨fun e => (by cases e), fun e => (by cases e)⟩
  | some k =>
    constructor
    · intro e
      injection e with e
      have : h = k := by omega
      rw [this]
    · intro e
      cases e
      rfl
theorem ixN_two {h : Nat} (hh : h < 2) : ixN 2 (h : Int) = some h := by
  obtain rfl | rfl : h = 0 ∨ h = 1 := by omega
  · rfl
  · rfl
theorem ok_tell {f g1 g2 g3 g4 C cW : Addr} {fd d1 d2 d3 d4 : FuncData} (F : Fun K "tell_boxed" "tell_boxed" s_tell_boxed f fd) (T : Txt K mg) (U : TxtH K mg) (B3 : TxtB K mg) (R3 : RaiseC K mg "NoWeaving" cW) (WIB : Def P w K mg base "is_boxed" ["task", "thing"] 6 (spIsBoxed K C) g1 d1)
    (WP : Def P w K mg base "is_pair" ["task", "thing"] 4 (spPair K C) g2 d2) (WBW : Def P w K mg base "is_boxed_weaving" ["thing"] 4 spBW g3 d3) (Wn : Def P w K mg base "winner" ["weaving"] 1 spWin g4 d4) : FnOk P w K mg base (L2.CX P w) 7 f fd ["task", "boxed", "inputs", "weaving"] (spTell C cW) := by
  refine F.okX sc_tell (fun vs H Q E h => ?_) (fun cdv A outer s H vs Q E hr h => ?_)
  · obtain ⟨p, t, D, ch, an, al, ans, e0, e1, tt, lw, ws, e, rfl, _⟩ := h
    rfl
  obtain ⟨p, t, D, ch, an, al, ans, e0, e1, tt, lw, ws, e, rfl, hW, B, he, htt, hlw, hw, hn, q1, q2⟩ := h
  have nd := sc_tell.nd
  have hu := hu_of hr
  obtain ⟨t3, m3⟩ := B3.three
  obtain ⟨hT, mH, hH⟩ := U.hands
  refine ⟨_, (pss_cons (ps_if (pt_not (pt_val (pe_call WIB.G (hr.mono (by decide)) rfl WIB.m WIB.k WIB.b .nil pass0 (pa_cons (pv 0) (pa_cons (pv 1) pa_nil)))))
      pss_never
      pss_nil)
    (pss_cons (ps_if (pt_not (pt_val (pe_call WP.G (hr.mono (by decide)) rfl WP.m WP.k WP.b .nil pass0 (pa_cons (pv 0) (pa_cons (pv 2) pa_nil)))))
      pss_never
      pss_nil)
    (pss_cons (ps_if (pt_not (pt_val (pe_call WBW.G (hr.mono (by decide)) rfl WBW.m WBW.k WBW.b .nil pass0 (pa_cons (pv 3) pa_nil))))
      (pss_one (ps_raise rfl (takes_of rfl rfl rfl rfl) (pmk_own PySem.F.excBase_ValueError R3.x R3.m R3.k (raises_own R3.b R3.t) (by exact rfl))))
      pss_nil)
    (PSs.nox (pss_cons (ps_asg (pv 1) (pg_tup (by rfl) (pgs_cons (pg_name (i := 4) nd rfl (Or.inl rfl)) (pgs_cons (pg_name (i := 5) nd rfl (Or.inl rfl)) pgs_nil))))
    (pss_cons (ps_set (i := 6) nd rfl (Or.inl rfl) (pe_call Wn.G (hr.mono (by decide)) rfl Wn.m Wn.k Wn.b .nil pass0 (pa_cons (pv 3) pa_nil)))
    (pss_cons (ps_set (i := 7) nd rfl (Or.inl rfl) (pe_lst (pa_cons pe_non (pa_cons pe_non pa_nil))))
    (pss_cons (ps_for PassesOwn.never (by rfl) (pi_tup (pe_glob (v := .ref hT) rfl mH rfl)) (pg_name (i := 8) nd rfl (Or.inl rfl))
      (pss_one (ps_if (pt_cmpR op_eq (pv 8) (pv 6) (nomark _))
      (pss_one (ps_asg (pe_ix ix_list (pe_ix ix_list (pv 4) (pv 8) (fun _ _ => rfl)) (pe_ix ix_tup (pv 2) (pv 8) (fun _ _ => rfl)) (fun _ _ => rfl)) (pg_sub (pv 7) (pv 8) set_list)))
      (pss_one (ps_if (pt_cmpR op_eq (pe_bm PySem.F.plainAttrs_list PySem.F.slot_list_count PySem.F.type_list_count mt_lcount (pv 3) (pa_cons (pv 8) pa_nil)) (pe_glob (v := .int 3) rfl m3 ⟨_, rfl⟩) (nomark _))
      (pss_one (ps_asg (pe_dget hu (pe_ix ix_list (pv 5) (pv 8) (fun _ _ => rfl)) (pv 2) (fun _ _ => rfl)) (pg_sub (pv 7) (pv 8) set_list)))
      pss_nil)))))
    (pss_one (ps_ret (pe_callTy call_tuple_of (by rfl) T.tuple boot_tuple (pa_cons (pv 7) pa_nil)))))))))))), ?_⟩
  refine ⟨_, rfl, _, rfl, p, t, D, ch, an, al, ans, e0, e1, rfl, hW, B, fun H1 s1 => ⟨true, rfl, iteF ?_⟩⟩
  have B1 := B.mono s1
  refine ⟨_, rfl, _, rfl, p, _, D, iI e.1, rfl, B1.x0.task, hW, htt.mono (.same s1), fun H2 s2 => ?_⟩
  rw [hasK_yes he]
  have s12 := s1.trans s2
  refine ⟨true, rfl, iteF ⟨_, rfl, lw, ws, rfl, s12 _ _ hlw, hw, hn, fun H3 s3 => ?_⟩⟩
  have s13 := s12.trans s3
  cases cw : wbB ws with
  | false => exact ⟨false, rfl, iteT (q1 cw _ s13)⟩
  | true =>
    have q := q2 cw
    refine ⟨true, rfl, iteF ?_⟩
    have B3 := B.mono s13
    refine ⟨_, rfl, t, _, rfl, SqT.of B3.ht, rfl, _, _, rfl, _, _, rfl, rfl, ?_⟩
    refine ⟨_, rfl, lw, ws, rfl, s13 _ _ hlw, hw, fun H4 s4 => ?_⟩
    have s14 := s13.trans s4
    refine ⟨(by show 2 ≤ sizeLine; decide), fun S hS => ?_⟩
    have s5 := same_new hS (.lst [V.non, V.non])
    refine ⟨hT, rfl, ⟨_, hH _⟩, for_tup (xs := [V.int 0, V.int 1]) (fun i σ H' => ∃ g, σ = [some (.ref p), some (.ref t), some (.ref tt), some (.ref lw), some (.ref al), some (.ref ans), some (oN (win ws)), some (.ref S), g] ∧ Same H H' ∧ H' S = some (.lst [if 0 < i then oI (tellO ch an ws e 0) else .non, if 1 < i then oI (tellO ch an ws e 1) else .non])) ⟨_, rfl, s14.trans s5, upd_same⟩ (fun i σ H' _ _ => hH H') ?_ ?_⟩
    · rintro i z σ H' hz ⟨g, rfl, s6, hSS⟩
      obtain ⟨hi, rfl⟩ := hand_at hz
      have B6 := B.mono s6
      have hSn : H S = none := none_of_same s14 hS
      have fin : ∀ v, v = oI (tellO ch an ws e i) → (upd H' S (.lst (([if 0 < i then oI (tellO ch an ws e 0) else .non, if 1 < i then oI (tellO ch an ws e 1) else .non] : List V).set i v))) S = some (.lst [if 0 < i + 1 then oI (tellO ch an ws e 0) else .non, if 1 < i + 1 then oI (tellO ch an ws e 1) else .non]) := by
        rintro v rfl
        rw [upd_same]
        obtain rfl | rfl : i = 0 ∨ i = 1 := by omega
        · rfl
        · rfl
      obtain ⟨ttt, ett, htt'⟩ := htt.mono (.same s6)
      obtain rfl : tt = ttt := by injection ett
      refine ⟨_, rfl, _, rfl, (by cases win ws <;> rfl), _, rfl, ?_⟩
      by_cases c : win ws = some i
      · refine iteT' (decide_eq_true (oN_eq.mpr c)) ?_
        obtain ⟨ta, xs, ea, hta, ar⟩ := B6.hal
        obtain rfl : al = ta := by injection ea
        obtain ⟨x, hx, rr, rfl, hrow⟩ := ar.at (i := i) (y := ch i) (by
          obtain rfl | rfl : i = 0 ∨ i = 1 := by omega
          · rfl
          · rfl)
        obtain ⟨rg0, rg1⟩ := hW.rng e he
        have hsl : sel i e.1 < (ch i).length := by
          rw [B.len i hi]
          obtain rfl | rfl : i = 0 ∨ i = 1 := by omega
          · exact rg0
          · exact rg1
        have gw : ((ch i).map V.int)[sel i e.1]? = some (.int (chO ch i e.1)) := by
          unfold chO
          rw [List.getElem?_map, List.getD_eq_getElem?_getD, List.getElem?_eq_getElem hsl]
          rfl
        refine ⟨_, rfl, _, rfl, al, _, _, _, rfl, rfl, SqL.of hta, atI_nat hx, _, rfl, _, rfl, tt, _, _, _, rfl, rfl, SqT.of htt', atI_nat (iI_at hi e.1), rr, _, _, _, rfl, rfl, SqL.of hrow, atI_nat gw, ?_⟩
        refine ⟨_, rfl, _, rfl, S, _, _, i, rfl, rfl, hSS, (ixN_two hi), ?_⟩
        refine ⟨_, rfl, same_upd s6 hSn, fin _ ?_⟩
        unfold tellO
        rw [if_pos c]
        rfl
      · refine iteF' (decide_eq_false fun h => c (oN_eq.mp h)) ?_
        refine ⟨_, rfl, .inl ⟨rfl, _, SqL.of (s6 _ _ hlw)⟩, _, rfl, lw, ws, _, rfl, rfl, SqL.of (s6 _ _ hlw), rfl, _, rfl, ?_⟩
        by_cases c3 : ws.count ((i : Nat) : Int) = 3
        · refine iteT' (decide_eq_true (by rw [c3]; rfl)) ?_
          obtain ⟨d, hd1, hd2⟩ : ∃ d, ([V.ref e0, V.ref e1] : List V)[i]? = some (.ref d) ∧ H' d = some (.dT (anKV an i D.bo)) := by
            obtain rfl | rfl : i = 0 ∨ i = 1 := by omega
            · exact ⟨e0, rfl, B6.h0⟩
            · exact ⟨e1, rfl, B6.h1⟩
          have dg : DGet H' d (.ref tt) (some (.int (an i e))) := (anKV_at hW.srt an i e he) ▸ DGet.t (k := kI e.1) hd2 htt'
          refine ⟨_, rfl, _, rfl, ans, _, _, _, rfl, rfl, SqL.of B6.hans, atI_nat hd1, _, rfl, d, _, rfl, dg, ?_⟩
          refine ⟨_, rfl, _, rfl, S, _, _, i, rfl, rfl, hSS, (ixN_two hi), ?_⟩
          refine ⟨_, rfl, same_upd s6 hSn, fin _ ?_⟩
          unfold tellO
          rw [if_neg c, if_pos c3]
          rfl
        · refine iteF' (decide_eq_false fun h => c3 (by injection h with h; omega)) ?_
          refine ⟨_, rfl, s6, ?_⟩
          have e0 : tellO ch an ws e i = none := by
            unfold tellO
            rw [if_neg c, if_neg c3]
          rw [hSS]
          obtain rfl | rfl : i = 0 ∨ i = 1 := by omega
          · rw [e0]; rfl
          · rw [e0]; rfl
    · rintro σ H' ⟨g, rfl, s6, hSS⟩
      refine ⟨_, rfl, S, _, rfl, .inl ⟨SqL.of hSS, fun r hr => ?_⟩⟩
      exact q r _ (s6.trans (same_new hr _)) upd_same
end
end TA

set_option Elab.async false
set_option maxRecDepth 100000
set_option maxHeartbeats 4000000
namespace TA
open PySem L2 PyProof.Rows
set_option linter.unusedVariables false
/-- a row that stands elsewhere than at D -/
def RowX (D : Addr) (H : Hp) (v : V) (row : List Int) : Prop := ∃ t, v = .ref t ∧ H t = some (.lst (row.map .int)) ∧ t ≠ D
theorem RowX.same {D : Addr} {H H' : Hp} (s : Same H H') {v : V} {row : List Int} (h : RowX D H v row) : RowX D H' v row := by
  obtain ⟨t, e, h, n⟩ := h
  exact ⟨t, e, s _ _ h, n⟩
theorem RowX.at {D : Addr} {H : Hp} {o : HO} {v : V} {row : List Int} (h : RowX D H v row) : RowX D (upd H D o) v row := by
  obtain ⟨t, e, h, n⟩ := h
  exact ⟨t, e, by rw [upd_ne n]; exact h, n⟩
theorem RowX.row {D : Addr} {H : Hp} {v : V} {row : List Int} (h : RowX D H v row) : RowAt H v row := by
  obtain ⟨t, e, h, n⟩ := h
  exact ⟨t, e, h⟩
def nextW (lay : List (List Int)) : List (List Int) := (lay.filter fun r => decide (r.count 0 < 3)).map (· ++ [0]) ++ (lay.filter fun r => decide (r.count 1 < 3)).map (· ++ [1])
def layW : Nat → List (List Int)
  | 0 => [[]]
  | n + 1 => nextW (layW n)
def allW : Nat → List (List Int)
  | 0 => [[]]
  | n + 1 => allW n ++ layW (n + 1)
def spWeavs : Sp := fun vs H Q _ => vs = [] ∧ ∀ (r : Addr) (xs : List V) (H' : Hp), Same H H' → H' r = some (.lst xs) → A2 (RowAt H') xs (allW 6) → Q (.ref r) H'
theorem lay_small : ∀ n, n < 7 → (layW n).length ≤ 100 ∧ (allW n).length ≤ 100 ∧ ∀ r ∈ layW n, r.length ≤ 10 := by decide +kernel
section
variable {P : Program} {w : World} {K : PySem.W.Frag} {mg : Str → Option Value} {base : Heap}
abbrev nWeavs : List Str := ["_law_found", "_law_layer", "_law_turn", "_law_later", "_law_row"]
theorem sc_weavs : FnScope nWeavs [] (defScope s__law_weavings) := ⟨rfl, rfl, rfl, by decide +kernel, rfl, by decide +kernel, by decide +kernel⟩
theorem ok_weavs {f : Addr} {fd : FuncData} (F : Fun K "_law_weavings" "_law_weavings" s__law_weavings f fd) (T : Txt K mg) : FnOk P w K mg base CX0 1 f fd [] spWeavs := by
  refine F.ok sc_weavs (fun vs H Q E h => ?_) (fun cdv A outer s H vs Q E hr h => ?_)
  · obtain ⟨rfl, _⟩ := h
    rfl
  obtain ⟨rfl, q⟩ := h
  have nd := sc_weavs.nd
  refine ⟨_, (pss_cons (ps_set (i := 0) nd rfl (Or.inl rfl) (pe_lst (pa_cons (pe_lst pa_nil) pa_nil)))
    (pss_cons (ps_set (i := 1) nd rfl (Or.inl rfl) (pe_lst (pa_cons (pe_lst pa_nil) pa_nil)))
    (pss_cons (ps_for PassesOwn.never (by rfl) (pi_range1 (by rfl) T.range (pa_cons pe_int pa_nil)) (pg_name (i := 2) nd rfl (Or.inl rfl))
      (pss_cons (ps_set (i := 3) nd rfl (Or.inl rfl) (pe_op op_cat (pe_lc (own := [("_law_row", 4)]) (g := (gName 4)) (tt := (tTest (tOp (rI0 fun i j => .bl (decide (i < j))) (tBM K "list" (rCntI K) (tVar 4) (tCons (tC (.int 0)) tNil)) (tC (.int 3))))) (te := (tOp rCat (tVar 4) (tLst (tCons (tC (.int 0)) tNil)))) rfl nd (pi_list (pv 1)) (blkOk_by (N := nWeavs) (sc := defScope s__law_weavings) (by decide +kernel)) (fun _ _ _ _ _ => (by exact (pg_name (i := 4) nd rfl (Or.inl rfl)))) (fun _ _ _ _ _ => pts_one (by exact (pt_cmpR op_lt (pe_bm PySem.F.plainAttrs_list PySem.F.slot_list_count PySem.F.type_list_count mt_lcount (pv 4) (pa_cons pe_int pa_nil)) pe_int (nomark _)))) (fun _ _ _ _ _ => (by exact (pe_op op_cat (pv 4) (pe_lst (pa_cons pe_int pa_nil)))))) (pe_lc (own := [("_law_row", 4)]) (g := (gName 4)) (tt := (tTest (tOp (rI0 fun i j => .bl (decide (i < j))) (tBM K "list" (rCntI K) (tVar 4) (tCons (tC (.int 1)) tNil)) (tC (.int 3))))) (te := (tOp rCat (tVar 4) (tLst (tCons (tC (.int 1)) tNil)))) rfl nd (pi_list (pv 1)) (blkOk_by (N := nWeavs) (sc := defScope s__law_weavings) (by decide +kernel)) (fun _ _ _ _ _ => (by exact (pg_name (i := 4) nd rfl (Or.inl rfl)))) (fun _ _ _ _ _ => pts_one (by exact (pt_cmpR op_lt (pe_bm PySem.F.plainAttrs_list PySem.F.slot_list_count PySem.F.type_list_count mt_lcount (pv 4) (pa_cons pe_int pa_nil)) pe_int (nomark _)))) (fun _ _ _ _ _ => (by exact (pe_op op_cat (pv 4) (pe_lst (pa_cons pe_int pa_nil))))))))
    (pss_cons (ps_set (i := 0) nd rfl (Or.inl rfl) (pe_op op_cat (pv 0) (pv 3)))
    (pss_one (ps_set (i := 1) nd rfl (Or.inl rfl) (pv 3))))))
    (pss_one (ps_ret (pv 0)))))), ?_⟩
  refine ⟨(by show 0 ≤ sizeLine; decide), fun a0 ha0 => ⟨(by show 1 ≤ sizeLine; decide), fun a1 ha1 => ?_⟩⟩
  refine ⟨(by show 0 ≤ sizeLine; decide), fun a2 ha2 => ⟨(by show 1 ≤ sizeLine; decide), fun a3 ha3 => ?_⟩⟩
  have b0 := same_new ha0 (.lst [])
  have b1 := same_new ha1 (.lst [V.ref a0])
  have b2 := same_new ha2 (.lst [])
  have b3 := same_new ha3 (.lst [V.ref a2])
  refine ⟨6, rfl, by decide, by decide, for_range (n := 6) (fun i σ H' => ∃ fo LY g1 g2 g3 xs ys, σ = [some (.ref fo), some (.ref LY), g1, g2, g3] ∧ Same H H' ∧ H' fo = some (.lst xs) ∧ A2 (RowAt H') xs (allW i) ∧ H' LY = some (.lst ys) ∧ A2 (RowAt H') ys (layW i)) ⟨a1, a3, _, _, _, [V.ref a0], [V.ref a2], rfl, ((b0.trans b1).trans b2).trans b3, b3 _ _ (b2 _ _ upd_same), .cons ⟨a0, rfl, b3 _ _ (b2 _ _ (b1 _ _ upd_same))⟩ .nil, upd_same, .cons ⟨a2, rfl, b3 _ _ upd_same⟩ .nil⟩ ?_ ?_⟩
  · rintro i σ H' hi ⟨fo, LY, g1, g2, g3, xs, ys, rfl, sH, hfo, ax, hLY, ay⟩
    obtain ⟨hlay, hall, hrl⟩ := lay_small i (by omega)
    generalize hl : layW i = lay at ay hlay hrl
    refine ⟨_, rfl, LY, rfl, ⟨_, SqL.of hLY⟩, fun D0 hD0 => ?_⟩
    refine list_turns (xs := ys) (fun k H2 => Same H' H2 ∧ ∃ zs, H2 D0 = some (.lst zs) ∧ A2 (RowX D0 H2) zs (((lay.take k).filter fun r => decide (r.count 0 < 3)).map (· ++ [0]))) ⟨same_new hD0 _, [], upd_same, .nil⟩ (fun k H2 _ h => SqL.of (h.1 _ _ hLY)) ?_ ?_
    · rintro k x H2 hx ⟨s2, zs, hz, az⟩
      obtain ⟨row, hrow, t, rfl, ht⟩ := ay.get hx
      have hm := List.mem_of_getElem? hrow
      have ht2 := s2 _ _ ht
      have e1 : (lay.take (k + 1)).filter (fun r => decide (r.count 0 < 3)) = if (decide (row.count 0 < 3)) = true then (lay.take k).filter (fun r => decide (r.count 0 < 3)) ++ [row] else (lay.take k).filter (fun r => decide (r.count 0 < 3)) := by
        rw [take_get hrow, filt_snoc]
      have hzl : zs.length ≤ 100 := by
        rw [az.len, List.length_map]
        refine Nat.le_trans (List.length_filter_le _ _) ?_
        rw [List.length_take]
        exact Nat.le_trans (Nat.min_le_right _ _) hlay
      refine ⟨rfl, _, rfl, .inl ⟨rfl, _, SqL.of ht2⟩, t, row, _, rfl, rfl, SqL.of ht2, _, _, rfl, rfl, _, rfl, ?_⟩
      by_cases c : row.count 0 < 3
      · rw [decide_eq_true c, if_pos rfl] at e1
        refine iteT' (decide_eq_true (by omega)) ?_
        refine ⟨_, rfl, (by show 1 ≤ sizeLine; decide), fun o ho => ?_⟩
        have s3 := same_new ho (.lst [V.int 0])
        have ht3 := s3 _ _ ht2
        refine ⟨t, o, _, _, rfl, rfl, ht3, upd_same, ?_, fun u hu => ?_⟩
        · rw [List.length_map]
          have := hrl row hm
          exact Nat.le_trans (show row.length + 1 ≤ 100 by omega) (by decide)
        have s4 := same_new hu (.lst (row.map V.int ++ [V.int 0]))
        have hz4 := s4 _ _ (s3 _ _ hz)
        refine ⟨zs, hz4, Nat.lt_of_le_of_lt hzl (by decide), same_upd ((s2.trans s3).trans s4) hD0, _, upd_same, ?_⟩
        rw [e1, List.map_append]
        have nu : u ≠ D0 := (ne_of_none (s3 _ _ hz) hu).symm
        refine A2.snoc (az.imp fun _ _ r => (r.same (s3.trans s4)).at) ⟨u, rfl, ?_, nu⟩
        rw [upd_ne nu, upd_same, List.map_append]
        rfl
      · rw [decide_eq_false c, if_neg (by decide)] at e1
        refine iteF' (decide_eq_false (by omega)) ⟨s2, zs, hz, ?_⟩
        rw [e1]
        exact az
    · rintro H2 ⟨s2, zs, hz, az⟩
      rw [ay.len, List.take_length] at az
      have ay2 := ay.imp fun _ _ r => r.mono (.same s2)
      refine ⟨_, rfl, LY, rfl, ⟨_, SqL.of (s2 _ _ hLY)⟩, fun D1 hD1 => ?_⟩
      refine list_turns (xs := ys) (fun k Hk => Same H2 Hk ∧ ∃ zs, Hk D1 = some (.lst zs) ∧ A2 (RowX D1 Hk) zs (((lay.take k).filter fun r => decide (r.count 1 < 3)).map (· ++ [1]))) ⟨same_new hD1 _, [], upd_same, .nil⟩ (fun k Hk _ h => SqL.of (h.1 _ _ (s2 _ _ hLY))) ?_ ?_
      · rintro k x Hk hx ⟨sk, zs, hz, az⟩
        obtain ⟨row, hrow, t, rfl, ht⟩ := ay2.get hx
        have hm := List.mem_of_getElem? hrow
        have ht2 := sk _ _ ht
        have e1 : (lay.take (k + 1)).filter (fun r => decide (r.count 1 < 3)) = if (decide (row.count 1 < 3)) = true then (lay.take k).filter (fun r => decide (r.count 1 < 3)) ++ [row] else (lay.take k).filter (fun r => decide (r.count 1 < 3)) := by
          rw [take_get hrow, filt_snoc]
        have hzl : zs.length ≤ 100 := by
          rw [az.len, List.length_map]
          refine Nat.le_trans (List.length_filter_le _ _) ?_
          rw [List.length_take]
          exact Nat.le_trans (Nat.min_le_right _ _) hlay
        refine ⟨rfl, _, rfl, .inl ⟨rfl, _, SqL.of ht2⟩, t, row, _, rfl, rfl, SqL.of ht2, _, _, rfl, rfl, _, rfl, ?_⟩
        by_cases c : row.count 1 < 3
        · rw [decide_eq_true c, if_pos rfl] at e1
          refine iteT' (decide_eq_true (by omega)) ?_
          refine ⟨_, rfl, (by show 1 ≤ sizeLine; decide), fun o ho => ?_⟩
          have s3 := same_new ho (.lst [V.int 1])
          have ht3 := s3 _ _ ht2
          refine ⟨t, o, _, _, rfl, rfl, ht3, upd_same, ?_, fun u hu => ?_⟩
          · rw [List.length_map]
            have := hrl row hm
            exact Nat.le_trans (show row.length + 1 ≤ 100 by omega) (by decide)
          have s4 := same_new hu (.lst (row.map V.int ++ [V.int 1]))
          have hz4 := s4 _ _ (s3 _ _ hz)
          refine ⟨zs, hz4, Nat.lt_of_le_of_lt hzl (by decide), same_upd ((sk.trans s3).trans s4) hD1, _, upd_same, ?_⟩
          rw [e1, List.map_append]
          have nu : u ≠ D1 := (ne_of_none (s3 _ _ hz) hu).symm
          refine A2.snoc (az.imp fun _ _ r => (r.same (s3.trans s4)).at) ⟨u, rfl, ?_, nu⟩
          rw [upd_ne nu, upd_same, List.map_append]
          rfl
        · rw [decide_eq_false c, if_neg (by decide)] at e1
          refine iteF' (decide_eq_false (by omega)) ⟨sk, zs, hz, ?_⟩
          rw [e1]
          exact az
      · rintro H3 ⟨s3, us, hu, au⟩
        rw [ay2.len, List.take_length] at au
        have hz3 := s3 _ _ hz
        have lz : zs.length ≤ 100 := by
          rw [az.len, List.length_map]
          exact Nat.le_trans (List.length_filter_le _ _) hlay
        have lu : us.length ≤ 100 := by
          rw [au.len, List.length_map]
          exact Nat.le_trans (List.length_filter_le _ _) hlay
        refine ⟨D0, D1, _, _, rfl, rfl, hz3, hu, Nat.le_trans (show zs.length + us.length ≤ 200 by omega) (by decide), fun lt hlt => ?_⟩
        have s4 := same_new hlt (.lst (zs ++ us))
        have s24 := (s2.trans s3).trans s4
        have an : A2 (RowAt (upd H3 lt (.lst (zs ++ us)))) (zs ++ us) (layW (i + 1)) := by
          show A2 _ _ (nextW (layW i))
          rw [hl]
          exact A2.app (az.imp fun _ _ r => r.row.mono (.same (s3.trans s4))) (au.imp fun _ _ r => r.row.mono (.same s4))
        have hl4 : (upd H3 lt (.lst (zs ++ us))) lt = some (.lst (zs ++ us)) := upd_same
        generalize upd H3 lt (.lst (zs ++ us)) = H4 at s4 s24 an hl4 ⊢
        have hx4 := s24 _ _ hfo
        refine ⟨_, rfl, _, rfl, fo, lt, _, _, rfl, rfl, hx4, hl4, ?_, fun nf hnf => ?_⟩
        · rw [ax.len]
          exact Nat.le_trans (show (allW i).length + (zs ++ us).length ≤ 300 by rw [List.length_append]; omega) (by decide)
        have s5 := same_new hnf (.lst (xs ++ (zs ++ us)))
        refine ⟨_, rfl, ?_⟩
        refine ⟨nf, lt, _, _, _, _, _, rfl, (sH.trans s24).trans s5, upd_same, A2.app (ax.imp fun _ _ r => r.mono (.same (s24.trans s5))) (an.imp fun _ _ r => r.mono (.same s5)), s5 _ _ hl4, an.imp fun _ _ r => r.mono (.same s5)⟩
  · rintro σ H' ⟨fo, LY, g1, g2, g3, xs, ys, rfl, sH, hfo, ax, _⟩
    exact ⟨_, rfl, q fo xs H' sH hfo ax⟩
end
end TA

set_option Elab.async false
set_option maxRecDepth 100000
set_option maxHeartbeats 4000000
namespace TA
open PySem L2 PyProof.Rows
set_option linter.unusedVariables false
/-- the law's own steps; none where the one that won does a third step -/
def ownG {α : Type} (t a : Nat → α) : List Int → Nat → Nat → Option Nat → Option α → Option α → Option ((Option α × Option α) × Option Nat)
  | [], _, _, wn, f0, f1 => some ((f0, f1), wn)
  | x :: r, d0, d1, wn, f0, f1 =>
    if x = 0 then
      if d0 = 1 ∧ wn = none then ownG t a r (d0 + 1) d1 (some 0) (some (t 0)) f1
      else if d0 = 2 then (if wn = some 0 then none else ownG t a r (d0 + 1) d1 wn (some (a 0)) f1)
      else ownG t a r (d0 + 1) d1 wn f0 f1
    else
      if d1 = 1 ∧ wn = none then ownG t a r d0 (d1 + 1) (some 1) f0 (some (t 1))
      else if d1 = 2 then (if wn = some 1 then none else ownG t a r d0 (d1 + 1) wn f0 (some (a 1)))
      else ownG t a r d0 (d1 + 1) wn f0 f1
def ownO {α : Type} (t a : Nat → α) (ws : List Int) : Option ((Option α × Option α) × Option Nat) := ownG t a ws 0 0 none none none
def mapR {α β : Type} (g : α → β) (q : (Option α × Option α) × Option Nat) : (Option β × Option β) × Option Nat := ((q.1.1.map g, q.1.2.map g), q.2)
theorem ownG_map {α β : Type} (g : α → β) (t a : Nat → α) : ∀ (ws : List Int) (d0 d1 : Nat) (wn : Option Nat) (f0 f1 : Option α), ownG (fun h => g (t h)) (fun h => g (a h)) ws d0 d1 wn (f0.map g) (f1.map g) = (ownG t a ws d0 d1 wn f0 f1).map (mapR g)
  | [], _, _, _, _, _ => rfl
  | x :: r, d0, d1, wn, f0, f1 => by
    unfold ownG
    by_cases c : x = 0
    · rw [if_pos c, if_pos c]
      by_cases c1 : d0 = 1 ∧ wn = none
      · rw [if_pos c1, if_pos c1]; exact ownG_map g t a r _ _ _ (some (t 0)) f1
      · rw [if_neg c1, if_neg c1]
        by_cases c2 : d0 = 2
        · rw [if_pos c2, if_pos c2]
          by_cases c3 : wn = some 0
          · rw [if_pos c3, if_pos c3]; rfl
          · rw [if_neg c3, if_neg c3]; exact ownG_map g t a r _ _ _ (some (a 0)) f1
        · rw [if_neg c2, if_neg c2]; exact ownG_map g t a r _ _ _ f0 f1
    · rw [if_neg c, if_neg c]
      by_cases c1 : d1 = 1 ∧ wn = none
      · rw [if_pos c1, if_pos c1]; exact ownG_map g t a r _ _ _ f0 (some (t 1))
      · rw [if_neg c1, if_neg c1]
        by_cases c2 : d1 = 2
        · rw [if_pos c2, if_pos c2]
          by_cases c3 : wn = some 1
          · rw [if_pos c3, if_pos c3]; rfl
          · rw [if_neg c3, if_neg c3]; exact ownG_map g t a r _ _ _ f0 (some (a 1))
        · rw [if_neg c2, if_neg c2]; exact ownG_map g t a r _ _ _ f0 f1
def tellG {α : Type} (t a : Nat → α) (ws : List Int) (h : Nat) : Option α := if win ws = some h then some (t h) else if ws.count ((h : Nat) : Int) = 3 then some (a h) else none
theorem tellG_map {α β : Type} (g : α → β) (t a : Nat → α) (ws : List Int) (h : Nat) : tellG (fun h => g (t h)) (fun h => g (a h)) ws h = (tellG t a ws h).map g := by
  unfold tellG
  by_cases c : win ws = some h
  · rw [if_pos c, if_pos c]; rfl
  · rw [if_neg c, if_neg c]
    by_cases c : ws.count ((h : Nat) : Int) = 3
    · rw [if_pos c, if_pos c]; rfl
    · rw [if_neg c, if_neg c]; rfl
abbrev tB : Nat → Bool × Nat := fun h => (true, h)
abbrev aB : Nat → Bool × Nat := fun h => (false, h)
theorem all_own' : ((allW 6).all fun ws => decide (ownO tB aB ws = if wbB ws = true then some ((tellG tB aB ws 0, tellG tB aB ws 1), win ws) else none)) = true := by decide +kernel
theorem all_own (ws : List Int) (h : ws ∈ allW 6) : ownO tB aB ws = if wbB ws = true then some ((tellG tB aB ws 0, tellG tB aB ws 1), win ws) else none := of_decide_eq_true (List.all_eq_true.mp all_own' ws h)
/-- the law's own steps and the program's agree -/
theorem own_tell {α : Type} (t a : Nat → α) {ws : List Int} (h : ws ∈ allW 6) : ownO t a ws = if wbB ws = true then some ((tellG t a ws 0, tellG t a ws 1), win ws) else none := by
  let g : Bool × Nat → α := fun x => if x.1 = true then t x.2 else a x.2
  have e1 : ownO t a ws = (ownO tB aB ws).map (mapR g) := ownG_map g tB aB ws 0 0 none none none
  rw [e1, all_own ws h]
  by_cases c : wbB ws = true
  · rw [if_pos c, if_pos c]
    show some (mapR g _) = _
    unfold mapR
    have e0 := tellG_map g tB aB ws 0
    have e1 := tellG_map g tB aB ws 1
    rw [← e0, ← e1]
    rfl
  · rw [if_neg c, if_neg c]
    rfl
theorem allW_ok : ∀ ws ∈ allW 6, (∀ x ∈ ws, x = 0 ∨ x = 1) ∧ ws.length ≤ 6 := by decide +kernel
def spOwn (C : Addr) : Sp := fun vs H Q _ => ∃ (p t : Addr) (T : TD) (ch : Nat → List Int) (an : Nat → IP × List (Int × Int) → Int) (al ans d0 d1 tt lw : Addr) (ws : List Int) (e : IP × List (Int × Int)), vs = [.ref al, .ref ans, .ref tt, .ref lw] ∧ WF T ∧ BxF C H p t T ch an al ans d0 d1 ∧ e ∈ T.bo ∧ TpAt H (.ref tt) (iI e.1) ∧
  H lw = some (.lst (ws.map V.int)) ∧ HW ws ∧ ws.length ≤ 20 ∧ (ownO (fun h => chO ch h e.1) (fun h => an h e) ws = none → ∀ H', Same H H' → Q .non H') ∧
  (∀ f0 f1 wn, ownO (fun h => chO ch h e.1) (fun h => an h e) ws = some ((f0, f1), wn) → ∀ (r u : Addr) (H' : Hp), Same H H' → H' r = some (.tup [.ref u, oN wn]) → H' u = some (.tup [oI f0, oI f1]) → Q (.ref r) H')
section
variable {P : Program} {w : World} {K : PySem.W.Frag} {mg : Str → Option Value} {base : Heap}
abbrev nOwn : List Str := ["_law_told", "_law_answers", "_law_inputs", "_law_weaving", "_law_won", "_law_done", "_law_found", "_law_hand"]
theorem sc_own : FnScope nOwn ["_law_told", "_law_answers", "_law_inputs", "_law_weaving"] (defScope s__law_own) := ⟨rfl, rfl, rfl, by decide +kernel, rfl, by decide +kernel, by decide +kernel⟩
theorem BxF.told {C : Addr} {H : Hp} {p t : Addr} {T : TD} {ch an al ans d0 d1} (B : BxF C H p t T ch an al ans d0 d1) (hW : WF T) {e : IP × List (Int × Int)} (he : e ∈ T.bo) {i : Nat} (hi : i < 2) : ∃ xs rr, H al = some (.lst xs) ∧ xs[i]? = some (.ref rr) ∧ H rr = some (.lst ((ch i).map V.int)) ∧ ((ch i).map V.int)[sel i e.1]? = some (.int (chO ch i e.1)) := by
  obtain ⟨ta, xs, ea, hta, ar⟩ := B.hal
  obtain rfl : al = ta := by injection ea
  obtain ⟨x, hx, rr, rfl, hrow⟩ := ar.at (i := i) (y := ch i) (by
    obtain rfl | rfl : i = 0 ∨ i = 1 := by omega
    · rfl
    · rfl)
  obtain ⟨rg0, rg1⟩ := hW.rng e he
  have hsl : sel i e.1 < (ch i).length := by
    rw [B.len i hi]
    obtain rfl | rfl : i = 0 ∨ i = 1 := by omega
    · exact rg0
    · exact rg1
  refine ⟨xs, rr, hta, hx, hrow, ?_⟩
  unfold chO
  rw [List.getElem?_map, List.getD_eq_getElem?_getD, List.getElem?_eq_getElem hsl]
  rfl
theorem BxF.answ {C : Addr} {H : Hp} {p t : Addr} {T : TD} {ch an al ans d0 d1} (B : BxF C H p t T ch an al ans d0 d1) (hW : WF T) {e : IP × List (Int × Int)} (he : e ∈ T.bo) {tt : Addr} (htt : H tt = some (.tup [.int (iI e.1).1, .int (iI e.1).2])) {i : Nat} (hi : i < 2) : ∃ d, ([V.ref d0, V.ref d1] : List V)[i]? = some (.ref d) ∧ DGet H d (.ref tt) (some (.int (an i e))) := by
  obtain ⟨d, hd1, hd2⟩ : ∃ d, ([V.ref d0, V.ref d1] : List V)[i]? = some (.ref d) ∧ H d = some (.dT (anKV an i T.bo)) := by
    obtain rfl | rfl : i = 0 ∨ i = 1 := by omega
    · exact ⟨d0, rfl, B.h0⟩
    · exact ⟨d1, rfl, B.h1⟩
  exact ⟨d, hd1, (anKV_at hW.srt an i e he) ▸ DGet.t (k := kI e.1) hd2 htt⟩
theorem oN_non {o : Option Nat} : (oN o = .non) ↔ o = none := by
  cases o with
  | none => exact ⟨fun _ => rfl, fun _ => rfl⟩
  | some k => exact ⟨fun e => (by cases e), fun e => (by cases e)⟩
theorem oN_int {o : Option Nat} {h : Nat} : (oN o = V.int ((h : Nat) : Int)) ↔ o = some h := ⟨fun e => oN_eq.mp e.symm, fun e => (oN_eq.mpr e).symm⟩
theorem ok_own {f C : Addr} {fd : FuncData} (F : Fun K "_law_own" "_law_own" s__law_own f fd) (T : Txt K mg) : FnOk P w K mg base CX0 1 f fd ["_law_told", "_law_answers", "_law_inputs", "_law_weaving"] (spOwn C) := by
  refine F.ok sc_own (fun vs H Q E h => ?_) (fun cdv A outer s H vs Q E hr h => ?_)
  · obtain ⟨p, t, D, ch, an, al, ans, e0, e1, tt, lw, ws, e, rfl, _⟩ := h
    rfl
  obtain ⟨p, t, D, ch, an, al, ans, e0, e1, tt, lw, ws, e, rfl, hW, B, he, htt, hlw, hw, hn, q1, q2⟩ := h
  have nd := sc_own.nd
  have hu := hu_of hr
  refine ⟨_, (pss_cons (ps_set (i := 4) nd rfl (Or.inl rfl) pe_non)
    (pss_cons (ps_set (i := 5) nd rfl (Or.inl rfl) (pe_lst (pa_cons pe_int (pa_cons pe_int pa_nil))))
    (pss_cons (ps_set (i := 6) nd rfl (Or.inl rfl) (pe_lst (pa_cons pe_non (pa_cons pe_non pa_nil))))
    (pss_cons (ps_for PassesOwn.never (by rfl) (pi_list (pv 3)) (pg_name (i := 7) nd rfl (Or.inl rfl))
      (pss_cons (ps_asg (pe_op op_add (pe_ix ix_list (pv 5) (pv 7) (fun _ _ => rfl)) pe_int) (pg_sub (pv 5) (pv 7) set_list))
    (pss_one (ps_if (PW.pt (pw_and (pt_cmpR op_eq (pe_ix ix_list (pv 5) (pv 7) (fun _ _ => rfl)) pe_int (nomark _)) (pw_and1 (pt_cmpR op_isN (pv 4) pe_non (nomark _)))))
      (pss_cons (ps_set (i := 4) nd rfl (Or.inl rfl) (pv 7))
    (pss_one (ps_asg (pe_ix ix_list (pe_ix ix_list (pv 0) (pv 7) (fun _ _ => rfl)) (pe_ix ix_tup (pv 2) (pv 7) (fun _ _ => rfl)) (fun _ _ => rfl)) (pg_sub (pv 6) (pv 7) set_list))))
      (pss_one (ps_if (pt_cmpR op_eq (pe_ix ix_list (pv 5) (pv 7) (fun _ _ => rfl)) pe_int (nomark _))
      (pss_cons (ps_if (pt_cmpR op_eq (pv 4) (pv 7) (nomark _))
      (pss_one (ps_ret pe_non))
      pss_nil)
    (pss_one (ps_asg (pe_dget hu (pe_ix ix_list (pv 1) (pv 7) (fun _ _ => rfl)) (pv 2) (fun _ _ => rfl)) (pg_sub (pv 6) (pv 7) set_list))))
      pss_nil))))))
    (pss_one (ps_ret (pe_tup (pa_cons (pe_callTy call_tuple_of (by rfl) T.tuple boot_tuple (pa_cons (pv 6) pa_nil)) (pa_cons (pv 4) pa_nil))))))))), ?_⟩
  refine ⟨(by show 2 ≤ sizeLine; decide), fun dn hdn => ?_⟩
  have s1 := same_new hdn (.lst [V.int 0, V.int 0])
  refine ⟨(by show 2 ≤ sizeLine; decide), fun fn hfn => ?_⟩
  have s2 := s1.trans (same_new hfn (.lst [V.non, V.non]))
  have ndf : dn ≠ fn := ne_of_none upd_same hfn
  have hfnH : H fn = none := none_of_same s1 hfn
  refine ⟨_, rfl, lw, rfl, ⟨_, SqL.of (s2 _ _ hlw)⟩, for_list (xs := ws.map V.int) (fun i σ H' => ∃ (g : Option V) (a b : Nat) (wn : Option Nat) (f0 f1 : Option Int), σ = [some (.ref al), some (.ref ans), some (.ref tt), some (.ref lw), some (oN wn), some (.ref dn), some (.ref fn), g] ∧ Same H H' ∧ H' dn = some (.lst [V.int ((a : Nat) : Int), V.int ((b : Nat) : Int)]) ∧ H' fn = some (.lst [oI f0, oI f1]) ∧ ownG (fun h => chO ch h e.1) (fun h => an h e) (ws.drop i) a b wn f0 f1 = ownO (fun h => chO ch h e.1) (fun h => an h e) ws) ⟨_, 0, 0, none, none, none, rfl, s2, by rw [upd_ne ndf]; exact upd_same, upd_same, rfl⟩ (fun i σ H' _ ⟨g, a, b, wn, f0, f1, _, s3, _⟩ => SqL.of (s3 _ _ hlw)) ?_ ?_⟩
  · rintro i x σ H' hx ⟨g, a, b, wn, f0, f1, rfl, s3, hdd, hff, hg⟩
    obtain ⟨k, rfl, hk⟩ := ws_at hx
    rw [drop_get hk] at hg
    unfold ownG at hg
    obtain rfl | rfl := hw k (List.mem_of_getElem? hk)
    · rw [if_pos rfl] at hg
      refine ⟨_, rfl, _, rfl, dn, _, _, _, rfl, rfl, SqL.of hdd, rfl, _, _, rfl, rfl, ?_⟩
      refine ⟨_, rfl, _, rfl, dn, _, _, 0, rfl, rfl, hdd, rfl, ?_⟩
      have s4 : Same H (upd H' dn (.lst [V.int ((a : Nat) + 1 : Int), V.int ((b : Nat) : Int)])) := same_upd s3 hdn
      have hd4 : (upd H' dn (.lst [V.int ((a : Nat) + 1 : Int), V.int ((b : Nat) : Int)])) dn = some (.lst [V.int ((a : Nat) + 1 : Int), V.int ((b : Nat) : Int)]) := upd_same
      have hf4 : (upd H' dn (.lst [V.int ((a : Nat) + 1 : Int), V.int ((b : Nat) : Int)])) fn = some (.lst [oI f0, oI f1]) := by rw [upd_ne (Ne.symm ndf)]; exact hff
      have B4 := B.mono s4
      have nxt : ∀ (v : Int), Same H (upd (upd H' dn (.lst [V.int ((a : Nat) + 1 : Int), V.int ((b : Nat) : Int)])) fn (.lst [oI (some v), oI f1])) ∧ (upd (upd H' dn (.lst [V.int ((a : Nat) + 1 : Int), V.int ((b : Nat) : Int)])) fn (.lst [oI (some v), oI f1])) dn = some (.lst [V.int ((a : Nat) + 1 : Int), V.int ((b : Nat) : Int)]) ∧ (upd (upd H' dn (.lst [V.int ((a : Nat) + 1 : Int), V.int ((b : Nat) : Int)])) fn (.lst [oI (some v), oI f1])) fn = some (.lst [oI (some v), oI f1]) := fun v => ⟨same_upd s4 hfnH, by rw [upd_ne ndf]; exact hd4, upd_same⟩
      obtain ⟨ttt, ett, htt'⟩ := htt.mono (.same s4)
      obtain rfl : tt = ttt := by injection ett
      refine ⟨_, rfl, _, rfl, dn, _, _, _, rfl, rfl, SqL.of hd4, rfl, rfl, _, rfl, ?_⟩
      by_cases c1 : a = 1
      · refine iteT' (decide_eq_true (by rw [c1]; rfl)) ⟨_, rfl, rfl, _, rfl, ?_⟩
        cases wn with
        | none =>
          rw [if_pos ⟨c1, rfl⟩] at hg
          refine iteT ?_
          obtain ⟨xs, rr, hal, hx, hrr, gw⟩ := B4.told hW he (i := 0) (by decide)
          refine ⟨_, rfl, _, rfl, _, rfl, al, _, _, _, rfl, rfl, SqL.of hal, atI_nat (j := 0) hx, _, rfl, _, rfl, tt, _, _, _, rfl, rfl, SqT.of htt', atI_nat (iI_at (by decide : 0 < 2) e.1), rr, _, _, _, rfl, rfl, SqL.of hrr, atI_nat gw, ?_⟩
          refine ⟨_, rfl, _, rfl, fn, _, _, 0, rfl, rfl, hf4, rfl, ?_⟩
          obtain ⟨n1, n2, n3⟩ := nxt (chO ch 0 e.1)
          exact ⟨_, (a + 1), b, some 0, some (chO ch 0 e.1), f1, rfl, n1, n2, n3, hg⟩
        | some o =>
          rw [if_neg (fun z => nomatch z.2), if_neg (by omega)] at hg
          refine iteF ⟨_, rfl, _, rfl, dn, _, _, _, rfl, rfl, SqL.of hd4, rfl, rfl, _, rfl, iteF' (decide_eq_false fun z => ?_) ?_⟩
          · have z : V.int ((a : Nat) + 1 : Int) = V.int 3 := z
            injection z with z
            omega
          · exact ⟨_, (a + 1), b, some o, f0, f1, rfl, s4, hd4, hf4, hg⟩
      · rw [if_neg (fun z => c1 z.1)] at hg
        refine iteF' (decide_eq_false fun z => c1 ?_) ?_
        · have z : V.int ((a : Nat) + 1 : Int) = V.int 2 := z
          injection z with z
          omega
        refine ⟨_, rfl, _, rfl, dn, _, _, _, rfl, rfl, SqL.of hd4, rfl, rfl, _, rfl, ?_⟩
        by_cases c2 : a = 2
        · rw [if_pos c2] at hg
          refine iteT' (decide_eq_true (by rw [c2]; rfl)) ?_
          refine ⟨_, rfl, _, rfl, (by cases wn <;> rfl), _, rfl, ?_⟩
          by_cases c3 : wn = some 0
          · rw [if_pos c3] at hg
            refine iteT' (decide_eq_true (oN_int.mpr c3)) ?_
            exact q1 hg.symm _ s4
          · rw [if_neg c3] at hg
            refine iteF' (decide_eq_false fun z => c3 (oN_int.mp z)) ?_
            obtain ⟨d, hd1, dg⟩ := B4.answ hW he htt' (i := 0) (by decide)
            refine ⟨_, rfl, _, rfl, ans, _, _, _, rfl, rfl, SqL.of B4.hans, atI_nat (j := 0) hd1, _, rfl, d, _, rfl, dg, ?_⟩
            refine ⟨_, rfl, _, rfl, fn, _, _, 0, rfl, rfl, hf4, rfl, ?_⟩
            obtain ⟨n1, n2, n3⟩ := nxt (an 0 e)
            exact ⟨_, (a + 1), b, wn, some (an 0 e), f1, rfl, n1, n2, n3, hg⟩
        · rw [if_neg c2] at hg
          refine iteF' (decide_eq_false fun z => c2 ?_) ?_
          · have z : V.int ((a : Nat) + 1 : Int) = V.int 3 := z
            injection z with z
            omega
          · exact ⟨_, (a + 1), b, wn, f0, f1, rfl, s4, hd4, hf4, hg⟩
    · rw [if_neg (by decide)] at hg
      refine ⟨_, rfl, _, rfl, dn, _, _, _, rfl, rfl, SqL.of hdd, rfl, _, _, rfl, rfl, ?_⟩
      refine ⟨_, rfl, _, rfl, dn, _, _, 1, rfl, rfl, hdd, rfl, ?_⟩
      have s4 : Same H (upd H' dn (.lst [V.int ((a : Nat) : Int), V.int ((b : Nat) + 1 : Int)])) := same_upd s3 hdn
      have hd4 : (upd H' dn (.lst [V.int ((a : Nat) : Int), V.int ((b : Nat) + 1 : Int)])) dn = some (.lst [V.int ((a : Nat) : Int), V.int ((b : Nat) + 1 : Int)]) := upd_same
      have hf4 : (upd H' dn (.lst [V.int ((a : Nat) : Int), V.int ((b : Nat) + 1 : Int)])) fn = some (.lst [oI f0, oI f1]) := by rw [upd_ne (Ne.symm ndf)]; exact hff
      have B4 := B.mono s4
      have nxt : ∀ (v : Int), Same H (upd (upd H' dn (.lst [V.int ((a : Nat) : Int), V.int ((b : Nat) + 1 : Int)])) fn (.lst [oI f0, oI (some v)])) ∧ (upd (upd H' dn (.lst [V.int ((a : Nat) : Int), V.int ((b : Nat) + 1 : Int)])) fn (.lst [oI f0, oI (some v)])) dn = some (.lst [V.int ((a : Nat) : Int), V.int ((b : Nat) + 1 : Int)]) ∧ (upd (upd H' dn (.lst [V.int ((a : Nat) : Int), V.int ((b : Nat) + 1 : Int)])) fn (.lst [oI f0, oI (some v)])) fn = some (.lst [oI f0, oI (some v)]) := fun v => ⟨same_upd s4 hfnH, by rw [upd_ne ndf]; exact hd4, upd_same⟩
      obtain ⟨ttt, ett, htt'⟩ := htt.mono (.same s4)
      obtain rfl : tt = ttt := by injection ett
      refine ⟨_, rfl, _, rfl, dn, _, _, _, rfl, rfl, SqL.of hd4, rfl, rfl, _, rfl, ?_⟩
      by_cases c1 : b = 1
      · refine iteT' (decide_eq_true (by rw [c1]; rfl)) ⟨_, rfl, rfl, _, rfl, ?_⟩
        cases wn with
        | none =>
          rw [if_pos ⟨c1, rfl⟩] at hg
          refine iteT ?_
          obtain ⟨xs, rr, hal, hx, hrr, gw⟩ := B4.told hW he (i := 1) (by decide)
          refine ⟨_, rfl, _, rfl, _, rfl, al, _, _, _, rfl, rfl, SqL.of hal, atI_nat (j := 1) hx, _, rfl, _, rfl, tt, _, _, _, rfl, rfl, SqT.of htt', atI_nat (iI_at (by decide : 1 < 2) e.1), rr, _, _, _, rfl, rfl, SqL.of hrr, atI_nat gw, ?_⟩
          refine ⟨_, rfl, _, rfl, fn, _, _, 1, rfl, rfl, hf4, rfl, ?_⟩
          obtain ⟨n1, n2, n3⟩ := nxt (chO ch 1 e.1)
          exact ⟨_, a, (b + 1), some 1, f0, some (chO ch 1 e.1), rfl, n1, n2, n3, hg⟩
        | some o =>
          rw [if_neg (fun z => nomatch z.2), if_neg (by omega)] at hg
          refine iteF ⟨_, rfl, _, rfl, dn, _, _, _, rfl, rfl, SqL.of hd4, rfl, rfl, _, rfl, iteF' (decide_eq_false fun z => ?_) ?_⟩
          · have z : V.int ((b : Nat) + 1 : Int) = V.int 3 := z
            injection z with z
            omega
          · exact ⟨_, a, (b + 1), some o, f0, f1, rfl, s4, hd4, hf4, hg⟩
      · rw [if_neg (fun z => c1 z.1)] at hg
        refine iteF' (decide_eq_false fun z => c1 ?_) ?_
        · have z : V.int ((b : Nat) + 1 : Int) = V.int 2 := z
          injection z with z
          omega
        refine ⟨_, rfl, _, rfl, dn, _, _, _, rfl, rfl, SqL.of hd4, rfl, rfl, _, rfl, ?_⟩
        by_cases c2 : b = 2
        · rw [if_pos c2] at hg
          refine iteT' (decide_eq_true (by rw [c2]; rfl)) ?_
          refine ⟨_, rfl, _, rfl, (by cases wn <;> rfl), _, rfl, ?_⟩
          by_cases c3 : wn = some 1
          · rw [if_pos c3] at hg
            refine iteT' (decide_eq_true (oN_int.mpr c3)) ?_
            exact q1 hg.symm _ s4
          · rw [if_neg c3] at hg
            refine iteF' (decide_eq_false fun z => c3 (oN_int.mp z)) ?_
            obtain ⟨d, hd1, dg⟩ := B4.answ hW he htt' (i := 1) (by decide)
            refine ⟨_, rfl, _, rfl, ans, _, _, _, rfl, rfl, SqL.of B4.hans, atI_nat (j := 1) hd1, _, rfl, d, _, rfl, dg, ?_⟩
            refine ⟨_, rfl, _, rfl, fn, _, _, 1, rfl, rfl, hf4, rfl, ?_⟩
            obtain ⟨n1, n2, n3⟩ := nxt (an 1 e)
            exact ⟨_, a, (b + 1), wn, f0, some (an 1 e), rfl, n1, n2, n3, hg⟩
        · rw [if_neg c2] at hg
          refine iteF' (decide_eq_false fun z => c2 ?_) ?_
          · have z : V.int ((b : Nat) + 1 : Int) = V.int 3 := z
            injection z with z
            omega
          · exact ⟨_, a, (b + 1), wn, f0, f1, rfl, s4, hd4, hf4, hg⟩
  · rintro σ H' ⟨g, a, b, wn, f0, f1, rfl, s3, _, hff, hg⟩
    rw [List.length_map, List.drop_length] at hg
    refine ⟨_, rfl, fn, _, rfl, .inl ⟨SqL.of hff, fun u hu => ?_⟩⟩
    have s4 := same_new hu (.tup [oI f0, oI f1])
    refine ⟨_, rfl, (by show 2 ≤ sizeLine; decide), fun r hr => ?_⟩
    have s5 := same_new hr (.tup [V.ref u, oN wn])
    exact q2 f0 f1 wn hg.symm r u _ ((s3.trans s4).trans s5) upd_same (s5 _ _ upd_same)
end
end TA

set_option Elab.async false
set_option maxRecDepth 100000
set_option maxHeartbeats 4000000
namespace TA
open PySem PySem.Spec L2 PyProof.Rows
set_option linter.unusedVariables false
/-! try: .. except A as n: .. and further clauses: where the body raises, the first clause takes it -/
def wFirst (K : PySem.W.Frag) (c : Value) (i : Nat) (ts : Addr → Value → Option Addr → TS) (D : Ends) : WX := fun cls d σ H => PySem.W.exmOne K cls c = some true ∧ ∀ a, H a = none → ts a cls d { nx := fun σ' H' => D.nx (σ'.set i none) H', rt := D.rt, bk := fun σ' H' => D.bk (σ'.set i none) H', ct := fun σ' H' => D.ct (σ'.set i none) H' } (σ.set i (some (.ref a))) H
theorem ps_try_first {X : Cx} {x n : Str} {c : Value} {i : Nat} {body suite : List Stmt} {b₀ : Stmt} {np pos pos' : Pos} {more : List ExceptHandler} {tb : WX → TS} {ts : Addr → Value → Option Addr → TS} (stk : X.stack = X.env :: X.outer) (frm : X.env.frame = some X.env.locals) (nodup : X.N.Nodup) (slot : X.N[i]? = some n) (isLoc : X.env.kindOf n = some .local) (named : Names X x c)
    (inner : ∀ (W : WX) (pn : List (Addr × Obj)) (xe : Value → Shared → Prop), Takes (X.tr pn xe) W → PassesOwn (model X.prog X.w) X.A X.env xe → PSs (X.tr pn xe) body (tb W)) (clause : ∀ (a : Addr) (oe : Obj) (cls : Value) (d : Option Addr) (pn : List (Addr × Obj)), Zc cls d oe → (∃ vs, oe.data = .fields vs) → PSs (X.suite a ((a, oe) :: pn)) (b₀ :: suite) (ts a cls d)) :
    PS X (.Try body (.ExceptHandler (some (.Name x np)) (some n) (b₀ :: suite) pos' :: more) [] [] pos) (fun D σ H => tb (wFirst X.K c i ts D) D σ H) := by
  refine ⟨fun pins s σ H D inv given => ?_⟩
  have fine := inv.ok
  have local' : Loc X.env.scope n := .inl isLoc
  refine wpAny_Try_except ?_
  have runs := (inner (wFirst X.K c i ts D) (X.pn ++ pins) (fun e s₁ => wpAny (model X.prog X.w) X.A (noteFrame e X.env) (fun _ s₂ => wpAny (model X.prog X.w) X.A (setFlight e none) (fun _ s₃ => wpAny (model X.prog X.w) X.A (handleBy e X.env (.ExceptHandler (some (.Name x np)) (some n) (b₀ :: suite) pos' :: more)) (SP X pins D) X.xe s₃) X.xe s₂) X.xe s₁) (fun u s' met => ?caught) PassesOwn.looking).run [] s σ H D (inv.toTry _) given
  case caught =>
    obtain ⟨a, B, sI, pins', σ', H', cls, d, rfl, J', nb, up, sky, na, os, ag, hb1, hyes⟩ := met
    have J : Inv X pins σ' H' sI := J'.ofTry fine
    have above : Sky B (X.env :: X.outer) a (Zc cls d) X.env.locals s'.heap := by rw [← stk]; exact sky
    show wpAny (model X.prog X.w) X.A (noteFrame (.ref a) X.env) _ _ _
    refine Sky.land Zc.steady (by rw [fine.frames, stk]) frm above fun h3 fl3 up3 => ?_
    have J3 : Inv X pins σ' H' { s' with heap := h3 } := J.landed nb fl3.1 (up.trans up3) os ag
    obtain ⟨oe3, vs3, he3, hz3, hd3⟩ := fl3.there
    have outside : a ∉ frs (X.env :: X.outer) := fun hm => by
      obtain ⟨_, o', e', hnf⟩ := fl3.2.2.1.mem hm
      rw [he3] at e'; cases e'
      exact hnf _ hd3
    have notL : a ≠ X.env.locals := fun z => outside (List.mem_filterMap.mpr ⟨X.env, List.mem_cons_self, by rw [frm, z]⟩)
    have notF : a ∉ X.fs := fun hm => by
      obtain ⟨v, hv, q⟩ := List.mem_filterMap.mp hm
      exact outside (List.mem_filterMap.mpr ⟨v, List.mem_cons_of_mem _ hv, q⟩)
    have S3 := J3.suite he3 hd3 na notL notF
    refine wpAny_handleBy_cons (codeAny_handlers_test ?_) (fun q => nomatch q)
    have looks : PySem.W.Looks (model X.prog X.w) h3 (typeOf (.ref a)) cls := fun _ _ _ _ k q => wpAny_typeOf_ref (k _ _ he3) (by rw [hz3.1]; exact q)
    have asked := PySem.W.exm_one (M := model X.prog X.w) (J3.kIn) looks hb1
    have named' : ∀ {Q E : Value → Shared → Prop}, Q c { s' with heap := h3 } → wpAny (model X.prog X.w) (X.A.mark (some (.ref a))) (eval (.Name x np) X.env) Q E { s' with heap := h3 } := fun q => by
      obtain ⟨g1, g2, m1 | ⟨m1, m2, m3⟩⟩ := named
      · exact ld_glob (X := X.suite a ((a, oe3) :: (X.pn ++ pins))) S3 g1 m1 q g2
      · exact ld_blt (X := X.suite a ((a, oe3) :: (X.pn ++ pins))) S3 g1 m1 m2 q m3 g2
    refine named' (asked.here (codeAny_handlers_suite_as ?_))
    refine HandSPX.lands_againZ fl3 fun h4 fl4 up4 => ?_
    have J4 : Inv X pins σ' H' { s' with heap := h4 } := J.landed nb fl4.1 ((up.trans up3).trans up4) os ag
    obtain ⟨oe4, vs4, he4, hz4, hd4⟩ := fl4.there
    have S4 := J4.suite he4 hd4 na notL notF
    refine store_ok (X := X.suite a ((a, oe4) :: (X.pn ++ pins))) (v := .ref a) S4 nodup slot local' rfl (fun s5 S5 => ?_) (.inr isLoc)
    refine wpAny_mono ((clause a oe4 cls d (X.pn ++ pins) hz4 ⟨_, hd4⟩).run [] s5 _ H' _ S5 (hyes a na)) (fun f s6 past => ?_) (fun _ _ z => z.elim)
    have over : ∀ {σ6 : L2.St} {H6 : Hp} {Q : Shared → Prop}, Inv (X.suite a ((a, oe4) :: (X.pn ++ pins))) [] σ6 H6 s6 → (∀ s7, Inv X pins (σ6.set i none) H6 s7 → Q s7) → wpAny (model X.prog X.w) X.A (do bindName X.env n .none; unbindBehindTheSuite X.env n pos') (fun _ s7 => Q s7) X.xe s6 := fun S6 hq => gone_ok (S6.unsuite fine) nodup slot isLoc hq
    cases f with
    | next => obtain ⟨_, _, S6, q6⟩ := past; exact over S6 fun s7 J7 => ⟨_, _, J7, q6⟩
    | brk => obtain ⟨_, _, S6, q6⟩ := past; exact over S6 fun s7 J7 => ⟨_, _, J7, q6⟩
    | cont => obtain ⟨_, _, S6, q6⟩ := past; exact over S6 fun s7 J7 => ⟨_, _, J7, q6⟩
    | ret u => obtain ⟨_, _, _, S6, r6, q6⟩ := past; exact over S6 fun s7 J7 => ⟨_, _, _, J7, r6, q6⟩
  refine wpAny_mono runs (fun f s1 past => ?_) (fun _ _ he => he)
  cases f with
  | next => obtain ⟨_, _, J', q⟩ := past; exact wpAny_execs_nil ⟨_, _, J'.ofTry fine, q⟩
  | brk => obtain ⟨_, _, J', q⟩ := past; exact ⟨_, _, J'.ofTry fine, q⟩
  | cont => obtain ⟨_, _, J', q⟩ := past; exact ⟨_, _, J'.ofTry fine, q⟩
  | ret u => obtain ⟨_, _, _, J', r, q⟩ := past; exact ⟨_, _, _, J'.ofTry fine, r, q⟩
/-- isinstance of the error that an except suite holds: which class it has is said by the reading -/
theorem call_isE2 {X : Cx} {a : Addr} {oe : Obj} {cls : Value} {d : Option Addr} {pn : List (Addr × Obj)} (hz : Zc cls d oe) (hf : ∃ vs, oe.data = .fields vs) : CallR (X.suite a ((a, oe) :: pn)) (.builtin "isinstance") (fun xs H Q => ∃ D : Addr, cls = .ref D ∧ d = none ∧ ExcC X.K D ∧ rIsE X.K D a xs H Q) := by
  intro pins s σ H xs us Q I r h
  obtain ⟨D, rfl, rfl, T, h⟩ := h
  exact call_isE T hz hf pins s σ H xs us Q I r h
theorem pss_read {X : Cx} {b : List Stmt} {T : TS} (h : ∀ (pins : List (Addr × Obj)) (s : Shared) (σ : L2.St) (H : Hp) (D : Ends), Inv X pins σ H s → T D σ H → ∃ t, PSs X b t ∧ t D σ H) : PSs X b T := ⟨fun pins s σ H D I q => by
  obtain ⟨t, p, r⟩ := h pins s σ H D I q
  exact p.run pins s σ H D I r⟩
/-- the same with a tuple of classes -/
def rIsET (K : PySem.W.Frag) (D a : Addr) : List V → Hp → VK → Prop := fun xs H Q => ∃ (tp : Addr) (cs : List V) (us : List Value) (b : Bool), xs = [.ref a, .ref tp] ∧ H tp = some (.tup cs) ∧ Paired ClsV cs us ∧ PySem.W.kitAny K (.ref D) us = some b ∧ Q (.bl b) H
theorem call_isET {X : Cx} {a : Addr} {oe : Obj} {cls : Value} {d : Option Addr} {pn : List (Addr × Obj)} (hz : Zc cls d oe) (hf : ∃ vs, oe.data = .fields vs) : CallR (X.suite a ((a, oe) :: pn)) (.builtin "isinstance") (fun xs H Q => ∃ D : Addr, cls = .ref D ∧ d = none ∧ ExcC X.K D ∧ rIsET X.K D a xs H Q) := by
  intro pins s σ H xs us Q I r h
  obtain ⟨D, rfl, rfl, C, tp, cs, ws, b, rfl, hT, k, e, q⟩ := h
  obtain ⟨u1, u2, rfl, r1, r2⟩ := vals2 r
  cases (show u2 = Value.ref tp from r2)
  cases (show u1 = Value.ref a from r1)
  obtain ⟨_, its, rv, o, h1, h2, n, h3⟩ := (show ObjOk _ _ H s.heap tp (.tup cs) from I.hok tp _ hT)
  have e3 := ClsV.all k rv
  subst e3
  obtain ⟨oc, od, dt, sl⟩ := o
  simp only at h2 h3
  subst h2 h3
  obtain ⟨hget, _⟩ := I.pin (a, oe) (List.mem_append.mpr (.inl List.mem_cons_self))
  obtain ⟨vs, hv⟩ := hf
  have J : PySem.W.InstAt s.heap a oe D none := by
    obtain ⟨oc, od, oda, osl⟩ := oe
    obtain ⟨h1, h2⟩ := hz
    dsimp only at h1 h2 hv
    subst h1 h2 hv
    exact ⟨hget, rfl, rfl, trivial⟩
  exact PySem.W.kia_tup (PySem.W.handS_kitx_exc C.hg C.hk C.hs C.hd C.ha C.hn C.ht C.hm) I.kIn J h1 e (fun z => nomatch z) fun tk => ⟨.bl b, H, I.tok tk, rfl, q⟩
structure SaidC (K : PySem.W.Frag) (cA cW cI cP : Addr) : Prop where
  t : ExcC K cW
  e : PySem.W.exmOne K (.ref cW) (.ref cA) = some true
  kw : PySem.W.kitOne K (.ref cW) (.ref cW) = some true
  kt : PySem.W.kitAny K (.ref cW) [.ref cI, .ref cP] = some false
structure SaidT (mg : Str → Option Value) (cA cW cI cP : Addr) : Prop where
  isi : mg "isinstance" = none
  int : mg "int" = none
  a : mg "AloneError" = some (.ref cA)
  w : mg "NoWeaving" = some (.ref cW)
  i : mg "NoInputs" = some (.ref cI)
  p : mg "NoProtocol" = some (.ref cP)
structure TDef (P : Program) (w : World) (K : PySem.W.Frag) (mg : Str → Option Value) (base : Heap) (C cW : Addr) (f : Addr) (fd : FuncData) : Prop where
  G : FnOk P w K mg base (L2.CX P w) 7 f fd ["task", "boxed", "inputs", "weaving"] (spTell C cW)
  b : Binds K fd ["task", "boxed", "inputs", "weaving"] []
  k : PySem.W.keepIn K (.ref f) = true
  m : mg "tell_boxed" = some (.ref f)
def spSaid (C : Addr) : Sp := fun vs H Q _ => ∃ (p t : Addr) (T : TD) (ch : Nat → List Int) (an : Nat → IP × List (Int × Int) → Int) (al ans d0 d1 tt lw : Addr) (ws : List Int) (e : IP × List (Int × Int)), vs = [.ref p, .ref t, .ref tt, .ref lw] ∧ WF T ∧ BxF C H p t T ch an al ans d0 d1 ∧ e ∈ T.bo ∧ TpAt H (.ref tt) (iI e.1) ∧
  H lw = some (.lst (ws.map V.int)) ∧ HW ws ∧ ws.length ≤ 20 ∧ (wbB ws = false → ∀ H', Same H H' → Q (.str "weaving") H') ∧
  (wbB ws = true → ∀ (r : Addr) (H' : Hp), Same H H' → H' r = some (.tup [oI (tellO ch an ws e 0), oI (tellO ch an ws e 1)]) → Q (.ref r) H')
section
variable {P : Program} {w : World} {K : PySem.W.Frag} {mg : Str → Option Value} {base : Heap}
abbrev nSaid : List Str := ["_law_task_here", "_law_thing", "_law_inputs", "_law_weaving", "e"]
theorem scSaid : FnScope nSaid ["_law_task_here", "_law_thing", "_law_inputs", "_law_weaving"] (defScope sSaid) := ⟨rfl, rfl, rfl, by decide +kernel, rfl, by decide +kernel, by decide +kernel⟩
theorem ok_said {f g C cA cW cI cP : Addr} {fd gd : FuncData} (F : Fun K "_law_said" "_law_said" sSaid f fd) (T : SaidT mg cA cW cI cP) (SC : SaidC K cA cW cI cP) (W : TDef P w K mg base C cW g gd) : FnOk P w K mg base CX0 8 f fd ["_law_task_here", "_law_thing", "_law_inputs", "_law_weaving"] (spSaid C) := by
  refine F.ok scSaid (fun vs H Q E h => ?_) (fun cdv A outer s H vs Q E hr h => ?_)
  · obtain ⟨p, t, D, ch, an, al, ans, e0, e1, tt, lw, ws, e, rfl, _⟩ := h
    rfl
  obtain ⟨p, t, D, ch, an, al, ans, e0, e1, tt, lw, ws, e, rfl, hW, B, he, htt, hlw, hw, hn, q1, q2⟩ := h
  have nd := scSaid.nd
  refine ⟨_, pss_one (ps_try_first (i := 4) (ts := fun a cls o Dn σ H' => σ = [some (.ref p), some (.ref t), some (.ref tt), some (.ref lw), some (.ref a)] ∧ cls = .ref cW ∧ o = none ∧ ∀ H'', Same H' H'' → Dn.rt (.str "weaving") H'') rfl rfl nd rfl rfl ⟨rfl, by decide, .inl T.a⟩
      (fun W' pn xe tk _ => pss_one (ps_ret (pe_callS W.G hr rfl W.m W.k W.b (fun σ => passAt tk σ) (pa_cons (pv 0) (pa_cons (pv 1) (pa_cons (pv 2) (pa_cons (pv 3) pa_nil)))))))
      (fun a oe cls o pn hz hf => ?S)), ?_⟩
  case S =>
    refine pss_read fun pins s' σ H' Dn I h' => ?_
    obtain ⟨rfl, rfl, rfl, h⟩ := h'
    have isi := call_isE2 (X := (cxOf CX0 P w K mg base nSaid "_law_said" (defScope sSaid) f cdv A outer s H E)) (a := a) (pn := pn) hz hf
    have isiT := call_isET (X := (cxOf CX0 P w K mg base nSaid "_law_said" (defScope sSaid) f cdv A outer s H E)) (a := a) (pn := pn) hz hf
    refine ⟨_, pss_one (ps_ret (pe_ix ix_list (pe_lst (pa_cons pe_str (pa_cons pe_str pa_nil))) (pe_callTy call_int1 (by rfl) T.int boot_int (pa_cons (pe_and (pe_callB isi (by rfl) T.isi boot_isinstance (pa_cons (pv 4) (pa_cons (pe_glob (v := .ref cW) rfl T.w rfl) pa_nil))) (pe_one (pe_not (pe_callB isiT (by rfl) T.isi boot_isinstance (pa_cons (pv 4) (pa_cons (pe_tup (pa_cons (pe_glob (v := .ref cI) rfl T.i rfl) (pa_cons (pe_glob (v := .ref cP) rfl T.p rfl) pa_nil))) pa_nil)))))) pa_nil)) (fun _ _ => rfl))), ?_⟩
    refine ⟨(by show 2 ≤ sizeLine; decide), fun l hl => ?_⟩
    have s1 := same_new hl (.lst [V.str "other", V.str "weaving"])
    refine ⟨_, rfl, cW, rfl, rfl, SC.t, .ref cW, .ref cW, _, rfl, (fun u h => h), SC.kw, _, rfl, iteT ?_⟩
    refine ⟨_, rfl, (by show 2 ≤ sizeLine; decide), fun tp htp => ?_⟩
    have s2 := s1.trans (same_new htp (.tup [V.ref cI, V.ref cP]))
    refine ⟨cW, rfl, rfl, SC.t, tp, [V.ref cI, V.ref cP], [.ref cI, .ref cP], _, rfl, upd_same, .cons (.own cI) (.cons (.own cP) .nil), SC.kt, ?_⟩
    exact ⟨_, rfl, .inr ⟨_, rfl, l, _, _, _, rfl, rfl, SqL.of ((same_new htp _) _ _ upd_same), rfl, h _ s2⟩⟩
  refine ⟨_, rfl, _, rfl, _, rfl, _, rfl, p, t, D, ch, an, al, ans, e0, e1, tt, lw, ws, e, rfl, hW, B, he, htt, hlw, hw, hn, fun c H1 s1 => ?_, fun c r H1 s1 h1 => q2 c r H1 s1 h1⟩
  exact ⟨SC.e, fun a na => ⟨rfl, rfl, rfl, fun H2 s2 => q1 c _ (s1.trans s2)⟩⟩
end
end TA

set_option Elab.async false
set_option maxRecDepth 100000
set_option maxHeartbeats 4000000
namespace TA
open PySem L2 PyProof.Rows
set_option linter.unusedVariables false
def selF (f0 f1 : Option Int) (h : Nat) : Option Int := if h = 0 then f0 else f1
def goodW (T : TD) (e : IP × List (Int × Int)) (f0 f1 : Option Int) : Option Nat → Bool
  | none => true
  | some h => decide ((selF f0 f1 h).getD 0 ∈ (T.al h).getD (sel h e.1) [])
/-- whether what was told is let -/
def goodB (T : TD) (e : IP × List (Int × Int)) (f0 f1 : Option Int) (wn : Option Nat) : Bool := match f0, f1 with
  | some x, some y => decide ((x, y) ∈ e.2)
  | _, _ => goodW T e f0 f1 wn
theorem goodB_w {T : TD} {e : IP × List (Int × Int)} {f0 f1 : Option Int} {wn : Option Nat} (c : f0 = none ∨ f1 = none) : goodB T e f0 f1 wn = goodW T e f0 f1 wn := by
  rcases c with rfl | rfl
  · rfl
  · cases f0 <;> rfl
def spGood (C : Addr) : Sp := fun vs H Q _ => ∃ (p tt u : Addr) (T : TD) (e : IP × List (Int × Int)) (f0 f1 : Option Int) (wn : Option Nat), vs = [.ref p, .ref tt, .ref u, oN wn] ∧ TaskR C H p T ∧ WF T ∧ e ∈ T.bo ∧ TpAt H (.ref tt) (iI e.1) ∧ H u = some (.tup [oI f0, oI f1]) ∧
  (∀ h, wn = some h → h < 2 ∧ ∃ x, selF f0 f1 h = some x) ∧ ∀ H', Same H H' → Q (.bl (goodB T e f0 f1 wn)) H'
section
variable {P : Program} {w : World} {K : PySem.W.Frag} {mg : Str → Option Value} {base : Heap}
abbrev nGood : List Str := ["_law_task_here", "_law_inputs", "_law_outs_here", "_law_won"]
theorem sc_good : FnScope nGood nGood (defScope s__law_good) := ⟨rfl, rfl, rfl, by decide +kernel, rfl, by decide +kernel, by decide +kernel⟩
theorem flat_oI {f0 f1 : Option Int} : ([oI f0, oI f1] : List V).all flatV = true := by
  cases f0 <;> cases f1 <;> rfl
theorem ok_good {f C : Addr} {fd : FuncData} (F : Fun K "_law_good" "_law_good" s__law_good f fd) (T : Txt K mg) (Z : TxtC K mg C) : FnOk P w K mg base CX0 1 f fd nGood (spGood C) := by
  refine F.ok sc_good (fun vs H Q E h => ?_) (fun cdv A outer s H vs Q E hr h => ?_)
  · obtain ⟨p, tt, u, D, e, f0, f1, wn, rfl, _⟩ := h
    rfl
  obtain ⟨p, tt, u, D, e, f0, f1, wn, rfl, hT, hW, he, htt, hU, hwn, q⟩ := h
  have nd := sc_good.nd
  have hu := hu_of hr
  have hu65 := hu65_of hr
  have q := q _ (Same.refl H)
  refine ⟨_, (pss_cons (ps_if (pt_cmpR op_notIn_seq pe_non (pv 2) (by rfl))
      (pss_one (ps_ret (pe_cmpR (op_inD hu65) (pv 2) (pe_dget hu (pe_fld (pv 0) rfl) (pv 1) (fun _ _ => rfl)) (by rfl))))
      pss_nil)
    (pss_one (ps_ret (pe_or (pe_cmpR op_isN (pv 3) pe_non (nomark _)) (pe_one (pe_cmpR op_in_seq (pe_ix ix_tup (pv 2) (pv 3) (fun _ _ => rfl)) (pe_ix ix_list (pe_ix ix_list (pe_fld (pv 0) rfl) (pv 3) (fun _ _ => rfl)) (pe_ix ix_tup (pv 1) (pv 3) (fun _ _ => rfl)) (fun _ _ => rfl)) (by rfl))))))), ?_⟩
  obtain ⟨dx, a, d, hp, hA, kvs, hd, ha⟩ := hT
  obtain ⟨tq, etq, htt⟩ := htt
  obtain rfl : tt = tq := by injection etq
  refine ⟨_, rfl, u, _, rfl, .inr (SqT.of hU), rfl, flat_oI, _, rfl, ?_⟩
  by_cases c : f0 = none ∨ f1 = none
  case neg =>
    obtain ⟨x, rfl⟩ : ∃ x, f0 = some x := by
      cases f0 with
      | none => exact absurd (.inl rfl) c
      | some x => exact ⟨x, rfl⟩
    obtain ⟨y, rfl⟩ : ∃ y, f1 = some y := by
      cases f1 with
      | none => exact absurd (.inr rfl) c
      | some x => exact ⟨x, rfl⟩
    refine iteT' (by rfl) ?_
    obtain ⟨lv, hlv, hlet⟩ := val_at ha hW.srt e he
    refine ⟨_, rfl, _, rfl, p, C, dx, _, _, rfl, hp, Z.cl, Z.nB, flds_both _ _, _, rfl, d, _, rfl, hlv ▸ dget_rd (k := kI e.1) hd htt, pairD (x, y), e.2.map pairD, (TpAt.dp ⟨u, rfl, hU⟩), hlet.dp, (okD_pair _).shaped (by decide), (okD_pairs _).shaped (by decide), ?_⟩
    rw [any_pair]
    exact q
  refine iteF' (by
    rcases c with rfl | rfl
    · rfl
    · cases f0 <;> rfl) ?_
  rw [goodB_w c] at q
  cases wn with
  | none => exact ⟨_, rfl, rfl, _, rfl, iteT q⟩
  | some h =>
    obtain ⟨hh, x, hx⟩ := hwn h rfl
    refine ⟨_, rfl, rfl, _, rfl, iteF ?_⟩
    have gx : ([oI f0, oI f1] : List V)[h]? = some (.int x) := by
      obtain rfl | rfl : h = 0 ∨ h = 1 := by omega
      · have hx : f0 = some x := hx
        rw [hx]; rfl
      · have hx : f1 = some x := hx
        rw [hx]; rfl
    obtain ⟨t, x0, x1, e3, ht, hrow⟩ := hA.row
    obtain rfl : a = t := by injection e3
    obtain ⟨z, hz, r, xs, rfl, hr2, ha2⟩ := hrow h hh
    have hsl : sel h e.1 < (D.al h).length := by
      obtain ⟨rg0, rg1⟩ := hW.rng e he
      obtain rfl | rfl : h = 0 ∨ h = 1 := by omega
      · exact rg0
      · exact rg1
    obtain ⟨y3, hy3, r4, rfl, hr4⟩ := ha2.at (i := sel h e.1) (y := (D.al h)[sel h e.1]) (List.getElem?_eq_getElem hsl)
    refine ⟨_, rfl, _, rfl, u, _, _, _, rfl, rfl, SqT.of hU, atI_nat gx, _, rfl, p, C, dx, _, _, rfl, hp, Z.cl, Z.nA, flds_alone _ _, _, rfl, a, _, _, _, rfl, rfl, SqL.of ht, atI_nat hz, _, rfl, _, rfl, tt, _, _, _, rfl, rfl, SqT.of htt, atI_nat (iI_at hh e.1), r, _, _, _, rfl, rfl, SqL.of hr2, atI_nat hy3, ?_⟩
    refine ⟨r4, _, rfl, .inl (SqL.of hr4), rfl, flat_ints _, ?_⟩
    have q : Q (.bl (decide ((selF f0 f1 h).getD 0 ∈ (D.al h).getD (sel h e.1) []))) H := q
    rw [hx] at q
    have q : Q (.bl (decide (x ∈ (D.al h).getD (sel h e.1) []))) H := q
    rw [List.getD_eq_getElem?_getD, List.getElem?_eq_getElem hsl] at q
    have eV := inV_int x ((D.al h)[sel h e.1])
    have q : Q (.bl (decide (x ∈ (D.al h)[sel h e.1]))) H := q
    rw [← eV] at q
    exact q
end
end TA

set_option Elab.async false
set_option maxRecDepth 100000
set_option maxHeartbeats 4000000
namespace TA
open PySem L2 PyProof.Rows
set_option linter.unusedVariables false
structure KDef (P : Program) (w : World) (K : PySem.W.Frag) (mg : Str → Option Value) (base : Heap) (C : Addr) (x : Str) (ps : List Str) (k : Nat) (sp : Sp) (f : Addr) (fd : FuncData) : Prop where
  G : FnOk P w K mg base CX0 k f fd ps sp
  b : Binds K fd ps []
  M : Mk K C f
  m : mg x = some (.ref C)
structure TxtN (mg : Str → Option Value) : Prop where
  abs : mg "abs" = none
  seven : ∃ t, mg "MOST_NAMED" = some (.int 7 t)
/-- both tell the first, either, the last -/
def namedT (m : Nat) (l : List (Int × Int)) : TD := ⟨fun _ => [[0], [(m : Int)]], [((0, 0), [(0, 0)]), ((0, 1), l), ((1, 0), l), ((1, 1), [((m : Int), (m : Int))])]⟩
def nearP (x y : Nat) : Bool := decide (x ≤ y + 1 ∧ y ≤ x + 1)
def rowN (x j : Nat) : List (Int × Int) := ((List.range j).filter (nearP x)).map fun (y : Nat) => ((x : Int), (y : Int))
def preN (n i : Nat) : List (Int × Int) := (List.range i).flatMap fun x => rowN x (n + 1)
def agreeT : TD := namedT 1 [(0, 0), (1, 1)]
def nearT (n : Nat) : TD := namedT n (preN n (n + 1))
instance (p q : Int × Int) : Decidable (ltP p q) := by unfold ltP; exact inferInstance
instance (x : Int) : Decidable (okOut x) := by unfold okOut; exact inferInstance
def okLetB (l : List (Int × Int)) : Bool := decide (1 ≤ l.length) && decide (l.length ≤ 60) && decide (l.Pairwise ltP) && decide (∀ p ∈ l, okOut p.1 ∧ okOut p.2)
theorem okLetB_of {l : List (Int × Int)} (h : okLetB l = true) : okLet l := by
  unfold okLetB at h
  rw [Bool.and_eq_true, Bool.and_eq_true, Bool.and_eq_true] at h
  exact ⟨of_decide_eq_true h.1.1.1, of_decide_eq_true h.1.1.2, of_decide_eq_true h.1.2, of_decide_eq_true h.2⟩
theorem named_wf {m : Nat} {l : List (Int × Int)} (h0 : 0 < m) (h1 : m ≤ 63) (hl : okLet l) : WF (namedT m l) where
  n0 := fun h _ => ⟨by show 1 ≤ 2; decide, by show 2 ≤ 20; decide⟩
  row := fun h _ r hr => by
    rcases List.mem_cons.mp hr with rfl | hr
    · exact ⟨by decide, by decide, List.pairwise_singleton _ _, fun x hx => by obtain rfl := List.mem_singleton.mp hx; decide⟩
    · obtain rfl := List.mem_singleton.mp hr
      exact ⟨(by show 1 ≤ 1; decide), (by show 1 ≤ 60; decide), List.pairwise_singleton _ _, fun x hx => by obtain rfl := List.mem_singleton.mp hx; unfold okOut; omega⟩
  srt := by
    show List.Pairwise ltN [(0, 0), (0, 1), (1, 0), (1, 1)]
    simp [ltN]
  rng := fun e he => by
    show e.1.1 < 2 ∧ e.1.2 < 2
    rcases List.mem_cons.mp he with rfl | he
    · decide
    rcases List.mem_cons.mp he with rfl | he
    · exact ⟨(by show 0 < 2; decide), (by show 1 < 2; decide)⟩
    rcases List.mem_cons.mp he with rfl | he
    · exact ⟨(by show 1 < 2; decide), (by show 0 < 2; decide)⟩
    obtain rfl := List.mem_singleton.mp he
    exact ⟨(by show 1 < 2; decide), (by show 1 < 2; decide)⟩
  lets := fun e he => by
    rcases List.mem_cons.mp he with rfl | he
    · exact okLetB_of (by decide +kernel)
    rcases List.mem_cons.mp he with rfl | he
    · exact hl
    rcases List.mem_cons.mp he with rfl | he
    · exact hl
    obtain rfl := List.mem_singleton.mp he
    refine ⟨(by show 1 ≤ 1; decide), (by show 1 ≤ 60; decide), List.pairwise_singleton _ _, fun p hp => ?_⟩
    obtain rfl := List.mem_singleton.mp hp
    unfold okOut
    constructor <;> (dsimp only; omega)
  many := (by show 4 ≤ 60; decide)
  com0 := fun a ha => by
    have ha : a < 2 := ha
    obtain rfl | rfl : a = 0 ∨ a = 1 := by omega
    · exact ⟨_, List.mem_cons_self, rfl⟩
    · exact ⟨_, List.mem_cons_of_mem _ (List.mem_cons_of_mem _ List.mem_cons_self), rfl⟩
  com1 := fun a ha => by
    have ha : a < 2 := ha
    obtain rfl | rfl : a = 0 ∨ a = 1 := by omega
    · exact ⟨_, List.mem_cons_self, rfl⟩
    · exact ⟨_, List.mem_cons_of_mem _ List.mem_cons_self, rfl⟩
theorem agree_wf : WF agreeT := named_wf (by decide) (by decide) (okLetB_of (by decide +kernel))
theorem near_let (n : Nat) (h : n < 5) (h0 : 0 < n) : okLet (preN n (n + 1)) := by
  obtain rfl | rfl | rfl | rfl : n = 1 ∨ n = 2 ∨ n = 3 ∨ n = 4 := by omega
  · exact okLetB_of (by decide +kernel)
  · exact okLetB_of (by decide +kernel)
  · exact okLetB_of (by decide +kernel)
  · exact okLetB_of (by decide +kernel)
theorem near_wf {n : Nat} (h0 : 0 < n) (h1 : n < 5) : WF (nearT n) := named_wf h0 (by omega) (near_let n h1 h0)
/-- a new task: its lists are new, all of them -/
def NewT (C : Addr) (H H' : Hp) (p : Addr) (T : TD) : Prop := Same H H' ∧ ∃ Hx, Same H Hx ∧ NewAt C Hx H' p T
theorem NewT.task {C : Addr} {H H' : Hp} {p : Addr} {T : TD} (h : NewT C H H' p T) : TaskAt C H' p T := by
  obtain ⟨_, _, _, h⟩ := h
  exact h.task
def spAgree (C : Addr) : Sp := fun vs H Q _ => vs = [] ∧ ∀ (p : Addr) (H' : Hp), NewT C H H' p agreeT → Q (.ref p) H'
def spNear (C : Addr) : Sp := fun vs H Q _ => ∃ n : Nat, vs = [.int (n : Int)] ∧ 0 < n ∧ n < 5 ∧ ∀ (p : Addr) (H' : Hp), NewT C H H' p (nearT n) → Q (.ref p) H'
/-- the dict that was displayed -/
theorem named_bo {H : Hp} {m : Nat} {l : List (Int × Int)} {d c l0 l1 : Addr} (e0 : LetAt H (.ref l0) [(0, 0)]) (e1 : LetAt H (.ref c) l) (e2 : LetAt H (.ref l1) [((m : Int), (m : Int))]) (hd : H d = some (.dT [(kI (0, 0), .ref l0), (kI (0, 1), .ref c), (kI (1, 0), .ref c), (kI (1, 1), .ref l1)])) : BoAt H d (namedT m l).bo :=
  ⟨_, hd, .cons ⟨rfl, e0⟩ (.cons ⟨rfl, e1⟩ (.cons ⟨rfl, e1⟩ (.cons ⟨rfl, e2⟩ .nil)))⟩
theorem merge4 (a b c d : V) : mergeT [] [(kI (0, 0), a), (kI (0, 1), b), (kI (1, 0), c), (kI (1, 1), d)] = [(kI (0, 0), a), (kI (0, 1), b), (kI (1, 0), c), (kI (1, 1), d)] := by
  have k (x y : IP) (h : x ≠ y) : ¬ kI x = kI y := fun e => h (kI_inj e)
  unfold mergeT
  show putK (putK (putK (putK ([] : List (List Key × V)) (kI (0, 0)) a) (kI (0, 1)) b) (kI (1, 0)) c) (kI (1, 1)) d = _
  rw [putK_new (kvs := []) a rfl, List.nil_append, putK_new b ?_, putK_new c ?_, putK_new d ?_]
  · rfl
  all_goals exact valV_noneP (by simp [kI])
section
variable {P : Program} {w : World} {K : PySem.W.Frag} {mg : Str → Option Value} {base : Heap}
abbrev nAgree : List Str := ["either", "both"]
theorem sc_agree : FnScope nAgree [] (defScope s_agreement) := ⟨rfl, rfl, rfl, by decide +kernel, rfl, by decide +kernel, by decide +kernel⟩
theorem ok_agree {f g3 C : Addr} {fd d3 : FuncData} (F : Fun K "agreement" "agreement" s_agreement f fd) (Tk : KDef P w K mg base C "Task" ["self", "alone", "both"] 7 (spInit K C) g3 d3) : FnOk P w K mg base CX0 9 f fd [] (spAgree C) := by
  refine F.ok sc_agree (fun vs H Q E h => ?_) (fun cdv A outer s H vs Q E hr h => ?_)
  · obtain ⟨rfl, _⟩ := h
    rfl
  obtain ⟨rfl, q⟩ := h
  have nd := sc_agree.nd
  have hu := hu_of hr
  refine ⟨_, (pss_cons (ps_set (i := 0) nd rfl (Or.inl rfl) (pe_lst (pa_cons (pe_tup (pa_cons pe_int (pa_cons pe_int pa_nil))) (pa_cons (pe_tup (pa_cons pe_int (pa_cons pe_int pa_nil))) pa_nil))))
    (pss_cons (ps_set (i := 1) nd rfl (Or.inl rfl) (pe_dispT hu (pps_cons (pe_tup (pa_cons pe_int (pa_cons pe_int pa_nil))) (pe_lst (pa_cons (pe_tup (pa_cons pe_int (pa_cons pe_int pa_nil))) pa_nil)) (pps_cons (pe_tup (pa_cons pe_int (pa_cons pe_int pa_nil))) (pv 0) (pps_cons (pe_tup (pa_cons pe_int (pa_cons pe_int pa_nil))) (pv 0) (pps_cons (pe_tup (pa_cons pe_int (pa_cons pe_int pa_nil))) (pe_lst (pa_cons (pe_tup (pa_cons pe_int (pa_cons pe_int pa_nil))) pa_nil)) pps_nil)))) (by rfl) (by rfl) (fun h => nomatch h) (by decide +kernel)))
    (pss_one (ps_ret (pe_make Tk.M Tk.G (hr.mono (by decide)) (by rfl) Tk.m Tk.b .nil pass0 (pa_cons (pe_lst (pa_cons (pe_lst (pa_cons (pe_lst (pa_cons pe_int pa_nil)) (pa_cons (pe_lst (pa_cons pe_int pa_nil)) pa_nil))) (pa_cons (pe_lst (pa_cons (pe_lst (pa_cons pe_int pa_nil)) (pa_cons (pe_lst (pa_cons pe_int pa_nil)) pa_nil))) pa_nil))) (pa_cons (pv 1) pa_nil))))))), ?_⟩
  refine ⟨(by show 2 ≤ sizeLine; decide), fun t0 ht0 => ⟨(by show 2 ≤ sizeLine; decide), fun t1 ht1 => ⟨(by show 2 ≤ sizeLine; decide), fun c hc => ?_⟩⟩⟩
  have s1 := same_new ht0 (.tup [V.int 0, V.int 0])
  have s2 := same_new ht1 (.tup [V.int 1, V.int 1])
  have s3 := same_new hc (.lst [V.ref t0, V.ref t1])
  have hL : LetAt _ (.ref c) [(0, 0), (1, 1)] := ⟨c, _, rfl, upd_same, .cons ⟨t0, rfl, s3 _ _ (s2 _ _ upd_same)⟩ (.cons ⟨t1, rfl, s3 _ _ upd_same⟩ .nil)⟩
  have sH := (s1.trans s2).trans s3
  generalize upd (upd (upd H t0 _) t1 _) c _ = H0 at sH hL ⊢
  clear s1 s2 s3 ht0 ht1 hc
  intro d hd
  have a0 := same_new hd (.dT [])
  have hdd : (upd H0 d (.dT [])) d = some (.dT []) := upd_same
  generalize hG0 : upd H0 d (.dT []) = G0 at a0 hdd ⊢
  refine ⟨(by show 2 ≤ sizeLine; decide), fun k0 hk0 => ⟨(by show 2 ≤ sizeLine; decide), fun u0 hu0 => ⟨(by show 1 ≤ sizeLine; decide), fun l0 hl0 => ?_⟩⟩⟩
  have a1 := same_new hk0 (.tup [V.int 0, V.int 0])
  have x0 : (upd G0 k0 (.tup [V.int 0, V.int 0])) k0 = some (.tup [V.int 0, V.int 0]) := upd_same
  generalize upd G0 k0 (.tup [V.int 0, V.int 0]) = G1 at a1 x0 hu0 hl0 ⊢
  have a2 := same_new hu0 (.tup [V.int 0, V.int 0])
  have a3 := same_new hl0 (.lst [V.ref u0])
  have y0 : LetAt (upd (upd G1 u0 (.tup [V.int 0, V.int 0])) l0 (.lst [V.ref u0])) (.ref l0) [(0, 0)] := ⟨l0, _, rfl, upd_same, .cons ⟨u0, rfl, a3 _ _ upd_same⟩ .nil⟩
  generalize upd (upd G1 u0 (.tup [V.int 0, V.int 0])) l0 (.lst [V.ref u0]) = G3 at a3 y0 ⊢
  refine ⟨(by show 2 ≤ sizeLine; decide), fun k1 hk1 => ⟨_, rfl, ?_⟩⟩
  have a4 := same_new hk1 (.tup [V.int 0, V.int 1])
  have x1 : (upd G3 k1 (.tup [V.int 0, V.int 1])) k1 = some (.tup [V.int 0, V.int 1]) := upd_same
  generalize upd G3 k1 (.tup [V.int 0, V.int 1]) = G4 at a4 x1 ⊢
  refine ⟨(by show 2 ≤ sizeLine; decide), fun k2 hk2 => ⟨_, rfl, ?_⟩⟩
  have a5 := same_new hk2 (.tup [V.int 1, V.int 0])
  have x2 : (upd G4 k2 (.tup [V.int 1, V.int 0])) k2 = some (.tup [V.int 1, V.int 0]) := upd_same
  generalize upd G4 k2 (.tup [V.int 1, V.int 0]) = G5 at a5 x2 ⊢
  refine ⟨(by show 2 ≤ sizeLine; decide), fun k3 hk3 => ⟨(by show 2 ≤ sizeLine; decide), fun u1 hu1 => ⟨(by show 1 ≤ sizeLine; decide), fun l1 hl1 => ?_⟩⟩⟩
  have a6 := same_new hk3 (.tup [V.int 1, V.int 1])
  have x3 : (upd G5 k3 (.tup [V.int 1, V.int 1])) k3 = some (.tup [V.int 1, V.int 1]) := upd_same
  generalize upd G5 k3 (.tup [V.int 1, V.int 1]) = G6 at a6 x3 hu1 hl1 ⊢
  have a7 := same_new hu1 (.tup [V.int 1, V.int 1])
  have a8 := same_new hl1 (.lst [V.ref u1])
  have y1 : LetAt (upd (upd G6 u1 (.tup [V.int 1, V.int 1])) l1 (.lst [V.ref u1])) (.ref l1) [(1, 1)] := ⟨l1, _, rfl, upd_same, .cons ⟨u1, rfl, a8 _ _ upd_same⟩ .nil⟩
  generalize upd (upd G6 u1 (.tup [V.int 1, V.int 1])) l1 (.lst [V.ref u1]) = G8 at a8 y1 ⊢
  have b78 := a7.trans a8
  have b6 := a6.trans b78
  have b5 := a5.trans b6
  have b4 := a4.trans b5
  have b3 := (a2.trans a3).trans b4
  have b1 := a1.trans b3
  have hd8 := b1 _ _ hdd
  refine ⟨hd8, [(kI (0, 0), .ref l0), (kI (0, 1), .ref c), (kI (1, 0), .ref c), (kI (1, 1), .ref l1)], .cons ⟨⟨k0, rfl, b3 _ _ x0⟩, rfl⟩ (.cons ⟨⟨k1, rfl, b5 _ _ x1⟩, rfl⟩ (.cons ⟨⟨k2, rfl, b6 _ _ x2⟩, rfl⟩ (.cons ⟨⟨k3, rfl, b78 _ _ x3⟩, rfl⟩ .nil))), (by show 4 ≤ 15; decide), ?_⟩
  rw [merge4]
  have c0 : Same H0 (upd G8 d (.dT [(kI (0, 0), .ref l0), (kI (0, 1), .ref c), (kI (1, 0), .ref c), (kI (1, 1), .ref l1)])) := same_upd (a0.trans b1) hd
  have kp : Kp G8 (upd G8 d (.dT [(kI (0, 0), .ref l0), (kI (0, 1), .ref c), (kI (1, 0), .ref c), (kI (1, 1), .ref l1)])) := Kp.put hd8 nf_dT
  have hB : BoAt (upd G8 d (.dT [(kI (0, 0), .ref l0), (kI (0, 1), .ref c), (kI (1, 0), .ref c), (kI (1, 1), .ref l1)])) d (namedT 1 [(0, 0), (1, 1)]).bo := named_bo (y0.mono ((Kp.same b4).trans kp)) (hL.mono (.same c0)) (y1.mono kp) upd_same
  generalize upd G8 d (.dT [(kI (0, 0), .ref l0), (kI (0, 1), .ref c), (kI (1, 0), .ref c), (kI (1, 1), .ref l1)]) = G9 at c0 hB ⊢
  clear kp hd8
  refine ⟨(by show 1 ≤ sizeLine; decide), fun r0 hr0 => ⟨(by show 1 ≤ sizeLine; decide), fun r1 hr1 => ⟨(by show 2 ≤ sizeLine; decide), fun w0 hw0 => ?_⟩⟩⟩
  have e1 := same_new hr0 (.lst [V.int 0])
  have e2 := same_new hr1 (.lst [V.int 1])
  have e3 := same_new hw0 (.lst [V.ref r0, V.ref r1])
  have z0 : RowsAt _ (.ref w0) [[0], [1]] := ⟨w0, _, rfl, upd_same, .cons ⟨r0, rfl, e3 _ _ (e2 _ _ upd_same)⟩ (.cons ⟨r1, rfl, e3 _ _ upd_same⟩ .nil)⟩
  have e123 := (e1.trans e2).trans e3
  generalize upd (upd (upd G9 r0 (.lst [V.int 0])) r1 (.lst [V.int 1])) w0 (.lst [V.ref r0, V.ref r1]) = M1 at e123 z0 ⊢
  clear e1 e2 e3 hr0 hr1 hw0
  refine ⟨(by show 1 ≤ sizeLine; decide), fun r2 hr2 => ⟨(by show 1 ≤ sizeLine; decide), fun r3 hr3 => ⟨(by show 2 ≤ sizeLine; decide), fun w1 hw1 => ⟨(by show 2 ≤ sizeLine; decide), fun al hal => ?_⟩⟩⟩⟩
  have e1 := same_new hr2 (.lst [V.int 0])
  have e2 := same_new hr3 (.lst [V.int 1])
  have e3 := same_new hw1 (.lst [V.ref r2, V.ref r3])
  have e4 := same_new hal (.lst [V.ref w0, V.ref w1])
  have z1 : RowsAt _ (.ref w1) [[0], [1]] := ⟨w1, _, rfl, upd_same, .cons ⟨r2, rfl, e3 _ _ (e2 _ _ upd_same)⟩ (.cons ⟨r3, rfl, e3 _ _ upd_same⟩ .nil)⟩
  have e234 := ((e1.trans e2).trans e3).trans e4
  have hA : AlAt _ (.ref al) (namedT 1 [(0, 0), (1, 1)]).al := ⟨al, _, _, rfl, upd_same, z0.mono (.same e234), z1.mono (.same e4)⟩
  have sM := e123.trans e234
  generalize upd (upd (upd (upd M1 r2 (.lst [V.int 0])) r3 (.lst [V.int 1])) w1 (.lst [V.ref r2, V.ref r3])) al (.lst [V.ref w0, V.ref w1]) = M2 at sM hA ⊢
  refine ⟨_, rfl, ?_⟩
  intro x dx nx ndx nex
  have s4 : Same M2 (upd (upd M2 dx (.own x)) x (.ins C dx [])) := fun b o e => by
    rw [upd_ne (ne_of_none e nx), upd_ne (ne_of_none e ndx)]
    exact e
  refine ⟨x, dx, al, d, _, rfl, upd_same, hA.mono (.same s4), (hB.mono sM).mono s4, agree_wf, fun H5 b5 hnew => ⟨rfl, ?_⟩⟩
  have s5 : Same M2 H5 := fun b o e => b5 _ _ (ne_of_none e nx) (s4 _ _ e)
  exact q x H5 ⟨((sH.trans c0).trans sM).trans s5, _, ((sH.trans c0).trans sM).trans s4, hnew⟩
abbrev nNear : List Str := ["n", "close", "both", "x", "y"]
theorem sc_near : FnScope nNear ["n"] (defScope s_near) := ⟨rfl, rfl, rfl, by decide +kernel, rfl, by decide +kernel, by decide +kernel⟩
theorem rowN_snoc (x j : Nat) : rowN x (j + 1) = rowN x j ++ (if nearP x j = true then [((x : Int), (j : Int))] else []) := by
  unfold rowN
  rw [List.range_succ, List.filter_append, List.map_append]
  by_cases c : nearP x j = true
  · rw [if_pos c, List.filter_cons_of_pos c]
    rfl
  · rw [if_neg c, List.filter_cons_of_neg c]
    rfl
theorem ok_near {f g1 g3 C : Addr} {fd d1 d3 : FuncData} (F : Fun K "near" "near" s_near f fd) (T : Txt K mg) (N : TxtN mg) (WW : Def P w K mg base "is_whole_within" ["thing", "least", "most"] 2 (spWithinG K) g1 d1) (Tk : KDef P w K mg base C "Task" ["self", "alone", "both"] 7 (spInit K C) g3 d3) : FnOk P w K mg base CX0 9 f fd ["n"] (spNear C) := by
  refine F.ok sc_near (fun vs H Q E h => ?_) (fun cdv A outer s H vs Q E hr h => ?_)
  · obtain ⟨n, rfl, _⟩ := h
    rfl
  obtain ⟨n, rfl, hn0, hn5, q⟩ := h
  have nd := sc_near.nd
  have hu := hu_of hr
  obtain ⟨t7, m7⟩ := N.seven
  refine ⟨_, (pss_cons (ps_if (pt_not (pt_val (pe_call WW.G (hr.mono (by decide)) rfl WW.m WW.k WW.b .nil pass0 (pa_cons (pv 0) (pa_cons pe_int (pa_cons (pe_glob (v := .int 7) rfl m7 ⟨_, rfl⟩) pa_nil))))))
      pss_never
      pss_nil)
    (pss_cons (ps_setLc2 (i := 1) (own := [("x", 3), ("y", 4)]) (vs1 := [4]) (wi1 := iRng1 (tCons (tOp (rI0 fun i j => .int (i + j)) (tVar 0) (tC (.int 1))) tNil)) (tt1 := tTest (tOp (rI0 fun i j => .bl (decide (i ≤ j))) (tCB (fun xs H Q => ∃ i, xs = [.int i] ∧ Q (.int (if i < 0 then -i else i)) H) (tCons (tOp (rI0 fun i j => .int (i - j)) (tVar 3) (tVar 4)) tNil)) (tC (.int 1)))) rfl nd rfl rfl (sw_true rfl rfl rfl (by decide +kernel)) (pi_range1 (by rfl) T.range (pa_cons (pe_op op_add (pv 0) pe_int) pa_nil)) (blkOk_by (N := nNear) (sc := defScope s_near) (by decide +kernel)) (by decide)
      (fun _ _ _ _ _ => pg_name (i := 3) nd rfl (Or.inl rfl)) (fun _ _ _ _ _ => pts_nil) (fun _ _ _ _ _ => (by refine pi_range1 (by rfl) T.range ?_; exact pa_cons (pe_op op_add (pv 0) pe_int) pa_nil)) (fun _ _ _ _ _ => pg_name (i := 4) nd rfl (Or.inl rfl))
      (fun _ _ _ _ _ => (by refine pts_one ?_; refine pt_cmpR op_le ?_ pe_int (nomark _); exact pe_callB call_abs (by rfl) N.abs (by decide +kernel) (pa_cons (pe_op op_sub (pv 3) (pv 4)) pa_nil)))
      (fun _ _ _ _ _ => pe_tup (pa_cons (pv 3) (pa_cons (pv 4) pa_nil))))
    (pss_cons (ps_set (i := 2) nd rfl (Or.inl rfl) (pe_dispT hu (pps_cons (pe_tup (pa_cons pe_int (pa_cons pe_int pa_nil))) (pe_lst (pa_cons (pe_tup (pa_cons pe_int (pa_cons pe_int pa_nil))) pa_nil)) (pps_cons (pe_tup (pa_cons pe_int (pa_cons pe_int pa_nil))) (pv 1) (pps_cons (pe_tup (pa_cons pe_int (pa_cons pe_int pa_nil))) (pv 1) (pps_cons (pe_tup (pa_cons pe_int (pa_cons pe_int pa_nil))) (pe_lst (pa_cons (pe_tup (pa_cons (pv 0) (pa_cons (pv 0) pa_nil))) pa_nil)) pps_nil)))) (by rfl) (by rfl) (fun h => nomatch h) (by decide +kernel)))
    (pss_one (ps_ret (pe_make Tk.M Tk.G (hr.mono (by decide)) (by rfl) Tk.m Tk.b .nil pass0 (pa_cons (pe_lst (pa_cons (pe_lst (pa_cons (pe_lst (pa_cons pe_int pa_nil)) (pa_cons (pe_lst (pa_cons (pv 0) pa_nil)) pa_nil))) (pa_cons (pe_lst (pa_cons (pe_lst (pa_cons pe_int pa_nil)) (pa_cons (pe_lst (pa_cons (pv 0) pa_nil)) pa_nil))) pa_nil))) (pa_cons (pv 2) pa_nil)))))))), ?_⟩
  refine ⟨_, rfl, _, _, _, _, rfl, .int _, ?_⟩
  rw [show within (.int (n : Int)) 1 7 = true from decide_eq_true (by omega)]
  refine ⟨true, rfl, iteF ?_⟩
  refine ⟨_, rfl, _, _, rfl, rfl, ((n : Int) + 1), rfl, by omega, by omega, fun c hc => ?_⟩
  have en : ((n : Int) + 1).toNat = n + 1 := by omega
  rw [en]
  refine range_turns (n := n + 1) (fun i H' => Same H H' ∧ ∃ ys, H' c = some (.lst ys) ∧ A2 (TpAt H') ys (preN n i) ∧ ys.length ≤ 5 * i) ⟨same_new hc _, [], upd_same, .nil, Nat.zero_le _⟩ ?_ ?_
  · rintro i H' hi ⟨s1, ys, hy, ay, ly⟩
    have ej : (0 : Int) + (i : Int) = (i : Int) := by omega
    rw [ej]
    refine ⟨rfl, _, rfl, _, _, rfl, rfl, ((n : Int) + 1), rfl, by omega, by omega, ?_⟩
    rw [en]
    refine range_turns (n := n + 1) (fun j H' => Same H H' ∧ ∃ ys, H' c = some (.lst ys) ∧ A2 (TpAt H') ys (preN n i ++ rowN i j) ∧ ys.length ≤ 5 * i + j) ⟨s1, ys, hy, by rw [show rowN i 0 = [] from by unfold rowN; rfl, List.append_nil]; exact ay, ly⟩ ?_ ?_
    · rintro j H2 hj ⟨s2, zs, hz, az, lz⟩
      have ej : (0 : Int) + (j : Int) = (j : Int) := by omega
      rw [ej]
      refine ⟨rfl, _, rfl, _, rfl, _, _, rfl, rfl, _, rfl, _, _, rfl, rfl, _, rfl, ?_⟩
      have hc2 : decide ((if (i : Int) - (j : Int) < 0 then -((i : Int) - (j : Int)) else (i : Int) - (j : Int)) ≤ 1) = nearP i j := by
        unfold nearP
        refine decide_eq_decide.mpr ?_
        split <;> omega
      by_cases c3 : nearP i j = true
      · refine iteT' (hc2.trans c3) ?_
        refine ⟨_, rfl, _, rfl, (by show 2 ≤ sizeLine; decide), fun t ht => ?_⟩
        have s3 := same_new ht (.tup [V.int (i : Int), V.int (j : Int)])
        refine ⟨zs, s3 _ _ hz, Nat.lt_of_le_of_lt (show zs.length ≤ 100 by omega) (by decide), same_upd (s2.trans s3) hc, _, upd_same, ?_, by rw [List.length_append]; show zs.length + 1 ≤ _; omega⟩
        rw [rowN_snoc, if_pos c3, ← List.append_assoc]
        exact A2.snoc (az.imp fun _ _ r => (r.mono (.same s3)).but (s3 _ _ hz) But.at) (TpAt.but (s3 _ _ hz) But.at ⟨t, rfl, upd_same⟩)
      · refine iteF' (hc2.trans (Bool.eq_false_iff.mpr c3)) ?_
        refine ⟨s2, zs, hz, ?_, by omega⟩
        rw [rowN_snoc, if_neg c3, List.append_nil]
        exact az
    · rintro H2 ⟨s2, zs, hz, az, lz⟩
      refine ⟨s2, zs, hz, ?_, by omega⟩
      have : preN n (i + 1) = preN n i ++ rowN i (n + 1) := by
        unfold preN
        rw [List.range_succ, List.flatMap_append]
        simp
      rw [this]
      exact az
  rintro H0 ⟨sH, ys, hy, ay, ly⟩
  have hL : LetAt H0 (.ref c) (preN n (n + 1)) := ⟨c, ys, rfl, hy, ay⟩
  intro d hd
  have a0 := same_new hd (.dT [])
  have hdd : (upd H0 d (.dT [])) d = some (.dT []) := upd_same
  generalize hG0 : upd H0 d (.dT []) = G0 at a0 hdd ⊢
  refine ⟨(by show 2 ≤ sizeLine; decide), fun k0 hk0 => ⟨(by show 2 ≤ sizeLine; decide), fun u0 hu0 => ⟨(by show 1 ≤ sizeLine; decide), fun l0 hl0 => ?_⟩⟩⟩
  have a1 := same_new hk0 (.tup [V.int 0, V.int 0])
  have x0 : (upd G0 k0 (.tup [V.int 0, V.int 0])) k0 = some (.tup [V.int 0, V.int 0]) := upd_same
  generalize upd G0 k0 (.tup [V.int 0, V.int 0]) = G1 at a1 x0 hu0 hl0 ⊢
  have a2 := same_new hu0 (.tup [V.int 0, V.int 0])
  have a3 := same_new hl0 (.lst [V.ref u0])
  have y0 : LetAt (upd (upd G1 u0 (.tup [V.int 0, V.int 0])) l0 (.lst [V.ref u0])) (.ref l0) [(0, 0)] := ⟨l0, _, rfl, upd_same, .cons ⟨u0, rfl, a3 _ _ upd_same⟩ .nil⟩
  generalize upd (upd G1 u0 (.tup [V.int 0, V.int 0])) l0 (.lst [V.ref u0]) = G3 at a3 y0 ⊢
  refine ⟨(by show 2 ≤ sizeLine; decide), fun k1 hk1 => ⟨_, rfl, ?_⟩⟩
  have a4 := same_new hk1 (.tup [V.int 0, V.int 1])
  have x1 : (upd G3 k1 (.tup [V.int 0, V.int 1])) k1 = some (.tup [V.int 0, V.int 1]) := upd_same
  generalize upd G3 k1 (.tup [V.int 0, V.int 1]) = G4 at a4 x1 ⊢
  refine ⟨(by show 2 ≤ sizeLine; decide), fun k2 hk2 => ⟨_, rfl, ?_⟩⟩
  have a5 := same_new hk2 (.tup [V.int 1, V.int 0])
  have x2 : (upd G4 k2 (.tup [V.int 1, V.int 0])) k2 = some (.tup [V.int 1, V.int 0]) := upd_same
  generalize upd G4 k2 (.tup [V.int 1, V.int 0]) = G5 at a5 x2 ⊢
  refine ⟨(by show 2 ≤ sizeLine; decide), fun k3 hk3 => ⟨_, rfl, _, rfl, (by show 2 ≤ sizeLine; decide), fun u1 hu1 => ⟨(by show 1 ≤ sizeLine; decide), fun l1 hl1 => ?_⟩⟩⟩
  have a6 := same_new hk3 (.tup [V.int 1, V.int 1])
  have x3 : (upd G5 k3 (.tup [V.int 1, V.int 1])) k3 = some (.tup [V.int 1, V.int 1]) := upd_same
  generalize upd G5 k3 (.tup [V.int 1, V.int 1]) = G6 at a6 x3 hu1 hl1 ⊢
  have a7 := same_new hu1 (.tup [V.int (n : Int), V.int (n : Int)])
  have a8 := same_new hl1 (.lst [V.ref u1])
  have y1 : LetAt (upd (upd G6 u1 (.tup [V.int (n : Int), V.int (n : Int)])) l1 (.lst [V.ref u1])) (.ref l1) [((n : Int), (n : Int))] := ⟨l1, _, rfl, upd_same, .cons ⟨u1, rfl, a8 _ _ upd_same⟩ .nil⟩
  generalize upd (upd G6 u1 (.tup [V.int (n : Int), V.int (n : Int)])) l1 (.lst [V.ref u1]) = G8 at a8 y1 ⊢
  have b78 := a7.trans a8
  have b6 := a6.trans b78
  have b5 := a5.trans b6
  have b4 := a4.trans b5
  have b3 := (a2.trans a3).trans b4
  have b1 := a1.trans b3
  have hd8 := b1 _ _ hdd
  refine ⟨hd8, [(kI (0, 0), .ref l0), (kI (0, 1), .ref c), (kI (1, 0), .ref c), (kI (1, 1), .ref l1)], .cons ⟨⟨k0, rfl, b3 _ _ x0⟩, rfl⟩ (.cons ⟨⟨k1, rfl, b5 _ _ x1⟩, rfl⟩ (.cons ⟨⟨k2, rfl, b6 _ _ x2⟩, rfl⟩ (.cons ⟨⟨k3, rfl, b78 _ _ x3⟩, rfl⟩ .nil))), (by show 4 ≤ 15; decide), ?_⟩
  rw [merge4]
  have c0 : Same H0 (upd G8 d (.dT [(kI (0, 0), .ref l0), (kI (0, 1), .ref c), (kI (1, 0), .ref c), (kI (1, 1), .ref l1)])) := same_upd (a0.trans b1) hd
  have kp : Kp G8 (upd G8 d (.dT [(kI (0, 0), .ref l0), (kI (0, 1), .ref c), (kI (1, 0), .ref c), (kI (1, 1), .ref l1)])) := Kp.put hd8 nf_dT
  have hB : BoAt (upd G8 d (.dT [(kI (0, 0), .ref l0), (kI (0, 1), .ref c), (kI (1, 0), .ref c), (kI (1, 1), .ref l1)])) d (namedT n (preN n (n + 1))).bo := named_bo (y0.mono ((Kp.same b4).trans kp)) (hL.mono (.same c0)) (y1.mono kp) upd_same
  generalize upd G8 d (.dT [(kI (0, 0), .ref l0), (kI (0, 1), .ref c), (kI (1, 0), .ref c), (kI (1, 1), .ref l1)]) = G9 at c0 hB ⊢
  clear kp hd8
  refine ⟨(by show 1 ≤ sizeLine; decide), fun r0 hr0 => ⟨_, rfl, (by show 1 ≤ sizeLine; decide), fun r1 hr1 => ⟨(by show 2 ≤ sizeLine; decide), fun w0 hw0 => ?_⟩⟩⟩
  have e1 := same_new hr0 (.lst [V.int 0])
  have e2 := same_new hr1 (.lst [V.int (n : Int)])
  have e3 := same_new hw0 (.lst [V.ref r0, V.ref r1])
  have z0 : RowsAt _ (.ref w0) [[0], [(n : Int)]] := ⟨w0, _, rfl, upd_same, .cons ⟨r0, rfl, e3 _ _ (e2 _ _ upd_same)⟩ (.cons ⟨r1, rfl, e3 _ _ upd_same⟩ .nil)⟩
  have e123 := (e1.trans e2).trans e3
  generalize upd (upd (upd G9 r0 (.lst [V.int 0])) r1 (.lst [V.int (n : Int)])) w0 (.lst [V.ref r0, V.ref r1]) = M1 at e123 z0 ⊢
  clear e1 e2 e3 hr0 hr1 hw0
  refine ⟨(by show 1 ≤ sizeLine; decide), fun r2 hr2 => ⟨_, rfl, (by show 1 ≤ sizeLine; decide), fun r3 hr3 => ⟨(by show 2 ≤ sizeLine; decide), fun w1 hw1 => ⟨(by show 2 ≤ sizeLine; decide), fun al hal => ?_⟩⟩⟩⟩
  have e1 := same_new hr2 (.lst [V.int 0])
  have e2 := same_new hr3 (.lst [V.int (n : Int)])
  have e3 := same_new hw1 (.lst [V.ref r2, V.ref r3])
  have e4 := same_new hal (.lst [V.ref w0, V.ref w1])
  have z1 : RowsAt _ (.ref w1) [[0], [(n : Int)]] := ⟨w1, _, rfl, upd_same, .cons ⟨r2, rfl, e3 _ _ (e2 _ _ upd_same)⟩ (.cons ⟨r3, rfl, e3 _ _ upd_same⟩ .nil)⟩
  have e234 := ((e1.trans e2).trans e3).trans e4
  have hA : AlAt _ (.ref al) (namedT n (preN n (n + 1))).al := ⟨al, _, _, rfl, upd_same, z0.mono (.same e234), z1.mono (.same e4)⟩
  have sM := e123.trans e234
  generalize upd (upd (upd (upd M1 r2 (.lst [V.int 0])) r3 (.lst [V.int (n : Int)])) w1 (.lst [V.ref r2, V.ref r3])) al (.lst [V.ref w0, V.ref w1]) = M2 at sM hA ⊢
  refine ⟨_, rfl, ?_⟩
  intro x dx nx ndx nex
  have s4 : Same M2 (upd (upd M2 dx (.own x)) x (.ins C dx [])) := fun b o e => by
    rw [upd_ne (ne_of_none e nx), upd_ne (ne_of_none e ndx)]
    exact e
  refine ⟨x, dx, al, d, _, rfl, upd_same, hA.mono (.same s4), (hB.mono sM).mono s4, (near_wf hn0 hn5), fun H5 b5 hnew => ⟨rfl, ?_⟩⟩
  have s5 : Same M2 H5 := fun b o e => b5 _ _ (ne_of_none e nx) (s4 _ _ e)
  exact q x H5 ⟨((sH.trans c0).trans sM).trans s5, _, ((sH.trans c0).trans sM).trans s4, hnew⟩
end
end TA

set_option Elab.async false
set_option maxRecDepth 100000
set_option maxHeartbeats 4000000
namespace TA
open PySem L2 PyProof.Rows
set_option linter.unusedVariables false
/-- a task of which nothing stands at a -/
def TaskV (C a : Addr) (H : Hp) (p d : Addr) (T : TD) : Prop := ∃ dx aa kvs, H p = some (.ins C dx (flds aa d)) ∧ AlAt (vw (pA a) H) (.ref aa) T.al ∧ H d = some (.dT kvs) ∧ A2 (EnAt (vw (pA a) H)) kvs T.bo
theorem TaskV.task {C a : Addr} {H : Hp} {p d : Addr} {T : TD} (h : TaskV C a H p d T) : TaskAt C H p T := by
  obtain ⟨dx, aa, kvs, h1, h2, h3, h4⟩ := h
  exact ⟨dx, aa, d, h1, h2.mono vw_kp, kvs, h3, h4.imp fun _ _ r => r.mono vw_kp⟩
theorem TaskV.dict {C a : Addr} {H : Hp} {p d : Addr} {T : TD} (h : TaskV C a H p d T) : ∃ kvs, H d = some (.dT kvs) := by
  obtain ⟨dx, aa, kvs, h1, h2, h3, h4⟩ := h
  exact ⟨kvs, h3⟩
theorem TaskV.kept {C a : Addr} {H H' : Hp} {p d : Addr} {T : TD} {zs : List V} (h : TaskV C a H p d T) (ea : H a = some (.lst zs)) (s : ∀ b o, b ≠ a → (flatO o ∨ (∃ dx f, o = .ins C dx f) ∨ b = d) → H b = some o → H' b = some o) : TaskV C a H' p d T := by
  obtain ⟨dx, aa, kvs, h1, h2, h3, h4⟩ := h
  have kp : Kp (vw (pA a) H) (vw (pA a) H') := vw_mono fun b o h f e => ⟨h, s b o (pA_ok.mp h) (.inl f) e⟩
  refine ⟨dx, aa, kvs, s _ _ (ne_of h1 ea (fun z => by cases z)) (.inr (.inl ⟨_, _, rfl⟩)) h1, h2.mono kp, s _ _ (ne_of h3 ea (fun z => by cases z)) (.inr (.inr rfl)) h3, h4.imp fun _ _ r => r.mono kp⟩
theorem TaskV.but {C a : Addr} {H H' : Hp} {p d : Addr} {T : TD} {zs : List V} (h : TaskV C a H p d T) (ea : H a = some (.lst zs)) (s : But a H H') : TaskV C a H' p d T := h.kept ea fun b o n _ e => s b o n e
theorem TaskV.same {C a : Addr} {H H' : Hp} {p d : Addr} {T : TD} {zs : List V} (h : TaskV C a H p d T) (ea : H a = some (.lst zs)) (s : Same H H') : TaskV C a H' p d T := h.but ea (.same s)
theorem NewT.v {C a : Addr} {H H' : Hp} {p : Addr} {T : TD} {zs : List V} (h : NewT C H H' p T) (ea : H a = some (.lst zs)) : ∃ d, TaskV C a H' p d T := by
  obtain ⟨s, Hx, sx, dx, aa, d, kvs, h1, h2, _, h3, h4⟩ := h
  have exa := sx _ _ ea
  have ea' := s _ _ ea
  have kp : Kp (nwx Hx p H') (vw (pA a) H') := fun b o f e => by
    obtain ⟨e1, e2, e3⟩ := nwx_some e
    exact vw_put (pA_ok.mpr fun c => by subst c; rw [e1] at exa; cases exa) e3
  refine ⟨d, dx, aa, kvs, h1, h2.mono kp, h3, h4.imp fun x y r => ?_⟩
  obtain ⟨e, t, xs, e2, ht, az⟩ := r
  refine ⟨e, t, xs, e2, kp.lst ht, az.imp fun v q z => ?_⟩
  obtain ⟨t2, e3, ht2⟩ := z
  exact ⟨t2, e3, vw_put (pA_ok.mpr (ne_of ht2 ea' (fun z => by cases z))) ht2⟩
def spTask (C : Addr) : Sp := fun vs H Q _ => ∃ (a : Addr) (n : Int), vs = [.ref a] ∧ Dr H a n ∧ 0 ≤ n ∧ n < 100000 ∧ ∀ (p d : Addr) (T : TD) (H' : Hp), But a H H' → TaskV C a H' p d T → WF T → WellAt H' a (n + 600) → Q (.ref p) H'
section
variable {P : Program} {w : World} {K : PySem.W.Frag} {mg : Str → Option Value} {base : Heap}
abbrev nTask : List Str := ["_law_state", "_law_way", "_law_alone", "_law_both"]
theorem sc_task : FnScope nTask ["_law_state"] (defScope s__law_task) := ⟨rfl, rfl, rfl, by decide +kernel, rfl, by decide +kernel, by decide +kernel⟩
theorem ok_task {f g1 g2 g3 g4 g5 C : Addr} {fd d1 d2 d3 d4 d5 : FuncData} (F : Fun K "_law_task" "_law_task" s__law_task f fd) (Dg : Def P w K mg base "_law_digit" ["_law_state", "_law_base"] 1 spDigit g1 d1) (Ag : Def P w K mg base "agreement" [] 9 (spAgree C) g2 d2) (Ne : Def P w K mg base "near" ["n"] 9 (spNear C) g3 d3)
    (Pa : Def P w K mg base "_law_parts" ["_law_state", "_law_most"] 3 spParts g4 d4) (Tk : KDef P w K mg base C "Task" ["self", "alone", "both"] 7 (spInit K C) g5 d5) : FnOk P w K mg base CX0 10 f fd ["_law_state"] (spTask C) := by
  refine F.ok sc_task (fun vs H Q E h => ?_) (fun cdv A outer s H vs Q E hr h => ?_)
  · obtain ⟨a, n, rfl, _⟩ := h
    rfl
  obtain ⟨a, n, rfl, hD, hn0, hn, q⟩ := h
  have nd := sc_task.nd
  refine ⟨_, (pss_cons (ps_set (i := 1) nd rfl (Or.inl rfl) (pe_call Dg.G (hr.mono (by decide)) rfl Dg.m Dg.k Dg.b .nil pass0 (pa_cons (pv 0) (pa_cons pe_int pa_nil))))
    (pss_cons (ps_if (pt_cmpR op_eq (pv 1) pe_int (nomark _))
      (pss_one (ps_ret (pe_call0 Ag.G (hr.mono (by decide)) rfl Ag.m Ag.k Ag.b .nil pass0)))
      pss_nil)
    (pss_cons (ps_if (pt_cmpR op_eq (pv 1) pe_int (nomark _))
      (pss_one (ps_ret (pe_call Ne.G (hr.mono (by decide)) rfl Ne.m Ne.k Ne.b .nil pass0 (pa_cons (pe_op op_add pe_int (pe_call Dg.G (hr.mono (by decide)) rfl Dg.m Dg.k Dg.b .nil pass0 (pa_cons (pv 0) (pa_cons pe_int pa_nil)))) pa_nil))))
      pss_nil)
    (pss_cons (ps_asg (pe_call Pa.G (hr.mono (by decide)) rfl Pa.m Pa.k Pa.b .nil pass0 (pa_cons (pv 0) (pa_cons pe_int pa_nil))) (pg_tup (by rfl) (pgs_cons (pg_name (i := 2) nd rfl (Or.inl rfl)) (pgs_cons (pg_name (i := 3) nd rfl (Or.inl rfl)) pgs_nil))))
    (pss_one (ps_ret (pe_make Tk.M Tk.G (hr.mono (by decide)) (by rfl) Tk.m Tk.b .nil pass0 (pa_cons (pv 2) (pa_cons (pv 3) pa_nil))))))))), ?_⟩
  refine ⟨_, rfl, a, n, 8, rfl, hD, hn0, by omega, by decide, by decide, fun r H1 r0 r1 b1 w1 => ?_⟩
  obtain ⟨z1, ea1⟩ := w1.lst
  refine ⟨_, rfl, rfl, _, rfl, ?_⟩
  refine ite2 (fun c => ?_) (fun c => ?_)
  · refine ⟨rfl, fun p H2 hN => ?_⟩
    obtain ⟨d, hV⟩ := hN.v ea1
    exact q p d _ H2 (b1.trans (.same hN.1)) hV agree_wf ((w1.same hN.1).up (by omega))
  refine ⟨_, rfl, rfl, _, rfl, ?_⟩
  refine ite2 (fun c => ?_) (fun c => ?_)
  · refine ⟨_, rfl, a, n + 1, 4, rfl, .inr w1, by omega, by omega, by decide, by decide, fun m H2 m0 m1 b2 w2 => ?_⟩
    obtain ⟨z2, ea2⟩ := w2.lst
    refine ⟨_, _, rfl, rfl, (1 + m).toNat, ?_, by omega, by omega, fun p H3 hN => ?_⟩
    · rw [show (((1 + m).toNat : Nat) : Int) = 1 + m by omega]
      rfl
    obtain ⟨d, hV⟩ := hN.v ea2
    exact q p d _ H3 ((b1.trans b2).trans (.same hN.1)) hV (near_wf (by omega) (by omega)) ((w2.same hN.1).up (by omega))
  refine ⟨_, rfl, a, n + 1, 3, rfl, .inr w1, by omega, by omega, by decide, by decide, fun r al d D H3 b3 rn aln dn hr3 hal3 hbo3 w3 hW _ _ => ?_⟩
  obtain ⟨z3, ea3⟩ := w3.lst
  refine ⟨r, _, rfl, SqT.of hr3, rfl, _, _, rfl, _, _, rfl, rfl, ?_⟩
  refine ⟨_, rfl, _, rfl, ?_⟩
  have hB3 : BoAt H3 d D.bo := by
    obtain ⟨kvs, h1, h2⟩ := hbo3
    exact ⟨kvs, h1, h2.imp fun _ _ r => r.mono vw_kp⟩
  intro x dx nx ndx nex
  have s4 : Same H3 (upd (upd H3 dx (.own x)) x (.ins C dx [])) := fun b o e => by
    rw [upd_ne (ne_of_none e nx), upd_ne (ne_of_none e ndx)]
    exact e
  refine ⟨x, dx, al, d, D, rfl, upd_same, (hal3.mono vw_kp).mono (.same s4), hB3.mono s4, hW, fun H5 b5 hnew => ⟨rfl, ?_⟩⟩
  have s5 : Same H3 H5 := fun b o e => b5 _ _ (ne_of_none e nx) (s4 _ _ e)
  obtain ⟨d2, hV⟩ := NewT.v (a := a) ⟨s5, _, s4, hnew⟩ ea3
  exact q x d2 D H5 ((b1.trans b3).trans (.same s5)) hV hW ((w3.same s5).up (by omega))
end
end TA

set_option Elab.async false
set_option maxRecDepth 100000
set_option maxHeartbeats 4000000
namespace TA
open PySem L2 PyProof.Rows
set_option linter.unusedVariables false
def ButS (S : Addr → Prop) (H H' : Hp) : Prop := ∀ b o, ¬ S b → H b = some o → H' b = some o
theorem ButS.trans {S : Addr → Prop} {H H1 H2 : Hp} (h : ButS S H H1) (g : ButS S H1 H2) : ButS S H H2 := fun b o n e => g b o n (h b o n e)
theorem TaskV.x {C a : Addr} {H : Hp} {p d d0 : Addr} {T : TD} (h : TaskV C a H p d T) (n : d ≠ d0) : TaskX C H p T d0 := by
  obtain ⟨dx, aa, kvs, h1, h2, h3, h4⟩ := h
  exact ⟨dx, aa, d, h1, h2.mono vw_kp, ⟨kvs, .inl h3, h4.imp fun _ _ r => r.mono vw_kp⟩, n⟩
/-- how many pairs are answered -/
def mm (n i j g : Nat) : Nat := if g < i then n else if g = i then j else 0
def updA (an : Nat → IP × List (Int × Int) → Int) (i : Nat) (e0 : IP × List (Int × Int)) (r : Int) : Nat → IP × List (Int × Int) → Int := fun g e => if g = i ∧ e = e0 then r else an g e
theorem anKV_upd_ne {an : Nat → IP × List (Int × Int) → Int} {i : Nat} {e0 : IP × List (Int × Int)} {r : Int} {g : Nat} {l : BD} (h : g ≠ i) : anKV (updA an i e0 r) g l = anKV an g l := by
  unfold anKV
  refine List.map_congr_left fun e _ => ?_
  unfold updA
  rw [if_neg (fun c => h c.1)]
theorem anKV_upd_not {an : Nat → IP × List (Int × Int) → Int} {i : Nat} {e0 : IP × List (Int × Int)} {r : Int} {g : Nat} {l : BD} (h : ∀ e ∈ l, e ≠ e0) : anKV (updA an i e0 r) g l = anKV an g l := by
  unfold anKV
  refine List.map_congr_left fun e m => ?_
  unfold updA
  rw [if_neg (fun c => h e m c.2)]
theorem take_ne {bo : BD} (s : (bo.map (·.1)).Pairwise ltN) {j : Nat} {e : IP × List (Int × Int)} (hj : bo[j]? = some e) : ∀ x ∈ bo.take j, x.1 ≠ e.1 := by
  intro x hx
  obtain ⟨k, hk⟩ := List.getElem?_of_mem hx
  have hk1 : k < j ∧ k < bo.length := by
    have := (List.getElem?_eq_some_iff.mp hk).1
    rw [List.length_take] at this
    omega
  obtain ⟨hjl, rfl⟩ := List.getElem?_eq_some_iff.mp hj
  rw [List.getElem?_take_of_lt hk1.1, List.getElem?_eq_getElem hk1.2] at hk
  injection hk with hk
  subst hk
  have := List.pairwise_iff_getElem.mp s k j (by rw [List.length_map]; exact hk1.2) (by rw [List.length_map]; exact hjl) hk1.1
  rw [List.getElem_map, List.getElem_map] at this
  exact ltN_ne this
theorem two_ints {rs : List (List Int)} (h : rs.length = 2) : rs = [rs.getD 0 [], rs.getD 1 []] := by
  match rs, h with
  | [x, y], _ => rfl
theorem getD_left {l r : List Int} {k : Nat} (h : k < l.length) : (l ++ r).getD k 0 = l.getD k 0 := by
  rw [List.getD_eq_getElem?_getD, List.getD_eq_getElem?_getD, List.getElem?_append_left h]
theorem getD_mid {l : List Int} {x : Int} : (l ++ [x]).getD l.length 0 = x := by
  rw [List.getD_eq_getElem?_getD, List.getElem?_append_right (Nat.le_refl _), Nat.sub_self]
  rfl
theorem getD_some {α : Type} {l : List α} {k : Nat} {x d : α} (h : l[k]? = some x) : l.getD k d = x := by
  rw [List.getD_eq_getElem?_getD, h]
  rfl
def spDrawn (C : Addr) : Sp := fun vs H Q _ => ∃ (a p d : Addr) (n : Int) (T : TD), vs = [.ref a, .ref p] ∧ WellAt H a n ∧ 0 ≤ n ∧ n < 110000 ∧ TaskV C a H p d T ∧ WF T ∧
  ∀ (r al ans d0 d1 : Addr) (ch : Nat → List Int) (an : Nat → IP × List (Int × Int) → Int) (H' : Hp), But a H H' → TaskAt C H' p T → BxF C H' p r T ch an al ans d0 d1 → (∀ h k, h < 2 → k < (T.al h).length → okA T ch h k) → Q (.ref r) H'
section
variable {P : Program} {w : World} {K : PySem.W.Frag} {mg : Str → Option Value} {base : Heap}
abbrev nDrawn : List Str := ["_law_state", "_law_task_here", "_law_told", "_law_answers", "_law_hand", "_law_pair", "_law_row", "_law_rows"]
theorem sc_drawn : FnScope nDrawn ["_law_state", "_law_task_here"] (defScope s__law_drawn) := ⟨rfl, rfl, rfl, by decide +kernel, rfl, by decide +kernel, by decide +kernel⟩
theorem ok_drawn {f g1 g2 C : Addr} {fd d1 d2 : FuncData} (F : Fun K "_law_drawn" "_law_drawn" s__law_drawn f fd) (T : Txt K mg) (Z : TxtC K mg C) (Dg : Def P w K mg base "_law_digit" ["_law_state", "_law_base"] 1 spDigit g1 d1)
    (Prs : MDef P w K mg base C "pairs" nPairs 1 (spPairs K C) g2 d2) : FnOk P w K mg base CX0 2 f fd ["_law_state", "_law_task_here"] (spDrawn C) := by
  refine F.ok sc_drawn (fun vs H Q E h => ?_) (fun cdv A outer s H vs Q E hr h => ?_)
  · obtain ⟨a, p, d, n, D, rfl, _⟩ := h
    rfl
  obtain ⟨a, p, d, n, D, rfl, hw, hn0, hn, hV, hW, q⟩ := h
  have nd := sc_drawn.nd
  have hu := hu_of hr
  refine ⟨_, (pss_cons (ps_setLc (i := 2) (own := [("_law_rows", 7)]) (g := (gName 7)) (tt := tYes) (te := (tLc (iList K (tVar 7)) (gName 6) tYes (tOp (rIxL K) (tVar 6) (tCall spDigit [] E0 (tCons (tVar 0) (tCons (tCB (fun xs H Q => ∃ p ys, xs = [.ref p] ∧ (SqL K H p ys ∨ SqT K H p ys) ∧ Q (.int ys.length) H) (tCons (tVar 6) tNil)) tNil)))) [6])) rfl nd rfl rfl (sw_true rfl rfl rfl (by decide +kernel)) (pi_list (pe_fld (pv 1) rfl)) (blkOk_by (N := nDrawn) (sc := defScope s__law_drawn) (by decide +kernel)) (fun _ _ _ _ _ => (by exact (pg_name (i := 7) nd rfl (Or.inl rfl)))) (fun _ _ _ _ _ => pts_nil) (fun _ _ _ _ _ => (by exact (pe_lc (own := [("_law_row", 6)]) (g := (gName 6)) (tt := tYes) (te := (tOp (rIxL K) (tVar 6) (tCall spDigit [] E0 (tCons (tVar 0) (tCons (tCB (fun xs H Q => ∃ p ys, xs = [.ref p] ∧ (SqL K H p ys ∨ SqT K H p ys) ∧ Q (.int ys.length) H) (tCons (tVar 6) tNil)) tNil))))) rfl nd (pi_list (pv 7)) (blkOk_by (N := nDrawn)  (by kernel_rfl)) (fun _ _ _ _ _ => (by exact (pg_name (i := 6) nd rfl (Or.inl rfl)))) (fun _ _ _ _ _ => pts_nil) (fun _ _ _ _ _ => (by exact (pe_ix ix_list (pv 6) (pe_call Dg.G (hr.mono (by decide)) rfl Dg.m Dg.k Dg.b .nil pass0 (pa_cons (pv 0) (pa_cons (pe_callB call_len_seq (by rfl) T.len PySem.boot_len (pa_cons (pv 6) pa_nil)) pa_nil))) (fun _ _ => rfl))))))))
    (pss_cons (ps_set (i := 3) nd rfl (Or.inl rfl) (pe_lst (pa_cons pe_dnewT (pa_cons pe_dnewT pa_nil))))
    (pss_cons (ps_for PassesOwn.never (by rfl) (pi_range1 (by rfl) T.range (pa_cons pe_int pa_nil)) (pg_name (i := 4) nd rfl (Or.inl rfl))
      (pss_one (ps_for PassesOwn.never (by rfl) (pi_list (pe_meth0 (pv 1) Z.cl Prs.M Prs.G (hr.mono (by decide)) Prs.b .nil pass0)) (pg_name (i := 5) nd rfl (Or.inl rfl))
      (pss_one (ps_dput hu (pe_ix ix_list (pv 3) (pv 4) (fun _ _ => rfl)) (pv 5) (pe_call Dg.G (hr.mono (by decide)) rfl Dg.m Dg.k Dg.b .nil pass0 (pa_cons (pv 0) (pa_cons pe_int pa_nil))) rfl)))))
    (pss_one (ps_ret (pe_tup (pa_cons (pv 2) (pa_cons (pv 3) pa_nil)))))))), ?_⟩
  obtain ⟨dx, aa, kvs0, hp, hA, hd, hE⟩ := id hV
  obtain ⟨zw, ea⟩ := hw.lst
  obtain ⟨t, x0, x1, et, ht, hx0, hx1⟩ := id hA
  obtain rfl : aa = t := by injection et
  obtain ⟨taa, htt⟩ := vw_some ht
  have naa : aa ≠ a := pA_ok.mp taa
  refine ⟨_, rfl, p, C, dx, _, _, rfl, hp, Z.cl, Z.nA, flds_alone _ _, aa, rfl, ⟨_, SqL.of htt⟩, fun D1 hD1 => ?_⟩
  have s1 := same_new hD1 (.lst [])
  have haD1 : a ≠ D1 := hw.ne hD1
  let p1 : Addr → Bool := fun b => decide (b ≠ a ∧ b ≠ D1)
  have p1_ok : ∀ b, p1 b = true ↔ (b ≠ a ∧ b ≠ D1) := fun b => decide_eq_true_iff
  have hRows : ∀ i v, ([x0, x1] : List V)[i]? = some v → i < 2 ∧ RowsAt (vw (pA a) H) v (D.al i) := by
    intro i v hv
    match i, hv with
    | 0, hv => cases hv; exact ⟨by decide, hx0⟩
    | 1, hv => cases hv; exact ⟨by decide, hx1⟩
  refine list_turns (xs := [x0, x1]) (fun i H' => But a H H' ∧ WellAt H' a (n + 21 * (i : Int)) ∧ ∃ ys rs, H' D1 = some (.lst ys) ∧ A2 (RowAt (vw p1 H')) ys rs ∧ rs.length = i ∧ ∀ k rr, rs[k]? = some rr → rr.length = (D.al k).length ∧ ∀ j, j < rr.length → rr.getD j 0 ∈ (D.al k).getD j []) ⟨.same s1, ?_, [], [], upd_same, .nil, rfl, fun k rr e => by simp at e⟩ (fun i H' _ h => SqL.of (h.1 _ _ naa htt)) ?_ ?_
  · rw [show n + 21 * ((0 : Nat) : Int) = n by omega]
    exact hw.same s1
  · rintro i v H' hv ⟨b1, w1, ys, rs, hy, ay, hrl, hrr⟩
    obtain ⟨hi, t2, us0, rfl, ht2, hrow⟩ := hRows i v hv
    obtain ⟨nt2, ht2'⟩ := vw_some ht2
    have nt2 := pA_ok.mp nt2
    have hln := hW.n0 i hi
    have hul : us0.length = (D.al i).length := hrow.len
    refine ⟨rfl, _, rfl, t2, rfl, ⟨_, SqL.of (b1 _ _ nt2 ht2')⟩, fun D2 hD2 => ?_⟩
    have s2 := same_new hD2 (.lst [])
    have haD2 : a ≠ D2 := w1.ne hD2
    have hD12 : D1 ≠ D2 := ne_of_none hy hD2
    refine list_turns (xs := us0) (fun j H6 => But a H' H6 ∧ WellAt H6 a (n + 21 * (i : Int) + (j : Int)) ∧ ∃ rr : List Int, H6 D2 = some (.lst (rr.map V.int)) ∧ rr.length = j ∧ ∀ k, k < rr.length → rr.getD k 0 ∈ (D.al i).getD k []) ⟨.same s2, ?_, [], upd_same, rfl, fun r hr => nomatch hr⟩ (fun j H6 _ h => SqL.of (h.1 _ _ nt2 (b1 _ _ nt2 ht2'))) ?_ ?_
    · rw [show n + 21 * (i : Int) + ((0 : Nat) : Int) = n + 21 * (i : Int) by omega]
      exact w1.same s2
    · rintro j x H6 hx ⟨b6, w6, rr, hu6, hrl6, hin⟩
      obtain ⟨row, hrw, t3, rfl, ht3⟩ := hrow.get hx
      obtain ⟨nt3, ht3'⟩ := vw_some ht3
      have nt3 := pA_ok.mp nt3
      have ht36 := b6 _ _ nt3 (b1 _ _ nt3 ht3')
      have okr := hW.row i hi row (List.mem_of_getElem? hrw)
      have hjl : j < (D.al i).length := (List.getElem?_eq_some_iff.mp hrw).1
      have l1 := okr.1
      have l2 := okr.2.1
      refine ⟨rfl, _, rfl, _, rfl, _, rfl, t3, _, rfl, .inl (SqL.of ht36), ?_⟩
      rw [List.length_map]
      refine ⟨a, n + 21 * (i : Int) + (j : Int), (row.length : Int), rfl, .inr w6, by omega, by omega, by omega, by omega, fun r H7 r0 r1 b7 w7 => ?_⟩
      obtain ⟨m, rfl⟩ : ∃ m : Nat, r = (m : Int) := ⟨r.toNat, by omega⟩
      have hrn : m < row.length := by omega
      have gr : atI (row.map V.int) (m : Int) = some (.int row[m]) := atI_nat (by rw [List.getElem?_map, List.getElem?_eq_getElem hrn] <;> rfl)
      have hD27 := b7 _ _ (Ne.symm haD2) hu6
      refine ⟨t3, _, _, _, rfl, rfl, SqL.of (b7 _ _ nt3 ht36), gr, _, hD27, ?_, (b6.trans b7).new hD2, ?_, rr ++ [row[m]], ?_, by rw [List.length_append, hrl6]; rfl, fun k hk => ?_⟩
      · rw [List.length_map, hrl6]
        exact Nat.lt_of_lt_of_le (show j < 100 by omega) (by decide)
      · rw [show n + 21 * (i : Int) + ((j + 1 : Nat) : Int) = n + 21 * (i : Int) + (j : Int) + 1 by omega]
        exact w7.but haD2 But.at
      · rw [upd_same, List.map_append]
        rfl
      · rw [List.length_append] at hk
        by_cases c : k < rr.length
        · rw [getD_left c]
          exact hin k c
        · have e1 : ([row[m]] : List Int).length = 1 := rfl
          obtain rfl : k = rr.length := by omega
          rw [getD_mid, hrl6, getD_some hrw]
          exact List.getElem_mem hrn
    · rintro H6 ⟨b6, w6, rr, hu6, hrl6, hin⟩
      have hy6 := b6 _ _ (Ne.symm haD1) hy
      refine ⟨ys, hy6, ?_, (b1.trans b6).new hD1, ?_, _, rs ++ [rr], upd_same, ?_, by rw [List.length_append, hrl]; rfl, fun k' rr' e => ?_⟩
      · rw [ay.len, hrl]
        exact Nat.lt_of_lt_of_le hi (by decide)
      · refine WellAt.up (n := n + 21 * (i : Int) + (us0.length : Int)) (w6.but haD1 But.at) ?_
        rw [hul]
        omega
      · refine A2.snoc (ay.imp fun _ _ r => r.mono (vw_mono fun b o h f e => ⟨h, ?_⟩)) ⟨D2, rfl, vw_put ((p1_ok D2).mpr ⟨Ne.symm haD2, Ne.symm hD12⟩) (by rw [upd_ne (Ne.symm hD12)]; exact hu6)⟩
        obtain ⟨z1, z2⟩ := (p1_ok b).mp h
        rw [upd_ne z2]
        exact b6 _ _ z1 e
      · by_cases c : k' < rs.length
        · rw [List.getElem?_append_left c] at e
          exact hrr k' rr' e
        · have c2 : k' = rs.length := by
            have := (List.getElem?_eq_some_iff.mp e).1
            rw [List.length_append] at this
            have e1 : ([rr] : List (List Int)).length = 1 := rfl
            omega
          subst c2
          rw [List.getElem?_append_right (Nat.le_refl _), Nat.sub_self] at e
          obtain rfl : rr = rr' := by simpa using e
          rw [hrl]
          exact ⟨by rw [hrl6, hul], hin⟩
  · rintro H5 ⟨b5, w5, ys, rs, hy, ay, hrl, hrr⟩
    replace hrl : rs.length = 2 := hrl
    let ch : Nat → List Int := fun h => rs.getD h []
    have hrs : rs = [ch 0, ch 1] := two_ints hrl
    rw [hrs] at ay
    have hch : ∀ h, h < 2 → (ch h).length = (D.al h).length ∧ ∀ j, j < (ch h).length → (ch h).getD j 0 ∈ (D.al h).getD j [] := fun h hh => by
      refine hrr h (ch h) ?_
      show rs[h]? = some (rs.getD h [])
      rw [List.getD_eq_getElem?_getD, List.getElem?_eq_getElem (show h < rs.length by omega)]
      rfl
    clear hrr
    have w5 : WellAt H5 a (n + 42) := w5.up (by show n + 21 * ((2 : Nat) : Int) ≤ n + 42; omega)
    intro d0 hd0
    have t0 := same_new hd0 (.dT [])
    intro d1 hd1
    have t1 := same_new hd1 (.dT [])
    have e0 : (upd (upd H5 d0 (.dT [])) d1 (.dT [])) d0 = some (.dT []) := t1 _ _ upd_same
    have e1 : (upd (upd H5 d0 (.dT [])) d1 (.dT [])) d1 = some (.dT []) := upd_same
    have n01 : d0 ≠ d1 := ne_of_none (upd_same : (upd H5 d0 (.dT [])) d0 = some (.dT [])) hd1
    have t01 := t0.trans t1
    generalize upd (upd H5 d0 (.dT [])) d1 (.dT []) = H6 at t1 t01 e0 e1 ⊢
    refine ⟨(by show 2 ≤ sizeLine; decide), fun L hL => ?_⟩
    have t2 := same_new hL (.lst [V.ref d0, V.ref d1])
    have eL : (upd H6 L (.lst [V.ref d0, V.ref d1])) L = some (.lst [V.ref d0, V.ref d1]) := upd_same
    have e0 := t2 _ _ e0
    have e1 := t2 _ _ e1
    have t57 := t01.trans t2
    generalize upd H6 L (.lst [V.ref d0, V.ref d1]) = H7 at t2 t57 eL e0 e1 ⊢
    have hd1' : H5 d1 = none := none_of_same t0 hd1
    have had0 : a ≠ d0 := w5.ne hd0
    have had1 : a ≠ d1 := w5.ne hd1'
    have hn0' : H d0 = none := none_of_but b5 (Ne.symm had0) hd0
    have hn1' : H d1 = none := none_of_but b5 (Ne.symm had1) hd1'
    let S : Addr → Prop := fun b => b = a ∨ b = d0 ∨ b = d1
    let dd : Nat → Addr := fun g => if g = 0 then d0 else d1
    have hS : ∀ g, g < 2 → S (dd g) := fun g hg => by
      obtain rfl | rfl : g = 0 ∨ g = 1 := by omega
      · exact .inr (.inl rfl)
      · exact .inr (.inr rfl)
    have hdn : ∀ g, g < 2 → H (dd g) = none := fun g hg => by
      obtain rfl | rfl : g = 0 ∨ g = 1 := by omega
      · exact hn0'
      · exact hn1'
    have hat : ∀ g, g < 2 → ([V.ref d0, V.ref d1] : List V)[g]? = some (V.ref (dd g)) := fun g hg => by
      obtain rfl | rfl : g = 0 ∨ g = 1 := by omega
      · rfl
      · rfl
    have hdd : ∀ g i, g < 2 → i < 2 → g ≠ i → dd g ≠ dd i := fun g i hg hi c => by
      obtain rfl | rfl : g = 0 ∨ g = 1 := by omega
      · obtain rfl : i = 1 := by omega
        exact n01
      · obtain rfl : i = 0 := by omega
        exact Ne.symm n01
    have had : ∀ g, g < 2 → a ≠ dd g := fun g hg => by
      obtain rfl | rfl : g = 0 ∨ g = 1 := by omega
      · exact had0
      · exact had1
    have nSL : ¬ S L := by
      rintro (c | c | c)
      · exact (w5.same t01).ne hL c.symm
      · subst c; rw [eL] at e0; cases e0
      · subst c; rw [eL] at e1; cases e1
    have b7 : But a H H7 := b5.trans (.same t57)
    have toBut : ∀ H', ButS S H7 H' → But a H H' := fun H' s b o nb e => s b o (by
      rintro (c | c | c)
      · exact nb c
      · subst c; rw [hn0'] at e; cases e
      · subst c; rw [hn1'] at e; cases e) (b7 _ _ nb e)
    let Iv : Nat → Nat → Hp → Prop := fun i j H' => ButS S H7 H' ∧ WellAt H' a (n + 42 + 60 * (i : Int) + (j : Int)) ∧ ∃ an : Nat → IP × List (Int × Int) → Int, (∀ g e, 0 ≤ an g e ∧ an g e < 3) ∧ ∀ g, g < 2 → H' (dd g) = some (.dT (anKV an g (D.bo.take (mm D.bo.length i j g))))
    refine ⟨2, rfl, by decide, by decide, for_range (n := 2) (fun i σ H' => ∃ g4 g5, σ = [some (.ref a), some (.ref p), some (.ref D1), some (.ref L), g4, g5, none, none] ∧ Iv i 0 H') ⟨_, _, rfl, fun b o _ e => e, ?_, fun _ _ => 0, fun g e => (by decide : (0 : Int) ≤ 0 ∧ (0 : Int) < 3), fun g hg => ?_⟩ ?_ ?_⟩
    · exact (w5.same t57).up (by omega)
    · have : mm D.bo.length 0 0 g = 0 := by
        unfold mm
        rw [if_neg (Nat.not_lt_zero _)]
        split <;> rfl
      rw [this]
      obtain rfl | rfl : g = 0 ∨ g = 1 := by omega
      · exact e0
      · exact e1
    · rintro i σ H' hi ⟨g4, g5, rfl, s7, w7, an, ha, hdd'⟩
      have ej : (0 : Int) + (i : Int) = (i : Int) := by omega
      rw [ej]
      have hV' := hV.but ea (toBut H' s7)
      obtain ⟨dx', aa', kvs', hp', _, _, _⟩ := id hV'
      refine ⟨_, rfl, p, dx', _, rfl, hp', flds_no _ _ (by decide +kernel) (by decide +kernel), p, D, rfl, hV'.task, hW, fun r xs hr0 hx => ?_⟩
      have s8 := same_new hr0 (.lst xs)
      have hr1 : (upd H' r (.lst xs)) r = some (.lst xs) := upd_same
      have hxl : xs.length = D.bo.length := by rw [hx.len, List.length_map]
      have hTup : ∀ b zs, H' b = some (.tup zs) → ¬ S b := fun b zs e => by
        rintro (c | c | c)
        · rw [c] at e; obtain ⟨z, ez⟩ := w7.lst; rw [ez] at e; cases e
        · rw [c] at e; rw [show H' d0 = some _ from hdd' 0 (by decide)] at e; cases e
        · rw [c] at e; rw [show H' d1 = some _ from hdd' 1 (by decide)] at e; cases e
      have nSr : ¬ S r := by
        rintro (c | c | c)
        · exact w7.ne hr0 c.symm
        · rw [c] at hr0; rw [show H' d0 = some _ from hdd' 0 (by decide)] at hr0; cases hr0
        · rw [c] at hr0; rw [show H' d1 = some _ from hdd' 1 (by decide)] at hr0; cases hr0
      refine ⟨r, rfl, ⟨_, SqL.of hr1⟩, for_list (xs := xs) (fun j σ H6 => ∃ g5, σ = [some (.ref a), some (.ref p), some (.ref D1), some (.ref L), some (.int (i : Int)), g5, none, none] ∧ ButS S (upd H' r (.lst xs)) H6 ∧ Iv i j H6) ⟨_, rfl, fun b o _ e => e, fun b o nb e => s8 _ _ (s7 b o nb e), w7.same s8, an, ha, fun g hg => s8 _ _ (hdd' g hg)⟩ (fun j σ H6 _ ⟨_, _, s6, _⟩ => SqL.of (s6 _ _ nSr hr1)) ?_ ?_⟩
      · clear ha hdd' an
        rintro j x σ H6 hxi ⟨g5, rfl, s6, s76, w6, an, ha, hdd'⟩
        obtain ⟨y, hy2, tt, rfl, htt2⟩ := hx.get hxi
        rw [List.getElem?_map] at hy2
        obtain ⟨e, hbe, rfl⟩ := Option.map_eq_some_iff.mp hy2
        have hj : j < D.bo.length := (List.getElem?_eq_some_iff.mp hbe).1
        have hmny := hW.many
        refine ⟨_, rfl, a, _, 3, rfl, .inr w6, by omega, by omega, by decide, by decide, fun rd H8 rd0 rd1 b8 w8 => ?_⟩
        have hL8 : H8 L = some (.lst [V.ref d0, V.ref d1]) := b8 _ _ (fun c => nSL (.inl c)) (s76 _ _ nSL eL)
        have htt8 : H8 tt = some (.tup ((kI e.1).map kV)) := b8 _ _ (fun c => hTup _ _ htt2 (.inl c)) (s6 _ _ (hTup _ _ htt2) (s8 _ _ htt2))
        have hk6 := hdd' i hi
        have emm : mm D.bo.length i j i = j := by
          unfold mm
          rw [if_neg (Nat.lt_irrefl _), if_pos rfl]
        rw [emm] at hk6
        have hk8 := b8 _ _ (Ne.symm (had i hi)) hk6
        have hvn : valV (anKV an i (D.bo.take j)) (kI e.1) = none := valV_noneP fun z hz c => by
          obtain ⟨z', hz', rfl⟩ := List.mem_map.mp hz
          exact take_ne hW.srt hbe z' hz' (kI_inj c)
        have hsz : (anKV an i (D.bo.take j)).length ≤ 60 := by
          unfold anKV
          rw [List.length_map, List.length_take]
          omega
        refine ⟨_, rfl, _, rfl, L, _, _, _, rfl, rfl, SqL.of hL8, atI_nat (hat i hi), _, rfl, dd i, _, rfl, DPut.t (k := kI e.1) hk8 htt8 (Nat.lt_of_le_of_lt hsz (by decide)), ?_⟩
        rw [putK_new _ hvn]
        have s9 : ButS S H6 (upd H8 (dd i) (.dT (anKV an i (D.bo.take j) ++ [(kI e.1, V.int rd)]))) := fun b o nb eb => by
          rw [upd_ne (fun c => nb (by rw [c]; exact hS i hi))]
          exact b8 _ _ (fun c => nb (.inl c)) eb
        refine ⟨_, rfl, s6.trans s9, s76.trans s9, ?_, updA an i e rd, fun g x => ?_, fun g hg => ?_⟩
        · rw [show n + 42 + 60 * (i : Int) + ((j + 1 : Nat) : Int) = n + 42 + 60 * (i : Int) + (j : Int) + 1 by omega]
          exact w8.but (had i hi) But.at
        · unfold updA
          split
          · exact ⟨rd0, rd1⟩
          · exact ha g x
        · by_cases c : g = i
          · subst c
            have emm' : mm D.bo.length g (j + 1) g = j + 1 := by
              unfold mm
              rw [if_neg (Nat.lt_irrefl _), if_pos rfl]
            rw [upd_same, emm', take_get hbe]
            have e1 : anKV (updA an g e rd) g (D.bo.take j ++ [e]) = anKV (updA an g e rd) g (D.bo.take j) ++ [(kI e.1, V.int (updA an g e rd g e))] := List.map_append
            rw [e1, anKV_upd_not (fun z hz c => take_ne hW.srt hbe z hz (by rw [c]))]
            have e2 : updA an g e rd g e = rd := if_pos ⟨rfl, rfl⟩
            rw [e2]
          · rw [upd_ne (hdd g i hg hi c), anKV_upd_ne c]
            have emm' : mm D.bo.length i (j + 1) g = mm D.bo.length i j g := by
              unfold mm
              rw [if_neg c, if_neg c]
            rw [emm']
            exact b8 _ _ (Ne.symm (had g hg)) (hdd' g hg)
      · clear ha hdd' an
        rintro σ H6 ⟨g5, rfl, s6, s76, w6, an, ha, hdd'⟩
        have hmny := hW.many
        refine ⟨_, _, rfl, s76, w6.up (by rw [hxl]; omega), an, ha, fun g hg => ?_⟩
        have h1 := hdd' g hg
        have emm' : mm D.bo.length i xs.length g = mm D.bo.length (i + 1) 0 g := by
          unfold mm
          rw [hxl]
          by_cases c : g < i
          · rw [if_pos c, if_pos (show g < i + 1 by omega)]
          · rw [if_neg c]
            by_cases c2 : g = i
            · rw [if_pos c2, if_pos (show g < i + 1 by omega)]
            · rw [if_neg c2, if_neg (show ¬ g < i + 1 by omega)]
              split <;> rfl
        rw [emm'] at h1
        exact h1
    · rintro σ H' ⟨g4, g5, rfl, s7, w7, an, ha, hdd'⟩
      refine ⟨_, rfl, _, rfl, (by show 2 ≤ sizeLine; decide), fun r hr => ?_⟩
      have s9 := same_new hr (.tup [V.ref D1, V.ref L])
      have hfull : ∀ g, g < 2 → (upd H' r (.tup [V.ref D1, V.ref L])) (dd g) = some (.dT (anKV an g D.bo)) := fun g hg => by
        have h1 := s9 _ _ (hdd' g hg)
        have : mm D.bo.length 2 0 g = D.bo.length := if_pos hg
        rw [this, List.take_length] at h1
        exact h1
      have bF := (toBut H' s7).trans (.same s9)
      have hVF := hV.but ea bF
      have mv : ∀ b o, b ≠ a → H5 b = some o → (upd H' r (.tup [V.ref D1, V.ref L])) b = some o := fun b o nb e => s9 _ _ (s7 _ _ (by
        rintro (c | c | c)
        · exact nb c
        · subst c; rw [hd0] at e; cases e
        · subst c; rw [hd1'] at e; cases e) (t57 _ _ e))
      have hdn0 : ∀ g, g < 2 → d ≠ dd g := fun g hg c => by
        subst c
        rw [hdn g hg] at hd
        cases hd
      refine q r D1 L d0 d1 ch an _ bF hVF.task ⟨upd_same, ⟨D1, ys, rfl, mv _ _ (Ne.symm haD1) hy, ay.imp fun _ _ r => r.mono ?g1⟩, s9 _ _ (s7 _ _ nSL eL), hfull 0 (by decide), hfull 1 (by decide), hVF.x (hdn0 0 (by decide)), hVF.x (hdn0 1 (by decide)), fun h hh => (hch h hh).1, ?g2, ?g3⟩ ?g4
      case g1 =>
        intro b o f e
        obtain ⟨z1, z2⟩ := vw_some e
        exact mv _ _ ((p1_ok b).mp z1).1 z2
      case g2 =>
        intro h hh x hx
        obtain ⟨k, hk⟩ := List.getElem?_of_mem hx
        have hkl := (List.getElem?_eq_some_iff.mp hk).1
        have h1 := (hch h hh).2 k hkl
        have hkr : k < (D.al h).length := by rw [← (hch h hh).1]; exact hkl
        rw [getD_some hk, getD_some (List.getElem?_eq_getElem hkr)] at h1
        exact (hW.row h hh _ (List.getElem_mem hkr)).2.2.2 x h1
      case g3 =>
        intro h hh e he
        obtain ⟨z1, z2⟩ := ha h e
        exact ⟨z1, by omega⟩
      case g4 =>
        intro h k hh hk
        exact (hch h hh).2 k (by rw [(hch h hh).1]; exact hk)
end
end TA

set_option Elab.async false
set_option maxRecDepth 100000
set_option maxHeartbeats 4000000
namespace TA
open PySem L2 PyProof.Rows
set_option linter.unusedVariables false
theorem no_win' : ((allW 6).all fun ws => decide (win ws = none → ws.count 0 ≠ 3 ∧ ws.count 1 ≠ 3)) = true := by decide +kernel
theorem no_win {ws : List Int} (h : ws ∈ allW 6) (e : win ws = none) : ws.count 0 ≠ 3 ∧ ws.count 1 ≠ 3 := of_decide_eq_true (List.all_eq_true.mp no_win' ws h) e
theorem tell_none {α : Type} {t a : Nat → α} {ws : List Int} (h : ws ∈ allW 6) (e : win ws = none) : tellG t a ws 0 = none ∧ tellG t a ws 1 = none := by
  obtain ⟨h0, h1⟩ := no_win h e
  unfold tellG
  rw [e]
  exact ⟨by rw [if_neg (by simp), if_neg (show ¬ ws.count ((0 : Nat) : Int) = 3 from h0)], by rw [if_neg (by simp), if_neg (show ¬ ws.count ((1 : Nat) : Int) = 3 from h1)]⟩
theorem tell_win {α : Type} {t a : Nat → α} {ws : List Int} {h : Nat} (e : win ws = some h) : tellG t a ws h = some (t h) := if_pos e
theorem tell_lost {α : Type} {t a : Nat → α} {ws : List Int} {h k : Nat} (e : win ws = some h) (n : h ≠ k) : tellG t a ws k = none ∨ tellG t a ws k = some (a k) := by
  unfold tellG
  rw [e, if_neg (fun c => n (by injection c))]
  split
  · exact .inr rfl
  · exact .inl rfl
theorem wit (h : Nat) (hh : h < 2) : ∃ ws, ws ∈ allW 6 ∧ wbB ws = true ∧ win ws = some (1 - h) ∧ ws.count ((h : Nat) : Int) = 3 := by
  obtain rfl | rfl : h = 0 ∨ h = 1 := by omega
  · exact ⟨[1, 1, 0, 0, 0], by decide +kernel, by decide +kernel, by decide +kernel, by decide +kernel⟩
  · exact ⟨[0, 0, 1, 1, 1], by decide +kernel, by decide +kernel, by decide +kernel, by decide +kernel⟩
abbrev tOf (ch : Nat → List Int) (e : IP × List (Int × Int)) : Nat → Int := fun h => chO ch h e.1
abbrev aOf (an : Nat → IP × List (Int × Int) → Int) (e : IP × List (Int × Int)) : Nat → Int := fun h => an h e
/-- one pair, one weaving -/
def cellB (T : TD) (ch : Nat → List Int) (an : Nat → IP × List (Int × Int) → Int) (e : IP × List (Int × Int)) (ws : List Int) : Bool :=
  if wbB ws = true then goodB T e (tellG (tOf ch e) (aOf an e) ws 0) (tellG (tOf ch e) (aOf an e) ws 1) (win ws) else true
def rowLB (T : TD) (ch : Nat → List Int) (an : Nat → IP × List (Int × Int) → Int) (e : IP × List (Int × Int)) : Bool := (allW 6).all (cellB T ch an e)
def letBx (T : TD) (ch : Nat → List Int) (an : Nat → IP × List (Int × Int) → Int) : Bool := T.bo.all (rowLB T ch an)
theorem won_ch (ch : Nat → List Int) (p : IP) : wonO ch 0 p = chO ch 1 p ∧ wonO ch 1 p = chO ch 0 p := ⟨rfl, rfl⟩
theorem cell_ok {T : TD} {ch : Nat → List Int} {an : Nat → IP × List (Int × Int) → Int} {e : IP × List (Int × Int)} (ha : ∀ h, h < 2 → okA T ch h (sel h e.1)) (hs : ∀ h, h < 2 → okAns ch an h e) {ws : List Int} (hw : ws ∈ allW 6) : cellB T ch an e ws = true := by
  unfold cellB
  split
  case isFalse => rfl
  rename_i c
  cases ew : win ws with
  | none =>
    obtain ⟨h0, h1⟩ := tell_none (t := tOf ch e) (a := aOf an e) hw ew
    rw [h0, h1]
    rfl
  | some h =>
    have hh := win_lt ew
    have a := ha h hh
    obtain rfl | rfl : h = 0 ∨ h = 1 := by omega
    · rw [tell_win ew]
      rcases tell_lost (t := tOf ch e) (a := aOf an e) ew (show 0 ≠ 1 by decide) with h1 | h1
      · rw [h1]
        exact decide_eq_true a
      · rw [h1]
        exact decide_eq_true (show (chO ch 0 e.1, an 1 e) ∈ e.2 from hs 1 (by decide))
    · rw [tell_win ew]
      rcases tell_lost (t := tOf ch e) (a := aOf an e) ew (show 1 ≠ 0 by decide) with h1 | h1
      · rw [h1]
        exact decide_eq_true a
      · rw [h1]
        exact decide_eq_true (show (an 0 e, chO ch 1 e.1) ∈ e.2 from hs 0 (by decide))
theorem cell_of {T : TD} {ch : Nat → List Int} {an : Nat → IP × List (Int × Int) → Int} {e : IP × List (Int × Int)} (q : rowLB T ch an e = true) {h : Nat} (hh : h < 2) : okAns ch an h e := by
  obtain ⟨ws, h1, h2, h3, h4⟩ := wit h hh
  have c := List.all_eq_true.mp q ws h1
  unfold cellB at c
  rw [if_pos h2] at c
  obtain rfl | rfl : h = 0 ∨ h = 1 := by omega
  · have e1 : tellG (tOf ch e) (aOf an e) ws 1 = some (chO ch 1 e.1) := tell_win h3
    have e0 : tellG (tOf ch e) (aOf an e) ws 0 = some (an 0 e) := by
      unfold tellG
      rw [h3, if_neg (by simp), if_pos h4]
    rw [e0, e1] at c
    have c : decide ((an 0 e, chO ch 1 e.1) ∈ e.2) = true := c
    have c := of_decide_eq_true c
    exact c
  · have e1 : tellG (tOf ch e) (aOf an e) ws 0 = some (chO ch 0 e.1) := tell_win h3
    have e0 : tellG (tOf ch e) (aOf an e) ws 1 = some (an 1 e) := by
      unfold tellG
      rw [h3, if_neg (by simp), if_pos h4]
    rw [e0, e1] at c
    have c : decide ((chO ch 0 e.1, an 1 e) ∈ e.2) = true := c
    have c := of_decide_eq_true c
    exact c
theorem letBx_iff {T : TD} (W : WF T) {ch : Nat → List Int} {an : Nat → IP × List (Int × Int) → Int} (ha : ∀ h k, h < 2 → k < (T.al h).length → okA T ch h k) : letBx T ch an = true ↔ ∀ h, h < 2 → ∀ e ∈ T.bo, okAns ch an h e := by
  constructor
  · intro q h hh e he
    exact cell_of (List.all_eq_true.mp q e he) hh
  · intro q
    refine List.all_eq_true.mpr fun e he => List.all_eq_true.mpr fun ws hws => cell_ok (fun h hh => ha h _ hh ?_) (fun h hh => q h hh e he) hws
    obtain ⟨r0, r1⟩ := W.rng e he
    obtain rfl | rfl : h = 0 ∨ h = 1 := by omega
    · exact r0
    · exact r1
/-! what was told, as data -/
def oID : Option Int → PyData
  | none => .none
  | some i => .int i
theorem oI_dp {K : PySem.W.Frag} {H : Hp} (o : Option Int) : Dp K H (oI o) (oID o) := by
  cases o with
  | none => exact .non
  | some i => exact .int i
theorem tup_oI {K : PySem.W.Frag} {H : Hp} {r : Addr} {f0 f1 : Option Int} (h : H r = some (.tup [oI f0, oI f1])) : Dp K H (.ref r) (.tuple [oID f0, oID f1]) := .tup (SqT.of h) (.cons (oI_dp f0) (.cons (oI_dp f1) .nil))
theorem ok_oID (o : Option Int) : Ok 1 (oID o) := by
  cases o with
  | none => exact ok_non
  | some i => exact ok_int i
theorem ok_tup_oID (f0 f1 : Option Int) : Ok 2 (.tuple [oID f0, oID f1]) := ok_tuple fun d hd => by
  rcases List.mem_cons.mp hd with rfl | hd
  · exact ok_oID _
  · obtain rfl := List.mem_singleton.mp hd
    exact ok_oID _
theorem flds_inj {a d a' d' : Addr} (h : flds a d = flds a' d') : d = d' := by
  have h1 := flds_both a d
  rw [h, flds_both] at h1
  injection h1 with h1
  injection h1 with h1
  exact h1.symm
theorem BxF.lock {C : Addr} {H : Hp} {p t : Addr} {T : TD} {ch an al ans d0 d1} {d dx aa : Addr} {kvs} {od : Obj} (b : BxF C H p t T ch an al ans d0 d1) (hp : H p = some (.ins C dx (flds aa d))) (hd : H d = some (.dT kvs)) (ha : A2 (EnAt H) kvs T.bo) (hA : AlAt H (.ref aa) T.al) : BxF C (upd H d (.frz od (.dT kvs))) p t T ch an al ans d0 d1 := by
  have kp : Kp H (upd H d (.frz od (.dT kvs))) := Kp.put hd nf_dT
  have hx : ∀ dd, TaskX C H p T dd → d ≠ dd ∧ TaskX C (upd H d (.frz od (.dT kvs))) p T dd := fun dd x => by
    obtain ⟨dx', a', d', h1, h2, h3, h4⟩ := x
    rw [hp] at h1
    injection h1 with h1
    injection h1 with _ _ h1
    have := flds_inj h1
    subst this
    refine ⟨h4, dx, aa, d, ?_, hA.mono kp, ⟨kvs, .inr ⟨od, upd_same⟩, ha.imp fun _ _ r => r.mono kp⟩, h4⟩
    rw [upd_ne (ne_of hp hd (fun z => by cases z))]
    exact hp
  obtain ⟨n0, x0⟩ := hx d0 b.x0
  obtain ⟨n1, x1⟩ := hx d1 b.x1
  exact ⟨kp.tup b.ht, b.hal.mono kp, kp.lst b.hans, by rw [upd_ne (Ne.symm n0)]; exact b.h0, by rw [upd_ne (Ne.symm n1)]; exact b.h1, x0, x1, b.len, b.outc, b.outa⟩
/-- a for over the keys of a locked dict -/
theorem forT_turns {d : Addr} {o : Obj} {kvs : List (List Key × V)} {g : TG} {tb : TS} {D : Ends} {σ0 : L2.St} {H0 : Hp} (Pv : Nat → L2.St → Hp → Prop) (start : Pv 0 σ0 H0) (still : ∀ i σ H, Pv i σ H → H d = some (.frz o (.dT kvs)))
    (turn : ∀ i k v q σ H, kvs[i]? = some (k, v) → H q = some (.tup (k.map kV)) → Pv i σ H → g (.ref q) σ H fun σ2 H2 => tb { D with nx := Pv (i + 1), ct := Pv (i + 1), bk := D.nx } σ2 H2) (last : ∀ σ H, Pv kvs.length σ H → D.nx σ H) :
    ∃ W : Nat → Nat → L2.St → Hp → Prop, (∃ m, W 0 m σ0 H0) ∧ ∀ i m σ H, W i m σ H →
      ((Itkt d o kvs).stop i H ∧ D.nx σ H) ∨ ((Itkt d o kvs).go i H ∧ ∃ N : L2.St → Hp → Prop, (∀ σ' H', N σ' H' → ∃ m', m' < m ∧ W (i + 1) m' σ' H') ∧ ∀ x H', (Itkt d o kvs).yld i H x H' → g x σ H' fun σ2 H2 => tb { D with nx := N, ct := N, bk := D.nx } σ2 H2) := by
  refine ⟨fun i m σ H => i + m = kvs.length ∧ Pv i σ H, ⟨kvs.length, by omega, start⟩, fun i m σ H h => ?_⟩
  obtain ⟨hm, word⟩ := h
  cases m with
  | zero =>
    have hin : i = kvs.length := by omega
    rw [hin] at word ⊢
    exact Or.inl ⟨⟨still _ _ _ word, Nat.le_refl _⟩, last σ H word⟩
  | succ m =>
    refine Or.inr ⟨⟨still _ _ _ word, by omega⟩, Pv (i + 1), fun σ' H' w' => ⟨m, by omega, by omega, w'⟩, fun x H' y => ?_⟩
    obtain ⟨e, k, v, q, e1, e2, e3⟩ := y
    rw [e, e2]
    exact turn i k v q σ H e1 e3 word
theorem eqv_selfD {n : Nat} {d : PyData} (h : Ok n d) (e : n ≤ 64) : PyData.eqv d d = true := SeqAt.eqv_refl d (SeqAt.canLay_of_shaped (h.shaped e))
theorem ok_sw : Ok 2 (.str "weaving") := ⟨by unfold PyData.canLay0; decide +kernel, by simp [PyData.depth]⟩
theorem headD_mem {l : List Int} (h : l ≠ []) : l.headD 0 ∈ l := by
  cases l with
  | nil => exact absurd rfl h
  | cons x r => exact List.mem_cons_self
def spRight (C : Addr) : Sp := fun vs H Q _ => ∃ (p t rws : Addr) (T : TD) (ch : Nat → List Int) (an : Nat → IP × List (Int × Int) → Int) (al ans d0 d1 : Addr) (xs : List V), vs = [.ref p, .ref t, .ref rws] ∧ WF T ∧ TaskAt C H p T ∧ BxF C H p t T ch an al ans d0 d1 ∧ H rws = some (.lst xs) ∧ A2 (RowAt H) xs (allW 6) ∧
  ∀ (r : Addr) (H' : Hp), Same H H' → H' r = some (.tup [.bl true, .bl (letBx T ch an)]) → Q (.ref r) H'
section
variable {P : Program} {w : World} {K : PySem.W.Frag} {mg : Str → Option Value} {base : Heap}
abbrev nRight : List Str := ["_law_task_here", "_law_thing", "_law_rows", "_law_let", "_law_inputs", "_law_weaving", "_law_due", "_law_said_here"]
theorem scRight : FnScope nRight ["_law_task_here", "_law_thing", "_law_rows"] (defScope sRight) := ⟨rfl, rfl, rfl, by decide +kernel, rfl, by decide +kernel, by decide +kernel⟩
theorem ok_right {f g1 g2 g3 C : Addr} {fd d1 d2 d3 : FuncData} (F : Fun K "_law_right" "_law_right" sRight f fd) (Z : TxtC K mg C) (Ow : Def P w K mg base "_law_own" ["_law_told", "_law_answers", "_law_inputs", "_law_weaving"] 1 (spOwn C) g1 d1)
    (Sa : Def P w K mg base "_law_said" ["_law_task_here", "_law_thing", "_law_inputs", "_law_weaving"] 8 (spSaid C) g2 d2) (Go : Def P w K mg base "_law_good" nGood 1 (spGood C) g3 d3) : FnOk P w K mg base CX0 9 f fd ["_law_task_here", "_law_thing", "_law_rows"] (spRight C) := by
  refine F.ok scRight (fun vs H Q E h => ?_) (fun cdv A outer s H vs Q E hr h => ?_)
  · obtain ⟨p, t, rws, D, ch, an, al, ans, e0, e1, xs, rfl, _⟩ := h
    rfl
  obtain ⟨p, t, rws, D, ch, an, al, ans, e0, e1, xs, rfl, hW, hTk, B, hrw, hxs, q⟩ := h
  have nd := scRight.nd
  have hu := hu_of hr
  refine ⟨_, (pss_cons (ps_set (i := 3) nd rfl (Or.inl rfl) pe_bl)
    (pss_cons (ps_lock (ps_for PassesOwn.never (by rfl) (pi_keys (pe_fld (pv 0) rfl)) (pg_name (i := 4) nd rfl (Or.inl rfl))
      (pss_one (ps_for PassesOwn.never (by rfl) (pi_list (pv 2)) (pg_name (i := 5) nd rfl (Or.inl rfl))
      (pss_cons (ps_set (i := 6) nd rfl (Or.inl rfl) (pe_call Ow.G (hr.mono (by decide)) rfl Ow.m Ow.k Ow.b .nil pass0 (pa_cons (pe_ix ix_tup (pv 1) pe_int (fun _ _ => rfl)) (pa_cons (pe_ix ix_tup (pv 1) pe_int (fun _ _ => rfl)) (pa_cons (pv 4) (pa_cons (pv 5) pa_nil))))))
    (pss_cons (ps_set (i := 7) nd rfl (Or.inl rfl) (pe_call Sa.G (hr.mono (by decide)) rfl Sa.m Sa.k Sa.b .nil pass0 (pa_cons (pv 0) (pa_cons (pv 1) (pa_cons (pv 4) (pa_cons (pv 5) pa_nil))))))
    (pss_cons (ps_if (PW.pt (pw_or (PW.pt (pw_and (pt_cmpR op_isN (pv 6) pe_non (nomark _)) (pw_and1 (pt_cmpR (op_neD hr.units) (pv 7) pe_str (nomark _))))) (pw_or1 (PW.pt (pw_and (pt_cmpR op_notN (pv 6) pe_non (nomark _)) (pw_and1 (pt_cmpR (op_neD hr.units) (pv 7) (pe_ix ix_tup (pv 6) pe_int (fun _ _ => rfl)) (nomark _))))))))
      (pss_one (ps_ret (pe_tup (pa_cons pe_bl (pa_cons (pv 3) pa_nil)))))
      pss_nil)
    (pss_one (ps_if (PW.pt (pw_and (pt_cmpR op_notN (pv 6) pe_non (nomark _)) (pw_and1 (pt_not (pt_val (pe_call Go.G (hr.mono (by decide)) rfl Go.m Go.k Go.b .nil pass0 (pa_cons (pv 0) (pa_cons (pv 4) (pa_cons (pe_ix ix_tup (pv 6) pe_int (fun _ _ => rfl)) (pa_cons (pe_ix ix_tup (pv 6) pe_int (fun _ _ => rfl)) pa_nil))))))))))
      (pss_one (ps_set (i := 3) nd rfl (Or.inl rfl) pe_bl))
      pss_nil)))))))))
    (pss_one (ps_ret (pe_tup (pa_cons pe_bl (pa_cons (pv 3) pa_nil))))))), ?_⟩
  obtain ⟨dx, aa, d, hp, hA, kvs, hd, ha⟩ := id hTk
  refine ⟨d, _, hd, trivial, fun od => ?_⟩
  have kp : Kp H (upd H d (.frz od (.dT kvs))) := Kp.put hd nf_dT
  have hlk : (upd H d (.frz od (.dT kvs))) d = some (.frz od (.dT kvs)) := upd_same
  have Bl := B.lock (od := od) hp hd ha hA
  have hrwl := kp.lst hrw
  have hxl := hxs.imp fun _ _ r => r.mono kp
  have hAl := hA.mono kp
  have hal := ha.imp fun _ _ r => EnAt.mono kp r
  have hpl : (upd H d (.frz od (.dT kvs))) p = some (.ins C dx (flds aa d)) := by
    rw [upd_ne (ne_of hp hd (fun z => by cases z))]
    exact hp
  have hRl : TaskR C (upd H d (.frz od (.dT kvs))) p D := ⟨dx, aa, d, hpl, hAl, kvs, .inr ⟨od, upd_same⟩, hal⟩
  have butl : But d H (upd H d (.frz od (.dT kvs))) := But.at
  generalize upd H d (.frz od (.dT kvs)) = Hl at kp hlk Bl hrwl hxl hAl hal hpl hRl butl ⊢
  refine ⟨_, rfl, p, C, dx, _, _, rfl, hpl, Z.cl, Z.nB, flds_both _ _, d, od, rfl, .inr ⟨kvs, hlk, ?_⟩⟩
  refine forT_turns (kvs := kvs) (fun i σ H' => ∃ g4 g5 g6 g7, σ = [some (.ref p), some (.ref t), some (.ref rws), some (.bl ((D.bo.take i).all (rowLB D ch an))), g4, g5, g6, g7] ∧ Same Hl H') ⟨_, _, _, _, rfl, Same.refl _⟩ (fun j σ H' ⟨_, _, _, _, _, s⟩ => s _ _ hlk) ?_ ?_
  · rintro i k v qa σ H' hi hq ⟨g4, g5, g6, g7, rfl, s1⟩
    obtain ⟨e, hbe, ek, _⟩ := hal.get hi
    dsimp only at ek
    subst ek
    have hem := List.mem_of_getElem? hbe
    refine ⟨_, rfl, rws, rfl, ⟨_, SqL.of (s1 _ _ hrwl)⟩, for_list (xs := xs) (fun j σ H' => ∃ g5 g6 g7, σ = [some (.ref p), some (.ref t), some (.ref rws), some (.bl ((D.bo.take i).all (rowLB D ch an) && ((allW 6).take j).all (cellB D ch an e))), some (.ref qa), g5, g6, g7] ∧ Same Hl H' ∧ H' qa = some (.tup ((kI e.1).map kV))) ⟨g5, g6, g7, by rw [List.take_zero, List.all_nil, Bool.and_true] <;> rfl, s1, hq⟩ (fun j σ H' _ ⟨_, _, _, _, s, _⟩ => SqL.of (s _ _ hrwl)) ?_ ?_⟩
    · rintro j x σ H2 hx ⟨g5, g6, g7, rfl, s2, hq2⟩
      obtain ⟨ws, hws, lw, rfl, hlw⟩ := hxl.get hx
      have hwm := List.mem_of_getElem? hws
      obtain ⟨w01, wl⟩ := allW_ok ws hwm
      have B2 := Bl.mono s2
      have htp : ∀ H', Same H2 H' → TpAt H' (.ref qa) (iI e.1) := fun H' s => ⟨qa, rfl, s _ _ hq2⟩
      refine ⟨_, rfl, t, _, _, _, rfl, rfl, SqT.of B2.ht, (by rfl), _, rfl, t, _, _, _, rfl, rfl, SqT.of B2.ht, (by rfl), _, rfl, _, rfl, p, t, D, ch, an, al, ans, e0, e1, qa, lw, ws, e, rfl, hW, B2, hem, htp _ (Same.refl _), s2 _ _ hlw, w01, by omega, ?_, ?_⟩
      · intro c H3 s3
        have hwb : wbB ws = false := by
          have h1 := own_tell (tOf ch e) (aOf an e) hwm
          rw [show ownO (tOf ch e) (aOf an e) ws = none from c] at h1
          cases hb : wbB ws with
          | false => rfl
          | true => rw [hb, if_pos rfl] at h1; cases h1
        have s23 := s2.trans s3
        refine ⟨_, rfl, _, rfl, _, rfl, _, rfl, p, t, D, ch, an, al, ans, e0, e1, qa, lw, ws, e, rfl, hW, B2.mono s3, hem, htp _ s3, s23 _ _ hlw, w01, by omega, fun _ H4 s4 => ?_, fun c => by rw [hwb] at c; cases c⟩
        have s24 := s23.trans s4
        have ecell : cellB D ch an e ws = true := by
          unfold cellB
          rw [hwb]
          rfl
        refine ⟨_, rfl, rfl, _, rfl, iteT ⟨_, rfl, _, _, Dp.str _, Dp.str _, ok_sw.shaped (by decide), ok_sw.shaped (by decide), _, rfl, iteF' (by simp [PyData.eqv]) ⟨_, rfl, rfl, _, rfl, iteF (iteF ?_)⟩⟩⟩
        have enext : ((D.bo.take i).all (rowLB D ch an) && ((allW 6).take (j + 1)).all (cellB D ch an e)) = ((D.bo.take i).all (rowLB D ch an) && ((allW 6).take j).all (cellB D ch an e)) := by
          rw [take_get hws, List.all_append, List.all_cons, List.all_nil, Bool.and_true, ecell, Bool.and_true]
        rw [enext]
        exact ⟨_, rfl, rfl, _, rfl, iteF ⟨some (.ref lw), some .non, some (.str "weaving"), rfl, s24, (s3.trans s4) _ _ hq2⟩⟩
      · intro f0 f1 wn c r u H3 s3 hr3 hu3
        have hb : wbB ws = true ∧ f0 = tellG (tOf ch e) (aOf an e) ws 0 ∧ f1 = tellG (tOf ch e) (aOf an e) ws 1 ∧ wn = win ws := by
          have h1 := own_tell (tOf ch e) (aOf an e) hwm
          rw [show ownO (tOf ch e) (aOf an e) ws = some ((f0, f1), wn) from c] at h1
          cases hb : wbB ws with
          | false => rw [hb, if_neg (by simp)] at h1; cases h1
          | true =>
            rw [hb, if_pos rfl] at h1
            injection h1 with h1
            injection h1 with h1 h2
            injection h1 with h1 h3
            exact ⟨rfl, h1, h3, h2⟩
        obtain ⟨hwb, ef0, ef1, ewn⟩ := hb
        have s23 := s2.trans s3
        refine ⟨_, rfl, _, rfl, _, rfl, _, rfl, p, t, D, ch, an, al, ans, e0, e1, qa, lw, ws, e, rfl, hW, B2.mono s3, hem, htp _ s3, s23 _ _ hlw, w01, by omega, (fun c => by rw [hwb] at c; cases c), fun _ r4 H4 s4 hr4 => ?_⟩
        have s24 := s23.trans s4
        have hr4 : H4 r4 = some (.tup [oI f0, oI f1]) := by
          rw [ef0, ef1]
          exact hr4
        have hu4 := s4 _ _ hu3
        have hr34 := s4 _ _ hr3
        have ecell : cellB D ch an e ws = goodB D e f0 f1 wn := by
          unfold cellB
          rw [hwb, if_pos rfl, ef0, ef1, ewn]
        refine ⟨_, rfl, rfl, _, rfl, iteF (iteF ⟨_, rfl, rfl, _, rfl, iteT ⟨_, rfl, _, rfl, r, _, _, _, rfl, rfl, SqT.of hr34, (by rfl), _, _, tup_oI hr4, tup_oI hu4, (ok_tup_oID f0 f1).shaped (by decide), (ok_tup_oID f0 f1).shaped (by decide), _, rfl, ?_⟩⟩)⟩
        rw [eqv_selfD (ok_tup_oID f0 f1) (by decide)]
        refine iteF ?_
        refine ⟨_, rfl, rfl, _, rfl, iteT ?_⟩
        refine ⟨_, rfl, _, rfl, _, rfl, r, _, _, _, rfl, rfl, SqT.of hr34, (by rfl), _, rfl, r, _, _, _, rfl, rfl, SqT.of hr34, (by rfl), p, qa, u, D, e, f0, f1, wn, rfl, hRl.mono s24, hW, hem, htp _ (s3.trans s4), hu4, fun h hwin => ?_, fun H5 s5 => ⟨_, rfl, ?_⟩⟩
        · rw [ewn] at hwin
          have hh := win_lt hwin
          refine ⟨hh, chO ch h e.1, ?_⟩
          rw [ef0, ef1]
          obtain rfl | rfl : h = 0 ∨ h = 1 := by omega
          · exact tell_win hwin
          · exact tell_win hwin
        · have s25 := s24.trans s5
          have hq5 := (s3.trans s4).trans s5 _ _ hq2
          have enext : ((D.bo.take i).all (rowLB D ch an) && ((allW 6).take (j + 1)).all (cellB D ch an e)) = ((D.bo.take i).all (rowLB D ch an) && ((allW 6).take j).all (cellB D ch an e) && goodB D e f0 f1 wn) := by
            rw [take_get hws, List.all_append, List.all_cons, List.all_nil, Bool.and_true, ecell, Bool.and_assoc]
          cases hg : goodB D e f0 f1 wn with
          | true =>
            rw [hg, Bool.and_true] at enext
            rw [enext]
            exact iteF ⟨some (.ref lw), some (.ref r), some (.ref r4), rfl, s25, hq5⟩
          | false =>
            rw [hg, Bool.and_false] at enext
            rw [enext]
            exact iteT ⟨some (.ref lw), some (.ref r), some (.ref r4), rfl, s25, hq5⟩
    · rintro σ H2 ⟨g5, g6, g7, rfl, s2, hq2⟩
      have enext : ((D.bo.take i).all (rowLB D ch an) && ((allW 6).take xs.length).all (cellB D ch an e)) = (D.bo.take (i + 1)).all (rowLB D ch an) := by
        rw [hxl.len, List.take_length, take_get hbe, List.all_append, List.all_cons, List.all_nil, Bool.and_true]
        rfl
      rw [enext]
      exact ⟨_, _, _, _, rfl, s2⟩
  · rintro σ H2 ⟨g4, g5, g6, g7, rfl, s2⟩
    have sF : Same H (upd H2 d (.dT kvs)) := But.unlock hd (butl.trans (.same s2))
    refine ⟨s2 _ _ hlk, _, rfl, (by show 2 ≤ sizeLine; decide), fun r hr => ?_⟩
    refine q r _ (sF.trans (same_new hr _)) ?_
    rw [upd_same, hal.len, List.take_length]
    rfl
end
end TA

set_option Elab.async false
set_option maxRecDepth 100000
set_option maxHeartbeats 4000000
namespace TA
open PySem L2 PyProof.Rows
set_option linter.unusedVariables false
theorem ans_in {T : TD} (W : WF T) {ch : Nat → List Int} (hl : ∀ h, h < 2 → (ch h).length = (T.al h).length) (hg : ∀ h a, h < 2 → a < (T.al h).length → goodS T h a ((ch h).getD a 0)) {h : Nat} (hh : h < 2) {e : IP × List (Int × Int)} (he : e ∈ T.bo) : okAns ch (ansO ch) h e ∧ okOut (ansO ch h e) := by
  have m : ansO ch h e ∈ ansL ch h e := headD_mem (ansL_ne W hl hg hh e he)
  unfold ansL at m
  obtain ⟨o, ho, e1⟩ := List.mem_map.mp m
  obtain ⟨ho1, ho2⟩ := List.mem_filter.mp ho
  have ho2 := of_decide_eq_true ho2
  have hb := (W.lets e he).2.2.2 o ho1
  refine ⟨?_, ?_⟩
  · unfold okAns
    have : pairO h (ansO ch h e) (wonO ch h e.1) = o := by
      rw [← e1, ← ho2]
      obtain rfl | rfl : h = 0 ∨ h = 1 := by omega
      · rfl
      · rfl
    rw [this]
    exact ho1
  · rw [← e1]
    obtain rfl | rfl : h = 0 ∨ h = 1 := by omega
    · exact hb.1
    · exact hb.2

theorem ch_out {T : TD} (W : WF T) {ch : Nat → List Int} (hl : ∀ h, h < 2 → (ch h).length = (T.al h).length) (ha : ∀ h a, h < 2 → a < (T.al h).length → okA T ch h a) {h : Nat} (hh : h < 2) : ∀ z ∈ ch h, okOut z := fun z hz => by
  obtain ⟨j, hj⟩ := List.getElem?_of_mem hz
  have hj1 := (List.getElem?_eq_some_iff.mp hj).1
  have hlh := hl h hh
  have hg1 := ha h j hh (by omega)
  have hk : j < (T.al h).length := by omega
  unfold okA at hg1
  rw [getD_some hj, getD_some (List.getElem?_eq_getElem hk)] at hg1
  exact (W.row h hh _ (List.getElem_mem hk)).2.2.2 z hg1
def spLaw (K : PySem.W.Frag) : Sp := fun vs H Q _ => ∃ (a : Addr) (ns : List Int), vs = [.ref a] ∧ SqL K H a (ns.map V.int) ∧ ns.length ≤ 63 ∧ ∀ H', Q (.bl true) H'
theorem But.fresh {a : Addr} {H H1 H' : Hp} (s : Same H H1) (n : H a = none) (b : But a H1 H') : Same H H' := fun x o e => b x o (ne_of_none e n) (s _ _ e)
theorem But.fresh' {a : Addr} {H0 H1 H2 H' : Hp} (b : But a H2 H') (s : Same H0 H1) (t : Same H1 H2) (n : H0 a = none) : Same H0 H' := fun x o e => b x o (ne_of_none e n) (t _ _ (s _ _ e))
theorem tt_dp {K : PySem.W.Frag} {H : Hp} {r : Addr} {b c : Bool} (h : H r = some (.tup [.bl b, .bl c])) : Dp K H (.ref r) (.tuple [.bool b, .bool c]) := .tup (SqT.of h) (.cons (.bl b) (.cons (.bl c) .nil))
theorem ok_bl {n : Nat} (b : Bool) : Ok (n + 1) (.bool b) := ⟨by simp [PyData.canLay0], by simp [PyData.depth]⟩
theorem ok_tt (b c : Bool) : Ok 2 (.tuple [.bool b, .bool c]) := ok_tuple fun d hd => by
  rcases List.mem_cons.mp hd with rfl | hd
  · exact ok_bl _
  · obtain rfl := List.mem_singleton.mp hd
    exact ok_bl _
section
variable {P : Program} {w : World} {K : PySem.W.Frag} {mg : Str → Option Value} {base : Heap}
abbrev nLaw : List Str := ["_law_script", "_law_rows", "_law_k", "_law_state", "_law_task_here", "_law_word", "_law_thing", "_law_good_here", "_law_let"]
theorem sc_law : FnScope nLaw ["_law_script"] (defScope sLaw) := ⟨rfl, rfl, rfl, by decide +kernel, rfl, by decide +kernel, by decide +kernel⟩
theorem ok_law {f g1 g2 g3 g4 g5 g6 g7 C : Addr} {fd d1 d2 d3 d4 d5 d6 d7 : FuncData} (F : Fun K "law" "law" sLaw f fd) (T : Txt K mg) (T2 : Txt2 K mg) (We : Def P w K mg base "_law_weavings" [] 1 spWeavs g1 d1) (Ca : Def P w K mg base "_law_cell_at" ["_law_script", "_law_k"] 1 (spCell K) g2 d2)
    (Ta : Def P w K mg base "_law_task" ["_law_state"] 10 (spTask C) g3 d3) (Bx : Def P w K mg base "boxed" ["task"] 5 (spBoxed K C) g4 d4) (Ri : Def P w K mg base "_law_right" ["_law_task_here", "_law_thing", "_law_rows"] 9 (spRight C) g5 d5)
    (Dr_ : Def P w K mg base "_law_drawn" ["_law_state", "_law_task_here"] 2 (spDrawn C) g6 d6) (BF : Def P w K mg base "boxed_fault" ["task", "thing"] 7 (spBoxF K C) g7 d7) : FnOk P w K mg base CX0 11 f fd ["_law_script"] (spLaw K) := by
  refine F.ok sc_law (fun vs H Q E h => ?_) (fun cdv A outer s H vs Q E hr h => ?_)
  · obtain ⟨a, ns, rfl, _⟩ := h
    rfl
  obtain ⟨a, ns, rfl, hS, hlen, q⟩ := h
  have nd := sc_law.nd
  refine ⟨_, (pss_cons (ps_set (i := 1) nd rfl (Or.inl rfl) (pe_call0 We.G (hr.mono (by decide)) rfl We.m We.k We.b .nil pass0))
    (pss_cons (ps_for PassesOwn.never (by rfl) (pi_range1 (by rfl) T.range (pa_cons (pe_callB (call_max2 rfl) (by rfl) T2.max (by decide +kernel) (pa_cons pe_int (pa_cons (pe_callB (call_min2 rfl) (by rfl) T.min (by decide +kernel) (pa_cons pe_int (pa_cons (pe_callB call_len_seq (by rfl) T.len PySem.boot_len (pa_cons (pv 0) pa_nil)) pa_nil))) pa_nil))) pa_nil)) (pg_name (i := 2) nd rfl (Or.inl rfl))
      (pss_cons (ps_set (i := 3) nd rfl (Or.inl rfl) (pe_lst (pa_cons (pe_op op_add (pe_call Ca.G (hr.mono (by decide)) rfl Ca.m Ca.k Ca.b .nil pass0 (pa_cons (pv 0) (pa_cons (pv 2) pa_nil))) (pe_op op_mul pe_int (pv 2))) pa_nil)))
    (pss_cons (ps_set (i := 4) nd rfl (Or.inl rfl) (pe_call Ta.G (hr.mono (by decide)) rfl Ta.m Ta.k Ta.b .nil pass0 (pa_cons (pv 3) pa_nil)))
    (pss_cons (ps_asg (pe_call Bx.G (hr.mono (by decide)) rfl Bx.m Bx.k Bx.b .nil pass0 (pa_cons (pv 4) pa_nil)) (pg_tup (by rfl) (pgs_cons (pg_name (i := 5) nd rfl (Or.inl rfl)) (pgs_cons (pg_name (i := 6) nd rfl (Or.inl rfl)) pgs_nil))))
    (pss_cons (ps_if (PW.pt (pw_and (pt_cmpR op_eq (pv 5) pe_str (nomark _)) (pw_and1 (pt_cmpR (op_neD hr.units) (pe_call Ri.G (hr.mono (by decide)) rfl Ri.m Ri.k Ri.b .nil pass0 (pa_cons (pv 4) (pa_cons (pv 6) (pa_cons (pv 1) pa_nil)))) (pe_tup (pa_cons pe_bl (pa_cons pe_bl pa_nil))) (nomark _)))))
      (pss_one (ps_ret pe_bl))
      pss_nil)
    (pss_read (T := fun Dn σ H7 => ∃ (rws st p d : Addr) (xs : List V) (g2 g5 g6 g7 g8 : Option V) (n : Int) (D : TD) (Hc : Hp), σ = [some (.ref a), some (.ref rws), g2, some (.ref st), some (.ref p), g5, g6, g7, g8] ∧ WellAt H7 st n ∧ 0 ≤ n ∧ n < 110000 ∧ TaskV C st H7 p d D ∧ WF D ∧ H7 rws = some (.lst xs) ∧ A2 (RowAt (vw (pA st) H7)) xs (allW 6) ∧ rws ≠ st ∧       ∀ σ' H', (∃ g1' g2' g3' g4' g5' g6' g7', σ' = [some (.ref a), some (.ref rws), g1', g2', g3', g4', g5', g6', g7']) → But st H7 H' → Dn.nx σ' H') ?rest))))))
    (pss_one (ps_ret pe_bl)))), ?_⟩
  case rest =>
    intro pins s' σ H7 Dn I h
    obtain ⟨rws, st, p, d, xs, g2, g5, g6, g7, g8, n, D, Hc, rfl, w7, hn0, hn1, hV, hW, hrw, hxs, nrs, q7⟩ := h
    refine ⟨_, (pss_cons (ps_set (i := 6) nd rfl (Or.inl rfl) (pe_call Dr_.G (hr.mono (by decide)) rfl Dr_.m Dr_.k Dr_.b .nil pass0 (pa_cons (pv 3) (pa_cons (pv 4) pa_nil))))
    (pss_cons (ps_asg (pe_call Ri.G (hr.mono (by decide)) rfl Ri.m Ri.k Ri.b .nil pass0 (pa_cons (pv 4) (pa_cons (pv 6) (pa_cons (pv 1) pa_nil)))) (pg_tup (by rfl) (pgs_cons (pg_name (i := 7) nd rfl (Or.inl rfl)) (pgs_cons (pg_name (i := 8) nd rfl (Or.inl rfl)) pgs_nil))))
    (pss_one (ps_if (PW.pt (pw_or (pt_not (pt_val (pv 7))) (pw_or1 (pt_cmpR op_ne (pv 8) (pe_cmpR op_isN (pe_call BF.G (hr.mono (by decide)) rfl BF.m BF.k BF.b .nil pass0 (pa_cons (pv 4) (pa_cons (pv 6) pa_nil))) pe_non (nomark _)) (nomark _)))))
      (pss_one (ps_ret pe_bl))
      pss_nil)))), ?_⟩
    refine ⟨_, rfl, _, rfl, st, p, d, n, D, rfl, w7, hn0, hn1, hV, hW, fun t al ans e0 e1 ch an H8 b8 hT8 B8 ha => ?_⟩
    have hrw8 := b8 _ _ nrs hrw
    have hxs8 : A2 (RowAt H8) xs (allW 6) := hxs.imp fun _ _ r => r.mono ((vwA_but b8).trans vw_kp)
    refine ⟨_, rfl, _, rfl, _, rfl, p, t, rws, D, ch, an, al, ans, e0, e1, xs, rfl, hW, hT8, B8, hrw8, hxs8, fun r9 H9 s9 hr9 => ?_⟩
    refine ⟨r9, _, rfl, SqT.of hr9, rfl, _, _, rfl, _, _, rfl, rfl, ?_⟩
    refine ⟨_, rfl, true, rfl, iteF ?_⟩
    refine ⟨_, rfl, _, rfl, _, rfl, p, t, D, ch, an, al, ans, e0, e1, rfl, hW, hT8.mono s9, B8.mono s9, fun fv H10 s10 hres => ⟨rfl, rfl, _, rfl, ?_⟩⟩
    have eL : letBx D ch an = decide (fv = .non) := by
      rcases hres with ⟨rfl, g⟩ | ⟨⟨r, zs, rfl, _⟩, g⟩
      · rw [decide_eq_true rfl]
        exact (letBx_iff hW ha).mpr g.2
      · rw [decide_eq_false (by intro c; cases c)]
        cases hb : letBx D ch an with
        | false => rfl
        | true => exact absurd ⟨ha, (letBx_iff hW ha).mp hb⟩ g
    rw [eL]
    refine iteF' (by simp) ?_
    exact q7 _ _ ⟨_, _, _, _, _, _, _, rfl⟩ (b8.trans (.same (s9.trans s10)))
  refine ⟨rfl, fun rws xs H1 s1 hrw hxs => ?_⟩
  refine ⟨_, rfl, a, _, rfl, .inl (s1.seq hS), _, _, rfl, _, _, rfl, ?_⟩
  have hkk : ∀ j : Int, 1 ≤ (if (if j < 3 then j else 3) > 1 then (if j < 3 then j else 3) else 1) ∧ (if (if j < 3 then j else 3) > 1 then (if j < 3 then j else 3) else 1) ≤ 3 := fun j => by
    split <;> split <;> omega
  have hkk := hkk (((ns.map V.int).length : Nat) : Int)
  generalize (if (if (((ns.map V.int).length : Nat) : Int) < 3 then (((ns.map V.int).length : Nat) : Int) else 3) > 1 then (if (((ns.map V.int).length : Nat) : Int) < 3 then (((ns.map V.int).length : Nat) : Int) else 3) else 1) = kk at hkk ⊢
  refine ⟨kk, rfl, by omega, by omega, for_range (n := kk.toNat) (fun i σ Hc => ∃ g1 g2 g3 g4 g5 g6 g7, σ = [some (.ref a), some (.ref rws), g1, g2, g3, g4, g5, g6, g7] ∧ Same H1 Hc) ⟨_, _, _, _, _, _, _, rfl, Same.refl H1⟩ ?_ ?_⟩
  · rintro i σ Hc hi ⟨g1, g2, g3, g4, g5, g6, g7, rfl, sc⟩
    refine ⟨_, rfl, _, rfl, a, ns, _, rfl, (s1.trans sc).seq hS, by omega, by omega, fun c => ?_⟩
    refine ⟨_, rfl, _, _, rfl, rfl, .inl ⟨by decide, by decide⟩, _, _, rfl, rfl, (by show 1 ≤ sizeLine; decide), fun st hst => ?_⟩
    have s2 := same_new hst (.lst [V.int (c + 37 * (0 + (i : Int)))])
    refine ⟨_, rfl, st, 0, rfl, .inl ⟨_, upd_same⟩, by decide, by decide, fun p d D H3 b3 hV3 hW w3 => ?_⟩
    have s3 : Same Hc H3 := b3.fresh s2 hst
    obtain ⟨z3, ea3⟩ := w3.lst
    have nrs : rws ≠ st := ne_of_none (sc _ _ hrw) hst
    have hxc := hxs.imp fun _ _ r => r.mono (.same sc)
    have hxv : A2 (RowAt (vw (pA st) H3)) xs (allW 6) := hxc.imp fun _ _ r => r.mono fun b o f e => vw_put (pA_ok.mpr (ne_of_none e hst)) (s3 _ _ e)
    have hrw3 := s3 _ _ (sc _ _ hrw)
    refine ⟨_, rfl, p, D, rfl, hV3.task, hW, fun H8 r ch t al an r0 r1 e0 e1 s8 hB hl hg => ?_, fun H8 r t l h aa s8 hr8 ht8 hl8 hln hh haa hcb => ?_⟩
    · refine ⟨r, _, rfl, SqT.of hB.h_r, rfl, _, _, rfl, _, _, rfl, rfl, ?_⟩
      refine ⟨_, rfl, rfl, _, rfl, iteT' (by decide +kernel) ?_⟩
      have rows8 : RowsAt H8 (.ref al) [ch 0, ch 1] := ⟨al, _, rfl, hB.h_al, .cons ⟨r0, rfl, hB.h_r0⟩ (.cons ⟨r1, rfl, hB.h_r1⟩ .nil)⟩
      have hA : ∀ h k, h < 2 → k < (D.al h).length → okA D ch h k := fun h k hh hk => (hg h k hh hk).1
      have hX : BxF C H8 p t D ch (ansO ch) al an e0 e1 := ⟨hB.h_t, rows8, hB.h_an, hB.h_d0, hB.h_d1, TaskX.new s8 hV3.task.r hB.f2, TaskX.new s8 hV3.task.r hB.f1, hl, fun h hh z hz => ch_out hW hl hA hh z hz, fun h hh e he => (ans_in hW hl hg hh he).2⟩
      have s38 := s3.trans s8
      refine ⟨_, rfl, _, rfl, _, rfl, p, t, rws, D, ch, ansO ch, al, an, e0, e1, xs, rfl, hW, hV3.task.mono s8, hX, s8 _ _ hrw3, hxc.imp fun _ _ r => r.mono (.same s38), fun r9 H9 s9 hr9 => ?_⟩
      have eL : letBx D ch (ansO ch) = true := (letBx_iff hW hA).mpr fun h hh e he => (ans_in hW hl hg hh he).1
      rw [eL] at hr9
      refine ⟨(by show 2 ≤ sizeLine; decide), fun tp htp => ?_⟩
      have s10 := same_new htp (.tup [V.bl true, V.bl true])
      refine ⟨_, _, tt_dp (s10 _ _ hr9), tt_dp upd_same, (ok_tt true true).shaped (by decide), (ok_tt true true).shaped (by decide), _, rfl, ?_⟩
      rw [eqv_selfD (ok_tt true true) (by decide)]
      refine iteF ?_
      have sF := (s8.trans s9).trans s10
      refine ⟨rws, st, p, d, xs, _, _, _, _, _, 0 + 600, D, H3, rfl, w3.same sF, by decide, by decide, hV3.same ea3 sF, hW, sF _ _ hrw3, hxv.imp fun _ _ r => r.mono (vwA_but (.same sF)), nrs, ?_⟩
      rintro σ' H' ⟨k1, k2, k3, k4, k5, k6, k7, rfl⟩ b'
      exact ⟨_, _, _, _, _, _, _, rfl, sc.trans ((b'.fresh' s3 sF hst))⟩
    · refine ⟨r, _, rfl, SqT.of hr8, rfl, _, _, rfl, _, _, rfl, rfl, ?_⟩
      refine ⟨_, rfl, rfl, _, rfl, iteF' (by decide +kernel) (iteF ?_)⟩
      refine ⟨rws, st, p, d, xs, _, _, _, _, _, 0 + 600, D, H3, rfl, w3.same s8, by decide, by decide, hV3.same ea3 s8, hW, s8 _ _ hrw3, hxv.imp fun _ _ r => r.mono (vwA_but (.same s8)), nrs, ?_⟩
      rintro σ' H' ⟨k1, k2, k3, k4, k5, k6, k7, rfl⟩ b'
      exact ⟨_, _, _, _, _, _, _, rfl, sc.trans ((b'.fresh' s3 s8 hst))⟩
  · rintro σ Hc ⟨g1, g2, g3, g4, g5, g6, g7, rfl, sc⟩
    exact q Hc
end
end TA

set_option Elab.async false
set_option maxRecDepth 100000
set_option maxHeartbeats 4000000
set_option linter.unusedVariables false
namespace TA
open PySem PySem.Spec L2 PyProof.Rows
def excB (K : PySem.W.Frag) (D : Addr) : Bool :=
  decide (PySem.W.findIn K (.ref D) "__getattribute__" = some (some (.builtin "BaseException.__getattribute__"))) && (decide (PySem.W.findIn K (.ref D) "__getattr__" = some none) && (decide (PySem.W.subIn K (.ref D) (.type "BaseException") = some true) &&
  (PySem.W.hasDictIn K D && (decide (PySem.W.findIn K (.ref D) "__class__" = some (some (.builtin "object.__class__"))) && (decide (PySem.W.specialIn K (.builtin "object.__class__") "__get__" = some (some (.builtin "getset_descriptor.__get__"))) &&
  (decide (PySem.W.takesIn K (.builtin "object.__class__") = some true) && decide (PySem.W.mroIn K D (.type "object") = some true)))))))
theorem excB_ok {K : PySem.W.Frag} {D : Addr} (h : excB K D = true) : ExcC K D := by
  obtain ⟨a, h⟩ := Bool.and_eq_true_iff.mp h
  obtain ⟨b, h⟩ := Bool.and_eq_true_iff.mp h
  obtain ⟨c, h⟩ := Bool.and_eq_true_iff.mp h
  obtain ⟨d, h⟩ := Bool.and_eq_true_iff.mp h
  obtain ⟨e, h⟩ := Bool.and_eq_true_iff.mp h
  obtain ⟨f, h⟩ := Bool.and_eq_true_iff.mp h
  obtain ⟨g, h⟩ := Bool.and_eq_true_iff.mp h
  exact ⟨of_decide_eq_true a, of_decide_eq_true b, of_decide_eq_true c, d, of_decide_eq_true e, of_decide_eq_true f, of_decide_eq_true g, of_decide_eq_true h⟩
def raiseB (K : PySem.W.Frag) (C : Addr) : Bool := decide (PySem.W.subIn K (.ref C) (.type "BaseException") = some true) && decide (PySem.W.typeIn K (.ref C) = some (.type "type"))
theorem raiseB_ok {K : PySem.W.Frag} {mg : Str → Option Value} {n : Str} {C : Addr} (h : raiseB K C = true) (m : mg n = some (.ref C)) (x : PySem.W.excIn K C [.type "ValueError", .type "Exception", .type "BaseException", .type "object"] "ValueError.__new__" = true) (k : PySem.W.keepIn K (.ref C) = true) : RaiseC K mg n C := by
  obtain ⟨a, b⟩ := Bool.and_eq_true_iff.mp h
  exact ⟨m, x, k, of_decide_eq_true a, of_decide_eq_true b⟩
def saidB (K : PySem.W.Frag) (cA cW cI cP : Addr) : Bool := excB K cW && (decide (PySem.W.exmOne K (.ref cW) (.ref cA) = some true) && (decide (PySem.W.kitOne K (.ref cW) (.ref cW) = some true) && decide (PySem.W.kitAny K (.ref cW) [.ref cI, .ref cP] = some false)))
theorem saidB_ok {K : PySem.W.Frag} {cA cW cI cP : Addr} (h : saidB K cA cW cI cP = true) : SaidC K cA cW cI cP := by
  obtain ⟨a, h⟩ := Bool.and_eq_true_iff.mp h
  obtain ⟨b, h⟩ := Bool.and_eq_true_iff.mp h
  obtain ⟨c, d⟩ := Bool.and_eq_true_iff.mp h
  exact ⟨excB_ok a, of_decide_eq_true b, of_decide_eq_true c, of_decide_eq_true d⟩
theorem all_mk {l : PySem.W.OpenLaw} {w : World} {K : PySem.W.Frag} {h : Heap} {mg : Str → Option Value} {fa f1 f2 f3 f4 f5 f6 f7 f8 f9 f10 f11 f12 f13 f14 f15 f16 f17 f18 f19 f20 f21 f22 f23 f24 f25 f26 f27 f28 f29 f30 f31 f32 f33 f34 f35 f36 f37 f38 f39 f40 f41 f42 f43 hA0 cA cW cI cP C y1 y2 y3 : Addr} (X : K.In h) (G : h.Ns mainGlobals mg) (hfa : mg "law" = some (.ref fa))
    {od1 an1 od2 an2 od3 an3 od4 an4 od5 an5 od6 an6 od7 an7 od8 an8 od9 an9 od10 an10 od11 an11 od12 an12 od13 an13 od14 an14 od15 an15 od16 an16 od17 an17 od18 an18 od19 an19 od20 an20 od21 an21 od22 an22 od23 an23 od24 an24 od25 an25 od26 an26 od27 an27 od28 an28 od29 an29 od30 an30 od31 an31 od32 an32 od33 an33 od34 an34 od35 an35 od36 an36 od37 an37 od38 an38 od39 an39 od40 an40 od41 an41 od42 an42 od43 an43 odH0 : Option Addr} {sl1 sl2 sl3 sl4 sl5 sl6 sl7 sl8 sl9 sl10 sl11 sl12 sl13 sl14 sl15 sl16 sl17 sl18 sl19 sl20 sl21 sl22 sl23 sl24 sl25 sl26 sl27 sl28 sl29 sl30 sl31 sl32 sl33 sl34 sl35 sl36 sl37 sl38 sl39 sl40 sl41 sl42 sl43 slH0 : Array (Option Value)} {oc1 kV1 dc1 pm1 cd1 ct1 oc2 kV2 dc2 pm2 cd2 ct2 oc3 kV3 dc3 pm3 cd3 ct3 oc4 kV4 dc4 pm4 cd4 ct4 oc5 kV5 dc5 pm5 cd5 ct5 oc6 kV6 dc6 pm6 cd6 ct6 oc7 kV7 dc7 pm7 cd7 ct7 oc8 kV8 dc8 pm8 cd8 ct8 oc9 kV9 dc9 pm9 cd9 ct9 oc10 kV10 dc10 pm10 cd10 ct10 oc11 kV11 dc11 pm11 cd11 ct11 oc12 kV12 dc12 pm12 cd12 ct12 oc13 kV13 dc13 pm13 cd13 ct13 oc14 kV14 dc14 pm14 cd14 ct14 oc15 kV15 dc15 pm15 cd15 ct15 oc16 kV16 dc16 pm16 cd16 ct16 oc17 kV17 dc17 pm17 cd17 ct17 oc18 kV18 dc18 pm18 cd18 ct18 oc19 kV19 dc19 pm19 cd19 ct19 oc20 kV20 dc20 pm20 cd20 ct20 oc21 kV21 dc21 pm21 cd21 ct21 oc22 kV22 dc22 pm22 cd22 ct22 oc23 kV23 dc23 pm23 cd23 ct23 oc24 kV24 dc24 pm24 cd24 ct24 oc25 kV25 dc25 pm25 cd25 ct25 oc26 kV26 dc26 pm26 cd26 ct26 oc27 kV27 dc27 pm27 cd27 ct27 oc28 kV28 dc28 pm28 cd28 ct28 oc29 kV29 dc29 pm29 cd29 ct29 oc30 kV30 dc30 pm30 cd30 ct30 oc31 kV31 dc31 pm31 cd31 ct31 oc32 kV32 dc32 pm32 cd32 ct32 oc33 kV33 dc33 pm33 cd33 ct33 oc34 kV34 dc34 pm34 cd34 ct34 oc35 kV35 dc35 pm35 cd35 ct35 oc36 kV36 dc36 pm36 cd36 ct36 oc37 kV37 dc37 pm37 cd37 ct37 oc38 kV38 dc38 pm38 cd38 ct38 oc39 kV39 dc39 pm39 cd39 ct39 oc40 kV40 dc40 pm40 cd40 ct40 oc41 kV41 dc41 pm41 cd41 ct41 oc42 kV42 dc42 pm42 cd42 ct42 oc43 kV43 dc43 pm43 cd43 ct43 : Value} {tI0 tI1 tI2 tI3 tT0_0 tT0_1 : Tok} {nH0 : Nat}
    {yod1 yan1 yod2 yan2 yod3 yan3 : Option Addr} {ysl1 ysl2 ysl3 : Array (Option Value)} {yoc1 ykV1 ydc1 ypm1 ycd1 yct1 yoc2 ykV2 ydc2 ypm2 ycd2 yct2 yoc3 ykV3 ydc3 ypm3 ycd3 yct3 : Value}
    (aC : PySem.W.nsIn K mainGlobals "Task" = some (some (.ref C)))
    (ya1 : PySem.W.findIn K (.ref C) "__init__" = some (some (.ref y1))) (yi1 : PySem.W.isFn K (.ref y1) = true) (yl1 : K.lookup y1 = some ⟨yoc1, yod1, .func (PySem.W.fnOf "__init__" "Task.__init__" (defArgs s_init) (defBody s_init) (defScope s_init) .none ykV1 ydc1 ypm1 yan1 ycd1 yct1), ysl1⟩) (yc1 : PySem.W.codeIn K ycd1 "Task.__init__" = true) (yk1 : PySem.W.keepIn K (.ref y1) = true)
    (ya2 : PySem.W.findIn K (.ref C) "inputs" = some (some (.ref y2))) (yi2 : PySem.W.isFn K (.ref y2) = true) (yl2 : K.lookup y2 = some ⟨yoc2, yod2, .func (PySem.W.fnOf "inputs" "Task.inputs" (defArgs s_inputs) (defBody s_inputs) (defScope s_inputs) .none ykV2 ydc2 ypm2 yan2 ycd2 yct2), ysl2⟩) (yc2 : PySem.W.codeIn K ycd2 "Task.inputs" = true) (yk2 : PySem.W.keepIn K (.ref y2) = true)
    (ya3 : PySem.W.findIn K (.ref C) "pairs" = some (some (.ref y3))) (yi3 : PySem.W.isFn K (.ref y3) = true) (yl3 : K.lookup y3 = some ⟨yoc3, yod3, .func (PySem.W.fnOf "pairs" "Task.pairs" (defArgs s_pairs) (defBody s_pairs) (defScope s_pairs) .none ykV3 ydc3 ypm3 yan3 ycd3 yct3), ysl3⟩) (yc3 : PySem.W.codeIn K ycd3 "Task.pairs" = true) (yk3 : PySem.W.keepIn K (.ref y3) = true)
    (pg : PySem.W.plainGet K C Str.empty = true) (hd : PySem.W.hasDictIn K C = true) (po : PySem.W.plainOver K C = true) (sa : PySem.W.findIn K (.ref C) "__setattr__" = some (some (.builtin "object.__setattr__"))) (mkC : PySem.W.makesIn K C = true) (kC : PySem.W.keepIn K (.ref C) = true) (nA : PySem.W.findIn K (.ref C) "alone" = some none) (nB : PySem.W.findIn K (.ref C) "both" = some none)
    (a1 : PySem.W.nsIn K mainGlobals "is_whole" = some (some (.ref f1))) (l1 : K.lookup f1 = some ⟨oc1, od1, .func (PySem.W.fnOf "is_whole" "is_whole" (defArgs sWhole) (defBody sWhole) (defScope sWhole) .none kV1 dc1 pm1 an1 cd1 ct1), sl1⟩) (c1 : PySem.W.codeIn K cd1 "is_whole" = true) (k1 : PySem.W.keepIn K (.ref f1) = true)
    (a2 : PySem.W.nsIn K mainGlobals "is_whole_within" = some (some (.ref f2))) (l2 : K.lookup f2 = some ⟨oc2, od2, .func (PySem.W.fnOf "is_whole_within" "is_whole_within" (defArgs sWithin) (defBody sWithin) (defScope sWithin) .none kV2 dc2 pm2 an2 cd2 ct2), sl2⟩) (c2 : PySem.W.codeIn K cd2 "is_whole_within" = true) (k2 : PySem.W.keepIn K (.ref f2) = true)
    (a3 : PySem.W.nsIn K mainGlobals "is_hand" = some (some (.ref f3))) (l3 : K.lookup f3 = some ⟨oc3, od3, .func (PySem.W.fnOf "is_hand" "is_hand" (defArgs sHand) (defBody sHand) (defScope sHand) .none kV3 dc3 pm3 an3 cd3 ct3), sl3⟩) (c3 : PySem.W.codeIn K cd3 "is_hand" = true) (k3 : PySem.W.keepIn K (.ref f3) = true)
    (a4 : PySem.W.nsIn K mainGlobals "is_rising" = some (some (.ref f4))) (l4 : K.lookup f4 = some ⟨oc4, od4, .func (PySem.W.fnOf "is_rising" "is_rising" (defArgs s_is_rising) (defBody s_is_rising) (defScope s_is_rising) .none kV4 dc4 pm4 an4 cd4 ct4), sl4⟩) (c4 : PySem.W.codeIn K cd4 "is_rising" = true) (k4 : PySem.W.keepIn K (.ref f4) = true)
    (a5 : PySem.W.nsIn K mainGlobals "is_output" = some (some (.ref f5))) (l5 : K.lookup f5 = some ⟨oc5, od5, .func (PySem.W.fnOf "is_output" "is_output" (defArgs s_is_output) (defBody s_is_output) (defScope s_is_output) .none kV5 dc5 pm5 an5 cd5 ct5), sl5⟩) (c5 : PySem.W.codeIn K cd5 "is_output" = true) (k5 : PySem.W.keepIn K (.ref f5) = true)
    (a6 : PySem.W.nsIn K mainGlobals "is_outputs" = some (some (.ref f6))) (l6 : K.lookup f6 = some ⟨oc6, od6, .func (PySem.W.fnOf "is_outputs" "is_outputs" (defArgs s_is_outputs) (defBody s_is_outputs) (defScope s_is_outputs) .none kV6 dc6 pm6 an6 cd6 ct6), sl6⟩) (c6 : PySem.W.codeIn K cd6 "is_outputs" = true) (k6 : PySem.W.keepIn K (.ref f6) = true)
    (a7 : PySem.W.nsIn K mainGlobals "is_rows" = some (some (.ref f7))) (l7 : K.lookup f7 = some ⟨oc7, od7, .func (PySem.W.fnOf "is_rows" "is_rows" (defArgs s_is_rows) (defBody s_is_rows) (defScope s_is_rows) .none kV7 dc7 pm7 an7 cd7 ct7), sl7⟩) (c7 : PySem.W.codeIn K cd7 "is_rows" = true) (k7 : PySem.W.keepIn K (.ref f7) = true)
    (a8 : PySem.W.nsIn K mainGlobals "is_alone" = some (some (.ref f8))) (l8 : K.lookup f8 = some ⟨oc8, od8, .func (PySem.W.fnOf "is_alone" "is_alone" (defArgs s_is_alone) (defBody s_is_alone) (defScope s_is_alone) .none kV8 dc8 pm8 an8 cd8 ct8), sl8⟩) (c8 : PySem.W.codeIn K cd8 "is_alone" = true) (k8 : PySem.W.keepIn K (.ref f8) = true)
    (a9 : PySem.W.nsIn K mainGlobals "is_output_pair" = some (some (.ref f9))) (l9 : K.lookup f9 = some ⟨oc9, od9, .func (PySem.W.fnOf "is_output_pair" "is_output_pair" (defArgs s_is_output_pair) (defBody s_is_output_pair) (defScope s_is_output_pair) .none kV9 dc9 pm9 an9 cd9 ct9), sl9⟩) (c9 : PySem.W.codeIn K cd9 "is_output_pair" = true) (k9 : PySem.W.keepIn K (.ref f9) = true)
    (a10 : PySem.W.nsIn K mainGlobals "is_let" = some (some (.ref f10))) (l10 : K.lookup f10 = some ⟨oc10, od10, .func (PySem.W.fnOf "is_let" "is_let" (defArgs s_is_let) (defBody s_is_let) (defScope s_is_let) .none kV10 dc10 pm10 an10 cd10 ct10), sl10⟩) (c10 : PySem.W.codeIn K cd10 "is_let" = true) (k10 : PySem.W.keepIn K (.ref f10) = true)
    (a11 : PySem.W.nsIn K mainGlobals "is_input_pair" = some (some (.ref f11))) (l11 : K.lookup f11 = some ⟨oc11, od11, .func (PySem.W.fnOf "is_input_pair" "is_input_pair" (defArgs s_is_input_pair) (defBody s_is_input_pair) (defScope s_is_input_pair) .none kV11 dc11 pm11 an11 cd11 ct11), sl11⟩) (c11 : PySem.W.codeIn K cd11 "is_input_pair" = true) (k11 : PySem.W.keepIn K (.ref f11) = true)
    (a12 : PySem.W.nsIn K mainGlobals "each_comes" = some (some (.ref f12))) (l12 : K.lookup f12 = some ⟨oc12, od12, .func (PySem.W.fnOf "each_comes" "each_comes" (defArgs s_each_comes) (defBody s_each_comes) (defScope s_each_comes) .none kV12 dc12 pm12 an12 cd12 ct12), sl12⟩) (c12 : PySem.W.codeIn K cd12 "each_comes" = true) (k12 : PySem.W.keepIn K (.ref f12) = true)
    (a13 : PySem.W.nsIn K mainGlobals "is_both" = some (some (.ref f13))) (l13 : K.lookup f13 = some ⟨oc13, od13, .func (PySem.W.fnOf "is_both" "is_both" (defArgs s_is_both) (defBody s_is_both) (defScope s_is_both) .none kV13 dc13 pm13 an13 cd13 ct13), sl13⟩) (c13 : PySem.W.codeIn K cd13 "is_both" = true) (k13 : PySem.W.keepIn K (.ref f13) = true)
    (a14 : PySem.W.nsIn K mainGlobals "is_pair" = some (some (.ref f14))) (l14 : K.lookup f14 = some ⟨oc14, od14, .func (PySem.W.fnOf "is_pair" "is_pair" (defArgs s_is_pair) (defBody s_is_pair) (defScope s_is_pair) .none kV14 dc14 pm14 an14 cd14 ct14), sl14⟩) (c14 : PySem.W.codeIn K cd14 "is_pair" = true) (k14 : PySem.W.keepIn K (.ref f14) = true)
    (a15 : PySem.W.nsIn K mainGlobals "is_row" = some (some (.ref f15))) (l15 : K.lookup f15 = some ⟨oc15, od15, .func (PySem.W.fnOf "is_row" "is_row" (defArgs s_is_row) (defBody s_is_row) (defScope s_is_row) .none kV15 dc15 pm15 an15 cd15 ct15), sl15⟩) (c15 : PySem.W.codeIn K cd15 "is_row" = true) (k15 : PySem.W.keepIn K (.ref f15) = true)
    (a16 : PySem.W.nsIn K mainGlobals "is_chosen" = some (some (.ref f16))) (l16 : K.lookup f16 = some ⟨oc16, od16, .func (PySem.W.fnOf "is_chosen" "is_chosen" (defArgs s_is_chosen) (defBody s_is_chosen) (defScope s_is_chosen) .none kV16 dc16 pm16 an16 cd16 ct16), sl16⟩) (c16 : PySem.W.codeIn K cd16 "is_chosen" = true) (k16 : PySem.W.keepIn K (.ref f16) = true)
    (a17 : PySem.W.nsIn K mainGlobals "alone_fault" = some (some (.ref f17))) (l17 : K.lookup f17 = some ⟨oc17, od17, .func (PySem.W.fnOf "alone_fault" "alone_fault" (defArgs s_alone_fault) (defBody s_alone_fault) (defScope s_alone_fault) .none kV17 dc17 pm17 an17 cd17 ct17), sl17⟩) (c17 : PySem.W.codeIn K cd17 "alone_fault" = true) (k17 : PySem.W.keepIn K (.ref f17) = true)
    (a18 : PySem.W.nsIn K mainGlobals "is_answers" = some (some (.ref f18))) (l18 : K.lookup f18 = some ⟨oc18, od18, .func (PySem.W.fnOf "is_answers" "is_answers" (defArgs s_is_answers) (defBody s_is_answers) (defScope s_is_answers) .none kV18 dc18 pm18 an18 cd18 ct18), sl18⟩) (c18 : PySem.W.codeIn K cd18 "is_answers" = true) (k18 : PySem.W.keepIn K (.ref f18) = true)
    (a19 : PySem.W.nsIn K mainGlobals "is_boxed" = some (some (.ref f19))) (l19 : K.lookup f19 = some ⟨oc19, od19, .func (PySem.W.fnOf "is_boxed" "is_boxed" (defArgs s_is_boxed) (defBody s_is_boxed) (defScope s_is_boxed) .none kV19 dc19 pm19 an19 cd19 ct19), sl19⟩) (c19 : PySem.W.codeIn K cd19 "is_boxed" = true) (k19 : PySem.W.keepIn K (.ref f19) = true)
    (a20 : PySem.W.nsIn K mainGlobals "is_answered" = some (some (.ref f20))) (l20 : K.lookup f20 = some ⟨oc20, od20, .func (PySem.W.fnOf "is_answered" "is_answered" (defArgs s_is_answered) (defBody s_is_answered) (defScope s_is_answered) .none kV20 dc20 pm20 an20 cd20 ct20), sl20⟩) (c20 : PySem.W.codeIn K cd20 "is_answered" = true) (k20 : PySem.W.keepIn K (.ref f20) = true)
    (a21 : PySem.W.nsIn K mainGlobals "at_odds" = some (some (.ref f21))) (l21 : K.lookup f21 = some ⟨oc21, od21, .func (PySem.W.fnOf "at_odds" "at_odds" (defArgs s_at_odds) (defBody s_at_odds) (defScope s_at_odds) .none kV21 dc21 pm21 an21 cd21 ct21), sl21⟩) (c21 : PySem.W.codeIn K cd21 "at_odds" = true) (k21 : PySem.W.keepIn K (.ref f21) = true)
    (a22 : PySem.W.nsIn K mainGlobals "answers_to" = some (some (.ref f22))) (l22 : K.lookup f22 = some ⟨oc22, od22, .func (PySem.W.fnOf "answers_to" "answers_to" (defArgs s_answers_to) (defBody s_answers_to) (defScope s_answers_to) .none kV22 dc22 pm22 an22 cd22 ct22), sl22⟩) (c22 : PySem.W.codeIn K cd22 "answers_to" = true) (k22 : PySem.W.keepIn K (.ref f22) = true)
    (a23 : PySem.W.nsIn K mainGlobals "boxed" = some (some (.ref f23))) (l23 : K.lookup f23 = some ⟨oc23, od23, .func (PySem.W.fnOf "boxed" "boxed" (defArgs s_boxed) (defBody s_boxed) (defScope s_boxed) .none kV23 dc23 pm23 an23 cd23 ct23), sl23⟩) (c23 : PySem.W.codeIn K cd23 "boxed" = true) (k23 : PySem.W.keepIn K (.ref f23) = true)
    (a24 : PySem.W.nsIn K mainGlobals "answers_fault" = some (some (.ref f24))) (l24 : K.lookup f24 = some ⟨oc24, od24, .func (PySem.W.fnOf "answers_fault" "answers_fault" (defArgs s_answers_fault) (defBody s_answers_fault) (defScope s_answers_fault) .none kV24 dc24 pm24 an24 cd24 ct24), sl24⟩) (c24 : PySem.W.codeIn K cd24 "answers_fault" = true) (k24 : PySem.W.keepIn K (.ref f24) = true)
    (a25 : PySem.W.nsIn K mainGlobals "boxed_fault" = some (some (.ref f25))) (l25 : K.lookup f25 = some ⟨oc25, od25, .func (PySem.W.fnOf "boxed_fault" "boxed_fault" (defArgs s_boxed_fault) (defBody s_boxed_fault) (defScope s_boxed_fault) .none kV25 dc25 pm25 an25 cd25 ct25), sl25⟩) (c25 : PySem.W.codeIn K cd25 "boxed_fault" = true) (k25 : PySem.W.keepIn K (.ref f25) = true)
    (a26 : PySem.W.nsIn K mainGlobals "agreement" = some (some (.ref f26))) (l26 : K.lookup f26 = some ⟨oc26, od26, .func (PySem.W.fnOf "agreement" "agreement" (defArgs s_agreement) (defBody s_agreement) (defScope s_agreement) .none kV26 dc26 pm26 an26 cd26 ct26), sl26⟩) (c26 : PySem.W.codeIn K cd26 "agreement" = true) (k26 : PySem.W.keepIn K (.ref f26) = true)
    (a27 : PySem.W.nsIn K mainGlobals "near" = some (some (.ref f27))) (l27 : K.lookup f27 = some ⟨oc27, od27, .func (PySem.W.fnOf "near" "near" (defArgs s_near) (defBody s_near) (defScope s_near) .none kV27 dc27 pm27 an27 cd27 ct27), sl27⟩) (c27 : PySem.W.codeIn K cd27 "near" = true) (k27 : PySem.W.keepIn K (.ref f27) = true)
    (a28 : PySem.W.nsIn K mainGlobals "winner" = some (some (.ref f28))) (l28 : K.lookup f28 = some ⟨oc28, od28, .func (PySem.W.fnOf "winner" "winner" (defArgs s_winner) (defBody s_winner) (defScope s_winner) .none kV28 dc28 pm28 an28 cd28 ct28), sl28⟩) (c28 : PySem.W.codeIn K cd28 "winner" = true) (k28 : PySem.W.keepIn K (.ref f28) = true)
    (a29 : PySem.W.nsIn K mainGlobals "is_boxed_weaving" = some (some (.ref f29))) (l29 : K.lookup f29 = some ⟨oc29, od29, .func (PySem.W.fnOf "is_boxed_weaving" "is_boxed_weaving" (defArgs s_is_boxed_weaving) (defBody s_is_boxed_weaving) (defScope s_is_boxed_weaving) .none kV29 dc29 pm29 an29 cd29 ct29), sl29⟩) (c29 : PySem.W.codeIn K cd29 "is_boxed_weaving" = true) (k29 : PySem.W.keepIn K (.ref f29) = true)
    (a30 : PySem.W.nsIn K mainGlobals "tell_boxed" = some (some (.ref f30))) (l30 : K.lookup f30 = some ⟨oc30, od30, .func (PySem.W.fnOf "tell_boxed" "tell_boxed" (defArgs s_tell_boxed) (defBody s_tell_boxed) (defScope s_tell_boxed) .none kV30 dc30 pm30 an30 cd30 ct30), sl30⟩) (c30 : PySem.W.codeIn K cd30 "tell_boxed" = true) (k30 : PySem.W.keepIn K (.ref f30) = true)
    (a31 : PySem.W.nsIn K mainGlobals "_law_cell_at" = some (some (.ref f31))) (l31 : K.lookup f31 = some ⟨oc31, od31, .func (PySem.W.fnOf "_law_cell_at" "_law_cell_at" (defArgs sCell) (defBody sCell) (defScope sCell) .none kV31 dc31 pm31 an31 cd31 ct31), sl31⟩) (c31 : PySem.W.codeIn K cd31 "_law_cell_at" = true) (k31 : PySem.W.keepIn K (.ref f31) = true)
    (a32 : PySem.W.nsIn K mainGlobals "_law_digit" = some (some (.ref f32))) (l32 : K.lookup f32 = some ⟨oc32, od32, .func (PySem.W.fnOf "_law_digit" "_law_digit" (defArgs s__law_digit) (defBody s__law_digit) (defScope s__law_digit) .none kV32 dc32 pm32 an32 cd32 ct32), sl32⟩) (c32 : PySem.W.codeIn K cd32 "_law_digit" = true) (k32 : PySem.W.keepIn K (.ref f32) = true)
    (a33 : PySem.W.nsIn K mainGlobals "_law_few" = some (some (.ref f33))) (l33 : K.lookup f33 = some ⟨oc33, od33, .func (PySem.W.fnOf "_law_few" "_law_few" (defArgs s__law_few) (defBody s__law_few) (defScope s__law_few) .none kV33 dc33 pm33 an33 cd33 ct33), sl33⟩) (c33 : PySem.W.codeIn K cd33 "_law_few" = true) (k33 : PySem.W.keepIn K (.ref f33) = true)
    (a34 : PySem.W.nsIn K mainGlobals "_law_outs" = some (some (.ref f34))) (l34 : K.lookup f34 = some ⟨oc34, od34, .func (PySem.W.fnOf "_law_outs" "_law_outs" (defArgs s__law_outs) (defBody s__law_outs) (defScope s__law_outs) .none kV34 dc34 pm34 an34 cd34 ct34), sl34⟩) (c34 : PySem.W.codeIn K cd34 "_law_outs" = true) (k34 : PySem.W.keepIn K (.ref f34) = true)
    (a35 : PySem.W.nsIn K mainGlobals "_law_parts" = some (some (.ref f35))) (l35 : K.lookup f35 = some ⟨oc35, od35, .func (PySem.W.fnOf "_law_parts" "_law_parts" (defArgs s__law_parts) (defBody s__law_parts) (defScope s__law_parts) .none kV35 dc35 pm35 an35 cd35 ct35), sl35⟩) (c35 : PySem.W.codeIn K cd35 "_law_parts" = true) (k35 : PySem.W.keepIn K (.ref f35) = true)
    (a36 : PySem.W.nsIn K mainGlobals "_law_weavings" = some (some (.ref f36))) (l36 : K.lookup f36 = some ⟨oc36, od36, .func (PySem.W.fnOf "_law_weavings" "_law_weavings" (defArgs s__law_weavings) (defBody s__law_weavings) (defScope s__law_weavings) .none kV36 dc36 pm36 an36 cd36 ct36), sl36⟩) (c36 : PySem.W.codeIn K cd36 "_law_weavings" = true) (k36 : PySem.W.keepIn K (.ref f36) = true)
    (a37 : PySem.W.nsIn K mainGlobals "_law_own" = some (some (.ref f37))) (l37 : K.lookup f37 = some ⟨oc37, od37, .func (PySem.W.fnOf "_law_own" "_law_own" (defArgs s__law_own) (defBody s__law_own) (defScope s__law_own) .none kV37 dc37 pm37 an37 cd37 ct37), sl37⟩) (c37 : PySem.W.codeIn K cd37 "_law_own" = true) (k37 : PySem.W.keepIn K (.ref f37) = true)
    (a38 : PySem.W.nsIn K mainGlobals "_law_said" = some (some (.ref f38))) (l38 : K.lookup f38 = some ⟨oc38, od38, .func (PySem.W.fnOf "_law_said" "_law_said" (defArgs sSaid) (defBody sSaid) (defScope sSaid) .none kV38 dc38 pm38 an38 cd38 ct38), sl38⟩) (c38 : PySem.W.codeIn K cd38 "_law_said" = true) (k38 : PySem.W.keepIn K (.ref f38) = true)
    (a39 : PySem.W.nsIn K mainGlobals "_law_good" = some (some (.ref f39))) (l39 : K.lookup f39 = some ⟨oc39, od39, .func (PySem.W.fnOf "_law_good" "_law_good" (defArgs s__law_good) (defBody s__law_good) (defScope s__law_good) .none kV39 dc39 pm39 an39 cd39 ct39), sl39⟩) (c39 : PySem.W.codeIn K cd39 "_law_good" = true) (k39 : PySem.W.keepIn K (.ref f39) = true)
    (a40 : PySem.W.nsIn K mainGlobals "_law_drawn" = some (some (.ref f40))) (l40 : K.lookup f40 = some ⟨oc40, od40, .func (PySem.W.fnOf "_law_drawn" "_law_drawn" (defArgs s__law_drawn) (defBody s__law_drawn) (defScope s__law_drawn) .none kV40 dc40 pm40 an40 cd40 ct40), sl40⟩) (c40 : PySem.W.codeIn K cd40 "_law_drawn" = true) (k40 : PySem.W.keepIn K (.ref f40) = true)
    (a41 : PySem.W.nsIn K mainGlobals "_law_task" = some (some (.ref f41))) (l41 : K.lookup f41 = some ⟨oc41, od41, .func (PySem.W.fnOf "_law_task" "_law_task" (defArgs s__law_task) (defBody s__law_task) (defScope s__law_task) .none kV41 dc41 pm41 an41 cd41 ct41), sl41⟩) (c41 : PySem.W.codeIn K cd41 "_law_task" = true) (k41 : PySem.W.keepIn K (.ref f41) = true)
    (a42 : PySem.W.nsIn K mainGlobals "_law_right" = some (some (.ref f42))) (l42 : K.lookup f42 = some ⟨oc42, od42, .func (PySem.W.fnOf "_law_right" "_law_right" (defArgs sRight) (defBody sRight) (defScope sRight) .none kV42 dc42 pm42 an42 cd42 ct42), sl42⟩) (c42 : PySem.W.codeIn K cd42 "_law_right" = true) (k42 : PySem.W.keepIn K (.ref f42) = true)
    (a43 : PySem.W.nsIn K mainGlobals "law" = some (some (.ref f43))) (l43 : K.lookup f43 = some ⟨oc43, od43, .func (PySem.W.fnOf "law" "law" (defArgs sLaw) (defBody sLaw) (defScope sLaw) .none kV43 dc43 pm43 an43 cd43 ct43), sl43⟩) (c43 : PySem.W.codeIn K cd43 "law" = true) (k43 : PySem.W.keepIn K (.ref f43) = true)
    (z0 : PySem.W.nsIn K mainGlobals "isinstance" = some none)
    (z1 : PySem.W.nsIn K mainGlobals "int" = some none)
    (z2 : PySem.W.nsIn K mainGlobals "bool" = some none)
    (z3 : PySem.W.nsIn K mainGlobals "len" = some none)
    (z4 : PySem.W.nsIn K mainGlobals "range" = some none)
    (z5 : PySem.W.nsIn K mainGlobals "list" = some none)
    (z6 : PySem.W.nsIn K mainGlobals "tuple" = some none)
    (z7 : PySem.W.nsIn K mainGlobals "all" = some none)
    (z8 : PySem.W.nsIn K mainGlobals "sum" = some none)
    (z9 : PySem.W.nsIn K mainGlobals "min" = some none)
    (z10 : PySem.W.nsIn K mainGlobals "sorted" = some none)
    (z11 : PySem.W.nsIn K mainGlobals "set" = some none)
    (z12 : PySem.W.nsIn K mainGlobals "max" = some none)
    (z13 : PySem.W.nsIn K mainGlobals "zip" = some none)
    (z14 : PySem.W.nsIn K mainGlobals "dict" = some none)
    (z15 : PySem.W.nsIn K mainGlobals "abs" = some none)
    (i0 : PySem.W.nsIn K mainGlobals "MOST_OUTPUT" = some (some (.int 63 tI0)))
    (i1 : PySem.W.nsIn K mainGlobals "MOST_NAMED" = some (some (.int 7 tI1)))
    (i2 : PySem.W.nsIn K mainGlobals "STEPS_TO_BOX" = some (some (.int 2 tI2)))
    (i3 : PySem.W.nsIn K mainGlobals "STEPS_OF_LOSER" = some (some (.int 3 tI3)))
    (t0 : PySem.W.nsIn K mainGlobals "HANDS" = some (some (.ref hA0))) (u0 : K.lookup hA0 = some ⟨.type "tuple", odH0, .seq (Array.mk [.int 0 tT0_0, .int 1 tT0_1]) nH0, slH0⟩)
    (n0 : PySem.W.nsIn K mainGlobals "AloneError" = some (some (.ref cA)))
    (n1 : PySem.W.nsIn K mainGlobals "NoWeaving" = some (some (.ref cW)))
    (n2 : PySem.W.nsIn K mainGlobals "NoInputs" = some (some (.ref cI)))
    (n3 : PySem.W.nsIn K mainGlobals "NoProtocol" = some (some (.ref cP)))
    (q_cW : PySem.W.excIn K cW [.type "ValueError", .type "Exception", .type "BaseException", .type "object"] "ValueError.__new__" = true) (kk_cW : PySem.W.keepIn K (.ref cW) = true) (r_cW : raiseB K cW = true)
    (xs0 : saidB K cA cW cI cP = true)
    : ∃ fd : FuncData, (∀ (s : Shared) (v : Value), BindsTo s fd ⟨[v], []⟩ [("_law_script", v)]) ∧ ∀ base : Heap, K.In base → base.Ns mainGlobals mg → FnOk l.prog w K mg base CX0 11 fa fd ["_law_script"] (spLaw K) := by
  have e := hfa.symm.trans (PySem.W.mg_of X G a43)
  cases e
  have F1 := fun_mk (st := sWhole) l1 c1 k1
  have b1 := F1.binds (ps := ["thing"]) fun _ _ _ _ _ _ us hl => match us, hl with | [_], _ => rfl
  have F2 := fun_mk (st := sWithin) l2 c2 k2
  have b2 := F2.binds (ps := ["thing", "least", "most"]) fun _ _ _ _ _ _ us hl => match us, hl with | [_, _, _], _ => rfl
  have F3 := fun_mk (st := sHand) l3 c3 k3
  have b3 := F3.binds (ps := ["thing"]) fun _ _ _ _ _ _ us hl => match us, hl with | [_], _ => rfl
  have F4 := fun_mk (st := s_is_rising) l4 c4 k4
  have b4 := F4.binds (ps := ["things"]) fun _ _ _ _ _ _ us hl => match us, hl with | [_], _ => rfl
  have F5 := fun_mk (st := s_is_output) l5 c5 k5
  have b5 := F5.binds (ps := ["thing"]) fun _ _ _ _ _ _ us hl => match us, hl with | [_], _ => rfl
  have F6 := fun_mk (st := s_is_outputs) l6 c6 k6
  have b6 := F6.binds (ps := ["thing"]) fun _ _ _ _ _ _ us hl => match us, hl with | [_], _ => rfl
  have F7 := fun_mk (st := s_is_rows) l7 c7 k7
  have b7 := F7.binds (ps := ["thing"]) fun _ _ _ _ _ _ us hl => match us, hl with | [_], _ => rfl
  have F8 := fun_mk (st := s_is_alone) l8 c8 k8
  have b8 := F8.binds (ps := ["thing"]) fun _ _ _ _ _ _ us hl => match us, hl with | [_], _ => rfl
  have F9 := fun_mk (st := s_is_output_pair) l9 c9 k9
  have b9 := F9.binds (ps := ["thing"]) fun _ _ _ _ _ _ us hl => match us, hl with | [_], _ => rfl
  have F10 := fun_mk (st := s_is_let) l10 c10 k10
  have b10 := F10.binds (ps := ["thing"]) fun _ _ _ _ _ _ us hl => match us, hl with | [_], _ => rfl
  have F11 := fun_mk (st := s_is_input_pair) l11 c11 k11
  have b11 := F11.binds (ps := ["thing", "alone"]) fun _ _ _ _ _ _ us hl => match us, hl with | [_, _], _ => rfl
  have F12 := fun_mk (st := s_each_comes) l12 c12 k12
  have b12 := F12.binds (ps := ["both", "alone", "hand"]) fun _ _ _ _ _ _ us hl => match us, hl with | [_, _, _], _ => rfl
  have F13 := fun_mk (st := s_is_both) l13 c13 k13
  have b13 := F13.binds (ps := ["thing", "alone"]) fun _ _ _ _ _ _ us hl => match us, hl with | [_, _], _ => rfl
  have F14 := fun_mk (st := s_is_pair) l14 c14 k14
  have b14 := F14.binds (ps := ["task", "thing"]) fun _ _ _ _ _ _ us hl => match us, hl with | [_, _], _ => rfl
  have F15 := fun_mk (st := s_is_row) l15 c15 k15
  have b15 := F15.binds (ps := ["thing", "many"]) fun _ _ _ _ _ _ us hl => match us, hl with | [_, _], _ => rfl
  have F16 := fun_mk (st := s_is_chosen) l16 c16 k16
  have b16 := F16.binds (ps := ["task", "thing"]) fun _ _ _ _ _ _ us hl => match us, hl with | [_, _], _ => rfl
  have F17 := fun_mk (st := s_alone_fault) l17 c17 k17
  have b17 := F17.binds (ps := ["task", "alone"]) fun _ _ _ _ _ _ us hl => match us, hl with | [_, _], _ => rfl
  have F18 := fun_mk (st := s_is_answers) l18 c18 k18
  have b18 := F18.binds (ps := ["task", "thing"]) fun _ _ _ _ _ _ us hl => match us, hl with | [_, _], _ => rfl
  have F19 := fun_mk (st := s_is_boxed) l19 c19 k19
  have b19 := F19.binds (ps := ["task", "thing"]) fun _ _ _ _ _ _ us hl => match us, hl with | [_, _], _ => rfl
  have F20 := fun_mk (st := s_is_answered) l20 c20 k20
  have b20 := F20.binds (ps := ["task", "pair", "hand", "output"]) fun _ _ _ _ _ _ us hl => match us, hl with | [_, _, _, _], _ => rfl
  have F21 := fun_mk (st := s_at_odds) l21 c21 k21
  have b21 := F21.binds (ps := ["task", "hand", "at", "output"]) fun _ _ _ _ _ _ us hl => match us, hl with | [_, _, _, _], _ => rfl
  have F22 := fun_mk (st := s_answers_to) l22 c22 k22
  have b22 := F22.binds (ps := ["task", "hand", "alone"]) fun _ _ _ _ _ _ us hl => match us, hl with | [_, _, _], _ => rfl
  have F23 := fun_mk (st := s_boxed) l23 c23 k23
  have b23 := F23.binds (ps := ["task"]) fun _ _ _ _ _ _ us hl => match us, hl with | [_], _ => rfl
  have F24 := fun_mk (st := s_answers_fault) l24 c24 k24
  have b24 := F24.binds (ps := ["task", "hand", "alone", "answers"]) fun _ _ _ _ _ _ us hl => match us, hl with | [_, _, _, _], _ => rfl
  have F25 := fun_mk (st := s_boxed_fault) l25 c25 k25
  have b25 := F25.binds (ps := ["task", "thing"]) fun _ _ _ _ _ _ us hl => match us, hl with | [_, _], _ => rfl
  have F26 := fun_mk (st := s_agreement) l26 c26 k26
  have b26 := F26.binds (ps := []) fun _ _ _ _ _ _ us hl => match us, hl with | [], _ => rfl
  have F27 := fun_mk (st := s_near) l27 c27 k27
  have b27 := F27.binds (ps := ["n"]) fun _ _ _ _ _ _ us hl => match us, hl with | [_], _ => rfl
  have F28 := fun_mk (st := s_winner) l28 c28 k28
  have b28 := F28.binds (ps := ["weaving"]) fun _ _ _ _ _ _ us hl => match us, hl with | [_], _ => rfl
  have F29 := fun_mk (st := s_is_boxed_weaving) l29 c29 k29
  have b29 := F29.binds (ps := ["thing"]) fun _ _ _ _ _ _ us hl => match us, hl with | [_], _ => rfl
  have F30 := fun_mk (st := s_tell_boxed) l30 c30 k30
  have b30 := F30.binds (ps := ["task", "boxed", "inputs", "weaving"]) fun _ _ _ _ _ _ us hl => match us, hl with | [_, _, _, _], _ => rfl
  have F31 := fun_mk (st := sCell) l31 c31 k31
  have b31 := F31.binds (ps := ["_law_script", "_law_k"]) fun _ _ _ _ _ _ us hl => match us, hl with | [_, _], _ => rfl
  have F32 := fun_mk (st := s__law_digit) l32 c32 k32
  have b32 := F32.binds (ps := ["_law_state", "_law_base"]) fun _ _ _ _ _ _ us hl => match us, hl with | [_, _], _ => rfl
  have F33 := fun_mk (st := s__law_few) l33 c33 k33
  have b33 := F33.binds (ps := ["_law_state", "_law_great", "_law_most"]) fun _ _ _ _ _ _ us hl => match us, hl with | [_, _, _], _ => rfl
  have F34 := fun_mk (st := s__law_outs) l34 c34 k34
  have b34 := F34.binds (ps := ["_law_state", "_law_great"]) fun _ _ _ _ _ _ us hl => match us, hl with | [_, _], _ => rfl
  have F35 := fun_mk (st := s__law_parts) l35 c35 k35
  have b35 := F35.binds (ps := ["_law_state", "_law_most"]) fun _ _ _ _ _ _ us hl => match us, hl with | [_, _], _ => rfl
  have F36 := fun_mk (st := s__law_weavings) l36 c36 k36
  have b36 := F36.binds (ps := []) fun _ _ _ _ _ _ us hl => match us, hl with | [], _ => rfl
  have F37 := fun_mk (st := s__law_own) l37 c37 k37
  have b37 := F37.binds (ps := ["_law_told", "_law_answers", "_law_inputs", "_law_weaving"]) fun _ _ _ _ _ _ us hl => match us, hl with | [_, _, _, _], _ => rfl
  have F38 := fun_mk (st := sSaid) l38 c38 k38
  have b38 := F38.binds (ps := ["_law_task_here", "_law_thing", "_law_inputs", "_law_weaving"]) fun _ _ _ _ _ _ us hl => match us, hl with | [_, _, _, _], _ => rfl
  have F39 := fun_mk (st := s__law_good) l39 c39 k39
  have b39 := F39.binds (ps := ["_law_task_here", "_law_inputs", "_law_outs_here", "_law_won"]) fun _ _ _ _ _ _ us hl => match us, hl with | [_, _, _, _], _ => rfl
  have F40 := fun_mk (st := s__law_drawn) l40 c40 k40
  have b40 := F40.binds (ps := ["_law_state", "_law_task_here"]) fun _ _ _ _ _ _ us hl => match us, hl with | [_, _], _ => rfl
  have F41 := fun_mk (st := s__law_task) l41 c41 k41
  have b41 := F41.binds (ps := ["_law_state"]) fun _ _ _ _ _ _ us hl => match us, hl with | [_], _ => rfl
  have F42 := fun_mk (st := sRight) l42 c42 k42
  have b42 := F42.binds (ps := ["_law_task_here", "_law_thing", "_law_rows"]) fun _ _ _ _ _ _ us hl => match us, hl with | [_, _, _], _ => rfl
  have F43 := fun_mk (st := sLaw) l43 c43 k43
  have Zc : TxtC K mg C := ⟨⟨pg, hd, po, sa⟩, nA, nB, PySem.W.mg_of X G aC⟩
  have Y1 := fun_mk (st := s_init) yl1 yc1 yk1
  have yb1 := Y1.binds (ps := ["self", "alone", "both"]) fun _ _ _ _ _ _ us hl => match us, hl with | [_, _, _], _ => rfl
  have Y2 := fun_mk (st := s_inputs) yl2 yc2 yk2
  have yb2 := Y2.binds (ps := ["self", "hand"]) fun _ _ _ _ _ _ us hl => match us, hl with | [_, _], _ => rfl
  have Y3 := fun_mk (st := s_pairs) yl3 yc3 yk3
  have yb3 := Y3.binds (ps := ["self"]) fun _ _ _ _ _ _ us hl => match us, hl with | [_], _ => rfl
  have m := fun {n : Str} {v : Value} (e : PySem.W.nsIn K mainGlobals n = some (some v)) => PySem.W.mg_of X G e
  have mz := fun {n : Str} (e : PySem.W.nsIn K mainGlobals n = some none) => PySem.W.mg_none_of X G e
  have T : Txt K mg := ⟨mz z0, mz z1, mz z2, mz z3, mz z4, mz z5, mz z6, mz z7, mz z8, mz z9⟩
  have T2 : Txt2 K mg := ⟨mz z10, mz z11, mz z12, mz z13, mz z14⟩
  have U : TxtH K mg := ⟨_, m t0, fun H => .inr ⟨_, _, _, u0, rfl, rfl, (by show 2 ≤ sizeLine; decide), .cons ⟨_, rfl⟩ (.cons ⟨_, rfl⟩ .nil)⟩⟩
  have TN : TxtN mg := ⟨mz z15, ⟨_, m i1⟩⟩
  have TB : TxtB K mg := ⟨⟨_, m i2⟩, ⟨_, m i3⟩⟩
  have R3 := raiseB_ok (mg := mg) r_cW (m n1) q_cW kk_cW
  have TS : SaidT mg cA cW cI cP := ⟨mz z0, mz z1, m n0, m n1, m n2, m n3⟩
  refine ⟨PySem.W.fnOf "law" "law" (defArgs sLaw) (defBody sLaw) (defScope sLaw) .none kV43 dc43 pm43 an43 cd43 ct43, fun s v => .of_eq rfl, fun base _ _ => ?_⟩
  have e1 : Def l.prog w K mg base "is_whole" ["thing"] 1 (spWholeG K) f1 _ := ⟨ok_wholeG F1 T, b1, k1, m a1⟩
  have e2 : Def l.prog w K mg base "is_whole_within" ["thing", "least", "most"] 2 (spWithinG K) f2 _ := ⟨ok_withinG F2 e1, b2, k2, m a2⟩
  have e3 : Def l.prog w K mg base "is_hand" ["thing"] 3 (spHandG K) f3 _ := ⟨ok_handG F3 e2, b3, k3, m a3⟩
  have eRI : Def l.prog w K mg base "is_rising" ["things"] 1 (spRisI K) f4 _ := ⟨ok_risI F4 T, b4, k4, m a4⟩
  have eRP : Def l.prog w K mg base "is_rising" ["things"] 1 (spRisP K) f4 _ := ⟨ok_risP F4 T, b4, k4, m a4⟩
  have e5 : Def l.prog w K mg base "is_output" ["thing"] 3 (spOut K) f5 _ := ⟨ok_out F5 (m i0) e2, b5, k5, m a5⟩
  have e6 : Def l.prog w K mg base "is_outputs" ["thing"] 4 (spOuts K) f6 _ := ⟨ok_outs F6 T e5 eRI, b6, k6, m a6⟩
  have e7 : Def l.prog w K mg base "is_rows" ["thing"] 5 (spRows K) f7 _ := ⟨ok_rows F7 T e6, b7, k7, m a7⟩
  have e8 : Def l.prog w K mg base "is_alone" ["thing"] 6 (spAlone K) f8 _ := ⟨ok_alone F8 T e7, b8, k8, m a8⟩
  have e9 : Def l.prog w K mg base "is_output_pair" ["thing"] 4 (spPairB K) f9 _ := ⟨ok_outpair F9 T e5, b9, k9, m a9⟩
  have e10 : Def l.prog w K mg base "is_let" ["thing"] 5 (spLetB K) f10 _ := ⟨ok_let F10 T e9 eRP, b10, k10, m a10⟩
  have e11 : Def l.prog w K mg base "is_input_pair" ["thing", "alone"] 3 (spInp K) f11 _ := ⟨ok_inp F11 T U e2, b11, k11, m a11⟩
  have e12 : Def l.prog w K mg base "each_comes" ["both", "alone", "hand"] 1 (spEach K) f12 _ := ⟨ok_each F12 T T2, b12, k12, m a12⟩
  have e13 : Def l.prog w K mg base "is_both" ["thing", "alone"] 6 (spBoth K) f13 _ := ⟨ok_both F13 T T2 U e11 e10 e12, b13, k13, m a13⟩
  have tk : KDef l.prog w K mg base C "Task" ["self", "alone", "both"] 7 (spInit K C) y1 _ := ⟨ok_init Y1 T T2 Zc e8 e13, yb1, ⟨mkC, ya1, yi1, kC⟩, Zc.mg⟩
  have inp : MDef l.prog w K mg base C "inputs" nInputs 4 (spInputs K C) y2 _ := ⟨ok_inputs Y2 T Zc e3, yb2, ⟨ya2, yi2, yk2⟩⟩
  have prs : MDef l.prog w K mg base C "pairs" nPairs 1 (spPairs K C) y3 _ := ⟨ok_pairs Y3 T2 Zc, yb3, ⟨ya3, yi3, yk3⟩⟩
  have e14 : Def l.prog w K mg base "is_pair" ["task", "thing"] 4 (spPair K C) f14 _ := ⟨ok_ispair F14 T Zc e11, b14, k14, m a14⟩
  have e15 : Def l.prog w K mg base "is_row" ["thing", "many"] 4 (spRow K) f15 _ := ⟨ok_row F15 T e5, b15, k15, m a15⟩
  have e16 : Def l.prog w K mg base "is_chosen" ["task", "thing"] 5 (spChosen K C) f16 _ := ⟨ok_chosen F16 T U Zc e15 inp, b16, k16, m a16⟩
  have e17 : Def l.prog w K mg base "alone_fault" ["task", "alone"] 5 (spAloneF K C) f17 _ := ⟨ok_af F17 T U Zc inp, b17, k17, m a17⟩
  have e18 : Def l.prog w K mg base "is_answers" ["task", "thing"] 5 (spIsAns K C) f18 _ := ⟨ok_isans F18 T T2 Zc e14 e5, b18, k18, m a18⟩
  have e19 : Def l.prog w K mg base "is_boxed" ["task", "thing"] 6 (spIsBoxed K C) f19 _ := ⟨ok_isboxed F19 T Zc e16 e18, b19, k19, m a19⟩
  have e20 : Def l.prog w K mg base "is_answered" ["task", "pair", "hand", "output"] 1 (spAnswered K C) f20 _ := ⟨ok_answered F20 Zc, b20, k20, m a20⟩
  have e21 : Def l.prog w K mg base "at_odds" ["task", "hand", "at", "output"] 2 (spOdds K C) f21 _ := ⟨ok_odds F21 T Zc e20 prs, b21, k21, m a21⟩
  have e22 : Def l.prog w K mg base "answers_to" ["task", "hand", "alone"] 2 (spAnsTo K C) f22 _ := ⟨ok_ansto F22 T Zc prs, b22, k22, m a22⟩
  have e23 : Def l.prog w K mg base "boxed" ["task"] 5 (spBoxed K C) f23 _ := ⟨ok_boxed F23 T U Zc e21 e22 inp, b23, k23, m a23⟩
  have e24 : Def l.prog w K mg base "answers_fault" ["task", "hand", "alone", "answers"] 2 (spAnsF K C) f24 _ := ⟨ok_ansf F24 T Zc prs, b24, k24, m a24⟩
  have e25 : Def l.prog w K mg base "boxed_fault" ["task", "thing"] 7 (spBoxF K C) f25 _ := ⟨ok_boxf F25 T U Zc e19 e17 e24, b25, k25, m a25⟩
  have e26 : Def l.prog w K mg base "agreement" [] 9 (spAgree C) f26 _ := ⟨ok_agree F26 tk, b26, k26, m a26⟩
  have e27 : Def l.prog w K mg base "near" ["n"] 9 (spNear C) f27 _ := ⟨ok_near F27 T TN e2 tk, b27, k27, m a27⟩
  have e28 : Def l.prog w K mg base "winner" ["weaving"] 1 spWin f28 _ := ⟨ok_win F28 T TB, b28, k28, m a28⟩
  have e29 : Def l.prog w K mg base "is_boxed_weaving" ["thing"] 4 spBW f29 _ := ⟨ok_bw F29 T T2 U TB e3 e28, b29, k29, m a29⟩
  have eT : TDef l.prog w K mg base C cW f30 _ := ⟨ok_tell F30 T U TB R3 e19 e14 e29 e28, b30, k30, m a30⟩
  have e31 : Def l.prog w K mg base "_law_cell_at" ["_law_script", "_law_k"] 1 (spCell K) f31 _ := ⟨ok_cell F31 T, b31, k31, m a31⟩
  have e32 : Def l.prog w K mg base "_law_digit" ["_law_state", "_law_base"] 1 spDigit f32 _ := ⟨ok_digit F32 T, b32, k32, m a32⟩
  have e33 : Def l.prog w K mg base "_law_few" ["_law_state", "_law_great", "_law_most"] 2 spFew f33 _ := ⟨ok_few F33 T T2 e32, b33, k33, m a33⟩
  have e34 : Def l.prog w K mg base "_law_outs" ["_law_state", "_law_great"] 2 spOuts2 f34 _ := ⟨ok_outs2 F34 T T2 e32, b34, k34, m a34⟩
  have e35 : Def l.prog w K mg base "_law_parts" ["_law_state", "_law_most"] 3 spParts f35 _ := ⟨ok_parts F35 T T2 e32 e33 e34, b35, k35, m a35⟩
  have e36 : Def l.prog w K mg base "_law_weavings" [] 1 spWeavs f36 _ := ⟨ok_weavs F36 T, b36, k36, m a36⟩
  have e37 : Def l.prog w K mg base "_law_own" ["_law_told", "_law_answers", "_law_inputs", "_law_weaving"] 1 (spOwn C) f37 _ := ⟨ok_own F37 T, b37, k37, m a37⟩
  have e38 : Def l.prog w K mg base "_law_said" ["_law_task_here", "_law_thing", "_law_inputs", "_law_weaving"] 8 (spSaid C) f38 _ := ⟨ok_said F38 TS (saidB_ok xs0) eT, b38, k38, m a38⟩
  have e39 : Def l.prog w K mg base "_law_good" ["_law_task_here", "_law_inputs", "_law_outs_here", "_law_won"] 1 (spGood C) f39 _ := ⟨ok_good F39 T Zc, b39, k39, m a39⟩
  have e40 : Def l.prog w K mg base "_law_drawn" ["_law_state", "_law_task_here"] 2 (spDrawn C) f40 _ := ⟨ok_drawn F40 T Zc e32 prs, b40, k40, m a40⟩
  have e41 : Def l.prog w K mg base "_law_task" ["_law_state"] 10 (spTask C) f41 _ := ⟨ok_task F41 e32 e26 e27 e35 tk, b41, k41, m a41⟩
  have e42 : Def l.prog w K mg base "_law_right" ["_law_task_here", "_law_thing", "_law_rows"] 9 (spRight C) f42 _ := ⟨ok_right F42 Zc e37 e38 e39, b42, k42, m a42⟩
  exact ok_law F43 T T2 e36 e31 e41 e23 e42 e40 e25
theorem walk {l : PySem.W.OpenLaw} {q : Program} {loose : List Str} {XP : (Str → Option Value) → Heap → Prop} {YP : World → Heap → Prop} {d : DefRec} {K : Params → PySem.W.Frag} (hn : l.most = some 63) (hdf : d.params.defaults = [])
    (hY : ∀ (w : World) (h : Heap), YP w h → (K w.params).In h)
    (F : ∀ (w : World) (mg : Str → Option Value) (fa : Addr) (h : Heap), (K w.params).In h → h.Ns mainGlobals mg → mg d.name = some (.ref fa) →
      ∃ fd : FuncData, (∀ (s : Shared) (u : Value), BindsTo s fd ⟨[u], []⟩ [("_law_script", u)]) ∧ ∀ base : Heap, (K w.params).In base → base.Ns mainGlobals mg → FnOk l.prog w (K w.params) mg base CX0 11 fa fd ["_law_script"] (spLaw (K w.params))) :
    PySem.W.WalkO q loose XP YP l.row.toRowW d [] (fun f vs => PySem.call f vs) :=
  L2.walk_of (n := 63) (k := 11) (x := "_law_script") (CX := fun _ => CX0) (sp := fun w => spLaw (K w.params)) hn (by decide) hdf ⟨rfl, by decide, by decide⟩ hY F (fun _ _ a ns hl _ hS => ⟨a, ns, rfl, hS, hl, fun _ => rfl⟩) fun _ _ _ _ _ z => z
end TA
open PySem PySem.W PyProof.Rows
set_option maxRecDepth 100000 in
set_option maxHeartbeats 0 in
theorem PySem.Challenge.cw_twoalone_k83_whole_boxed_in_every_weavin_holds : PySem.Challenge.rw_twoalone_k83_whole_boxed_in_every_weavin.Holds := by
  w_on; o_law; k_head; (case hw => w_witness2)
  k_fill
  refine TA.walk (l := PySem.Challenge.rw_twoalone_k83_whole_boxed_in_every_weavin) rfl rfl (fun w h Y => PySem.W.kIn_of Y) ?F
  case F =>
    intro w mg fa h KX G hmg
    refine' TA.all_mk KX G hmg ?aC ?ya1 ?yi1 ?yl1 ?yc1 ?yk1 ?ya2 ?yi2 ?yl2 ?yc2 ?yk2 ?ya3 ?yi3 ?yl3 ?yc3 ?yk3 ?pg ?hd ?po ?sa ?mkC ?kC ?nA ?nB ?a1 ?l1 ?c1 ?k1 ?a2 ?l2 ?c2 ?k2 ?a3 ?l3 ?c3 ?k3 ?a4 ?l4 ?c4 ?k4 ?a5 ?l5 ?c5 ?k5 ?a6 ?l6 ?c6 ?k6 ?a7 ?l7 ?c7 ?k7 ?a8 ?l8 ?c8 ?k8 ?a9 ?l9 ?c9 ?k9 ?a10 ?l10 ?c10 ?k10 ?a11 ?l11 ?c11 ?k11 ?a12 ?l12 ?c12 ?k12 ?a13 ?l13 ?c13 ?k13 ?a14 ?l14 ?c14 ?k14 ?a15 ?l15 ?c15 ?k15 ?a16 ?l16 ?c16 ?k16 ?a17 ?l17 ?c17 ?k17 ?a18 ?l18 ?c18 ?k18 ?a19 ?l19 ?c19 ?k19 ?a20 ?l20 ?c20 ?k20 ?a21 ?l21 ?c21 ?k21 ?a22 ?l22 ?c22 ?k22 ?a23 ?l23 ?c23 ?k23 ?a24 ?l24 ?c24 ?k24 ?a25 ?l25 ?c25 ?k25 ?a26 ?l26 ?c26 ?k26 ?a27 ?l27 ?c27 ?k27 ?a28 ?l28 ?c28 ?k28 ?a29 ?l29 ?c29 ?k29 ?a30 ?l30 ?c30 ?k30 ?a31 ?l31 ?c31 ?k31 ?a32 ?l32 ?c32 ?k32 ?a33 ?l33 ?c33 ?k33 ?a34 ?l34 ?c34 ?k34 ?a35 ?l35 ?c35 ?k35 ?a36 ?l36 ?c36 ?k36 ?a37 ?l37 ?c37 ?k37 ?a38 ?l38 ?c38 ?k38 ?a39 ?l39 ?c39 ?k39 ?a40 ?l40 ?c40 ?k40 ?a41 ?l41 ?c41 ?k41 ?a42 ?l42 ?c42 ?k42 ?a43 ?l43 ?c43 ?k43 ?z0 ?z1 ?z2 ?z3 ?z4 ?z5 ?z6 ?z7 ?z8 ?z9 ?z10 ?z11 ?z12 ?z13 ?z14 ?z15 ?i0 ?i1 ?i2 ?i3 ?t0 ?u0 ?n0 ?n1 ?n2 ?n3 ?q_cW ?kk_cW ?r_cW ?xs0
    (case aC => k_is); (case ya1 => k_is); (case yi1 => k_is); (case yl1 => k_is); (case yc1 => k_is); (case yk1 => k_is); (case ya2 => k_is); (case yi2 => k_is); (case yl2 => k_is); (case yc2 => k_is); (case yk2 => k_is); (case ya3 => k_is); (case yi3 => k_is); (case yl3 => k_is); (case yc3 => k_is); (case yk3 => k_is); (case pg => k_is); (case hd => k_is); (case po => k_is); (case sa => k_is); (case mkC => k_is); (case kC => k_is); (case nA => k_is); (case nB => k_is)
    (case a1 => k_is); (case l1 => k_is); (case c1 => k_is); (case k1 => k_is); (case a2 => k_is); (case l2 => k_is); (case c2 => k_is); (case k2 => k_is); (case a3 => k_is); (case l3 => k_is); (case c3 => k_is); (case k3 => k_is); (case a4 => k_is); (case l4 => k_is); (case c4 => k_is); (case k4 => k_is); (case a5 => k_is); (case l5 => k_is); (case c5 => k_is); (case k5 => k_is); (case a6 => k_is); (case l6 => k_is); (case c6 => k_is); (case k6 => k_is); (case a7 => k_is); (case l7 => k_is); (case c7 => k_is); (case k7 => k_is); (case a8 => k_is); (case l8 => k_is); (case c8 => k_is); (case k8 => k_is); (case a9 => k_is); (case l9 => k_is); (case c9 => k_is); (case k9 => k_is); (case a10 => k_is); (case l10 => k_is); (case c10 => k_is); (case k10 => k_is); (case a11 => k_is); (case l11 => k_is); (case c11 => k_is); (case k11 => k_is); (case a12 => k_is); (case l12 => k_is); (case c12 => k_is); (case k12 => k_is); (case a13 => k_is); (case l13 => k_is); (case c13 => k_is); (case k13 => k_is); (case a14 => k_is); (case l14 => k_is); (case c14 => k_is); (case k14 => k_is); (case a15 => k_is); (case l15 => k_is); (case c15 => k_is); (case k15 => k_is); (case a16 => k_is); (case l16 => k_is); (case c16 => k_is); (case k16 => k_is); (case a17 => k_is); (case l17 => k_is); (case c17 => k_is); (case k17 => k_is); (case a18 => k_is); (case l18 => k_is); (case c18 => k_is); (case k18 => k_is); (case a19 => k_is); (case l19 => k_is); (case c19 => k_is); (case k19 => k_is); (case a20 => k_is); (case l20 => k_is); (case c20 => k_is); (case k20 => k_is); (case a21 => k_is); (case l21 => k_is); (case c21 => k_is); (case k21 => k_is); (case a22 => k_is); (case l22 => k_is); (case c22 => k_is); (case k22 => k_is); (case a23 => k_is); (case l23 => k_is); (case c23 => k_is); (case k23 => k_is); (case a24 => k_is); (case l24 => k_is); (case c24 => k_is); (case k24 => k_is); (case a25 => k_is); (case l25 => k_is); (case c25 => k_is); (case k25 => k_is); (case a26 => k_is); (case l26 => k_is); (case c26 => k_is); (case k26 => k_is); (case a27 => k_is); (case l27 => k_is); (case c27 => k_is); (case k27 => k_is); (case a28 => k_is); (case l28 => k_is); (case c28 => k_is); (case k28 => k_is); (case a29 => k_is); (case l29 => k_is); (case c29 => k_is); (case k29 => k_is); (case a30 => k_is); (case l30 => k_is); (case c30 => k_is); (case k30 => k_is); (case a31 => k_is); (case l31 => k_is); (case c31 => k_is); (case k31 => k_is); (case a32 => k_is); (case l32 => k_is); (case c32 => k_is); (case k32 => k_is); (case a33 => k_is); (case l33 => k_is); (case c33 => k_is); (case k33 => k_is); (case a34 => k_is); (case l34 => k_is); (case c34 => k_is); (case k34 => k_is); (case a35 => k_is); (case l35 => k_is); (case c35 => k_is); (case k35 => k_is); (case a36 => k_is); (case l36 => k_is); (case c36 => k_is); (case k36 => k_is); (case a37 => k_is); (case l37 => k_is); (case c37 => k_is); (case k37 => k_is); (case a38 => k_is); (case l38 => k_is); (case c38 => k_is); (case k38 => k_is); (case a39 => k_is); (case l39 => k_is); (case c39 => k_is); (case k39 => k_is); (case a40 => k_is); (case l40 => k_is); (case c40 => k_is); (case k40 => k_is); (case a41 => k_is); (case l41 => k_is); (case c41 => k_is); (case k41 => k_is); (case a42 => k_is); (case l42 => k_is); (case c42 => k_is); (case k42 => k_is); (case a43 => k_is); (case l43 => k_is); (case c43 => k_is); (case k43 => k_is); (case z0 => k_is); (case z1 => k_is); (case z2 => k_is); (case z3 => k_is); (case z4 => k_is); (case z5 => k_is); (case z6 => k_is); (case z7 => k_is); (case z8 => k_is); (case z9 => k_is); (case z10 => k_is); (case z11 => k_is); (case z12 => k_is); (case z13 => k_is); (case z14 => k_is); (case z15 => k_is); (case i0 => k_is); (case i1 => k_is); (case i2 => k_is); (case i3 => k_is); (case t0 => k_is); (case u0 => k_is); (case n0 => k_is); (case n1 => k_is); (case n2 => k_is); (case n3 => k_is); (case q_cW => k_exc); (case kk_cW => k_is); (case r_cW => kernel_rfl); (case xs0 => kernel_rfl)
