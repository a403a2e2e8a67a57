import PyProof.Rows.All
import Wide.All
import OpenK.AllK
import Wide.FinOn
import HandS.ForMost
import HandS.IsInst
import HandS.DictTup
import HandS.Conv
import HandS.TupSets
import HandS.Walk
import HandS.SetBool
import HandS.DictComp
import HandS.Strs
import HandS.SetFor
import KE.KDictCopyH
import KE.KDictDisplayH
import PyProof.ReprRoads
import PyProof.CallFns
import PyProof.ReprLen
import KE.DataFind
import HandS.Lambda
import HandS.EndTab
import KE.KDictOf
import PyProof.DictMoreH
import HandS.Wide
import HandS.Defaults
import HandS.ExcIs
import HandS.ForExc
import HandS.More
import HandS.Deep
import HandS.TupLen
import HandS.EndBits
import KE.KNestM
import PySem.Challenge.RW_twoalone_k87_boxed_telling_refused
set_option Elab.async false
set_option maxRecDepth 100000
set_option maxHeartbeats 4000000
namespace L2
open PySem PySem.Spec PyProof.Rows
set_option linter.unusedVariables false
/-! dicts with tuple keys: their items walked, their keys sorted -/
section
variable {X : Cx} {pins : List (Addr × Obj)} {σ : St} {H : Hp} {s : Shared} {d : Addr} {o : Obj}
/-- a locked dict of tuple keys as it lies: its entries, the keys' tuples, the values -/
theorem Inv.entriesT {kvs : List (List Key × V)} (I : Inv X pins σ H s) (locked : H d = some (.frz o (.dT kvs))) :
    (d == sysModules) = false ∧ ∃ (es : Array DictEntry) (ep : Nat), o.data = .dict es ep ∧ DT.Raw s.heap d es ep ∧ es.size = kvs.length ∧
      ∀ (i : Nat) (k : List Key) (v : V), kvs[i]? = some (k, v) → ∃ (hi : i < es.size) (q : Addr), es[i].key = .ref q ∧ H q = some (.tup (k.map kV)) ∧ RelV v es[i].val := by
  obtain ⟨there, _, notSys, xs, pairs, o', es, ep, found, exact', data, rows, _⟩ := I.hok d _ locked
  rw [there] at found
  cases found
  have sizes : es.size = kvs.length := (size_of_entries rows).trans (Paired.length pairs).symm
  refine ⟨notSys, es, ep, data, ⟨o, there, exact', data⟩, sizes, fun i k v e => ?_⟩
  obtain ⟨b, hb, e1, e2, e3⟩ := paired_get pairs e
  have hi : i < es.size := by rw [sizes]; exact (List.getElem?_eq_some_iff.mp e).1
  have q := entry_at rows i
  rw [hb, Array.getElem?_eq_getElem hi] at q
  have q' : es[i] = entryOfKey (tupleKind (mixKind X.prog X.w)) b := Option.some.inj q
  exact ⟨hi, b.2.1, by rw [q']; rfl, e2, by rw [q']; exact e3⟩
end
/-- the items of the locked dict at d: each a new pair of the key's own tuple and the value -/
def Itit (d : Addr) (o : Obj) (kvs : List (List Key × V)) : It :=
  ⟨fun i H => H d = some (.frz o (.dT kvs)) ∧ i < kvs.length,
   fun i H x H' => ∃ (T q : Addr) (k : List Key) (v : V), kvs[i]? = some (k, v) ∧ H q = some (.tup (k.map kV)) ∧ x = .ref T ∧ H T = none ∧ H' = upd H T (.tup [.ref q, v]),
   fun i H => H d = some (.frz o (.dT kvs)) ∧ kvs.length ≤ i⟩
theorem turn_itemsT {P : Program} {w : World} {K : PySem.W.Frag} {d : Addr} {o : Obj} {es : Array DictEntry} {ep : Nat} {kvs : List (List Key × V)} {elts : List Expr} {kk : Nat} {tpos : Pos} (it : Addr) (hod : o.data = .dict es ep) :
    Turn P w K (.Tuple elts kk tpos) (Itit d o kvs) [it] it (fun i h => ∃ ok ov, IsItemIter h it d i kvs.length ep ok ov) where
  mem := by simp
  obj := fun i h ⟨ok, ov, e⟩ b hb => by
    rw [List.mem_singleton.mp hb]
    exact ⟨_, e, fun v z => nomatch z⟩
  keep := fun i h h' ⟨ok, ov, e⟩ k => ⟨ok, ov, k it (by simp) _ e⟩
  item := by
    rintro X rfl rfl rfl hc i pins s σ H E I hf ⟨ok, ov, he⟩ ⟨hd, hi⟩
    obtain ⟨_, es', ep', hdt, raw, hsz, ent⟩ := I.entriesT hd
    obtain ⟨rfl, rfl⟩ := dict_ep hod hdt
    obtain ⟨⟨k, v⟩, hkv⟩ : ∃ p, kvs[i]? = some p := ⟨kvs[i], List.getElem?_eq_getElem hi⟩
    obtain ⟨hi', q, hkey, hq, rv⟩ := ent i k v hkv
    rw [← hsz] at he
    have hlt : it < s.heap.objs.size := Heap.lt_size he
    refine DT.nextI he raw hi' fun h' out laid grown kept => ?_
    refine ⟨_, rfl, wpAny_letOwnedTupleGo_items (s := { s with heap := h' }) out fun h'' he' sb => ?_⟩
    have laid2 : h''.get? s.heap.objs.size = some { cls := .type "tuple", data := .seq #[es'[i].key, es'[i].val] } := (sb.2 _ (Nat.ne_of_gt hlt)).trans laid
    have pair : ObjOk X.prog X.w (upd H s.heap.objs.size (.tup [.ref q, v])) h'' s.heap.objs.size (.tup [.ref q, v]) :=
      ⟨by show 2 ≤ sizeLine; decide, [es'[i].key, es'[i].val], .cons hkey (.cons rv .nil), ⟨_, laid2, rfl, _, rfl⟩⟩
    have I1 : Inv X pins σ (upd H s.heap.objs.size (.tup [.ref q, v])) { s with heap := h'' } :=
      I.turnedNew (t' := s.toks) (ch := [it]) (fun b ob hb e => (sb.2 b (fun z => hb (List.mem_singleton.mpr z))).trans (kept b ob (fun z => hb (List.mem_singleton.mpr z)) e)) hf (Nat.le_refl _) pair
    refine ⟨.ref s.heap.objs.size, _, I1, rfl, ⟨_, q, k, v, hkv, hq, rfl, I.hok.fresh (Nat.le_refl _), rfl⟩, ⟨es'[i].key, es'[i].val, by rw [← hsz]; exact he'⟩, fun b hb => ?_⟩
    rw [List.mem_singleton.mp hb, upd_ne (Nat.ne_of_lt hlt)]
    exact (hf it (by simp)).1
  done := by
    rintro X rfl rfl rfl hc i pins s σ H E I hf ⟨ok, ov, he⟩ ⟨hd, hi⟩
    obtain ⟨f0, f1, f2, f3, f4, f5⟩ := hf it (by simp)
    obtain ⟨_, es', ep', hdt, raw, hsz, ent⟩ := I.entriesT hd
    obtain ⟨rfl, rfl⟩ := dict_ep hod hdt
    rw [← hsz] at he
    exact DT.endI (I.ok.hd hc) he raw (by omega) fun h' eb => ⟨rfl, I.turned (t' := s.toks) (fun b ob hb e => eb b ob hb e) f0 f1 f3 f4 f5⟩
  self := fun A i s Q E ⟨_, _, e⟩ h => PySem.W.kcp_self e h
/-- for a, b in e.items(): e a locked dict of tuple keys -/
def iItemsT (td : TE) : TI := fun σ H R => td σ H fun x H1 => ∃ d o kvs, x = .ref d ∧ H1 d = some (.frz o (.dT kvs)) ∧ R (Itit d o kvs) H1
theorem pi_itemsT {X : Cx} {e : Expr} {td : TE} {apos cpos : Pos} {elts : List Expr} {kk : Nat} {tpos : Pos} (he : PE X e td) (hbase : attributeBase e "items" X.env (eval e X.env) = eval e X.env := by rfl) (hline : (apos.endLine == cpos.line) = true := by rfl) :
    PI X (.Tuple elts kk tpos) (.Call (.Attribute e "items" apos) [] [] cpos) (iItemsT td) := by
  refine ⟨fun pins s σ H R I h => ?_⟩
  refine wpAny_Call_method (T := "dict") (id := "dict.items") hbase rfl hline F.plainAttrs_dict F.slot_dict_items F.type_dict_items (thn (he.run pins s σ H _ I h) fun u s1 ⟨x, H1, I1, rx, d, o, kvs, ex, hd, q⟩ => ?_)
  subst ex
  obtain rfl : u = Value.ref d := rx
  obtain ⟨notSys, es, ep, hdt, raw, hsz, ent⟩ := I1.entriesT hd
  refine ⟨raw.typeIs, fun b z => ?_, ?_⟩
  · cases z
    obtain ⟨ob, h1, h2, h3⟩ := raw
    exact ⟨ob, h1, h2.2.1⟩
  have I2 : Inv X pins σ H1 { s1 with heap := s1.heap.push { cls := .type "dict_items", data := .fields #[.ref d] } } := I1.kept (t' := s1.toks) fun b ob q => Heap.get?_push_of_some _ q
  have walk : wpAny (model X.prog X.w) X.A (pyIter (.ref s1.heap.objs.size)) (PIE X pins σ (.Tuple elts kk tpos) R) X.xe { s1 with heap := s1.heap.push { cls := .type "dict_items", data := .fields #[.ref d] } } := by
    refine DT.iterI (d := d) ⟨_, Heap.get?_push_size _ rfl, rfl, rfl⟩ (raw.push _) (pi_one (tk := s1.toks) I2 _ (turn_itemsT _ hdt) ⟨.none, .none, ?_⟩ q)
    rw [← hsz]
    exact Heap.get?_push_size _ rfl
  show wpAny _ _ (callWith cpos (.builtin "dict.items") [.ref d] [] []) _ X.xe s1
  exact method_meetsIn F.slot_dict_items F.entry_dict_items rfl (PySem.evalArgs_none ⟨rfl, raw.typeIs, F.args_dict_items_1 _, _, DT.meetsItems (es := es) (ep := ep) notSys, raw, walk⟩)
end L2

set_option Elab.async false
set_option maxRecDepth 100000
set_option maxHeartbeats 4000000
namespace L2
open PySem PySem.Spec PyProof.Rows
set_option linter.unusedVariables false
/-! one core for comprehensions that gather into any thing: what is laid first, and what a turn adds, are parameters -/
section
variable {X : Cx}
/-- the walk of a comprehension that gathers at D: o0 is what stands there first; add says what one turn does to it -/
def tGather (o0 : Addr → HO) (wi : TI) (g : TG) (tt : TT) (add : Addr → St → Hp → (Hp → Prop) → Prop) (vs : List Nat) : TE := fun σ H Q =>
  wi σ H fun J H1 => ∀ D, H1 D = none → ∃ W : Nat → Nat → Hp → Prop, (∃ m, W 0 m (upd H1 D (o0 D))) ∧ ∀ i m H, W i m H →
    (J.stop i H ∧ Q (.ref D) H) ∨
    (J.go i H ∧ ∃ Nx : Hp → Prop, (∀ H', Nx H' → ∃ m', m' < m ∧ W (i + 1) m' H') ∧
      ∀ x H', J.yld i H x H' → g x (wipe σ vs) H' fun σ2 H2 => wipe σ2 vs = wipe σ vs ∧ tt σ2 H2 fun b H3 => if b = true then add D σ2 H3 Nx else Nx H3)
/-- one turn as the machine does it: the next thing, the target, the tests, then Body or the way back -/
def TurnIs (P : Program) (w : World) (A : Around) (target iter : Expr) (ifs : List Expr) (it : Value) (env : Env) (R : Result → Shared → Prop) (Body : (Shared → Prop) → Shared → Prop) (back : Shared → Prop) (s : Shared) : Prop :=
  wpAny (model P w) A (pyNext it) (fun r s₁ => match r with
    | none => R (.ok .next) s₁
    | some v => wpAny (model P w) A (letOwnedTupleGo target it v) (fun _ s₁' =>
        wpAny (model P w) A (assign target env v) (fun _ s₂ =>
          wpAny (model P w) A (forIn ifs true fun c r => if r = true then do let ok ← isTrue c env (eval c env); pure (ForInStep.yield ok) else pure (ForInStep.yield r))
            (fun ok s₃ => if ok = true then Body back s₃ else back s₃) (notedBy (model P w) A env fun e s' => R (.error e) s') s₂)
          (notedBy (model P w) A env fun e s' => R (.error e) s') s₁')
        (notedBy (model P w) A env fun e s' => R (.error e) s') s₁)
    (notedBy (model P w) A env fun e s' => R (.error e) s') s
variable {pins : List (Addr × Obj)} {s : Shared} {σ : L2.St} {H : Hp} {Q : VK} {node tg iter : Expr} {ifs : List Expr} {scope : Scope} {own : List (PySem.Str × Nat)} {pos' : Pos} {wi : TI} {g : TG} {tt : TT}
  {add : Addr → L2.St → Hp → (Hp → Prop) → Prop} {o0 : Addr → HO} {ob : Obj} {mk : Sem Value} {use : Option (Value → Sem Unit)} {Qf : Value → Shared → Prop} {Body : Value → Env → (Result → Shared → Prop) → (Shared → Prop) → Shared → Prop}
theorem gather_core (hc : X.calm = true) (hN : X.N.Nodup) (I : Inv X pins σ H s) (hi : PI X tg iter wi) (ok : BlkOk X.N X.env.scope scope own) (hcl : clausesOf node = [⟨tg, iter, ifs, 0⟩])
    (hmk : ∀ (A : Around) (E : Value → Shared → Prop) (s : Shared) (Q : Value → Shared → Prop), Q (.ref s.heap.objs.size) { s with heap := s.heap.push ob } → wpAny (model X.prog X.w) A mk Q E s)
    (hob : ∀ (h : Heap) (H : Hp), sysModules < h.objs.size → ObjOk X.prog X.w H (h.push ob) h.objs.size (o0 h.objs.size))
    (hloop : ∀ (it : Value) (D : Addr) (env : Env) (R : Result → Shared → Prop) (I : Nat → Shared → Prop), (∀ n s, I n s → TurnIs X.prog X.w X.A tg iter ifs it env R (Body (.ref D) env R) (fun s' => ∃ m, m < n ∧ I m s') s) →
      ∀ n s, I n s → codeAny (model X.prog X.w) X.A (.compLoop node 0 it (.ref D) env) R s)
    (hstart : ∀ (it acc : Value) (env : Env) (R : Result → Shared → Prop) (s : Shared), codeAny (model X.prog X.w) X.A (.compLoop node 0 it acc env) R s →
      wpAny (model X.prog X.w) X.A (pyIter it) (fun it' s' => codeAny (model X.prog X.w) X.A (.compLoop node 0 it' acc env) R s') (notedBy (model X.prog X.w) X.A env fun x s' => R (.error x) s') s →
      codeAny (model X.prog X.w) X.A (.compStart node 0 it acc env) R s)
    (hg : ∀ (s : Shared) (H : Hp) (C : Addr) (cl : List (PySem.Str × Addr)) (fp : List Addr), PG (X.blk s H scope (compEnvC scope cl C X.env) fp) tg g)
    (ht : ∀ (s : Shared) (H : Hp) (C : Addr) (cl : List (PySem.Str × Addr)) (fp : List Addr), PTs (X.blk s H scope (compEnvC scope cl C X.env) fp) ifs tt)
    (hadd : ∀ (s : Shared) (H : Hp) (C : Addr) (cl : List (PySem.Str × Addr)) (fp : List Addr) (D : Addr) (R : Result → Shared → Prop) (Nx : Hp → Prop) (back : Shared → Prop) (pins' : List (Addr × Obj)) (σ2 : L2.St) (H3 : Hp) (s3 : Shared),
      Inv (X.blk s H scope (compEnvC scope cl C X.env) fp) pins' σ2 H3 s3 → add D σ2 H3 Nx → (∀ s' H', Inv (X.blk s H scope (compEnvC scope cl C X.env) fp) pins' σ2 H' s' → Nx H' → back s') → Body (.ref D) (compEnvC scope cl C X.env) R back s3)
    (hs : ∀ x, foldedSetIterable iter X.env x = pure x) (h : tGather o0 wi g tt add (own.map (·.2)) σ H Q)
    (hRR : ∀ D C s' m H', Inv X pins σ H' s' → Q (.ref D) H' → s'.heap.Ns C m → FpOk X pins H' C → compPost (model X.prog X.w) X.A X.xe use Qf (.ref D) C (.ok .next) s') :
    wpAny (model X.prog X.w) X.A (comprehension node scope X.env pos' mk false (eval iter X.env) use) Qf X.xe s := by
  have free : ∀ y ∈ scope.names, y.2 = .free → ∃ c, X.env.cells.lookup y.1 = some c := fun y hy e => (ok.free y hy e).elim (fun k => I.ok.has _ (.inl k)) (fun k => I.ok.has _ (.inr k))
  refine wpAny_comprehension_free (use := use) hcl hs (closure_ok free) ok.kind (fun y hy e => by rw [ok.uniq y hy, e]) (thn (hi.run pins s σ H _ I h) fun xv s1 hx => thn hx fun itv s2 h2 => ?_)
  obtain ⟨it, fp, tn, J, H2, e, I2, T, st2, f2, q⟩ := h2
  subst e
  refine hmk _ _ _ _ (newEnv_comp ?_)
  obtain ⟨W, ⟨m0, w0⟩, turn⟩ := q s2.heap.objs.size (I2.hok.fresh (Nat.le_refl _))
  have I3 : Inv X pins σ (upd H2 s2.heap.objs.size (o0 s2.heap.objs.size)) ({ s2 with heap := s2.heap.push ob } : Shared) :=
    I2.laid (t' := s2.toks) (fun b o e => Heap.get?_push_of_some _ e) (Nat.le_refl _) (hob _ _ I2.big)
  have f3 : ∀ b ∈ fp, FpOk X pins (upd H2 s2.heap.objs.size (o0 s2.heap.objs.size)) b ∧ b < (s2.heap.push ob).objs.size := fun b hb => by
    obtain ⟨o, e, _⟩ := T.obj _ _ st2 b hb
    have lt := Heap.lt_size e
    exact ⟨⟨by rw [upd_ne (Nat.ne_of_lt lt)]; exact (f2 b hb).1, (f2 b hb).2⟩, by rw [Heap.size_push]; exact Nat.lt_succ_of_lt lt⟩
  have st3 : tn 0 (s2.heap.push ob) := T.keep _ _ _ st2 fun b _ o e => Heap.get?_push_of_some _ e
  generalize hD : s2.heap.objs.size = D at I3 w0 turn f3 ⊢
  generalize hs3 : ({ s2 with heap := s2.heap.push ob } : Shared) = s3 at I3 ⊢
  have h3 : s3.heap = s2.heap.push ob := by rw [← hs3]
  rw [← h3] at f3 st3
  generalize upd H2 D (o0 D) = H3 at I3 w0 f3
  have I4 := block_start I3 ok hN f3
  have pg := hg s3 H3 s3.heap.objs.size (cellsFrom (s3.heap.objs.size + 1) scope.names (cloFrom X.env.cells scope.names [])) fp
  have pt := ht s3 H3 s3.heap.objs.size (cellsFrom (s3.heap.objs.size + 1) scope.names (cloFrom X.env.cells scope.names [])) fp
  have pa := hadd s3 H3 s3.heap.objs.size (cellsFrom (s3.heap.objs.size + 1) scope.names (cloFrom X.env.cells scope.names [])) fp
  show codeAny _ _ (.compStart node 0 (.ref it) (.ref D) (compEnvC scope (cellsFrom (s3.heap.objs.size + 1) scope.names (cloFrom X.env.cells scope.names [])) s3.heap.objs.size X.env)) (compPost (model X.prog X.w) X.A X.xe use Qf (.ref D) s3.heap.objs.size) { s3 with heap := pushCells (s3.heap.push { cls := .type "dict", data := .dict #[] }) scope.names }
  generalize hce : compEnvC scope (cellsFrom (s3.heap.objs.size + 1) scope.names (cloFrom X.env.cells scope.names [])) s3.heap.objs.size X.env = ce at I4 pg pt pa ⊢
  have cL : ce.locals = s3.heap.objs.size := by subst hce; rfl
  generalize hs4 : ({ s3 with heap := pushCells (s3.heap.push { cls := .type "dict", data := .dict #[] }) scope.names } : Shared) = s4 at I4 ⊢
  have st4 : tn 0 s4.heap := T.keep _ _ _ st3 fun b _ o e => by rw [← hs4]; exact pushCells_keeps _ _ _ _ (Heap.get?_push_of_some _ e)
  have still : ∀ {σ' : L2.St} {H' : Hp} {s' : Shared}, Inv (X.blk s3 H3 scope ce fp) [] σ' H' s' → (∀ b ∈ fp, H' b = none) → ∀ b ∈ fp, FpOk (X.blk s3 H3 scope ce fp) [] H' b := fun I' hn b hb =>
    ⟨hn b hb, (I'.ok.exf b hb).1, I'.ok.exfs b hb, .inl hb, fun x c e => (I'.ok.exf b hb).2 x c e, fun p hp => absurd (show p ∈ ([] : List (Addr × Obj)) ++ [] from hp) (by simp)⟩
  have loop := hloop (.ref it) D ce (compPost (model X.prog X.w) X.A X.xe use Qf (.ref D) s3.heap.objs.size)
    (fun n s' => ∃ i H', Inv (X.blk s3 H3 scope ce fp) [] (wipe σ (own.map (·.2))) H' s' ∧ tn i s'.heap ∧ (∀ b ∈ fp, H' b = none) ∧ W i n H') ?_ m0 s4 ⟨0, H3, I4, st4, fun b hb => (f3 b hb).1.1, w0⟩
  · exact hstart _ _ _ _ _ loop (T.self X.A 0 _ _ _ st4 loop)
  rintro n s5 ⟨i, H5, I5, st5, n5, w5⟩
  rcases turn i n H5 w5 with ⟨stop, qq⟩ | ⟨go, Nx, hNx, step⟩
  · refine thnF (T.done (X.blk s3 H3 scope ce fp) rfl rfl rfl hc i [] s5 _ H5 (fun _ _ => False) I5 (still I5 n5) st5 stop) fun r s6 ⟨hr, I6⟩ => ?_
    subst hr
    have I7 : Inv X pins σ H5 s6 := I3.call' (ch := fp) I6.os I6.base I6.hok I6.bare fun b hb => ⟨(f3 b hb).1.2.2.2.1, (f3 b hb).1.2.1, (f3 b hb).1.2.2.2.2.1, (f3 b hb).1.2.2.2.2.2⟩
    have nC : H5 s3.heap.objs.size = none := by
      have z : H5 ce.locals = none := I6.free
      rwa [cL] at z
    obtain ⟨m, hn, _⟩ := I6.loc
    have hn : s6.heap.Ns ce.locals m := hn
    rw [cL] at hn
    exact hRR D s3.heap.objs.size s6 m H5 I7 qq hn (I3.fpOk (Nat.le_refl _) nC)
  · refine thnF (T.item (X.blk s3 H3 scope ce fp) rfl rfl rfl hc i [] s5 _ H5 (fun _ _ => False) I5 (still I5 n5) st5 go) fun r s6 ⟨u, hr, h6⟩ => ?_
    subst hr
    refine thnF h6 fun _ s7 ⟨x, H7, I7, r7, y7, st7, n7⟩ => ?_
    refine thnF (pg.run _ s7 _ H7 x u _ (I7.pinned (still I7 n7) (T.obj _ _ st7)) r7 (step x H7 y7)) fun _ s8 ⟨σ8, H8, I8, hw8, q8⟩ => ?_
    refine thnF (pt.run _ s8 σ8 H8 _ I8 q8) fun b s9 ⟨H9, I9, q9⟩ => ?_
    have again : ∀ (s' : Shared) (H' : Hp), Inv (X.blk s3 H3 scope ce fp) ([] ++ pinsAt fp s7.heap) σ8 H' s' → Nx H' → ∃ m, m < n ∧ ∃ i H', Inv (X.blk s3 H3 scope ce fp) [] (wipe σ (own.map (·.2))) H' s' ∧ tn i s'.heap ∧ (∀ b ∈ fp, H' b = none) ∧ W i m H' := fun s' H' I' nx => by
      obtain ⟨m', hm, w'⟩ := hNx H' nx
      have stands : ∀ b ∈ fp, ∀ o, s7.heap.get? b = some o → s'.heap.get? b = some o ∧ H' b = none := fun b hb o e =>
        let z := I'.pin (b, o) (List.mem_append_right _ (List.mem_append_right _ (mem_pinsAt hb e)))
        ⟨z.1, z.2.1⟩
      refine ⟨m', hm, i + 1, H', (I'.unpinned (pins := [])).weak (by rw [← hw8, wipe_length]) (fun j v e => ?_), T.keep _ _ _ st7 fun b hb o e => (stands b hb o e).1, fun b hb => ?_, w'⟩
      · rw [← hw8] at e
        exact (wipe_some e).1
      · obtain ⟨o, e, _⟩ := T.obj _ _ st7 b hb
        exact (stands b hb o e).2
    cases b with
    | false => exact again s9 H9 I9 q9
    | true => exact pa D _ Nx _ _ σ8 H9 s9 I9 q9 again
end
end L2

set_option Elab.async false
set_option maxRecDepth 100000
set_option maxHeartbeats 4000000
namespace L2
open PySem PySem.Spec PyProof.Rows PpSet
set_option linter.unusedVariables false
/-! the core taken twice: sets of ints, dicts with tuple keys; len of a set -/
/-- a set as it is made -/
abbrev bareSet (w : World) : Obj := { cls := .type "set", dict := none, data := .set #[] 0 (.fresh 0 0 (!w.params.followText "set-order")) }
section
variable {X : Cx}
/-- a turn of {e for ..}, e an int -/
def addI (w : World) (te : TE) : Addr → L2.St → Hp → (Hp → Prop) → Prop := fun D σ H Nx => te σ H fun y H1 => ∃ (k : Int) (S : Int → Bool) (n : Nat), y = .int k ∧ H1 D = some (SetO w D S n) ∧ n + 1 < scanBound ∧
  Nx (upd H1 D (SetO w D (fun j => S j || decide (j = k)) (if S k = true then n else n + 1)))
theorem pe_scI {elt tg iter : Expr} {ifs : List Expr} {scope : Scope} {own : List (PySem.Str × Nat)} {pos : Pos} {wi : TI} {g : TG} {tt : TT} {te : TE} (hc : X.calm = true) (hN : X.N.Nodup) (hi : PI X tg iter wi) (ok : BlkOk X.N X.env.scope scope own)
    (hg : ∀ (s : Shared) (H : Hp) (C : Addr) (cl : List (PySem.Str × Addr)) (fp : List Addr), PG (X.blk s H scope (compEnvC scope cl C X.env) fp) tg g)
    (ht : ∀ (s : Shared) (H : Hp) (C : Addr) (cl : List (PySem.Str × Addr)) (fp : List Addr), PTs (X.blk s H scope (compEnvC scope cl C X.env) fp) ifs tt)
    (he : ∀ (s : Shared) (H : Hp) (C : Addr) (cl : List (PySem.Str × Addr)) (fp : List Addr), PE (X.blk s H scope (compEnvC scope cl C X.env) fp) elt te)
    (hs : ∀ x, foldedSetIterable iter X.env x = pure x := by intro _; rfl) :
    PE X (.SetComp elt [⟨tg, iter, ifs, 0⟩] scope pos) (tGather (fun D => SetO X.w D (fun _ => false) 0) wi g tt (addI X.w te) (own.map (·.2))) := by
  refine ⟨fun pins s σ H Q I h => ?_⟩
  rw [eval_SetComp]
  refine gather_core (ob := bareSet X.w) (mk := newSet (.type "set")) (o0 := fun D => SetO X.w D (fun _ => false) 0) (add := addI X.w te)
    (Body := fun acc env R back s => wpAny (model X.prog X.w) X.A (eval elt env) (fun x s4 => wpAny (model X.prog X.w) X.A (call (.builtin "set.add") [acc, x]) (fun _ s5 => back s5) (notedBy (model X.prog X.w) X.A env fun e s' => R (.error e) s') s4)
      (notedBy (model X.prog X.w) X.A env fun e s' => R (.error e) s') s)
    hc hN I hi ok rfl (fun A E s Q q => newSet_ok q) (fun h H hb => setO_new (setR_fresh X.w)) (fun it D env R I turn n s => compLoopS_any I turn n) (fun it acc env R s a b => codeAny_compStart_set a b) hg ht ?_ hs h ?_
  · intro s H C cl fp D R Nx back pins' σ2 H3 s3 I3 q3 k
    refine thnF ((he s H C cl fp).run _ s3 σ2 H3 _ I3 q3) fun z s4 ⟨yv, H4, I4, r4, n, S, m, ey, hD, room, nx⟩ => ?_
    subst ey
    obtain ⟨tk, rfl⟩ := r4
    refine setR_add (setO_get (X := X.blk s H scope (compEnvC scope cl C X.env) fp) I4 hD) room fun h' sb new => k _ _ (I4.write (e := D) (t' := s4.toks + 1) (by rw [hD]; trivial) (.inl rfl) (fun b u hb hu => (sb.2 b hb).trans hu) ?_ (setO_new new)) nx
    have ⟨o, _, _, _, ho, _⟩ := new
    exact ⟨o, ho⟩
  · intro D C s' m H' I' q hn ⟨f0, f1, f2, f3, f4, f5⟩
    exact ⟨m, hn, fun h'' sb => ⟨.ref D, H', I'.turned (t' := s'.toks) (fun b o hb e => (sb.2 b hb).trans e) f0 f1 f3 f4 f5, rfl, q⟩⟩
/-- len of such a set -/
def rLenSI (w : World) : List V → Hp → VK → Prop := fun xs H Q => ∃ (a : Addr) (S : Int → Bool) (n : Nat), xs = [.ref a] ∧ H a = some (SetO w a S n) ∧ Q (.int (n : Int)) H
theorem call_len_SI : CallR X (.builtin "len") (rLenSI X.w) := by
  intro pins s σ H vs us Q I r h
  obtain ⟨a, S, n, rfl, ha, q⟩ := h
  rw [Vals.ref1 r]
  obtain ⟨o, es, ep, t, ho, hex, hd, _, _, _, small, fits, hn, _⟩ := setO_get I ha
  have lim : es.size < 2 ^ 62 := Nat.lt_trans small (by unfold scanBound; decide)
  refine call_len_set ho hex hd fits (by omega) ⟨.int n, H, (I.tok _).tok _, ⟨_, by rw [hn]⟩, q⟩
/-- a turn of {k: e for ..}, k a tuple of ints and texts -/
def addT (tk tv : TE) : Addr → L2.St → Hp → (Hp → Prop) → Prop := fun D σ H Nx => tk σ H fun y H1 => tv σ H1 fun z H2 => ∃ (kvs : List (List Key × V)) (k : List Key) (b : Addr), y = .ref b ∧ H2 b = some (.tup (k.map kV)) ∧ H2 D = some (.dT kvs) ∧ kvs.length < sizeLine ∧
  Nx (upd H2 D (.dT (putK kvs k z)))
theorem pe_dcT {kx vx tg iter : Expr} {ifs : List Expr} {scope : Scope} {own : List (PySem.Str × Nat)} {pos : Pos} {wi : TI} {g : TG} {tt : TT} {tk tv : TE} (hu : X.A.units + 1 < cLine) (hc : X.calm = true) (hN : X.N.Nodup) (hi : PI X tg iter wi) (ok : BlkOk X.N X.env.scope scope own)
    (hg : ∀ (s : Shared) (H : Hp) (C : Addr) (cl : List (PySem.Str × Addr)) (fp : List Addr), PG (X.blk s H scope (compEnvC scope cl C X.env) fp) tg g)
    (ht : ∀ (s : Shared) (H : Hp) (C : Addr) (cl : List (PySem.Str × Addr)) (fp : List Addr), PTs (X.blk s H scope (compEnvC scope cl C X.env) fp) ifs tt)
    (hk : ∀ (s : Shared) (H : Hp) (C : Addr) (cl : List (PySem.Str × Addr)) (fp : List Addr), PE (X.blk s H scope (compEnvC scope cl C X.env) fp) kx tk)
    (he : ∀ (s : Shared) (H : Hp) (C : Addr) (cl : List (PySem.Str × Addr)) (fp : List Addr), PE (X.blk s H scope (compEnvC scope cl C X.env) fp) vx tv)
    (hs : ∀ x, foldedSetIterable iter X.env x = pure x := by intro _; rfl) :
    PE X (.DictComp kx vx [⟨tg, iter, ifs, 0⟩] scope pos) (tGather (fun _ => .dT []) wi g tt (addT tk tv) (own.map (·.2))) := by
  refine ⟨fun pins s σ H Q I h => ?_⟩
  rw [arm_eval_DictComp]
  refine gather_core (ob := { cls := .type "dict", data := .dict #[] }) (mk := newDict) (o0 := fun _ => .dT []) (add := addT tk tv)
    (Body := fun acc env R back s => match acc with
      | .ref D => wpAny (model X.prog X.w) X.A (eval kx env) (fun kv s4 => wpAny (model X.prog X.w) X.A (eval vx env) (fun vv s5 => wpAny (model X.prog X.w) X.A (dictSet D kv vv) (fun _ s6 => back s6) (notedBy (model X.prog X.w) X.A env fun e s' => R (.error e) s') s5)
          (notedBy (model X.prog X.w) X.A env fun e s' => R (.error e) s') s4) (notedBy (model X.prog X.w) X.A env fun e s' => R (.error e) s') s
      | _ => False)
    hc hN I hi ok rfl (fun A E s Q q => wpAny_newObj_type q) (fun h H hb => dt_empty h hb) (fun it D env R I turn n s => compLoop_anyD I turn n) (fun it acc env R s a b => codeAny_compStart_dict a b) hg ht ?_ hs h ?_
  · intro s H C cl fp D R Nx back pins' σ2 H3 s3 I3 q3 k
    refine thnF ((hk s H C cl fp).run _ s3 σ2 H3 _ I3 q3) fun z s4 ⟨yk, H4, I4, r4, q4⟩ => ?_
    refine thnF ((he s H C cl fp).run _ s4 σ2 H4 _ I4 q4) fun z2 s5 ⟨yv, H5, I5, r5, kvs, ks, b, ey, hb, hD, hz, nx⟩ => ?_
    subst ey
    cases (show z = Value.ref b from r4)
    obtain ⟨hl, hd, xs, rel, dd⟩ := dt_of I5.hok hD
    have hz' : xs.length ≤ sizeLine := by rw [← Paired.length rel]; exact hl
    have grown : (putK kvs ks yv).length ≤ sizeLine := by have := length_putK kvs ks yv; omega
    refine wpAny_dictSet_heap (hsz := hz') (show X.A.units < cLine by omega) (key_of I5.hok hb) dd fun h' dd' same => k _ _ ?_ nx
    obtain ⟨q, es, ep, hq, h2, h3, h4, _, h5⟩ := dd'
    refine d_write I5 (by rw [hD]; exact True.intro) same ⟨q, hq⟩ ⟨grown, hd, _, (rel.put ks hb r5).keeps fun c ys ec => ?_, q, es, ep, hq, h2, h3, h4, h5⟩
    rw [upd_ne (ne_of ec hD (fun z => nomatch z))]
    exact ec
  · intro D C s' m H' I' q hn ⟨f0, f1, f2, f3, f4, f5⟩
    exact ⟨m, hn, fun h'' sb => ⟨.ref D, H', I'.turned (t' := s'.toks) (fun b o hb e => (sb.2 b hb).trans e) f0 f1 f3 f4 f5, rfl, q⟩⟩
end
end L2

set_option Elab.async false
set_option maxRecDepth 100000
set_option maxHeartbeats 4000000
namespace L2
open PySem PySem.Spec PyProof.Rows
set_option linter.unusedVariables false
/-! sorted(d), d a dict whose keys are tuples of ints -/
def rSortDT (d : Nat) (B : Int) : List V → Hp → VK → Prop := fun vs H Q => ∃ (a : Addr) (kvs : List (List Key × V)) (nss : List (List Int)), vs = [V.ref a] ∧ Rd H a (.dT kvs) ∧ kvs.map (·.1) = nss.map (fun ns => ns.map Sum.inl) ∧ nss.length < 64 ∧
  (∀ ns ∈ nss, ns.length = d ∧ TS.Bd B ns) ∧
  ∀ (L : List (Addr × List Int)) (p : Addr), (L.map (·.2)).Perm nss → L.Pairwise (fun q r => TS.code B q.2 ≤ TS.code B r.2) → (∀ q ∈ L, H q.1 = some (.tup (q.2.map V.int))) → H p = none → Q (.ref p) (upd H p (.lst (L.map fun q => V.ref q.1)))
theorem inl_inj : ∀ {a b : List Int}, a.map (Sum.inl : Int → Key) = b.map Sum.inl → a = b
  | [], [], _ => rfl
  | x :: a, y :: b, e => by
    rw [List.map_cons, List.map_cons] at e
    injection e with e1 e2
    rw [Sum.inl.inj e1, inl_inj e2]
  | [], _ :: _, e => by cases e
  | _ :: _, [], e => by cases e
section
variable {X : Cx}
theorem cr_sortedDT {d : Nat} {B : Int} (hd1 : 1 ≤ d) (hc : X.calm = true) : CallR X (.builtin "sorted") (rSortDT d B) := by
  intro pins s σ H vs us Q I r h
  obtain ⟨a, kvs, nss, rfl, hR, hkeys, few, hB, q⟩ := h
  rw [Vals.ref1 r]
  obtain ⟨hz, notSys, ks, pairs, o, es, ep, ho, hx, hdt, rows, nd⟩ := (show ObjOk X.prog X.w H s.heap a (.dT kvs) from hR.ok I.hok)
  have l1 : es.size = ks.length := size_of_entries rows
  have l2 : kvs.length = ks.length := Paired.length pairs
  have l3 : kvs.length = nss.length := by have e := congrArg List.length hkeys; rwa [List.length_map, List.length_map] at e
  -- each row: its tuple, by number
  have row : ∀ (j : Nat) (x : List Key × Addr × Value), ks[j]? = some x → ∃ ns, nss[j]? = some ns ∧ H x.2.1 = some (.tup (ns.map V.int)) := fun j x hj => by
    have lt : j < kvs.length := by have := (List.getElem?_eq_some_iff.mp hj).1; omega
    obtain ⟨b, hb, e1, e2, _⟩ := paired_get pairs (List.getElem?_eq_getElem lt)
    rw [hj] at hb
    cases hb
    have e3 : (kvs.map (·.1))[j]? = some kvs[j].1 := by rw [List.getElem?_map, List.getElem?_eq_getElem lt]; rfl
    rw [hkeys, List.getElem?_map] at e3
    obtain ⟨ns, hns, e4⟩ := Option.map_eq_some_iff.mp e3
    refine ⟨ns, hns, ?_⟩
    rw [e2, ← e4, List.map_map]
    rfl
  refine Calls.call_function_entry kind_sorted plain_sorted entry_sorted (args_sorted1 _) ?_
  unfold Builtin.«sorted»
  refine wpAny_bind (m := checkCount "sorted" 1 1 _) (wpAny_pure ?_)
  refine wpAny_bind (PySem.W.kdu_collect (A := X.A.in1) (kdl_raw notSys hx hdt) (I.ok.hd hc) ho (by omega) fun h' tk acc kept its => ?_)
  have eq : acc.toList = ks.map fun x => Value.ref x.2.1 := by
    apply List.ext_getElem?
    intro j
    rw [List.getElem?_map]
    rcases Nat.lt_or_ge j ks.length with lt | ge
    · have hacc : j < acc.toList.length := by rw [Array.length_toList, its.1, l1]; exact lt
      obtain ⟨en, hen, hv⟩ := its.2 j acc.toList[j] (by rw [← Array.getElem?_toList]; exact List.getElem?_eq_getElem hacc)
      have qe := entry_at rows j
      rw [hen, List.getElem?_eq_getElem lt] at qe
      have e2 : en = entryOfKey (tupleKind (mixKind X.prog X.w)) ks[j] := Option.some.inj qe
      rw [List.getElem?_eq_getElem hacc, List.getElem?_eq_getElem lt, hv, e2]
      rfl
    · rw [List.getElem?_eq_none (by rw [Array.length_toList, its.1, l1]; exact ge), List.getElem?_eq_none ge]
      rfl
  have I1 : Inv X pins σ H { s with heap := h', toks := tk } := I.kept kept
  refine wpAny_bind (wpAny_newList ?_ (by rw [eq, List.length_map, sizeLine_eq]; omega))
  have made : (h'.push (seqObj "list" acc.toList.toArray 0)).get? h'.objs.size = some (seqObj "list" acc.toList.toArray 0) := Heap.get?_push_size _ rfl
  generalize hvs : acc.toList = vs at made eq ⊢
  have I2 : Inv X pins σ H { s with heap := h'.push (seqObj "list" vs.toArray 0), toks := tk } := I1.kept (t' := tk) fun b o e => Heap.get?_push_of_some _ e
  have tups : ∀ v ∈ vs, ∃ (b : Addr) (ns : List Int), v = .ref b ∧ ns ∈ nss ∧ H b = some (.tup (ns.map V.int)) ∧ TS.TupInts (h'.push (seqObj "list" vs.toArray 0)) v ns := fun v hv => by
    rw [eq] at hv
    obtain ⟨x, hx, rfl⟩ := List.mem_map.mp hv
    obtain ⟨j, hj⟩ := List.getElem?_of_mem hx
    obtain ⟨ns, h1, h2⟩ := row j x hj
    obtain ⟨_, ws, rv, it⟩ := (show ObjOk X.prog X.w H (h'.push (seqObj "list" vs.toArray 0)) x.2.1 (.tup (ns.map V.int)) from I2.hok _ _ h2)
    exact ⟨_, ns, rfl, List.mem_of_getElem? h1, h2, _, ws.toArray, rfl, it, by simpa using rv.ints⟩
  show wpAny _ _ _ _ _ { s with heap := h'.push (seqObj "list" vs.toArray 0), toks := tk }
  refine wpAny_bind (wpAny_holding (TS.call_sort_tups (d := d) (B := B) (s := { s with heap := h'.push (seqObj "list" vs.toArray 0), toks := tk }) made (by rw [eq, List.length_map]; omega) hd1 (fun v hv => ?_) fun out a1 a2 => ?_))
  · obtain ⟨b, ns, _, h1, _, h2⟩ := tups v hv
    exact ⟨ns, h2, (hB ns h1).1, (hB ns h1).2⟩
  obtain ⟨e', he'⟩ := sortedHeap_at (vs := vs) (out := out) made
  have kept2 : ∀ b u, h'.get? b = some u → (sortedHeap (h'.push (seqObj "list" vs.toArray 0)) h'.objs.size vs out).get? b = some u := fun b u e => by
    have hb : b < h'.objs.size := Heap.lt_size e
    rw [sortedHeap_old (Nat.ne_of_lt hb) (by rw [size_push']; exact Nat.lt_succ_of_lt hb)]
    exact Heap.get?_push_of_some _ e
  -- the rows that come out
  have L0 : ∀ ws : List Value, (∀ v ∈ ws, v ∈ vs) → ∃ L : List (Addr × List Int), ws = L.map (fun q => Value.ref q.1) ∧ L.map (·.2) = ws.map (TS.intsOf (h'.push (seqObj "list" vs.toArray 0))) ∧ ∀ q ∈ L, H q.1 = some (.tup (q.2.map V.int)) := by
    intro ws
    induction ws with
    | nil => intro _; exact ⟨[], rfl, rfl, fun q hq => by cases hq⟩
    | cons v ws ih =>
      intro hv
      obtain ⟨b, ns, e, _, h2, h3⟩ := tups v (hv v List.mem_cons_self)
      obtain ⟨L, e1, e2, e3⟩ := ih fun u hu => hv u (List.mem_cons_of_mem _ hu)
      refine ⟨(b, ns) :: L, by rw [List.map_cons, e, e1], by rw [List.map_cons, List.map_cons, e2, h3.ints], fun q hq => ?_⟩
      rcases List.mem_cons.mp hq with rfl | z
      · exact h2
      · exact e3 q z
  obtain ⟨L, e1, e2, e3⟩ := L0 out.toList fun v hv => a1.mem_iff.mp hv
  have lenL : (L.map fun q => V.ref q.1).length ≤ sizeLine := by
    have e4 := a1.length_eq
    rw [e1, eq, List.length_map, List.length_map] at e4
    rw [List.length_map, e4, sizeLine_eq]; omega
  refine wpAny_pure ⟨_, rfl, .ref h'.objs.size, upd H h'.objs.size (.lst (L.map fun q => V.ref q.1)), I1.laid (t' := tk) kept2 (Nat.le_refl _)
    (show ObjOk X.prog X.w _ _ _ (.lst (L.map fun q => V.ref q.1)) from ⟨lenL, out.toList, e', by rw [e1]; exact vals_of_refs L, he'⟩), rfl, q L _ ?_ ?_ e3 (I1.hok.fresh (Nat.le_refl _))⟩
  · rw [e2]
    have all : ∀ F : Value → List Int, (∀ (j : Nat) (x : List Key × Addr × Value), ks[j]? = some x → nss[j]? = some (F (.ref x.2.1))) → vs.map F = nss := fun F hF => by
      rw [eq, List.map_map]
      apply List.ext_getElem?
      intro j
      rw [List.getElem?_map]
      cases hj : ks[j]? with
      | none => rw [List.getElem?_eq_none (by have := List.getElem?_eq_none_iff.mp hj; omega)]; rfl
      | some x => rw [hF j x hj]; rfl
    refine (a1.map _).trans (List.Perm.of_eq (all _ fun j x hj => ?_))
    obtain ⟨ns, h1, h2⟩ := row j x hj
    obtain ⟨_, ws, rv, it⟩ := (show ObjOk X.prog X.w H (h'.push (seqObj "list" vs.toArray 0)) x.2.1 (.tup (ns.map V.int)) from I2.hok _ _ h2)
    rw [h1]
    exact congrArg some (show TS.TupInts (h'.push (seqObj "list" vs.toArray 0)) (.ref x.2.1) ns from ⟨_, ws.toArray, rfl, it, by simpa using rv.ints⟩).ints.symm
  · rw [e1, List.pairwise_map] at a2
    have e5 : ∀ q ∈ L, TS.intsOf (h'.push (seqObj "list" vs.toArray 0)) (.ref q.1) = q.2 := fun q hq => by
      obtain ⟨_, ws, rv, it⟩ := (show ObjOk X.prog X.w H (h'.push (seqObj "list" vs.toArray 0)) q.1 (.tup (q.2.map V.int)) from I2.hok _ _ (e3 q hq))
      exact (show TS.TupInts (h'.push (seqObj "list" vs.toArray 0)) (.ref q.1) q.2 from ⟨_, ws.toArray, rfl, it, by simpa using rv.ints⟩).ints
    refine List.Pairwise.imp_of_mem (fun {x y} hx hy hle => ?_) a2
    rw [← e5 x hx, ← e5 y hy]
    exact hle
end
end L2

set_option Elab.async false
set_option maxRecDepth 100000
set_option maxHeartbeats 4000000
namespace L2
open PySem PySem.Spec PyProof.Rows
set_option linter.unusedVariables false
/-! set(xs), xs a list of ints, as a set that can be sorted -/
section
variable {P : Program} {w : World} {A : Around} {E : Value → Shared → Prop} {s : Shared}
theorem set_of_list {l : Addr} {items : Array Value} (ns : List Int) {Q : Value → Shared → Prop} (hh : A.handled = none) (hl : s.heap.IsList l items) (hit : IntsAre items.toList ns) (hb : ns.length + 1 < scanBound)
    (h : ∀ (h' : Heap) (tk c : Nat), SetR w h' s.heap.objs.size (fun j => decide (j ∈ ns)) c → c ≤ ns.length → (∀ b o, s.heap.get? b = some o → h'.get? b = some o) → Q (.ref s.heap.objs.size) { s with heap := h', toks := tk }) :
    wpAny (model P w) A (call (.type "set") [.ref l]) Q E s := by
  have sizes : items.size = ns.length := by rw [← Array.length_toList]; exact IntsAre.length hit
  obtain ⟨c, tl, hmro⟩ := F.called_set.mro
  have hmade := F.called_set.made
  have hsub := F.called_set.sub
  refine wpAny_call (codeAny_of_tree ?_)
  show wpAny (model P w) _ (callAny (.type "set") _) _ _ s
  refine wpAny_pure ⟨Code.quiet_builtin _ (by decide +kernel), codeAny_builtin F.entry_type_call ?_⟩
  rw [Around.under_plain (weight_type_call_type "set" [.ref l] []) rfl]
  have h1 := F.called_set.notType
  have h2 := F.called_set.canCreate
  have hct := F.typeCall_set_1 (.ref l)
  repeat (any_goals (first | assumption | wp_step))
  refine codeAny_mono (code_set_led1 (.ref l) (E := E) (Q₁ := fun obj s₁ => obj = .ref s.heap.objs.size ∧ s₁ = { s with heap := s.heap.push (bareSet w) }) ⟨rfl, rfl⟩) fun r s₁ hr => ?_
  match r, hr with
  | .error e, hr => exact hr
  | .ok .next, hr | .ok .brk, hr | .ok .cont, hr => exact hr.elim
  | .ok (.ret obj), hr =>
    obtain ⟨rfl, rfl⟩ := hr
    have laid : (s.heap.push (bareSet w)).get? s.heap.objs.size = some (bareSet w) := Heap.get?_push_size _ rfl
    have hT : Shared.TypeIs { s with heap := s.heap.push (bareSet w) } (.ref s.heap.objs.size) "set" := ⟨_, laid, rfl⟩
    have hli := F.called_set.init.lookup
    have hbi := F.called_set.init.bind (.ref s.heap.objs.size)
    repeat (any_goals (first | assumption | wp_step))
    refine codeAny_mono (codeAny_call_builtin (R := wants (fun r s₂ => r = .none ∧ ∃ h' tk c, s₂ = { s with heap := h', toks := tk } ∧ SetR w h' s.heap.objs.size (fun j => decide (j ∈ ns)) c ∧ c ≤ ns.length ∧
        (∀ b o, s.heap.get? b = some o → h'.get? b = some o)) E) F.called_set.init.plain F.entry_set_init (check_set_init_1 hT ?_)) fun r₂ s₂ hr₂ => ?_
    · obtain ⟨⟨ocls, odict, odata, oslots⟩, hol, hcl, nl, hdl⟩ := hl
      simp only at hcl hdl
      subst hcl; subst hdl
      have lS : l < s.heap.objs.size := Heap.lt_size hol
      have hol' : (s.heap.push (bareSet w)).get? l = some { cls := .type "list", dict := odict, data := .seq items nl, slots := oslots } := Heap.get?_push_of_some _ hol
      have hsls := F.sub_list_set
      have hslf := F.sub_list_frozenset
      have hne : (Value.type "list" == Value.type "dict") = false := by decide
      have hl1 : (s.heap.push (bareSet w)).IsList l items := ⟨_, hol', rfl, nl, rfl⟩
      unfold Builtin.«set.__init__» noKeywords Builtin.Frozenset.updateFrom
      generalize hPI : pyIter = PI
      wp_walk
      subst hPI
      refine wpAny_pyIter_list hl1 ?_
      refine wpAny_bind (wpAny_runValue ?_)
      have hh3 : A.in1.in1.in1.handled = none := by simp [hh]
      have pz : (s.heap.push (bareSet w)).objs.size = s.heap.objs.size + 1 := Heap.size_push ..
      have hneI : l ≠ (s.heap.push (bareSet w)).objs.size := by rw [pz]; exact Nat.ne_of_lt (Nat.lt_succ_of_lt lS)
      have away : s.heap.objs.size ∉ [(s.heap.push (bareSet w)).objs.size, l] := by
        rw [pz]; simp only [List.mem_cons, List.not_mem_nil, or_false, not_or]
        exact ⟨Nat.ne_of_lt (Nat.lt_succ_self _), Nat.ne_of_gt lS⟩
      have hval : ∀ (i : Nat) (v : Value), items[i]? = some v → ∃ k t, ns[i]? = some k ∧ v = .int k t := fun i v hv => by
        have hi : i < ns.length := by rw [← sizes]; exact (Array.getElem?_eq_some_iff.mp hv).1
        obtain ⟨t, e⟩ := IntsAre.int_at hit i v (by rw [Array.getElem?_toList]; exact hv)
        refine ⟨ns[i], t, List.getElem?_eq_getElem hi, ?_⟩
        rw [e, List.getD_eq_getElem?_getD, List.getElem?_eq_getElem hi]
        rfl
      refine set_update_ints ((Walks.list hh3 _ l hneI items).toS) s.heap.objs.size away ns sizes hb hval (items.size - 0) 0 _ (by omega) (Nat.zero_le _) ⟨⟨_, Heap.get?_push_size _ rfl, rfl, rfl⟩, (hl1.push _)⟩ ⟨0, Nat.le_refl 0, setR_new_at (Heap.get?_push_of_some _ laid)⟩ ?_
      intro s' c' hm hc' hS'
      obtain ⟨h', g2, d', tk', os'⟩ := s'
      cases (hm.gens : g2 = s.gens); cases (hm.drawn : d' = s.drawn); cases (hm.os : os' = s.os)
      show wpAny (model P w) _ _ _ _ _
      refine wpAny_pure ?_
      show wpAny (model P w) _ (ret Value.none) _ _ _
      rw [sizes] at hc'
      refine wpAny_pure ⟨rfl, h', tk', c', rfl, hS', hc', fun b o e => ?_⟩
      have b0 : b < s.heap.objs.size := Heap.lt_size e
      have b2 : b ≠ (s.heap.push (bareSet w)).objs.size := by rw [pz]; exact Nat.ne_of_lt (Nat.lt_succ_of_lt b0)
      exact hm.heap b o (by simp only [List.mem_cons, List.not_mem_nil, or_false, not_or]; exact ⟨Nat.ne_of_lt b0, b2⟩) (Heap.get?_push_of_some _ (Heap.get?_push_of_some _ e))
    · match r₂, hr₂ with
      | .error e, hr₂ => exact hr₂
      | .ok .next, hr₂ | .ok .brk, hr₂ | .ok .cont, hr₂ => exact hr₂.elim
      | .ok (.ret r), hr₂ =>
        obtain ⟨rfl, h', tk, c', rfl, hS', hc', hk'⟩ := hr₂
        repeat (any_goals (first | assumption | wp_step))
        exact h _ _ _ hS' hc' hk'
end
section
variable {X : Cx}
/-- set(xs), xs a list of ints -/
def rSetOfI (K : PySem.W.Frag) (w : World) : List V → Hp → VK → Prop := fun vs H Q => ∃ (l : Addr) (ns : List Int), vs = [V.ref l] ∧ SqL K H l (ns.map V.int) ∧ ns.length ≤ 1000 ∧
  ∀ (a : Addr) (c : Nat), H a = none → c ≤ ns.length → Q (.ref a) (upd H a (SetO w a (fun j => decide (j ∈ ns)) c))
theorem cr_setOfI (hc : X.calm = true) : CallR X (.type "set") (rSetOfI X.K X.w) := by
  intro pins s σ H vs us Q I r h
  obtain ⟨l, ns, rfl, hl, few, q⟩ := h
  rw [Vals.ref1 r]
  obtain ⟨its, rv, pl, hz⟩ := I.list hl
  refine set_of_list ns (I.ok.hd hc) pl.isList (by simpa using rv.ints) (by unfold scanBound; omega) fun h' tk c R hle kept => ?_
  exact ⟨.ref s.heap.objs.size, upd H s.heap.objs.size (SetO X.w s.heap.objs.size (fun j => decide (j ∈ ns)) c), I.laid (t' := tk) kept (Nat.le_refl _) (setO_new R), rfl, q _ c (I.hok.fresh (Nat.le_refl _)) hle⟩
end
end L2

set_option Elab.async false
set_option maxRecDepth 100000
set_option maxHeartbeats 4000000
namespace L2
open PySem PySem.Spec PyProof.Rows
set_option linter.unusedVariables false
/-! d.clear() of a dict with tuple keys -/
def rClearT : V → List V → Hp → VK → Prop := fun x vs H Q => ∃ (a : Addr) (kvs : List (List Key × V)), x = .ref a ∧ vs = [] ∧ H a = some (.dT kvs) ∧ Q .non (upd H a (.dT []))
theorem mt_clearT {X : Cx} : MtR X "dict.clear" rClearT := by
  intro pins s σ H x vs v us Q I rx rv h
  obtain ⟨a, kvs, ex, ev, e, q⟩ := h
  subst ex
  subst ev
  obtain rfl : v = Value.ref a := rx
  have hus := rv.zero
  subst hus
  obtain ⟨hz, notSys, ks, pairs, o, es, ep, ho, hx, hdt, rows, nd⟩ := (show ObjOk X.prog X.w H s.heap a (.dT kvs) from I.hok a _ e)
  have l1 : es.size = ks.length := size_of_entries rows
  have l2 : kvs.length = ks.length := Paired.length pairs
  have raw : s.heap.DictRaw a es ep := ⟨o, ho, hx, hdt⟩
  refine call_meetsIn PySem.F.slot_dict_clear raw.typeIs PySem.F.entry_dict_clear (PySem.F.args_dict_clear_1 _) (meets_dict_clear_raw a) ⟨es, ep, raw, by omega, fun h' dd' hs => ?_⟩
  obtain ⟨o', h1, h2, h3⟩ := dd'
  refine ⟨.non, _, d_write (ob := .dT []) (t' := s.toks) I (by rw [e]; exact True.intro) hs ⟨o', h1⟩ ⟨Nat.zero_le _, notSys, [], .nil, o', #[], ep + 1, h1, h2, h3, rfl, List.nodup_nil⟩, rfl, q⟩
end L2

set_option Elab.async false
set_option maxRecDepth 100000
set_option maxHeartbeats 4000000
namespace L2
open PySem PySem.Spec PyProof.Rows PpSet
set_option linter.unusedVariables false
/-! a display with tuples as keys -/
/-- the pairs that were made, as keys and values -/
abbrev PDt (H : Hp) : List (V × V) → List (List Key × V) → Prop := Paired fun p q => (∃ b, p.1 = .ref b ∧ H b = some (.tup (q.1.map kV))) ∧ p.2 = q.2
def mergeT (kvs more : List (List Key × V)) : List (List Key × V) := more.foldl (fun acc kv => putK acc kv.1 kv.2) kvs
theorem length_mergeT : ∀ (more kvs : List (List Key × V)), (mergeT kvs more).length ≤ kvs.length + more.length
  | [], kvs => by show kvs.length ≤ kvs.length + 0; omega
  | p :: r, kvs => by
    have a := length_mergeT r (putK kvs p.1 p.2)
    have b := length_putK kvs p.1 p.2
    show (mergeT (putK kvs p.1 p.2) r).length ≤ _
    rw [List.length_cons]; omega
theorem KT.merge {H : Hp} : ∀ {more : List (List Key × V)} {rs : List (List Key × Addr × Value)} {kvs : List (List Key × V)} {xs : List (List Key × Addr × Value)}, KT H more rs → KT H kvs xs → KT H (mergeT kvs more) (storedAllH xs rs) := by
  intro more rs kvs xs r
  unfold KT at r
  induction r generalizing kvs xs with
  | nil => intro q; exact q
  | @cons p q ps qs h t ih =>
    intro r0
    have e : KT H (putK kvs p.1 p.2) (storedH xs q.1 q.2.1 q.2.2) := by
      rw [← h.1]
      exact r0.put p.1 h.2.1 h.2.2
    exact ih e
theorem carriesT_of {P : Program} {w : World} {H : Hp} {h : Heap} (ok : HOk P w H h) : ∀ {ps : List (V × V)} {kvs : List (List Key × V)} {ws : List (Value × Value)}, VV ps ws → PDt H ps kvs → ∃ rs, CarriesH (tupleKind (mixKind P w)) h ws rs ∧ KT H kvs rs := by
  intro ps kvs ws r
  induction r generalizing kvs with
  | nil =>
    intro q
    cases q
    exact ⟨[], True.intro, .nil⟩
  | @cons p v ps vs hv t ih =>
    intro q
    cases q with
    | @cons _ kv _ kvs hk tk =>
      obtain ⟨rs, c, z⟩ := ih tk
      obtain ⟨⟨b, e1, hb⟩, e2⟩ := hk
      obtain ⟨v1, v2⟩ := v
      obtain ⟨r1, r2⟩ := hv
      rw [e1] at r1
      cases (show v1 = Value.ref b from r1)
      exact ⟨(kv.1, b, v2) :: rs, ⟨rfl, rfl, key_of ok hb, c⟩, .cons ⟨rfl, hb, e2 ▸ r2⟩ z⟩
/-- {(a, b): v, ..}; the new dict stands empty while the pairs are made -/
def tDispT (trs : List (TE × TE)) : TE := fun σ H Q => ∀ p, H p = none → tPairs trs σ (upd H p (.dT [])) fun ps H2 => H2 p = some (.dT []) ∧ ∃ kvs : List (List Key × V), PDt H2 ps kvs ∧ kvs.length ≤ 15 ∧ Q (.ref p) (upd H2 p (.dT (mergeT [] kvs)))
theorem pe_dispT {X : Cx} {pos : Pos} {keys : List (Option Expr)} {values : List Expr} {trs : List (TE × TE)} (hu : X.A.units + 1 < cLine) (h : PPs X pos keys values trs) (hall : keys.all (·.isSome) = true) (hl : keys.length = values.length) (h0 : keys ≠ [])
    (h15 : keys.length ≤ 15) : PE X (.Dict keys values pos) (tDispT trs) := by
  refine ⟨fun pins s σ H Q I q => ?_⟩
  have hn := I.hok.fresh (Nat.le_refl s.heap.objs.size)
  have I1 := I.laid (a := s.heap.objs.size) (o := .dT []) (h' := s.heap.push { cls := .type "dict", data := .dict #[] }) (t' := s.toks) (fun _ _ q => Heap.get?_push_of_some _ q) (Nat.le_refl _) (dt_empty s.heap I.big)
  have hlen := pairTrees_length keys values X.env pos hall hl
  have hne : pairTrees keys values X.env pos ≠ [] := fun he => by
    rw [he] at hlen
    exact h0 (List.length_eq_zero_iff.mp hlen.symm)
  rw [arm_eval_Dict, zip_pairTrees keys values X.env pos hall hl, dictDisplay_pairs _ hne (by omega)]
  refine wpAny_bind (wpAny_standAt (wpAny_bind (wpAny_subDictH (knd := tupleKind (mixKind X.prog X.w)) (show X.A.units < cLine by omega) (by omega) (thn (h.run pins _ σ _ _ I1 (q _ hn)) fun ws s2 ⟨ps, H2, I2, rel, e, kvs, pt, lk, q2⟩ => ?_))))
  obtain ⟨rs, c, rk⟩ := carriesT_of I2.hok rel pt
  obtain ⟨z, hd, vs0, r0, dd⟩ := dt_of I2.hok e
  cases r0
  refine ⟨rs, c, dd, fun h' tk dd' hs => wpAny_pure ⟨.ref s.heap.objs.size, _, ?_, rfl, q2⟩⟩
  have hz : (mergeT [] kvs).length ≤ sizeLine := by
    have h1 := length_mergeT kvs []
    rw [List.length_nil] at h1
    rw [sizeLine_eq]; omega
  obtain ⟨o, es, ep, ho, h2, h3, h4, _, h5⟩ := dd'
  refine d_write I2 (by rw [e]; exact True.intro) hs ⟨o, ho⟩ ⟨hz, hd, _, (rk.merge .nil).keeps fun c ys ec => ?_, o, es, ep, ho, h2, h3, h4, h5⟩
  rw [upd_ne (ne_of ec e (fun z => nomatch z))]
  exact ec
end L2

set_option Elab.async false
set_option maxRecDepth 100000
set_option maxHeartbeats 4000000
namespace L2
open PySem PySem.Spec PyProof.Rows
set_option linter.unusedVariables false
/-! t in s, s a set of tuples of ints that stands still -/
section
variable {P : Program} {w : World} {A : Around} {E : Value → Shared → Prop} {s : Shared}
variable {a : Addr} {L : List (Addr × List Int)} {es : Array (Int × Value)} {ep : Nat} {t : SetTable}
theorem nth_dummy (m : Nat) : ∀ (c : Nat) (q : SetTable.Probe), q.dummy = none → (nth m q c).dummy = none
  | 0, q, e => e
  | c + 1, q, e => nth_dummy m c (adv m q) (by unfold adv; split <;> exact e)
theorem seek {x : Addr} {k : List Int} (R : SetTR P w s.heap a L es ep t) (mine : IsT P w s.heap k x) (few : A.units < cLine) {end_ : Nat} {Q : SetFound → Shared → Prop}
    (ends : end_ < 10 * SetTable.turns t.mask) (free : way t.mask (thash P w k) end_ ∉ t.place.toList) (full : ∀ c, c < end_ → way t.mask (thash P w k) c ∈ t.place.toList)
    (yes : k ∈ L.map (·.2) → ∀ i, Q (.there (some i)) s) (no : k ∉ L.map (·.2) → ∀ j, Q (.free j false) s) :
    ∀ (fuel c : Nat) (at_ : Option SetTable.Probe), at_.getD (t.probeStart (thash P w k)) = nth t.mask (t.probeStart (thash P w k)) c → c ≤ end_ → end_ - c < fuel →
      (∀ (i : Nat) q, L[i]? = some q → q.2 = k → ∃ d, c ≤ d ∧ d < end_ ∧ t.place.toList[i]? = some (way t.mask (thash P w k) d)) →
      wpAny (model P w) A (setSearchFrom a (.ref x) (thash P w k) false fuel at_) Q E s := by
  intro fuel
  induction fuel with
  | zero => exact fun c at_ _ _ lt _ => absurd lt (Nat.not_lt_zero _)
  | succ n again =>
    intro c at_ here cle lt ahead
    obtain ⟨ob, got, exact_, dat⟩ := R.ob
    rw [setSearchFrom_succ]
    apply wpAny_bind
    apply wpAny_setState_of got dat R.fits
    dsimp only
    apply wp_if_neg R.gw
    try (apply wpAny_bind; apply wpAny_pure)
    have plain0 := nth_dummy t.mask c (t.probeStart (thash P w k)) rfl
    have join : ∀ d, nth t.mask (nth t.mask (t.probeStart (thash P w k)) c) d = nth t.mask (t.probeStart (thash P w k)) (c + d) := fun d => (nth_add t.mask c _ d).symm
    have spot : ∀ d, (nth t.mask (nth t.mask (t.probeStart (thash P w k)) c) d).j = way t.mask (thash P w k) (c + d) := fun d => congrArg (·.j) (join d)
    have hash_ : ∀ (i : Nat) q, L[i]? = some q → ((es[i]?.map (·.1)).getD 0) = thash P w q.2 := fun i q e => by
      rw [R.entry e] <;> rfl
    rcases go_spec t R.tab.ris R.tab.dm (fun i => (es[i]?.map (·.1)).getD 0) (thash P w k) (10 * SetTable.turns t.mask) (end_ - c) _ plain0 (by omega) (fun d lt => by rw [spot]; exact full _ (by omega)) (by rw [spot, Nat.add_sub_cancel' cle]; exact free) with ⟨d, i, dlt, at_i, hi, before, probe⟩ | ⟨before, probe⟩
    · rw [spot] at at_i probe
      rw [join] at probe
      have probe' : t.probe (fun i => (es[i]?.map (·.1)).getD 0) (thash P w k) (at_.getD (t.probeStart (thash P w k))) = some (.candidate (way t.mask (thash P w k) (c + d)) i (nth t.mask (t.probeStart (thash P w k)) (c + (d + 1)))) := by rw [here]; exact probe
      rw [probe']
      dsimp only
      have il : i < L.length := by
        have z1 := (List.getElem?_eq_some_iff.mp at_i).1
        have z2 := R.tab.sz
        rw [List.length_map] at z2
        rwa [Array.length_toList, z2] at z1
      obtain ⟨q, eq⟩ : ∃ q, L[i]? = some q := ⟨_, List.getElem?_eq_getElem il⟩
      have qm := List.mem_of_getElem? eq
      have inner : wpAny (model P w) A (searchRest a (.ref x) (thash P w k) false n es t (way t.mask (thash P w k) (c + d)) i (nth t.mask (t.probeStart (thash P w k)) (c + (d + 1)))) Q E s := by
        unfold searchRest
        rw [R.entry eq]
        dsimp only
        apply wpAny_bind
        apply wpAny_holding
        apply wpAny_eqBool_tuple few (R.tup q qm) mine
        apply wpAny_bind
        apply wpAny_setState_of got dat R.fits
        dsimp only
        apply wp_if_neg (by simp)
        try (apply wpAny_bind; apply wpAny_pure)
        rw [sameMem]
        dsimp only
        have live := slot_live R.tab.ris at_i
        simp only [if_true, live, R.entry eq]
        apply wpAny_bind
        apply wpAny_isSame_ref_self
        apply wpAny_bind
        apply wpAny_pure
        simp only [if_true]
        by_cases same : q.2 = k
        · apply wp_if_pos (by simp [same])
          exact wpAny_pure (yes (List.mem_map.mpr ⟨q, qm, same⟩) i)
        · apply wp_if_neg (by simp [same])
          apply again (c + (d + 1)) _ rfl (by omega) (by omega)
          intro i0 q0 e0 k0
          obtain ⟨d', l1, l2, l3⟩ := ahead i0 q0 e0 k0
          refine ⟨d', ?_, l2, l3⟩
          by_cases z : d' < c + d
          · refine absurd ((hash_ i0 q0 e0).trans (congrArg (thash P w) k0)) (before (d' - c) i0 (by omega) ?_)
            rw [spot, Nat.add_sub_cancel' l1]
            exact l3
          · by_cases y : d' = c + d
            · exfalso
              rw [y] at l3
              have live0 := slot_live R.tab.ris l3
              rw [live] at live0
              injection live0 with live0
              rw [← live0, eq] at e0
              cases e0
              exact same k0
            · omega
      by_cases led : t.led = true
      · apply wp_if_neg (by simp [led])
        try (apply wpAny_bind; apply wpAny_pure)
        exact inner
      · apply wp_if_pos (by simp [led])
        apply wpAny_bind
        apply seen_tup mine
        · intro y hy
          obtain ⟨e, me, rfl⟩ := List.mem_map.mp hy
          have me1 : e ∈ es.toList := (show e ∈ es ∧ _ by simpa using me).1.val
          rw [R.rows] at me1
          obtain ⟨q2, m2, rfl⟩ := List.mem_map.mp me1
          exact ⟨q2.2, q2.1, rfl, R.tup q2 m2⟩
        · apply wp_if_neg (by decide)
          try (apply wpAny_bind; apply wpAny_pure)
          exact inner
    · have probe' : t.probe (fun i => (es[i]?.map (·.1)).getD 0) (thash P w k) (at_.getD (t.probeStart (thash P w k))) = some (.empty (nth t.mask (nth t.mask (t.probeStart (thash P w k)) c) (end_ - c)).j none) := by rw [here]; exact probe
      rw [probe']
      dsimp only
      apply wpAny_pure
      apply no
      intro hm
      obtain ⟨q0, m0, k0⟩ := List.mem_map.mp hm
      obtain ⟨i0, e0⟩ := List.getElem?_of_mem m0
      obtain ⟨d', l1, l2, l3⟩ := ahead i0 q0 e0 k0
      refine before (d' - c) i0 (by omega) ?_ ((hash_ i0 q0 e0).trans (congrArg (thash P w) k0))
      rw [spot, Nat.add_sub_cancel' l1]
      exact l3
theorem seek_all {x : Addr} {k : List Int} (R : SetTR P w s.heap a L es ep t) (mine : IsT P w s.heap k x) (few : A.units < cLine) {Q : SetFound → Shared → Prop}
    (yes : k ∈ L.map (·.2) → ∀ i, Q (.there (some i)) s) (no : k ∉ L.map (·.2) → ∀ j, Q (.free j false) s) : wpAny (model P w) A (setSearch a (.ref x) (thash P w k)) Q E s := by
  have room := R.room
  obtain ⟨end_, ends, free, full⟩ := R.tab.first (by rw [List.length_map]; omega) (thash P w k)
  have turns : 10 * SetTable.turns t.mask ≤ 1420 := by
    unfold SetTable.turns
    rcases R.tab.mok with z | z | z <;> omega
  unfold setSearch
  apply seek R mine few ends free full yes no 100000 0 none rfl (Nat.zero_le _) (by omega)
  intro i q e hk
  have e' : (L.map fun p => thash P w p.2)[i]? = some (thash P w k) := by rw [List.getElem?_map, e, ← hk] <;> rfl
  have il : i < t.place.toList.length := by
    have z1 := (List.getElem?_eq_some_iff.mp e).1
    have z2 := R.tab.sz
    rw [List.length_map] at z2
    rw [Array.length_toList]
    omega
  obtain ⟨d, dlt, de⟩ := R.tab.before free e' (List.getElem?_eq_getElem il)
  exact ⟨d, Nat.zero_le _, dlt, by rw [List.getElem?_eq_getElem il, de]⟩
theorem find_tup {x : Addr} {k : List Int} (R : SetTR P w s.heap a L es ep t) (mine : IsT P w s.heap k x) (few : A.units < cLine) {Q : Option Nat → Shared → Prop} (h : ∀ r : Option Nat, r.isSome = decide (k ∈ L.map (·.2)) → Q r s) :
    wpAny (model P w) A (setFind a (.ref x) (thash P w k)) Q E s := by
  obtain ⟨ob, got, exact_, dat⟩ := R.ob
  unfold setFind setFindIn
  apply wpAny_bind
  apply wpAny_setState_of got dat R.fits
  dsimp only
  apply wp_if_neg (by simp [byScan, Value.scannable])
  try (apply wpAny_bind; apply wpAny_pure)
  apply wpAny_bind
  apply seek_all R mine few
  · intro m i
    exact wpAny_pure (h (some i) (by rw [decide_eq_true m]; rfl))
  · intro m j
    exact wpAny_pure (h none (by rw [decide_eq_false m]; rfl))
theorem holds_tup (neg : Bool) {x : Addr} {k : List Int} (R : SetTR P w s.heap a L es ep t) (mine : IsT P w s.heap k x) (few : A.units + 64 < cLine) {Q : Value → Shared → Prop} (h : ∀ tk, Q (.bool (if neg = true then !decide (k ∈ L.map (·.2)) else decide (k ∈ L.map (·.2)))) { s with toks := tk }) :
    wpAny (model P w) A (compareOp (if neg = true then .NotIn else .In) (.ref x) (.ref a)) Q E s := by
  have isSet : s.TypeIs (.ref a) "set" := by
    obtain ⟨ob, got, exact_, _⟩ := R.ob
    exact ⟨ob, got, exact_.1⟩
  have core : ∀ {Q' : Bool → Shared → Prop}, (∀ tk, Q' (decide (k ∈ L.map (·.2))) { s with toks := tk }) → wpAny (model P w) A (contains (.ref a) (.ref x)) Q' E s := by
    intro Q' h'
    unfold contains
    try with_reducible apply wpAny_holding
    apply wpAny_bind
    apply wpAny_specialOf isSet F.slot_set_contains.lookup
    show wpAny _ _ (if (some (Value.builtin "set.__contains__") == some Value.none) = true then _ else _) _ E s
    rw [if_neg (by rw [beq_builtin_none]; decide)]
    apply wpAny_bind
    apply wpAny_callSpecialUnlessNone?_slot (name := Str.ofString "__contains__") isSet F.slot_set_contains
    apply wpAny_call_entry F.slot_set_contains isSet entry_set_contains ?_ (F.args_set_contains_2 _ _)
    unfold Builtin.«frozenset.__contains__» Builtin.Frozenset.oneOther
    simp only [List.isEmpty_nil, bind_assoc]
    unfold Builtin.Frozenset.addrOf Builtin.Frozenset.withSetAsKey setContains
    apply wpAny_bind
    apply wpAny_pure
    try dsimp only
    apply wpAny_bind
    apply wpAny_pure
    try dsimp only
    apply wpAny_bind
    apply wpAny_tryCatch
    apply wpAny_holding
    apply wpAny_bind
    apply wpAny_pyHash_tuple ?_ mine
    apply wpAny_bind
    apply find_tup (s := { s with toks := s.toks + (k.length + 1) }) R mine ?_
    · intro r er
      apply wpAny_pure
      show wpAny _ _ (ret (Value.bool r.isSome)) _ _ _
      rw [er]
      exact wpAny_pure ⟨_, rfl, wpAny_truthy_bool (h' _)⟩
    all_goals (show A.units + 1 < cLine; omega)
  cases neg with
  | true =>
    show wpAny _ _ (do return .bool (!(← contains (.ref a) (.ref x)))) Q E s
    apply wpAny_bind
    exact core fun tk => wpAny_pure (h tk)
  | false =>
    show wpAny _ _ (do return .bool (← contains (.ref a) (.ref x))) Q E s
    apply wpAny_bind
    exact core fun tk => wpAny_pure (h tk)
end
section
variable {X : Cx}
/-- x in s, s a set of tuples of ints -/
def rInSetT (neg : Bool) (K : PySem.W.Frag) (P : Program) (w : World) : R2 := fun x y H Q => ∃ (b a : Addr) (k : List Int) (L : List (Addr × List Int)), x = .ref b ∧ y = .ref a ∧ SqT K H b (k.map V.int) ∧ H a = some (SetTO P w a L) ∧ (∀ q ∈ L, SqT K H q.1 (q.2.map V.int)) ∧ Q (.bl (if neg = true then !decide (k ∈ L.map (·.2)) else decide (k ∈ L.map (·.2)))) H
theorem or_setT (neg : Bool) (hu : X.A.units + 64 < cLine) : OpR X (compareOp (if neg = true then .NotIn else .In)) (rInSetT neg X.K X.prog X.w) := by
  intro pins s σ H x y v u Q I rx ry h
  obtain ⟨b, a, k, L, rfl, rfl, tup, isSet, rows, q⟩ := h
  cases rx
  cases ry
  have R0 : SetT0 X.prog X.w s.heap a L := (I.hok a _ isSet).1
  obtain ⟨es, ep, t, R⟩ := R0.full fun p hp => I.isT (rows p hp)
  exact holds_tup neg R (I.isT tup) hu fun tk => ⟨.bl _, H, I.tok tk, rfl, q⟩
theorem op_inSetT (hu : X.A.units + 64 < cLine) : OpR X (compareOp .In) (rInSetT false X.K X.prog X.w) := or_setT false hu
theorem op_notInSetT (hu : X.A.units + 64 < cLine) : OpR X (compareOp .NotIn) (rInSetT true X.K X.prog X.w) := or_setT true hu
end
end L2

set_option Elab.async false
set_option maxRecDepth 100000
set_option maxHeartbeats 4000000
namespace L2
open PySem PySem.Spec PyProof.Rows
set_option linter.unusedVariables false
/-! data in which dicts with tuple keys may stand -/
def keyD1 : Key → PyData
  | .inl i => .int i
  | .inr s => .str s
def keyD (k : List Key) : PyData := .tuple (k.map keyD1)
mutual
inductive DX (K : PySem.W.Frag) (H : Hp) : V → PyData → Prop
  | flat {v : V} {d : PyData} : Dp K H v d → d.hasDict = false → DX K H v d
  | lst {a : Addr} {xs : List V} {ds : List PyData} : SqL K H a xs → DXs K H xs ds → DX K H (.ref a) (.list ds)
  | tup {a : Addr} {xs : List V} {ds : List PyData} : SqT K H a xs → DXs K H xs ds → DX K H (.ref a) (.tuple ds)
  | dic {a : Addr} {kvs : List (List Key × V)} {vs : List V} {ds : List PyData} {es : List (PyData × PyData)} : H a = some (.dT kvs) → vs = kvs.map (·.2) → DXs K H vs ds → es.map (·.1) = kvs.map (fun kv => keyD kv.1) → es.map (·.2) = ds → DX K H (.ref a) (.dict es)
inductive DXs (K : PySem.W.Frag) (H : Hp) : List V → List PyData → Prop
  | nil : DXs K H [] []
  | cons {v : V} {vs : List V} {d : PyData} {ds : List PyData} : DX K H v d → DXs K H vs ds → DXs K H (v :: vs) (d :: ds)
end
theorem keyD1_dp {K : PySem.W.Frag} {H : Hp} : ∀ k : List Key, DpAll K H (k.map kV) (k.map keyD1)
  | [] => .nil
  | .inl i :: k => .cons (.int i) (keyD1_dp k)
  | .inr s :: k => .cons (.str s) (keyD1_dp k)
theorem keyD1_no : ∀ k : List Key, PyData.hasDictAll (k.map keyD1) = false
  | [] => rfl
  | .inl i :: k => by
    show (false || PyData.hasDictAll (k.map keyD1)) = false
    rw [keyD1_no k]
    rfl
  | .inr s :: k => by
    show (false || PyData.hasDictAll (k.map keyD1)) = false
    rw [keyD1_no k]
    rfl
section
variable {X : Cx} {pins : List (Addr × Obj)} {σ : L2.St} {H : Hp} {s : Shared}
/-- what may be shown of a value -/
def Shw (P : Program) (w : World) (h : Heap) (u : Value) (d : PyData) : Prop := (∃ as, Reads h u d as) ∧ (d.showable = true → d.shown.length ≤ sizeLine → ∃ bs, ReadAtMost h d.depth bs ∧ ReprK P w bs h d.depth u d.shown)
def ShwS (P : Program) (w : World) (h : Heap) (us : List Value) (ds : List PyData) : Prop := (∃ as, ReadsAll h us ds as) ∧ (PyData.showableAll ds = true → (∀ t ∈ PyData.shownAll ds, t.length ≤ sizeLine) → ∃ bs, ReadAtMost h (PyData.depthAll ds) bs ∧ ReprAllK P w bs h (PyData.depthAll ds) us (PyData.shownAll ds))
theorem shw_nil {P : Program} {w : World} {h : Heap} : ShwS P w h [] [] := ⟨⟨_, .nil⟩, fun _ _ => ⟨[], fun _ m => (nomatch m), by rw [PyData.shownAll]; exact .nil⟩⟩
theorem shw_cons {P : Program} {w : World} {h : Heap} {u : Value} {us : List Value} {d : PyData} {ds : List PyData} (a : Shw P w h u d) (b : ShwS P w h us ds) : ShwS P w h (u :: us) (d :: ds) := by
  obtain ⟨⟨as, ra⟩, ga⟩ := a
  obtain ⟨⟨bs, rb⟩, gb⟩ := b
  refine ⟨⟨_, .cons ra rb⟩, fun hs hz => ?_⟩
  rw [PyData.showableAll, Bool.and_eq_true] at hs
  rw [PyData.shownAll] at hz
  obtain ⟨p, p1, p2⟩ := ga hs.1 (hz _ List.mem_cons_self)
  obtain ⟨q, q1, q2⟩ := gb hs.2 fun t m => hz t (List.mem_cons_of_mem _ m)
  rw [PyData.depthAll, PyData.shownAll]
  exact ⟨p ++ q, (p1.mono (Nat.le_max_left _ _)).append (q1.mono (Nat.le_max_right _ _)), .cons ((p2.more fun _ m => List.mem_append_left _ m).level_le (Nat.le_max_left _ _)) (q2.more_le (fun _ m => List.mem_append_right _ m) (Nat.le_max_right _ _))⟩
theorem shw_seq {P : Program} {w : World} {h : Heap} {u : Value} {d : PyData} {as : List Addr} (r : Reads h u d as) (n : d.hasDict = false) : Shw P w h u d := ⟨⟨as, r⟩, fun hs hz => ReprK.of_reads r hs (PyData.noDict_hsm n) hz⟩
theorem shw_lst {P : Program} {w : World} {h : Heap} {a : Addr} {o : Obj} {its : Array Value} {n : Nat} {ds : List PyData} (ha : h.get? a = some o) (hc : o.cls = .type "list") (hd : o.data = .seq its n) (g : ShwS P w h its.toList ds) : Shw P w h (.ref a) (.list ds) := by
  obtain ⟨⟨as, ra⟩, g⟩ := g
  have rd : Reads h (.ref a) (.list ds) _ := .list ha hc hd ra
  refine ⟨⟨_, rd⟩, fun hs hz => ?_⟩
  rw [PyData.showable] at hs
  rw [PyData.shown] at hz ⊢
  obtain ⟨bs, b1, b2⟩ := g hs fun t m => Nat.le_trans (listText_mem_le m) hz
  have out : a ∉ bs := not_mem_of_deeper rd (by rw [PyData.depth]; omega) b1
  refine ⟨a :: bs, b1.cons rd (by rw [PyData.depth]; omega), ?_⟩
  rw [PyData.depth]
  obtain ⟨l⟩ := its
  cases l with
  | nil =>
    cases ra
    rw [PyData.shownAll, listText_nil]
    exact .listEmpty ha hc hd
  | cons x l => exact .list ha hc hd out (by simpa using b2.length_eq) fun i y e => b2.item i y (by simpa using e)
theorem shw_tup {P : Program} {w : World} {h : Heap} {a : Addr} {o : Obj} {its : Array Value} {n : Nat} {ds : List PyData} (ha : h.get? a = some o) (hc : o.cls = .type "tuple") (hd : o.data = .seq its n) (g : ShwS P w h its.toList ds) : Shw P w h (.ref a) (.tuple ds) := by
  obtain ⟨⟨as, ra⟩, g⟩ := g
  have rd : Reads h (.ref a) (.tuple ds) _ := .tuple ha hc hd ra
  refine ⟨⟨_, rd⟩, fun hs hz => ?_⟩
  rw [PyData.showable] at hs
  rw [PyData.shown] at hz ⊢
  obtain ⟨bs, b1, b2⟩ := g hs fun t m => Nat.le_trans (tupleText_mem_le m) hz
  refine ⟨a :: bs, b1.cons rd (by rw [PyData.depth]; omega), ?_⟩
  rw [PyData.depth]
  exact .tuple ha hc hd (not_mem_of_deeper rd (by rw [PyData.depth]; omega) b1) b2
theorem shw_dic {P : Program} {w : World} {h : Heap} {a : Addr} {o : Obj} {es : Array DictEntry} {n : Nat} {kvs : List (PyData × PyData)} (ha : h.get? a = some o) (hc : o.cls = .type "dict") (hd : o.data = .dict es n) (hy : (a == sysModules) = false) (gk : ShwS P w h (es.toList.map (·.key)) (kvs.map (·.1))) (gv : ShwS P w h (es.toList.map (·.val)) (kvs.map (·.2))) : Shw P w h (.ref a) (.dict kvs) := by
  obtain ⟨⟨as, ra⟩, gk⟩ := gk
  obtain ⟨⟨bs, rb⟩, gv⟩ := gv
  have rd : Reads h (.ref a) (.dict kvs) _ := .dict ha hc hd ra rb
  refine ⟨⟨_, rd⟩, fun hs hz => ?_⟩
  rw [PyData.showable] at hs
  rw [PyData.shown] at hz ⊢
  obtain ⟨s1, s2⟩ := PyData.showableKv_split kvs hs
  obtain ⟨p, p1, p2⟩ := gk s1 fun t m => by
    obtain ⟨x, x1, x2⟩ := PyData.shownKv_key_le kvs t m
    exact Nat.le_trans x2 (Nat.le_trans (dictText_mem_le x1) hz)
  obtain ⟨q, q1, q2⟩ := gv s2 fun t m => by
    obtain ⟨x, x1, x2⟩ := PyData.shownKv_val_le kvs t m
    exact Nat.le_trans x2 (Nat.le_trans (dictText_mem_le x1) hz)
  have pq : ReadAtMost h (PyData.depthKv kvs) (p ++ q) := (p1.mono (PyData.depthAll_keys_le kvs)).append (q1.mono (PyData.depthAll_vals_le kvs))
  refine ⟨a :: (p ++ q), pq.cons rd (by rw [PyData.depth]; omega), ?_⟩
  rw [PyData.depth, PyData.shownKv_eq]
  exact .dict ha hc hd hy (not_mem_of_deeper rd (by rw [PyData.depth]; omega) pq) (.of_two es.toList _ _ (p2.more_le (fun _ m => List.mem_append_left _ m) (PyData.depthAll_keys_le kvs)) (q2.more_le (fun _ m => List.mem_append_right _ m) (PyData.depthAll_vals_le kvs)))
theorem dpAll_shw (I : Inv X pins σ H s) : ∀ (ds : List PyData) (vs : List V) (us : List Value), DpAll X.K H vs ds → Vals vs us → PyData.hasDictAll ds = false → ShwS X.prog X.w s.heap us ds
  | [], _, _, h, r, _ => by
    cases h
    cases r
    exact shw_nil
  | d :: ds, _, _, h, r, n => by
    cases h with
    | cons h1 h2 =>
      cases r with
      | cons r1 r2 =>
        rw [PyData.hasDictAll, Bool.or_eq_false_iff] at n
        obtain ⟨as, q⟩ := Dp.reads I d _ _ h1 r1
        exact shw_cons (shw_seq q n.1) (dpAll_shw I ds _ _ h2 r2 n.2)
mutual
theorem DX.shw (I : Inv X pins σ H s) : ∀ {v : V} {d : PyData}, DX X.K H v d → ∀ u : Value, RelV v u → Shw X.prog X.w s.heap u d
  | _, _, .flat h n, u, r => by
    obtain ⟨as, q⟩ := Dp.reads I _ _ _ h r
    exact shw_seq q n
  | _, _, .lst hq g, u, r => by
    obtain rfl : u = Value.ref _ := r
    obtain ⟨its, rv, ⟨o, n, ho, hc, _, hd⟩, _⟩ := I.list hq
    exact shw_lst ho hc hd (DXs.shw I g its rv)
  | _, _, .tup hq g, u, r => by
    obtain rfl : u = Value.ref _ := r
    obtain ⟨its, rv, ⟨o, ho, hc, n, hd⟩, _⟩ := I.tuple hq
    exact shw_tup ho hc hd (DXs.shw I g its rv)
  | _, _, .dic (a := a) (kvs := kvs) (es := eds) ha ev g ek ed, u, r => by
    obtain rfl : u = Value.ref a := r
    obtain ⟨hz, hy, xs, pairs, o, es, ep, ho, hx, hdt, rows, nd⟩ := (show ObjOk X.prog X.w H s.heap a (.dT kvs) from I.hok _ _ ha)
    have hvals : Vals (kvs.map (·.2)) (es.toList.map (·.val)) := by
      rw [rows]
      clear rows nd g ev ek ha hz
      induction pairs with
      | nil => exact .nil
      | cons p _ ih => exact .cons p.2.2 ih
    have hkeys : ∀ (ks : List (List Key × V)) (ys : List (List Key × Addr × Value)), Paired (fun (p : List Key × V) (q : List Key × Addr × Value) => p.1 = q.1 ∧ H q.2.1 = some (.tup (p.1.map kV)) ∧ RelV p.2 q.2.2) ks ys → ShwS X.prog X.w s.heap ((ys.map (entryOfKey (tupleKind (mixKind X.prog X.w)))).map (·.key)) (ks.map fun kv => keyD kv.1) := fun ks ys p => by
      induction p with
      | nil => exact shw_nil
      | @cons k y ks ys p _ ih =>
        obtain ⟨as, q⟩ := Dp.reads I (keyD k.1) (.ref y.2.1) (.ref y.2.1) (.tup (SqT.of p.2.1) (keyD1_dp k.1)) rfl
        exact shw_cons (shw_seq q (by unfold keyD; rw [PyData.hasDict]; exact keyD1_no _)) ih
    refine shw_dic ho hx.1 hdt hy ?_ ?_
    · rw [ek, rows]
      exact hkeys kvs xs pairs
    · rw [ed]
      exact DXs.shw I g _ (ev ▸ hvals)
theorem DXs.shw (I : Inv X pins σ H s) : ∀ {vs : List V} {ds : List PyData}, DXs X.K H vs ds → ∀ us : List Value, Vals vs us → ShwS X.prog X.w s.heap us ds
  | _, _, .nil, us, r => by
    cases r
    exact shw_nil
  | _, _, .cons g gs, us, r => by
    cases r with
    | cons r1 r2 => exact shw_cons (DX.shw I g _ r1) (DXs.shw I gs _ r2)
end
/-- repr of a tuple in which dicts may stand -/
def rReprX (K : PySem.W.Frag) : List V → Hp → VK → Prop := fun xs H Q => ∃ (a : Addr) (vs : List V) (ds : List PyData), xs = [.ref a] ∧ SqT K H a vs ∧ DXs K H vs ds ∧ (PyData.tuple ds).showable = true ∧ (PyData.tuple ds).depth ≤ 40 ∧ (PyData.tuple ds).shown.length ≤ sizeLine ∧ Q (.str (PyData.tuple ds).shown) H
theorem call_reprX (hg : X.A.guards = some []) (hu : X.A.units + 64 < cLine) : CallR X (.builtin "repr") (rReprX X.K) := by
  intro pins s σ H xs us Q I r h
  obtain ⟨a, vs, ds, rfl, hq, g, hs, hd, hz, q⟩ := h
  obtain rfl := Vals.ref1 r
  obtain ⟨its, rv, ⟨o, ho, hc, n, hdd⟩, _⟩ := I.tuple hq
  obtain ⟨⟨as, ra⟩, gg⟩ := DXs.shw I g its rv
  have rd : Reads s.heap (.ref a) (.tuple ds) _ := .tuple ho hc hdd ra
  rw [PyData.showable] at hs
  rw [PyData.shown] at hz q
  rw [PyData.depth] at hd
  obtain ⟨bs, b1, b2⟩ := gg hs fun t m => Nat.le_trans (tupleText_mem_le m) hz
  have out : a ∉ bs := not_mem_of_deeper rd (by rw [PyData.depth]; omega) b1
  refine call_repr_slot (T := "tuple") (idr := "tuple.__repr__") (by omega) ⟨o, ho, hc⟩ F.slot_tuple_repr ?_
  exact call_tuple_reprK ho hc hdd out b2 (g := []) hg (fun b _ => Clear.nil b) (by show X.A.units + 1 + (PyData.depthAll ds + 1) < cLine; omega) (fun _ _ e => e) (fun h' u tk hk => ⟨_, _, rfl, .str _, H, I.kept (t' := tk) hk, ⟨_, rfl⟩, q⟩) hz
end
end L2

set_option Elab.async false
set_option maxRecDepth 100000
set_option maxHeartbeats 4000000
namespace L2
open PySem PySem.Spec PyProof.Rows
set_option linter.unusedVariables false
/-! dict(d) and d.pop(k) of a dict whose keys are pairs of small numbers -/
def hI (a b : Nat) : Int := reduceHash (Builtin.Tuple.tupleHashOf [hashInt ((a : Nat) : Int), hashInt ((b : Nat) : Int)])
theorem hI_all : ((List.range 8).all fun a => (List.range 8).all fun b => (List.range 8).all fun c => (List.range 8).all fun d => decide (hI a b = hI c d → a = c ∧ b = d)) = true := by decide +kernel
theorem hI_inj {a b c d : Nat} (ha : a < 8) (hb : b < 8) (hc : c < 8) (hd : d < 8) (h : hI a b = hI c d) : a = c ∧ b = d := by
  have h1 := List.all_eq_true.mp hI_all a (List.mem_range.mpr ha)
  have h2 := List.all_eq_true.mp h1 b (List.mem_range.mpr hb)
  have h3 := List.all_eq_true.mp h2 c (List.mem_range.mpr hc)
  have h4 := List.all_eq_true.mp h3 d (List.mem_range.mpr hd)
  exact of_decide_eq_true h4 h
def smallK (k : List Key) : Prop := ∃ a b : Nat, a < 8 ∧ b < 8 ∧ k = [.inl (a : Int), .inl (b : Int)]
section
variable {prog : Program} {w : World} {A : Around} {E : Value → Shared → Prop} {s : Shared}
theorem smallK_hash {a b : Nat} : (tupleKind (mixKind prog w)).hash [.inl (a : Int), .inl (b : Int)] = hI a b := rfl
theorem small_nodup : ∀ {ks : List (List Key)}, (∀ k ∈ ks, smallK k) → ks.Nodup → (ks.map fun k => (tupleKind (mixKind prog w)).hash k).Nodup
  | [], _, _ => List.nodup_nil
  | k :: ks, h, n => by
    rw [List.nodup_cons] at n
    rw [List.map_cons, List.nodup_cons]
    refine ⟨fun m => ?_, small_nodup (fun x hx => h x (List.mem_cons_of_mem _ hx)) n.2⟩
    obtain ⟨k2, hk2, e⟩ := List.mem_map.mp m
    obtain ⟨a, b, ha, hb, rfl⟩ := h k List.mem_cons_self
    obtain ⟨c, d, hc, hd, rfl⟩ := h k2 (List.mem_cons_of_mem _ hk2)
    have e : hI c d = hI a b := e
    obtain ⟨rfl, rfl⟩ := hI_inj hc hd ha hb e
    exact n.1 hk2
theorem call_dictH {o : Addr} {more : List (List Key × Addr × Value)} {Q : Value → Shared → Prop} (hu : (tupleKind (mixKind prog w)).room A.in1.in1) (hoS : (o == sysModules) = false) (ho : s.heap.DictOfH (tupleKind (mixKind prog w)) o more) (hsz : more.length ≤ sizeLine)
    (hty : ∀ x ∈ more, s.TypeIs (.ref x.2.1) "tuple") (hap : (more.map fun x => (tupleKind (mixKind prog w)).hash x.1).Nodup)
    (h : ∀ h', h'.DictOfH (tupleKind (mixKind prog w)) s.heap.objs.size more → Heap.SameBut s.heap.objs.size (s.heap.push { cls := .type "dict", data := .dict #[] }) h' → Q (.ref s.heap.objs.size) { s with heap := h' }) :
    wpAny (model prog w) A (call (.type "dict") [.ref o]) Q E s := by
  refine callType_codes (Q₁ := fun obj s₁ => obj = .ref s.heap.objs.size ∧ s₁ = { s with heap := s.heap.push { cls := .type "dict", data := .dict #[] } }) F.kt_called_dict (F.kt_typeCall_dict_1 _) F.entry_dict_init (kt_code_dict_new _ ⟨rfl, rfl⟩) ?_
  rintro obj s₁ ⟨rfl, rfl⟩
  have hnew : (s.heap.push { cls := .type "dict", data := .dict #[] }).DictOfH (tupleKind (mixKind prog w)) s.heap.objs.size [] :=
    ⟨_, #[], 0, Heap.get?_push_size _ rfl, ⟨rfl, rfl, rfl⟩, rfl, rfl, (fun _ hx => nomatch hx), List.nodup_nil⟩
  have hdo : s.heap.objs.size ≠ o := by
    obtain ⟨_, _, _, hg, _⟩ := ho
    exact fun e => absurd (Heap.lt_size hg) (by rw [e]; exact Nat.lt_irrefl _)
  have ho' : (s.heap.push { cls := .type "dict", data := .dict #[] }).DictOfH (tupleKind (mixKind prog w)) o more := by
    obtain ⟨ob, es, ep, h1, h2, h3, h4, h5, h6⟩ := ho
    refine ⟨ob, es, ep, Heap.get?_push_of_some _ h1, h2, h3, h4, fun x hx => ?_, h6⟩
    obtain ⟨o1, its, n, q1, q2, q3, q4⟩ := (show IsTupleKey (mixKind prog w) s.heap x.1 x.2.1 from h5 x hx)
    exact ⟨o1, its, n, Heap.get?_push_of_some _ q1, q2, q3, q4⟩
  have hn : (more.map (·.1)).Nodup := ho.nodup
  have ty' : ∀ x ∈ more, ({ s with heap := s.heap.push { cls := .type "dict", data := .dict #[] } } : Shared).TypeIs (.ref x.2.1) "tuple" := fun x hx => by
    obtain ⟨o1, q1, q2⟩ := hty x hx
    exact ⟨o1, Heap.get?_push_of_some _ q1, q2⟩
  have hnt : ({ s with heap := s.heap.push { cls := .type "dict", data := .dict #[] } } : Shared).TypeIs (.ref s.heap.objs.size) "dict" := ⟨_, Heap.get?_push_size _ rfl, rfl⟩
  refine ⟨hnt, F.args_dict_init_2 _ _, ?_⟩
  unfold Builtin.«dict.__init__»
  refine wpAny_bind ?_
  unfold Builtin.Dict.selfAndRest
  refine wpAny_bind (wpAny_notOrdered_dict hnt ?_)
  show wpAny _ _ (pure (s.heap.objs.size, [Value.ref o])) _ _ _
  refine wpAny_pure ?_
  show wpAny _ _ (Builtin.Dict.updateFrom "dict.__init__" s.heap.objs.size (.ref o) [] .none) _ _ _
  unfold Builtin.Dict.updateFrom
  refine wpAny_bind (wpAny_typeOf (s := { s with heap := s.heap.push { cls := .type "dict", data := .dict #[] } }) ho'.typeIs ?_)
  rw [if_neg (by decide)]
  refine wpAny_bind ?_
  unfold Builtin.Dict.merge
  refine wpAny_bind ?_
  unfold Builtin.Dict.readDirectly
  refine wpAny_bind (wpAny_isInstance (s := { s with heap := s.heap.push { cls := .type "dict", data := .dict #[] } }) ho'.typeIs isSubtype_dict_dict ?_)
  simp only [Bool.not_true, Bool.false_eq_true, if_false]
  refine wpAny_bind (wpAny_specialOf (s := { s with heap := s.heap.push { cls := .type "dict", data := .dict #[] } }) ho'.typeIs F.slot_dict_iter.lookup (wpAny_pure ?_))
  simp only [beq_self_eq_true, if_true]
  refine wpAny_bind (wpAny_pure ?_)
  refine wpAny_mergeDict_heap (s := { s with heap := s.heap.push { cls := .type "dict", data := .dict #[] } }) (hsz := by simpa using hsz) hu hdo hoS hnew ho' (.inr ⟨ty', hap⟩) fun h' hd' _ hs' => ?_
  show wpAny _ _ (Builtin.Dict.addKeywords s.heap.objs.size [] >>= _) _ _ _
  rw [storedAllH_nil_of_nodup more hn] at hd'
  exact wpAny_bind (wpAny_pure (wpAny_pure ⟨rfl, h h' hd' hs'⟩))
end
/-- dict(d): a copy -/
def rDictT : List V → Hp → VK → Prop := fun xs H Q => ∃ (a : Addr) (kvs : List (List Key × V)), xs = [.ref a] ∧ Rd H a (.dT kvs) ∧ (∀ kv ∈ kvs, smallK kv.1) ∧ ∀ p, H p = none → Q (.ref p) (upd H p (.dT kvs))
theorem KT.keysEq {H : Hp} : ∀ {kvs : List (List Key × V)} {xs : List (List Key × Addr × Value)}, KT H kvs xs → xs.map (·.1) = kvs.map (·.1)
  | _, _, .nil => rfl
  | _, _, .cons h t => by
    rw [List.map_cons, List.map_cons, KT.keysEq t, h.1]
theorem call_dict_dT {X : Cx} (hu : X.A.units + 2 < cLine) : CallR X (.type "dict") rDictT := by
  intro pins s σ H xs us Q I r q
  obtain ⟨a, kvs, ex, hd, hk, q⟩ := q
  subst ex
  obtain ⟨u, eu, rx⟩ := vals1 r
  subst eu
  cases rx
  obtain ⟨z, lo, xs, rel, dd⟩ := dt_rd I.hok hd
  have ek := KT.keysEq rel
  have hall : ∀ k ∈ xs.map (·.1), smallK k := fun k hkm => by
    rw [ek] at hkm
    obtain ⟨kv, hkv, rfl⟩ := List.mem_map.mp hkm
    exact hk kv hkv
  have hn : (xs.map (·.1)).Nodup := dd.nodup
  have hap := small_nodup (prog := X.prog) (w := X.w) hall hn
  rw [List.map_map] at hap
  have hst : ∀ x ∈ xs, (tupleKind (mixKind X.prog X.w)).is s.heap x.1 x.2.1 := by
    obtain ⟨o, es, ep, h1, h2, h3, h4, h5, h6⟩ := id dd
    exact h5
  refine call_dictH (show X.A.units + 2 < cLine from hu) lo dd (by rw [← Paired.length rel]; exact z) (fun x hx => ?_) hap fun h' d' hs => ?_
  · obtain ⟨o, its, n, h1, h2, _⟩ := (show IsTupleKey (mixKind X.prog X.w) s.heap x.1 x.2.1 from hst x hx)
    exact ⟨o, h1, h2⟩
  have hm : (s.heap.objs.size == sysModules) = false := beq_eq_false_iff_ne.mpr (Nat.ne_of_gt I.big)
  have hf := I.hok.fresh (Nat.le_refl _)
  obtain ⟨o, es, ep, h1, h2, h3, h4, h5, h6⟩ := d'
  exact ⟨.ref s.heap.objs.size, upd H s.heap.objs.size (.dT kvs), I.laid (t' := s.toks) (fun b u e => (hs.2 b (Nat.ne_of_lt (Heap.lt_size e))).trans (Heap.get?_push_of_some _ e)) (Nat.le_refl _)
    (show ObjOk X.prog X.w _ _ _ (.dT kvs) from ⟨z, hm, xs, rel.keeps (fun c ys ec => (by rw [upd_ne (ne_of_none ec hf)]; exact ec)), o, es, ep, h1, h2, h3, h4, h6⟩), rfl, q _ hf⟩
/-- d.pop(k), k a key -/
def rPop1T : V → List V → Hp → VK → Prop := fun x xs H Q => ∃ (a : Addr) (kvs : List (List Key × V)) (k : List Key) (b : Addr) (v : V), x = .ref a ∧ xs = [.ref b] ∧ H a = some (.dT kvs) ∧ H b = some (.tup (k.map kV)) ∧ valV kvs k = some v ∧ Q v (upd H a (.dT (dropK kvs k)))
theorem mt_pop1T {X : Cx} (hu : X.A.units + 1 < cLine) : MtR X "dict.pop" rPop1T := by
  intro pins s σ H x xs v us Q I rx rxs h
  obtain ⟨a, kvs, k, b, v0, rfl, rfl, ha, hb, ev, q⟩ := h
  cases rx
  obtain ⟨u1, rfl, r1⟩ := vals1 rxs
  cases r1
  obtain ⟨z, hd, xs', rel, dd⟩ := dt_of I.hok ha
  have hz : xs'.length ≤ sizeLine := by rw [← Paired.length rel]; exact z
  have r := rel.val k
  rw [ev] at r
  obtain ⟨p, hp, rv⟩ : ∃ p, atKey xs' k = some p ∧ RelV v0 p.2 := by
    cases ep : atKey xs' k with
    | none =>
      rw [ep] at r
      exact (show False from r).elim
    | some p =>
      rw [ep] at r
      exact ⟨p, rfl, r⟩
  refine call_pop_heap (hsz := hz) (.inl rfl) (PySem.F.args_dict_pop_2 _ _) (tupleKind_room_in1 hu) (key_of I.hok hb) hd dd hp fun h' dd' hs => ?_
  obtain ⟨o, es, ep, hq, h2, h3, h4, _, h5⟩ := dd'
  have I2 : Inv X pins σ (upd H a (.dT (dropK kvs k))) { s with heap := h', toks := s.toks + (tupleKind (mixKind X.prog X.w)).draws k } :=
    d_write I (by rw [ha]; exact True.intro) hs ⟨o, hq⟩ ⟨Nat.le_trans (dropK_le kvs k) z, hd, _, (DX.KT_drop k rel).keeps (fun c ys ec => (by rw [upd_ne (ne_of ec ha (fun z => nomatch z))]; exact ec)), o, es, ep, hq, h2, h3, h4, h5⟩
  exact ⟨v0, _, I2, rv, q⟩
end L2

set_option Elab.async false
set_option maxRecDepth 100000
set_option maxHeartbeats 4000000
namespace TA
open PySem L2 PyProof.Rows
set_option linter.unusedVariables false
def top (i : Nat) : Stmt := PySem.Challenge.pw_twoalone_k87_boxed_telling_refused.main.body.getD i (.Pass ⟨0, 0, 0, 0⟩)
abbrev sWhole : Stmt := top 2
abbrev sWithin : Stmt := top 3
abbrev sHand : Stmt := top 4
abbrev s_is_rising : Stmt := top 5
abbrev s_AloneError : Stmt := top 7
abbrev s_NoTask : Stmt := top 8
abbrev s_NoHand : Stmt := top 9
abbrev s_NoInputs : Stmt := top 10
abbrev s_NoWeaving : Stmt := top 11
abbrev s_NoProtocol : Stmt := top 12
abbrev s_is_output : Stmt := top 15
abbrev s_is_outputs : Stmt := top 16
abbrev s_is_rows : Stmt := top 17
abbrev s_is_alone : Stmt := top 18
abbrev s_is_output_pair : Stmt := top 19
abbrev s_is_let : Stmt := top 20
abbrev s_is_input_pair : Stmt := top 21
abbrev s_each_comes : Stmt := top 22
abbrev s_is_both : Stmt := top 23
abbrev s_Task : Stmt := top 24
abbrev s_is_pair : Stmt := top 25
abbrev s_is_row : Stmt := top 27
abbrev s_is_chosen : Stmt := top 28
abbrev s_is_answers : Stmt := top 32
abbrev s_is_boxed : Stmt := top 33
abbrev s_winner : Stmt := top 34
abbrev s_is_boxed_weaving : Stmt := top 35
abbrev s_tell_boxed : Stmt := top 36
abbrev sCell : Stmt := top 38
abbrev s__law_digit : Stmt := top 39
abbrev s__law_few : Stmt := top 40
abbrev s__law_outs : Stmt := top 41
abbrev s__law_parts : Stmt := top 42
abbrev s__law_own : Stmt := top 43
abbrev s__law_drawn : Stmt := top 44
abbrev s__law_odd_form : Stmt := top 45
abbrev s__law_odd_inputs : Stmt := top 46
abbrev sLawWeav : Stmt := top 47
abbrev sSaid : Stmt := top 48
abbrev sLaw : Stmt := top 49
structure Def (P : Program) (w : World) (K : PySem.W.Frag) (mg : Str → Option Value) (base : Heap) (x : Str) (ps : List Str) (k : Nat) (sp : Sp) (f : Addr) (fd : FuncData) : Prop where
  G : FnOk P w K mg base CX0 k f fd ps sp
  b : Binds K fd ps []
  k : PySem.W.keepIn K (.ref f) = true
  m : mg x = some (.ref f)
def isN : PyData → Bool
  | .none => true
  | _ => false
structure Txt (K : PySem.W.Frag) (mg : Str → Option Value) : Prop where
  isi : mg "isinstance" = none
  int : mg "int" = none
  bool : mg "bool" = none
  len : mg "len" = none
  range : mg "range" = none
  list : mg "list" = none
  tuple : mg "tuple" = none
  all : mg "all" = none
  sum : mg "sum" = none
  min : mg "min" = none
theorem same_new {H : Hp} {p : Addr} (h : H p = none) (o : HO) : Same H (upd H p o) := fun b u q => by rw [upd_ne (ne_of_none q h)]; exact q

theorem iteT' {c : Bool} {A B : Prop} (e : c = true) (a : A) : if c = true then A else B := by rw [if_pos e]; exact a
theorem iteF' {c : Bool} {A B : Prop} (e : c = false) (b : B) : if c = true then A else B := by rw [e]; exact b
theorem join2 {b : Bool} {X : Prop} {R : L2.St → Hp → Prop} {σ : L2.St} {H : Hp} (Iv : L2.St → Hp → Prop) (h0 : Iv σ H) (k : ∀ σ Hc, Iv σ Hc → R σ Hc) (h1 : b = true → (∀ σ Hc, Iv σ Hc → R σ Hc) → X) : if b = true then X else R σ H := by
  cases b with
  | false => exact iteF (k σ H h0)
  | true => exact iteT (h1 rfl k)
/-! things of any kind, by their data -/
def tyN : PyData → String
  | .none => "NoneType"
  | .bool _ => "bool"
  | .int _ => "int"
  | .str _ => "str"
  | .list _ => "list"
  | .tuple _ => "tuple"
  | .dict _ => "dict"
theorem sqT_ty {K : PySem.W.Frag} {H : Hp} {a : Addr} {xs : List V} (h : SqT K H a xs) : TyX K H (.ref a) (.type "tuple") := by
  rcases h with h | ⟨o, its, n, h1, h2, _⟩
  · rcases h with h | ⟨o, h⟩
    · exact .base (.tup h)
    · exact .fTuple h
  · exact .kTuple h1 h2
theorem sqL_ty {K : PySem.W.Frag} {H : Hp} {a : Addr} {xs : List V} (h : SqL K H a xs) : TyX K H (.ref a) (.type "list") := by
  rcases h with h | ⟨o, its, n, h1, h2, _⟩
  · rcases h with h | ⟨o, h⟩
    · exact .base (.lst h)
    · exact .base (.frz h)
  · exact .kList h1 h2
theorem dp_ty {K : PySem.W.Frag} {H : Hp} {v : V} {d : PyData} (h : Dp K H v d) : TyX K H v (.type (tyN d)) := by
  cases h with
  | non => exact .base .non
  | bl b => exact .base (.bl b)
  | int i => exact .base (.int i)
  | str x => exact .base (.str x)
  | lst h _ => exact sqL_ty h
  | tup h _ => exact sqT_ty h
theorem dp_non {K : PySem.W.Frag} {H : Hp} {v : V} {d : PyData} (h : Dp K H v d) : decide (v = .non) = isN d := by
  cases h <;> rfl
def isWholeD : PyData → Bool
  | .int _ => true
  | _ => false
def isTupD : PyData → Bool
  | .tuple _ => true
  | _ => false
def within : PyData → Int → Int → Bool
  | .int n, lo, hi => decide (lo ≤ n ∧ n ≤ hi)
  | _, _, _ => false
theorem kit_int (d : PyData) {K : PySem.W.Frag} : ∃ b1 b2, PySem.W.kitOne K (.type (tyN d)) (.type "int") = some b1 ∧ PySem.W.kitOne K (.type (tyN d)) (.type "bool") = some b2 ∧ isWholeD d = (b1 && !b2) := by
  cases d with
  | none => exact ⟨false, false, kit_ty (a := "NoneType") (b := "int") (by decide +kernel), kit_ty (a := "NoneType") (b := "bool") (by decide +kernel), rfl⟩
  | bool b => exact ⟨true, true, kit_ty (a := "bool") (b := "int") (by decide +kernel), kit_ty (a := "bool") (b := "bool") (by decide +kernel), rfl⟩
  | int i => exact ⟨true, false, kit_ty (a := "int") (b := "int") (by decide +kernel), kit_ty (a := "int") (b := "bool") (by decide +kernel), rfl⟩
  | str s => exact ⟨false, false, kit_ty (a := "str") (b := "int") (by decide +kernel), kit_ty (a := "str") (b := "bool") (by decide +kernel), rfl⟩
  | list l => exact ⟨false, false, kit_ty (a := "list") (b := "int") (by decide +kernel), kit_ty (a := "list") (b := "bool") (by decide +kernel), rfl⟩
  | tuple l => exact ⟨false, false, kit_ty (a := "tuple") (b := "int") (by decide +kernel), kit_ty (a := "tuple") (b := "bool") (by decide +kernel), rfl⟩
  | dict l => exact ⟨false, false, kit_ty (a := "dict") (b := "int") (by decide +kernel), kit_ty (a := "dict") (b := "bool") (by decide +kernel), rfl⟩
theorem kit_tup (d : PyData) {K : PySem.W.Frag} : PySem.W.kitOne K (.type (tyN d)) (.type "tuple") = some (isTupD d) := by
  cases d with
  | none => exact (show PySem.W.kitOne K (.type "NoneType") (.type "tuple") = some false from kit_ty (a := "NoneType") (b := "tuple") (by decide +kernel))
  | bool b => exact (show PySem.W.kitOne K (.type "bool") (.type "tuple") = some false from kit_ty (a := "bool") (b := "tuple") (by decide +kernel))
  | int i => exact (show PySem.W.kitOne K (.type "int") (.type "tuple") = some false from kit_ty (a := "int") (b := "tuple") (by decide +kernel))
  | str s => exact (show PySem.W.kitOne K (.type "str") (.type "tuple") = some false from kit_ty (a := "str") (b := "tuple") (by decide +kernel))
  | list l => exact (show PySem.W.kitOne K (.type "list") (.type "tuple") = some false from kit_ty (a := "list") (b := "tuple") (by decide +kernel))
  | tuple l => exact (show PySem.W.kitOne K (.type "tuple") (.type "tuple") = some true from kit_ty (a := "tuple") (b := "tuple") (by decide +kernel))
  | dict l => exact (show PySem.W.kitOne K (.type "dict") (.type "tuple") = some false from kit_ty (a := "dict") (b := "tuple") (by decide +kernel))
theorem dp_tup {K : PySem.W.Frag} {H : Hp} {v : V} {ds : List PyData} (h : Dp K H v (.tuple ds)) : ∃ a xs, v = .ref a ∧ SqT K H a xs ∧ DpAll K H xs ds := by
  cases h with
  | tup h1 h2 => exact ⟨_, _, rfl, h1, h2⟩
theorem dpAll_len {K : PySem.W.Frag} {H : Hp} : ∀ {vs : List V} {ds : List PyData}, DpAll K H vs ds → vs.length = ds.length
  | _, _, .nil => rfl
  | _, _, .cons _ b => congrArg (· + 1) (dpAll_len b)
theorem rd_mono {H H' : Hp} (s : Same H H') {a : Addr} {o : HO} (h : Rd H a o) : Rd H' a o := by
  rcases h with h | ⟨ob, h⟩
  · exact .inl (s _ _ h)
  · exact .inr ⟨ob, s _ _ h⟩
theorem seqT_mono {K : PySem.W.Frag} {H H' : Hp} (s : Same H H') {a : Addr} {xs : List V} (h : SqT K H a xs) : SqT K H' a xs := by
  rcases h with h | h
  · exact .inl (rd_mono s h)
  · exact .inr h
mutual
theorem dp_mono {K : PySem.W.Frag} {H H' : Hp} (s : Same H H') : ∀ (d : PyData) (v : V), Dp K H v d → Dp K H' v d
  | .none, _, h => by cases h; exact .non
  | .bool b, _, h => by cases h; exact .bl b
  | .int i, _, h => by cases h; exact .int i
  | .str x, _, h => by cases h; exact .str x
  | .list ds, _, h => by
    cases h with
    | lst a b => exact .lst (s.seq a) (dpAll_mono s ds _ b)
  | .tuple ds, _, h => by
    cases h with
    | tup a b => exact .tup (seqT_mono s a) (dpAll_mono s ds _ b)
  | .dict _, _, h => by cases h
theorem dpAll_mono {K : PySem.W.Frag} {H H' : Hp} (s : Same H H') : ∀ (ds : List PyData) (vs : List V), DpAll K H vs ds → DpAll K H' vs ds
  | [], _, h => by cases h; exact .nil
  | d :: ds, _, h => by
    cases h with
    | cons a b => exact .cons (dp_mono s d _ a) (dpAll_mono s ds _ b)
end
def spWholeG (K : PySem.W.Frag) : Sp := fun vs H Q _ => ∃ (v : V) (d : PyData), vs = [v] ∧ Dp K H v d ∧ Q (.bl (isWholeD d)) H
def spWithinG (K : PySem.W.Frag) : Sp := fun vs H Q _ => ∃ (v : V) (d : PyData) (lo hi : Int), vs = [v, .int lo, .int hi] ∧ Dp K H v d ∧ Q (.bl (within d lo hi)) H
def spHandG (K : PySem.W.Frag) : Sp := fun vs H Q _ => ∃ (v : V) (d : PyData), vs = [v] ∧ Dp K H v d ∧ Q (.bl (within d 0 1)) H
/-! a walk of n turns, whatever is walked: the word Pv is kept from turn to turn -/
theorem turns {J : It} (n : Nat) {H0 : Hp} {Qd : Hp → Prop} {B : (Hp → Prop) → V → Hp → Prop} (Pv : Nat → Hp → Prop) (start : Pv 0 H0) (last : ∀ H, Pv n H → J.stop n H ∧ Qd H)
    (turn : ∀ i H, i < n → Pv i H → J.go i H ∧ ∀ x H', J.yld i H x H' → B (Pv (i + 1)) x H') :
    ∃ W : Nat → Nat → Hp → Prop, (∃ m, W 0 m H0) ∧ ∀ i m H, W i m H →
      (J.stop i H ∧ Qd H) ∨ (J.go i H ∧ ∃ Nx : Hp → Prop, (∀ H', Nx H' → ∃ m', m' < m ∧ W (i + 1) m' H') ∧ ∀ x H', J.yld i H x H' → B Nx x H') := by
  refine ⟨fun i m H => i + m = n ∧ Pv i H, ⟨n, by omega, start⟩, fun i m H h => ?_⟩
  obtain ⟨hm, word⟩ := h
  cases m with
  | zero =>
    have hin : i = n := by omega
    rw [hin] at word ⊢
    exact Or.inl (last H word)
  | succ m =>
    obtain ⟨go, step⟩ := turn i H (by omega) word
    exact Or.inr ⟨go, Pv (i + 1), fun H' w' => ⟨m, by omega, by omega, w'⟩, step⟩
theorem list_turns {K : PySem.W.Frag} {a : Addr} {xs : List V} {H0 : Hp} {Qd : Hp → Prop} {B : (Hp → Prop) → V → Hp → Prop} (Pv : Nat → Hp → Prop) (start : Pv 0 H0) (still : ∀ i H, i ≤ xs.length → Pv i H → SqL K H a xs)
    (turn : ∀ i x H, xs[i]? = some x → Pv i H → B (Pv (i + 1)) x H) (last : ∀ H, Pv xs.length H → Qd H) :
    ∃ W : Nat → Nat → Hp → Prop, (∃ m, W 0 m H0) ∧ ∀ i m H, W i m H →
      ((Itl K a).stop i H ∧ Qd H) ∨ ((Itl K a).go i H ∧ ∃ Nx : Hp → Prop, (∀ H', Nx H' → ∃ m', m' < m ∧ W (i + 1) m' H') ∧ ∀ x H', (Itl K a).yld i H x H' → B Nx x H') :=
  turns xs.length Pv start (fun H w => ⟨⟨xs, still _ H (Nat.le_refl _) w, Nat.le_refl _⟩, last H w⟩) fun i H hi w =>
    have there := still i H (Nat.le_of_lt hi) w
    ⟨⟨xs, xs[i], there, List.getElem?_eq_getElem hi⟩, fun x H' ⟨same, given⟩ => by rw [same]; exact turn i x H (given xs there) w⟩
theorem tup_turns {K : PySem.W.Frag} {a : Addr} {xs : List V} {H0 : Hp} {Qd : Hp → Prop} {B : (Hp → Prop) → V → Hp → Prop} (Pv : Nat → Hp → Prop) (start : Pv 0 H0) (still : ∀ i H, i ≤ xs.length → Pv i H → SqT K H a xs)
    (turn : ∀ i x H, xs[i]? = some x → Pv i H → B (Pv (i + 1)) x H) (last : ∀ H, Pv xs.length H → Qd H) :
    ∃ W : Nat → Nat → Hp → Prop, (∃ m, W 0 m H0) ∧ ∀ i m H, W i m H →
      ((Itt K a).stop i H ∧ Qd H) ∨ ((Itt K a).go i H ∧ ∃ Nx : Hp → Prop, (∀ H', Nx H' → ∃ m', m' < m ∧ W (i + 1) m' H') ∧ ∀ x H', (Itt K a).yld i H x H' → B Nx x H') :=
  turns xs.length Pv start (fun H w => ⟨⟨xs, still _ H (Nat.le_refl _) w, Nat.le_refl _⟩, last H w⟩) fun i H hi w =>
    have there := still i H (Nat.le_of_lt hi) w
    ⟨⟨xs, xs[i], there, List.getElem?_eq_getElem hi⟩, fun x H' ⟨same, given⟩ => by rw [same]; exact turn i x H (given xs there) w⟩
theorem range_turns {lo : Int} {n : Nat} {H0 : Hp} {Qd : Hp → Prop} {B : (Hp → Prop) → V → Hp → Prop} (Pv : Nat → Hp → Prop) (start : Pv 0 H0)
    (turn : ∀ i H, i < n → Pv i H → B (Pv (i + 1)) (.int (lo + i)) H) (last : ∀ H, Pv n H → Qd H) :
    ∃ W : Nat → Nat → Hp → Prop, (∃ m, W 0 m H0) ∧ ∀ i m H, W i m H →
      ((Itr lo n).stop i H ∧ Qd H) ∨ ((Itr lo n).go i H ∧ ∃ Nx : Hp → Prop, (∀ H', Nx H' → ∃ m', m' < m ∧ W (i + 1) m' H') ∧ ∀ x H', (Itr lo n).yld i H x H' → B Nx x H') :=
  turns n Pv start (fun H w => ⟨Nat.le_refl _, last H w⟩) fun i H hi w => ⟨hi, fun x H' ⟨same, given⟩ => by rw [same, given]; exact turn i H hi w⟩
theorem small13 {n : Nat} (h : n ≤ 100000) : n ≤ sizeLine := Nat.le_trans h (by decide)

section
variable {P : Program} {w : World} {K : PySem.W.Frag} {mg : Str → Option Value} {base : Heap}
theorem scWhole : FnScope ["thing"] ["thing"] (defScope sWhole) := ⟨rfl, rfl, rfl, by decide +kernel, rfl, by decide +kernel, by decide +kernel⟩
theorem scWithin : FnScope ["thing", "least", "most"] ["thing", "least", "most"] (defScope sWithin) := ⟨rfl, rfl, rfl, by decide +kernel, rfl, by decide +kernel, by decide +kernel⟩
theorem scHand : FnScope ["thing"] ["thing"] (defScope sHand) := ⟨rfl, rfl, rfl, by decide +kernel, rfl, by decide +kernel, by decide +kernel⟩
theorem ok_wholeG {f : Addr} {fd : FuncData} (F : Fun K "is_whole" "is_whole" sWhole f fd) (T : Txt K mg) : FnOk P w K mg base CX0 1 f fd ["thing"] (spWholeG K) := by
  refine F.ok scWhole (fun vs H Q E h => ?_) (fun cdv A outer s H vs Q E hr h => ?_)
  · obtain ⟨v, d, rfl, _⟩ := h
    rfl
  obtain ⟨v, d, rfl, hk, q⟩ := h
  refine ⟨_, pss_one (ps_ret (pe_and (pe_callB call_isi (by rfl) T.isi boot_isinstance (pa_cons (pv 0) (pa_cons (pe_bltn (v := .ty "int") (by rfl) T.int boot_int rfl) pa_nil)))
    (pe_one (pe_not (pe_callB call_isi (by rfl) T.isi boot_isinstance (pa_cons (pv 0) (pa_cons (pe_bltn (v := .ty "bool") (by rfl) T.bool boot_bool rfl) pa_nil))))))), ?_⟩
  obtain ⟨b1, b2, e1, e2, e3⟩ := kit_int d (K := K)
  rw [e3] at q
  refine ⟨_, rfl, v, V.ty "int", _, _, b1, rfl, .ty "int", (dp_ty hk), e1, b1, rfl, ?_⟩
  cases b1 with
  | false => exact iteF q
  | true => exact iteT ⟨_, rfl, v, V.ty "bool", _, _, b2, rfl, .ty "bool", (dp_ty hk), e2, b2, rfl, q⟩
theorem ok_withinG {f g : Addr} {fd gd : FuncData} (F : Fun K "is_whole_within" "is_whole_within" sWithin f fd) (W : Def P w K mg base "is_whole" ["thing"] 1 (spWholeG K) g gd) : FnOk P w K mg base CX0 2 f fd ["thing", "least", "most"] (spWithinG K) := by
  refine F.ok scWithin (fun vs H Q E h => ?_) (fun cdv A outer s H vs Q E hr h => ?_)
  · obtain ⟨v, d, lo, hi, rfl, _⟩ := h
    rfl
  obtain ⟨v, d, lo, hi, rfl, hk, q⟩ := h
  refine ⟨_, pss_one (ps_ret (pe_and (pe_call W.G hr rfl W.m W.k W.b .nil pass0 (pa_cons (pv 0) pa_nil)) (pe_one (pe_chain op_le op_le (pv 1) (pv 0) (pv 2))))), ?_⟩
  refine ⟨_, rfl, v, d, rfl, hk, isWholeD d, rfl, ?_⟩
  by_cases hw : ∃ n, d = .int n
  · obtain ⟨n, rfl⟩ := hw
    have ev : v = .int n := by
      cases hk; rfl
    subst ev
    refine iteT ⟨_, rfl, _, rfl, _, _, rfl, rfl, _, rfl, ?_⟩
    by_cases h1 : lo ≤ n
    · rw [decide_eq_true h1]
      refine iteT ⟨_, rfl, _, _, rfl, rfl, ?_⟩
      have e : within (.int n) lo hi = decide (n ≤ hi) := by unfold within; simp [h1]
      rw [e] at q
      exact q
    · rw [decide_eq_false h1]
      refine iteF ?_
      have e : within (.int n) lo hi = false := by unfold within; simp [h1]
      rw [e] at q
      exact q
  · have e1 : isWholeD d = false := by
      cases d with
      | int n => exact absurd ⟨n, rfl⟩ hw
      | _ => rfl
    have e2 : within d lo hi = false := by
      cases d with
      | int n => exact absurd ⟨n, rfl⟩ hw
      | _ => rfl
    rw [e1]
    rw [e2] at q
    exact iteF q
theorem ok_handG {f g : Addr} {fd gd : FuncData} (F : Fun K "is_hand" "is_hand" sHand f fd) (W : Def P w K mg base "is_whole_within" ["thing", "least", "most"] 2 (spWithinG K) g gd) : FnOk P w K mg base CX0 3 f fd ["thing"] (spHandG K) := by
  refine F.ok scHand (fun vs H Q E h => ?_) (fun cdv A outer s H vs Q E hr h => ?_)
  · obtain ⟨v, d, rfl, _⟩ := h
    rfl
  obtain ⟨v, d, rfl, hk, q⟩ := h
  refine ⟨_, pss_one (ps_ret (pe_call W.G hr rfl W.m W.k W.b .nil pass0 (pa_cons (pv 0) (pa_cons pe_int (pa_cons pe_int pa_nil))))), ?_⟩
  exact ⟨_, rfl, v, d, 0, 1, rfl, hk, q⟩
end
end TA

set_option Elab.async false
set_option maxRecDepth 100000
set_option maxHeartbeats 4000000
namespace TA
open PySem L2 PyProof.Rows
set_option linter.unusedVariables false
/-! a task's parts, of any data -/
theorem dpAll_get {K : PySem.W.Frag} {H : Hp} : ∀ {vs : List V} {ds : List PyData} {i : Nat} {x : V}, DpAll K H vs ds → vs[i]? = some x → ∃ d, ds[i]? = some d ∧ Dp K H x d
  | _, _, _, _, .nil, e => by simp at e
  | _, _, 0, _, .cons a b, e => ⟨_, rfl, by simp at e; rw [← e]; exact a⟩
  | _, _, i + 1, x, .cons a b, e => by
    obtain ⟨d, h1, h2⟩ := dpAll_get (i := i) (x := x) b (by simpa using e)
    exact ⟨d, by simpa using h1, h2⟩
theorem same_upd {H0 H : Hp} {p : Addr} {o : HO} (s : Same H0 H) (f : H0 p = none) : Same H0 (upd H p o) := fun b u e => by
  rw [upd_ne (ne_of_none e f)]
  exact s _ _ e
theorem take_bl (bs : List Bool) {i : Nat} {b : Bool} (h : bs[i]? = some b) : (bs.take i).map V.bl ++ [V.bl b] = (bs.take (i + 1)).map V.bl := by
  rw [List.take_add_one, h, List.map_append]
  rfl
def isLstD : PyData → Bool
  | .list _ => true
  | _ => false
theorem kit_lst (d : PyData) {K : PySem.W.Frag} : PySem.W.kitOne K (.type (tyN d)) (.type "list") = some (isLstD d) := by
  cases d with
  | none => exact (show PySem.W.kitOne K (.type "NoneType") (.type "list") = some false from kit_ty (by decide +kernel))
  | bool b => exact (show PySem.W.kitOne K (.type "bool") (.type "list") = some false from kit_ty (by decide +kernel))
  | int b => exact (show PySem.W.kitOne K (.type "int") (.type "list") = some false from kit_ty (by decide +kernel))
  | str b => exact (show PySem.W.kitOne K (.type "str") (.type "list") = some false from kit_ty (by decide +kernel))
  | list b => exact (show PySem.W.kitOne K (.type "list") (.type "list") = some true from kit_ty (by decide +kernel))
  | tuple b => exact (show PySem.W.kitOne K (.type "tuple") (.type "list") = some false from kit_ty (by decide +kernel))
  | dict b => exact (show PySem.W.kitOne K (.type "dict") (.type "list") = some false from kit_ty (by decide +kernel))
/-- what stands in a list of ints, one behind the other -/
def risI (ns : List Int) : Bool := ((List.range (ns.length - 1)).map fun i => decide (ns.getD i 0 < ns.getD (i + 1) 0)).all id
def intsOf : List PyData → List Int := List.map fun d => match d with
  | .int i => i
  | _ => 0
def outB (d : PyData) : Bool := within d 0 63
def outsB : PyData → Bool
  | .list ds => decide (0 < ds.length) && ((ds.map outB).all id && risI (intsOf ds))
  | _ => false
def rowsB : PyData → Bool
  | .list ds => decide (0 < ds.length) && (ds.map outsB).all id
  | _ => false
def aloneB : PyData → Bool
  | .list ds => decide (ds.length = 2) && (ds.map rowsB).all id
  | _ => false
theorem outs_ints {K : PySem.W.Frag} {H : Hp} : ∀ {ds : List PyData} {vs : List V}, DpAll K H vs ds → (ds.map outB).all id = true → vs = (intsOf ds).map V.int
  | [], _, h, _ => by cases h; rfl
  | d :: ds, _, h, a => by
    rw [List.map_cons, List.all_cons] at a
    obtain ⟨a1, a2⟩ := Bool.and_eq_true_iff.mp a
    cases h with
    | cons h1 h2 =>
      cases d with
      | int i =>
        cases h1
        rw [outs_ints h2 a2]
        rfl
      | _ => exact Bool.noConfusion (show false = true from a1)
def spOut (K : PySem.W.Frag) : Sp := fun vs H Q _ => ∃ (v : V) (d : PyData), vs = [v] ∧ Dp K H v d ∧ Q (.bl (outB d)) H
def spRisI (K : PySem.W.Frag) : Sp := fun vs H Q _ => ∃ (p : Addr) (ns : List Int), vs = [.ref p] ∧ SqL K H p (ns.map V.int) ∧ 1 ≤ ns.length ∧ ns.length ≤ 1000 ∧ ∀ H', Same H H' → Q (.bl (risI ns)) H'
def small (d : PyData) : Prop := ∀ ds, d = .list ds → ds.length ≤ 1000
def spOuts (K : PySem.W.Frag) : Sp := fun vs H Q _ => ∃ (v : V) (d : PyData), vs = [v] ∧ Dp K H v d ∧ small d ∧ ∀ H', Same H H' → Q (.bl (outsB d)) H'
def spRows (K : PySem.W.Frag) : Sp := fun vs H Q _ => ∃ (v : V) (d : PyData), vs = [v] ∧ Dp K H v d ∧ small d ∧ (∀ ds, d = .list ds → ∀ e ∈ ds, small e) ∧ ∀ H', Same H H' → Q (.bl (rowsB d)) H'
def spAlone (K : PySem.W.Frag) : Sp := fun vs H Q _ => ∃ (v : V) (d : PyData), vs = [v] ∧ Dp K H v d ∧ small d ∧ (∀ ds, d = .list ds → ∀ e ∈ ds, small e ∧ ∀ es, e = .list es → ∀ g ∈ es, small g) ∧ ∀ H', Same H H' → Q (.bl (aloneB d)) H'
section
variable {P : Program} {w : World} {K : PySem.W.Frag} {mg : Str → Option Value} {base : Heap}
theorem scOut : FnScope ["thing"] ["thing"] (defScope s_is_output) := ⟨rfl, rfl, rfl, by decide +kernel, rfl, by decide +kernel, by decide +kernel⟩
theorem ok_out {f g : Addr} {fd gd : FuncData} {t63 : Tok} (F : Fun K "is_output" "is_output" s_is_output f fd) (m63 : mg "MOST_OUTPUT" = some (.int 63 t63)) (W : Def P w K mg base "is_whole_within" ["thing", "least", "most"] 2 (spWithinG K) g gd) : FnOk P w K mg base CX0 3 f fd ["thing"] (spOut K) := by
  refine F.ok scOut (fun vs H Q E h => ?_) (fun cdv A outer s H vs Q E hr h => ?_)
  · obtain ⟨v, d, rfl, _⟩ := h
    rfl
  obtain ⟨v, d, rfl, hk, q⟩ := h
  refine ⟨_, pss_one (ps_ret (pe_call W.G hr rfl W.m W.k W.b .nil pass0 (pa_cons (pv 0) (pa_cons pe_int (pa_cons (pe_glob (v := .int 63) rfl m63 ⟨_, rfl⟩) pa_nil))))), ?_⟩
  exact ⟨_, rfl, v, d, 0, 63, rfl, hk, q⟩
theorem scRis : FnScope ["things", "at"] ["things"] (defScope s_is_rising) := ⟨rfl, rfl, rfl, by decide +kernel, rfl, by decide +kernel, by decide +kernel⟩
theorem ok_risI {f : Addr} {fd : FuncData} (F : Fun K "is_rising" "is_rising" s_is_rising f fd) (T : Txt K mg) : FnOk P w K mg base CX0 1 f fd ["things"] (spRisI K) := by
  refine F.ok scRis (fun vs H Q E h => ?_) (fun cdv A outer s H vs Q E hr h => ?_)
  · obtain ⟨p, ns, rfl, _⟩ := h
    rfl
  obtain ⟨p, ns, rfl, hS, n1, n2, q⟩ := h
  have nd := scRis.nd
  refine ⟨_, pss_one (ps_ret (pe_callB (cr_all rfl) (by rfl) T.all (by decide +kernel) (pa_cons
      (pe_lc (own := [("at", 1)]) (g := gName 1) (tt := tYes) (te := tOp (rI0 fun i j => .bl (decide (i < j))) (tOp (rIxL K) (tVar 0) (tVar 1)) (tOp (rIxL K) (tVar 0) (tOp (rI0 fun i j => .int (i + j)) (tVar 1) (tC (.int 1))))) rfl nd
        (pi_range1 (by rfl) T.range (pa_cons (pe_op op_sub (pe_callB call_len_seq (by rfl) T.len PySem.boot_len (pa_cons (pv 0) pa_nil)) pe_int) pa_nil))
        (blkOk_by (N := ["things", "at"]) (sc := defScope s_is_rising) (by decide +kernel)) (fun _ _ _ _ _ => pg_name (i := 1) nd rfl (Or.inl rfl)) (fun _ _ _ _ _ => pts_nil)
        (fun _ _ _ _ _ => (by refine pe_cmpR op_lt ?_ ?_ (nomark _); (exact pe_ix ix_list (pv 0) (pv 1) (fun _ _ => rfl)); (exact pe_ix ix_list (pv 0) (pe_op op_add (pv 1) pe_int) (fun _ _ => rfl))))) pa_nil))), ?_⟩
  refine ⟨_, rfl, p, _, rfl, .inl hS, _, _, rfl, rfl, ?_⟩
  rw [List.length_map]
  have e1 : ((ns.length : Nat) : Int) - 1 = ((ns.length - 1 : Nat) : Int) := by omega
  refine ⟨((ns.length - 1 : Nat) : Int), congrArg (fun z => [V.int z]) e1, by omega, by omega, fun D hD => ?_⟩
  refine range_turns (n := ns.length - 1) (fun i H' => Same H H' ∧ H' D = some (.lst ((((List.range (ns.length - 1)).map fun i => decide (ns.getD i 0 < ns.getD (i + 1) 0)).take i).map V.bl))) ⟨same_new hD _, upd_same⟩ ?_ ?_
  · rintro i H' hi ⟨s1, h1⟩
    have ei : (0 : Int) + (i : Int) = (i : Int) := by omega
    rw [ei]
    have g0 : ns[i]? = some (ns.getD i 0) := by rw [List.getD_eq_getElem?_getD, List.getElem?_eq_getElem (by omega)]; rfl
    have g1 : ns[i + 1]? = some (ns.getD (i + 1) 0) := by rw [List.getD_eq_getElem?_getD, List.getElem?_eq_getElem (by omega)]; rfl
    have hb : ((List.range (ns.length - 1)).map fun i => decide (ns.getD i 0 < ns.getD (i + 1) 0))[i]? = some (decide (ns.getD i 0 < ns.getD (i + 1) 0)) := by
      rw [List.getElem?_map, List.getElem?_range hi]; rfl
    refine ⟨rfl, _, rfl, _, rfl, p, _, _, _, rfl, rfl, s1.seq hS, atI_nat (by rw [List.getElem?_map, g0]; rfl), _, rfl, _, rfl, _, _, rfl, rfl, p, _, _, _, rfl, rfl, s1.seq hS, (by rw [show (i : Int) + 1 = ((i + 1 : Nat) : Int) by omega]; exact atI_nat (by rw [List.getElem?_map, g1]; rfl)), _, _, rfl, rfl, _, h1, ?_, same_upd s1 hD, by rw [upd_same, take_bl _ hb]⟩
    rw [List.length_map]
    exact Nat.lt_of_le_of_lt (List.length_take_le _ _) (Nat.lt_of_lt_of_le hi (Nat.le_trans (by omega) (show 1000 ≤ sizeLine by decide)))
  · rintro H' ⟨s1, h1⟩
    rw [List.take_of_length_le (by rw [List.length_map, List.length_range]; exact Nat.le_refl _)] at h1
    exact ⟨D, _, rfl, SqL.of h1, q _ s1⟩
theorem scOuts : FnScope ["thing", "x"] ["thing"] (defScope s_is_outputs) := ⟨rfl, rfl, rfl, by decide +kernel, rfl, by decide +kernel, by decide +kernel⟩
theorem ok_outs {f g1 g2 : Addr} {fd d1 d2 : FuncData} (F : Fun K "is_outputs" "is_outputs" s_is_outputs f fd) (T : Txt K mg) (W : Def P w K mg base "is_output" ["thing"] 3 (spOut K) g1 d1) (R : Def P w K mg base "is_rising" ["things"] 1 (spRisI K) g2 d2) : FnOk P w K mg base CX0 4 f fd ["thing"] (spOuts K) := by
  refine F.ok scOuts (fun vs H Q E h => ?_) (fun cdv A outer s H vs Q E hr h => ?_)
  · obtain ⟨v, d, rfl, _⟩ := h
    rfl
  obtain ⟨v, d, rfl, hk, hz, q⟩ := h
  have nd := scOuts.nd
  refine ⟨_, pss_one (ps_ret (pe_and (pe_callB call_isi (by rfl) T.isi boot_isinstance (pa_cons (pv 0) (pa_cons (pe_bltn (v := .ty "list") (by rfl) T.list boot_list rfl) pa_nil)))
    (pe_and (pe_cmpR op_gt (pe_callB call_len_seq (by rfl) T.len PySem.boot_len (pa_cons (pv 0) pa_nil)) pe_int (nomark _))
    (pe_and (pe_callB (cr_all rfl) (by rfl) T.all (by decide +kernel) (pa_cons
      (pe_lc (own := [("x", 1)]) (g := gName 1) (tt := tYes) (te := tCall (spOut K) [] E0 (tCons (tVar 1) tNil)) rfl nd (pi_list (pv 0)) (blkOk_by (N := ["thing", "x"]) (sc := defScope s_is_outputs) (by decide +kernel)) (fun _ _ _ _ _ => pg_name (i := 1) nd rfl (Or.inl rfl)) (fun _ _ _ _ _ => pts_nil)
        (fun _ _ _ _ _ => (by exact pe_call W.G hr rfl W.m W.k W.b .nil pass0 (pa_cons (pv 1) pa_nil)))) pa_nil))
    (pe_one (pe_call R.G (hr.mono (by decide)) rfl R.m R.k R.b .nil pass0 (pa_cons (pv 0) pa_nil))))))), ?_⟩
  refine ⟨_, rfl, v, .ty "list", _, _, isLstD d, rfl, .ty "list", dp_ty hk, kit_lst d, _, rfl, ?_⟩
  cases cl : isLstD d with
  | false =>
    have : outsB d = false := by cases d <;> first | rfl | cases cl
    rw [this] at q
    exact iteF (q _ (Same.refl H))
  | true =>
    obtain ⟨ds, rfl⟩ : ∃ ds, d = .list ds := by cases d <;> first | exact ⟨_, rfl⟩ | cases cl
    obtain ⟨p, vs, rfl, hS, hD⟩ : ∃ t vs, v = .ref t ∧ SqL K H t vs ∧ DpAll K H vs ds := by
      cases hk with
      | lst a b => exact ⟨_, _, rfl, a, b⟩
    have hl := dpAll_len hD
    have hds := hz ds rfl
    have eO : outsB (.list ds) = (decide (0 < ds.length) && ((ds.map outB).all id && risI (intsOf ds))) := rfl
    refine iteT ⟨_, rfl, p, _, rfl, .inl hS, _, _, rfl, rfl, ?_⟩
    by_cases c : 0 < ds.length
    case neg =>
      rw [eO, decide_eq_false c, Bool.false_and] at q
      refine ⟨_, rfl, iteF' (decide_eq_false (by omega)) ?_⟩
      exact q _ (Same.refl H)
    rw [eO, decide_eq_true c, Bool.true_and] at q
    refine ⟨_, rfl, iteT' (decide_eq_true (by omega)) ?_⟩
    refine ⟨_, rfl, p, rfl, ⟨_, hS⟩, fun D hD' => ?_⟩
    refine list_turns (xs := vs) (fun i H' => Same H H' ∧ H' D = some (.lst (((ds.map outB).take i).map V.bl))) ⟨same_new hD' _, upd_same⟩ (fun i H' _ h => h.1.seq hS) ?_ ?_
    · rintro i x H' hx ⟨s1, h1⟩
      obtain ⟨di, hdi, hxi⟩ := dpAll_get hD hx
      have hi : i < ds.length := (List.getElem?_eq_some_iff.mp hdi).1
      have hb : (ds.map outB)[i]? = some (outB di) := by rw [List.getElem?_map, hdi]; rfl
      refine ⟨rfl, _, rfl, x, di, rfl, dp_mono s1 _ _ hxi, _, h1, ?_, same_upd s1 hD', by rw [upd_same, take_bl _ hb]⟩
      rw [List.length_map]
      exact Nat.lt_of_le_of_lt (List.length_take_le _ _) (Nat.lt_of_lt_of_le hi (Nat.le_trans hds (by decide)))
    · rintro H1 ⟨s1, h1⟩
      rw [hl, ← List.length_map (f := outB), List.take_length] at h1
      refine ⟨D, _, rfl, SqL.of h1, _, rfl, ?_⟩
      cases ca : (ds.map outB).all id with
      | false =>
        rw [ca, Bool.false_and] at q
        exact iteF (q _ s1)
      | true =>
        rw [ca, Bool.true_and] at q
        have ev := outs_ints hD ca
        have hS' : SqL K H1 p ((intsOf ds).map V.int) := by rw [← ev]; exact s1.seq hS
        have li : (intsOf ds).length = ds.length := List.length_map _
        exact iteT ⟨_, rfl, p, intsOf ds, rfl, hS', by omega, by omega, fun H2 s2 => q _ (s1.trans s2)⟩
theorem sc_rows : FnScope ["thing", "outputs"] ["thing"] (defScope s_is_rows) := ⟨rfl, rfl, rfl, by decide +kernel, rfl, by decide +kernel, by decide +kernel⟩
theorem ok_rows {f g1 : Addr} {fd d1 : FuncData} (F : Fun K "is_rows" "is_rows" s_is_rows f fd) (T : Txt K mg) (W : Def P w K mg base "is_outputs" ["thing"] 4 (spOuts K) g1 d1) : FnOk P w K mg base CX0 5 f fd ["thing"] (spRows K) := by
  refine F.ok sc_rows (fun vs H Q E h => ?_) (fun cdv A outer s H vs Q E hr h => ?_)
  · obtain ⟨v, d, rfl, _⟩ := h
    rfl
  obtain ⟨v, d, rfl, hk, hz, hin, q⟩ := h
  have nd := sc_rows.nd
  refine ⟨_, pss_one (ps_ret (pe_and (pe_callB call_isi (by rfl) T.isi boot_isinstance (pa_cons (pv 0) (pa_cons (pe_bltn (v := .ty "list") (by rfl) T.list boot_list rfl) pa_nil)))
    (pe_and (pe_cmpR op_gt (pe_callB call_len_seq (by rfl) T.len PySem.boot_len (pa_cons (pv 0) pa_nil)) pe_int (nomark _))
    (pe_one (pe_callB (cr_all rfl) (by rfl) T.all (by decide +kernel) (pa_cons
      (pe_lc (own := [("outputs", 1)]) (g := gName 1) (tt := tYes) (te := tCall (spOuts K) [] E0 (tCons (tVar 1) tNil)) rfl nd (pi_list (pv 0)) (blkOk_by (N := ["thing", "outputs"]) (sc := defScope s_is_rows) (by decide +kernel)) (fun _ _ _ _ _ => pg_name (i := 1) nd rfl (Or.inl rfl)) (fun _ _ _ _ _ => pts_nil)
        (fun _ _ _ _ _ => (by exact pe_call W.G hr rfl W.m W.k W.b .nil pass0 (pa_cons (pv 1) pa_nil)))) pa_nil)))))), ?_⟩
  refine ⟨_, rfl, v, .ty "list", _, _, isLstD d, rfl, .ty "list", dp_ty hk, kit_lst d, _, rfl, ?_⟩
  cases cl : isLstD d with
  | false =>
    have : rowsB d = false := by cases d <;> first | rfl | cases cl
    rw [this] at q
    exact iteF (q _ (Same.refl H))
  | true =>
    obtain ⟨ds, rfl⟩ : ∃ ds, d = .list ds := by cases d <;> first | exact ⟨_, rfl⟩ | cases cl
    obtain ⟨p, vs, rfl, hS, hD⟩ : ∃ t vs, v = .ref t ∧ SqL K H t vs ∧ DpAll K H vs ds := by
      cases hk with
      | lst a b => exact ⟨_, _, rfl, a, b⟩
    have hl := dpAll_len hD
    have hds := hz ds rfl
    have eO : rowsB (.list ds) = (decide (0 < ds.length) && (ds.map outsB).all id) := rfl
    refine iteT ⟨_, rfl, p, _, rfl, .inl hS, _, _, rfl, rfl, ?_⟩
    by_cases c : 0 < ds.length
    case neg =>
      rw [eO, decide_eq_false c, Bool.false_and] at q
      refine ⟨_, rfl, iteF' (decide_eq_false (by omega)) ?_⟩
      exact q _ (Same.refl H)
    rw [eO, decide_eq_true c, Bool.true_and] at q
    refine ⟨_, rfl, iteT' (decide_eq_true (by omega)) ?_⟩
    refine ⟨_, rfl, p, rfl, ⟨_, hS⟩, fun D hD' => ?_⟩
    refine list_turns (xs := vs) (fun i H' => Same H H' ∧ H' D = some (.lst (((ds.map outsB).take i).map V.bl))) ⟨same_new hD' _, upd_same⟩ (fun i H' _ h => h.1.seq hS) ?_ ?_
    · rintro i x H' hx ⟨s1, h1⟩
      obtain ⟨di, hdi, hxi⟩ := dpAll_get hD hx
      have hi : i < ds.length := (List.getElem?_eq_some_iff.mp hdi).1
      have hb : (ds.map outsB)[i]? = some (outsB di) := by rw [List.getElem?_map, hdi]; rfl
      refine ⟨rfl, _, rfl, x, di, rfl, dp_mono s1 _ _ hxi, hin ds rfl di (List.mem_of_getElem? hdi), fun H2 s2 => ⟨_, s2 _ _ h1, ?_, same_upd (s1.trans s2) hD', by rw [upd_same, take_bl _ hb]⟩⟩
      rw [List.length_map]
      exact Nat.lt_of_le_of_lt (List.length_take_le _ _) (Nat.lt_of_lt_of_le hi (Nat.le_trans hds (by decide)))
    · rintro H1 ⟨s1, h1⟩
      rw [hl, ← List.length_map (f := outsB), List.take_length] at h1
      exact ⟨D, _, rfl, SqL.of h1, q _ s1⟩
theorem sc_alone : FnScope ["thing", "rows"] ["thing"] (defScope s_is_alone) := ⟨rfl, rfl, rfl, by decide +kernel, rfl, by decide +kernel, by decide +kernel⟩
theorem ok_alone {f g1 : Addr} {fd d1 : FuncData} (F : Fun K "is_alone" "is_alone" s_is_alone f fd) (T : Txt K mg) (W : Def P w K mg base "is_rows" ["thing"] 5 (spRows K) g1 d1) : FnOk P w K mg base CX0 6 f fd ["thing"] (spAlone K) := by
  refine F.ok sc_alone (fun vs H Q E h => ?_) (fun cdv A outer s H vs Q E hr h => ?_)
  · obtain ⟨v, d, rfl, _⟩ := h
    rfl
  obtain ⟨v, d, rfl, hk, hz, hin, q⟩ := h
  have nd := sc_alone.nd
  refine ⟨_, pss_one (ps_ret (pe_and (pe_callB call_isi (by rfl) T.isi boot_isinstance (pa_cons (pv 0) (pa_cons (pe_bltn (v := .ty "list") (by rfl) T.list boot_list rfl) pa_nil)))
    (pe_and (pe_cmpR op_eq (pe_callB call_len_seq (by rfl) T.len PySem.boot_len (pa_cons (pv 0) pa_nil)) pe_int (nomark _))
    (pe_one (pe_callB (cr_all rfl) (by rfl) T.all (by decide +kernel) (pa_cons
      (pe_lc (own := [("rows", 1)]) (g := gName 1) (tt := tYes) (te := tCall (spRows K) [] E0 (tCons (tVar 1) tNil)) rfl nd (pi_list (pv 0)) (blkOk_by (N := ["thing", "rows"]) (sc := defScope s_is_alone) (by decide +kernel)) (fun _ _ _ _ _ => pg_name (i := 1) nd rfl (Or.inl rfl)) (fun _ _ _ _ _ => pts_nil)
        (fun _ _ _ _ _ => (by exact pe_call W.G hr rfl W.m W.k W.b .nil pass0 (pa_cons (pv 1) pa_nil)))) pa_nil)))))), ?_⟩
  refine ⟨_, rfl, v, .ty "list", _, _, isLstD d, rfl, .ty "list", dp_ty hk, kit_lst d, _, rfl, ?_⟩
  cases cl : isLstD d with
  | false =>
    have : aloneB d = false := by cases d <;> first | rfl | cases cl
    rw [this] at q
    exact iteF (q _ (Same.refl H))
  | true =>
    obtain ⟨ds, rfl⟩ : ∃ ds, d = .list ds := by cases d <;> first | exact ⟨_, rfl⟩ | cases cl
    obtain ⟨p, vs, rfl, hS, hD⟩ : ∃ t vs, v = .ref t ∧ SqL K H t vs ∧ DpAll K H vs ds := by
      cases hk with
      | lst a b => exact ⟨_, _, rfl, a, b⟩
    have hl := dpAll_len hD
    have hds := hz ds rfl
    have eO : aloneB (.list ds) = (decide (ds.length = 2) && (ds.map rowsB).all id) := rfl
    refine iteT ⟨_, rfl, p, _, rfl, .inl hS, rfl, _, rfl, ?_⟩
    by_cases c : ds.length = 2
    case neg =>
      rw [eO, decide_eq_false c, Bool.false_and] at q
      refine iteF' (decide_eq_false fun e => by injection e with e; omega) ?_
      exact q _ (Same.refl H)
    rw [eO, decide_eq_true c, Bool.true_and] at q
    refine iteT' (decide_eq_true (by rw [hl, c]; rfl)) ?_
    refine ⟨_, rfl, p, rfl, ⟨_, hS⟩, fun D hD' => ?_⟩
    refine list_turns (xs := vs) (fun i H' => Same H H' ∧ H' D = some (.lst (((ds.map rowsB).take i).map V.bl))) ⟨same_new hD' _, upd_same⟩ (fun i H' _ h => h.1.seq hS) ?_ ?_
    · rintro i x H' hx ⟨s1, h1⟩
      obtain ⟨di, hdi, hxi⟩ := dpAll_get hD hx
      have hi : i < ds.length := (List.getElem?_eq_some_iff.mp hdi).1
      have hb : (ds.map rowsB)[i]? = some (rowsB di) := by rw [List.getElem?_map, hdi]; rfl
      refine ⟨rfl, _, rfl, x, di, rfl, dp_mono s1 _ _ hxi, (hin ds rfl di (List.mem_of_getElem? hdi)).1, (hin ds rfl di (List.mem_of_getElem? hdi)).2, fun H2 s2 => ⟨_, s2 _ _ h1, ?_, same_upd (s1.trans s2) hD', by rw [upd_same, take_bl _ hb]⟩⟩
      rw [List.length_map]
      exact Nat.lt_of_le_of_lt (List.length_take_le _ _) (Nat.lt_of_lt_of_le hi (Nat.le_trans hds (by decide)))
    · rintro H1 ⟨s1, h1⟩
      rw [hl, ← List.length_map (f := rowsB), List.take_length] at h1
      exact ⟨D, _, rfl, SqL.of h1, q _ s1⟩
end
end TA

set_option Elab.async false
set_option maxRecDepth 100000
set_option maxHeartbeats 4000000
namespace TA
open PySem L2 PyProof.Rows
set_option linter.unusedVariables false
def pairB : PyData → Bool
  | .tuple ds => decide (ds.length = 2) && (ds.map outB).all id
  | _ => false
def pairOf : PyData → List Int
  | .tuple ds => intsOf ds
  | _ => []
def risP (ps : List (List Int)) : Bool := ((List.range (ps.length - 1)).map fun i => HT.lexLt (ps.getD i []) (ps.getD (i + 1) [])).all id
def letB : PyData → Bool
  | .list ds => decide (0 < ds.length) && ((ds.map pairB).all id && risP (ds.map pairOf))
  | _ => false
def spPairB (K : PySem.W.Frag) : Sp := fun vs H Q _ => ∃ (v : V) (d : PyData), vs = [v] ∧ Dp K H v d ∧ ∀ H', Same H H' → Q (.bl (pairB d)) H'
/-- pairs of ints stand at these places -/
def PairsAt (K : PySem.W.Frag) (H : Hp) (xs : List V) (ps : List (List Int)) : Prop := xs.length = ps.length ∧ ∀ i : Nat, i < ps.length → ∃ a, xs[i]? = some (.ref a) ∧ SqT K H a ((ps.getD i []).map V.int)
def spRisP (K : PySem.W.Frag) : Sp := fun vs H Q _ => ∃ (p : Addr) (xs : List V) (ps : List (List Int)), vs = [.ref p] ∧ SqL K H p xs ∧ PairsAt K H xs ps ∧ 1 ≤ ps.length ∧ ps.length ≤ 1000 ∧ ∀ H', Same H H' → Q (.bl (risP ps)) H'
def spLetB (K : PySem.W.Frag) : Sp := fun vs H Q _ => ∃ (v : V) (d : PyData), vs = [v] ∧ Dp K H v d ∧ small d ∧ ∀ H', Same H H' → Q (.bl (letB d)) H'
theorem pairs_at {K : PySem.W.Frag} {H : Hp} {ds : List PyData} {vs : List V} (h : DpAll K H vs ds) (a : (ds.map pairB).all id = true) : PairsAt K H vs (ds.map pairOf) := by
  refine ⟨by rw [List.length_map]; exact dpAll_len h, fun i hi => ?_⟩
  rw [List.length_map] at hi
  have hl := dpAll_len h
  obtain ⟨d, hd, hx⟩ := dpAll_get h (List.getElem?_eq_getElem (show i < vs.length by omega))
  have hb : pairB d = true := by
    have := List.all_eq_true.mp a (pairB d) (List.mem_map.mpr ⟨d, List.mem_of_getElem? hd, rfl⟩)
    exact this
  cases d with
  | tuple es =>
    obtain ⟨_, b2⟩ := Bool.and_eq_true_iff.mp (show (decide (es.length = 2) && (es.map outB).all id) = true from hb)
    obtain ⟨t, xs, ex, ht, hes⟩ := dp_tup hx
    refine ⟨t, by rw [List.getElem?_eq_getElem (show i < vs.length by omega), ex], ?_⟩
    have e : (ds.map pairOf).getD i [] = intsOf es := by
      rw [List.getD_eq_getElem?_getD, List.getElem?_map, hd]; rfl
    rw [e, ← outs_ints hes b2]
    exact ht
  | _ => cases hb
section
variable {P : Program} {w : World} {K : PySem.W.Frag} {mg : Str → Option Value} {base : Heap}
theorem sc_outpair : FnScope ["thing", "x"] ["thing"] (defScope s_is_output_pair) := ⟨rfl, rfl, rfl, by decide +kernel, rfl, by decide +kernel, by decide +kernel⟩
theorem ok_outpair {f g1 : Addr} {fd d1 : FuncData} (F : Fun K "is_output_pair" "is_output_pair" s_is_output_pair f fd) (T : Txt K mg) (W : Def P w K mg base "is_output" ["thing"] 3 (spOut K) g1 d1) : FnOk P w K mg base CX0 4 f fd ["thing"] (spPairB K) := by
  refine F.ok sc_outpair (fun vs H Q E h => ?_) (fun cdv A outer s H vs Q E hr h => ?_)
  · obtain ⟨v, d, rfl, _⟩ := h
    rfl
  obtain ⟨v, d, rfl, hk, q⟩ := h
  have nd := sc_outpair.nd
  refine ⟨_, pss_one (ps_ret (pe_and (pe_callB call_isi (by rfl) T.isi boot_isinstance (pa_cons (pv 0) (pa_cons (pe_bltn (v := .ty "tuple") (by rfl) T.tuple boot_tuple rfl) pa_nil)))
    (pe_and (pe_cmpR op_eq (pe_callB call_len_seq (by rfl) T.len PySem.boot_len (pa_cons (pv 0) pa_nil)) pe_int (nomark _))
    (pe_one (pe_callB (cr_all rfl) (by rfl) T.all (by decide +kernel) (pa_cons
      (pe_lc (own := [("x", 1)]) (g := gName 1) (tt := tYes) (te := tCall (spOut K) [] E0 (tCons (tVar 1) tNil)) rfl nd (pi_tup (pv 0)) (blkOk_by (N := ["thing", "x"]) (sc := defScope s_is_output_pair) (by decide +kernel)) (fun _ _ _ _ _ => pg_name (i := 1) nd rfl (Or.inl rfl)) (fun _ _ _ _ _ => pts_nil)
        (fun _ _ _ _ _ => (by exact pe_call W.G hr rfl W.m W.k W.b .nil pass0 (pa_cons (pv 1) pa_nil)))) pa_nil)))))), ?_⟩
  refine ⟨_, rfl, v, .ty "tuple", _, _, isTupD d, rfl, .ty "tuple", dp_ty hk, kit_tup d, _, rfl, ?_⟩
  cases cl : isTupD d with
  | false =>
    have : pairB d = false := by cases d <;> first | rfl | cases cl
    rw [this] at q
    exact iteF (q _ (Same.refl H))
  | true =>
    obtain ⟨ds, rfl⟩ : ∃ ds, d = .tuple ds := by cases d <;> first | exact ⟨_, rfl⟩ | cases cl
    obtain ⟨p, vs, rfl, hS, hD⟩ := dp_tup hk
    have hl := dpAll_len hD
    have eO : pairB (.tuple ds) = (decide (ds.length = 2) && (ds.map outB).all id) := rfl
    refine iteT ⟨_, rfl, p, _, rfl, .inr hS, rfl, _, rfl, ?_⟩
    by_cases c : ds.length = 2
    case neg =>
      rw [eO, decide_eq_false c, Bool.false_and] at q
      refine iteF' (decide_eq_false fun e => by injection e with e; omega) ?_
      exact q _ (Same.refl H)
    rw [eO, decide_eq_true c, Bool.true_and] at q
    refine iteT' (decide_eq_true (by rw [hl, c]; rfl)) ?_
    refine ⟨_, rfl, p, rfl, ⟨_, hS⟩, fun D hD' => ?_⟩
    refine tup_turns (xs := vs) (fun i H' => Same H H' ∧ H' D = some (.lst (((ds.map outB).take i).map V.bl))) ⟨same_new hD' _, upd_same⟩ (fun i H' _ h => seqT_mono h.1 hS) ?_ ?_
    · rintro i x H' hx ⟨s1, h1⟩
      obtain ⟨di, hdi, hxi⟩ := dpAll_get hD hx
      have hi : i < ds.length := (List.getElem?_eq_some_iff.mp hdi).1
      have hb : (ds.map outB)[i]? = some (outB di) := by rw [List.getElem?_map, hdi]; rfl
      refine ⟨rfl, _, rfl, x, di, rfl, dp_mono s1 _ _ hxi, _, h1, ?_, same_upd s1 hD', by rw [upd_same, take_bl _ hb]⟩
      rw [List.length_map]
      exact Nat.lt_of_le_of_lt (List.length_take_le _ _) (Nat.lt_of_lt_of_le hi (by rw [c]; decide))
    · rintro H1 ⟨s1, h1⟩
      rw [hl, ← List.length_map (f := outB), List.take_length] at h1
      exact ⟨D, _, rfl, SqL.of h1, q _ s1⟩
theorem ok_risP {f : Addr} {fd : FuncData} (F : Fun K "is_rising" "is_rising" s_is_rising f fd) (T : Txt K mg) : FnOk P w K mg base CX0 1 f fd ["things"] (spRisP K) := by
  refine F.ok scRis (fun vs H Q E h => ?_) (fun cdv A outer s H vs Q E hr h => ?_)
  · obtain ⟨p, xs, ps, rfl, _⟩ := h
    rfl
  obtain ⟨p, xs, ps, rfl, hS, ⟨hl, hp⟩, n1, n2, q⟩ := h
  have nd := scRis.nd
  refine ⟨_, pss_one (ps_ret (pe_callB (cr_all rfl) (by rfl) T.all (by decide +kernel) (pa_cons
      (pe_lc (own := [("at", 1)]) (g := gName 1) (tt := tYes) (te := tOp (rLtT K) (tOp (rIxL K) (tVar 0) (tVar 1)) (tOp (rIxL K) (tVar 0) (tOp (rI0 fun i j => .int (i + j)) (tVar 1) (tC (.int 1))))) rfl nd
        (pi_range1 (by rfl) T.range (pa_cons (pe_op op_sub (pe_callB call_len_seq (by rfl) T.len PySem.boot_len (pa_cons (pv 0) pa_nil)) pe_int) pa_nil))
        (blkOk_by (N := ["things", "at"]) (sc := defScope s_is_rising) (by decide +kernel)) (fun _ _ _ _ _ => pg_name (i := 1) nd rfl (Or.inl rfl)) (fun _ _ _ _ _ => pts_nil)
        (fun _ _ _ _ _ => (by refine pe_cmpR (op_ltT ?_) ?_ ?_ (nomark _); (have := hr.un; show (A.deeper (envOfC "is_rising" (defScope s_is_rising) s.heap.objs.size f cdv)).units < cLine; omega); (exact pe_ix ix_list (pv 0) (pv 1) (fun _ _ => rfl)); (exact pe_ix ix_list (pv 0) (pe_op op_add (pv 1) pe_int) (fun _ _ => rfl))))) pa_nil))), ?_⟩
  refine ⟨_, rfl, p, _, rfl, .inl hS, _, _, rfl, rfl, ?_⟩
  rw [hl]
  have e1 : ((ps.length : Nat) : Int) - 1 = ((ps.length - 1 : Nat) : Int) := by omega
  refine ⟨((ps.length - 1 : Nat) : Int), congrArg (fun z => [V.int z]) e1, by omega, by omega, fun D hD => ?_⟩
  refine range_turns (n := ps.length - 1) (fun i H' => Same H H' ∧ H' D = some (.lst ((((List.range (ps.length - 1)).map fun i => HT.lexLt (ps.getD i []) (ps.getD (i + 1) [])).take i).map V.bl))) ⟨same_new hD _, upd_same⟩ ?_ ?_
  · rintro i H' hi ⟨s1, h1⟩
    have ei : (0 : Int) + (i : Int) = (i : Int) := by omega
    rw [ei]
    obtain ⟨a0, g0, t0⟩ := hp i (by omega)
    obtain ⟨a1, g1, t1⟩ := hp (i + 1) (by omega)
    have hb : ((List.range (ps.length - 1)).map fun i => HT.lexLt (ps.getD i []) (ps.getD (i + 1) []))[i]? = some (HT.lexLt (ps.getD i []) (ps.getD (i + 1) [])) := by
      rw [List.getElem?_map, List.getElem?_range hi]; rfl
    refine ⟨rfl, _, rfl, _, rfl, p, _, _, _, rfl, rfl, s1.seq hS, atI_nat g0, _, rfl, _, rfl, _, _, rfl, rfl, p, _, _, _, rfl, rfl, s1.seq hS, (by rw [show (i : Int) + 1 = ((i + 1 : Nat) : Int) by omega]; exact atI_nat g1), a0, a1, _, _, rfl, rfl, seqT_mono s1 t0, seqT_mono s1 t1, _, h1, ?_, same_upd s1 hD, by rw [upd_same, take_bl _ hb]⟩
    rw [List.length_map]
    exact Nat.lt_of_le_of_lt (List.length_take_le _ _) (Nat.lt_of_lt_of_le hi (Nat.le_trans (by omega) (show 1000 ≤ sizeLine by decide)))
  · rintro H' ⟨s1, h1⟩
    rw [List.take_of_length_le (by rw [List.length_map, List.length_range]; exact Nat.le_refl _)] at h1
    exact ⟨D, _, rfl, SqL.of h1, q _ s1⟩
end
end TA

set_option Elab.async false
set_option maxRecDepth 100000
set_option maxHeartbeats 4000000
namespace TA
open PySem L2 PyProof.Rows
set_option linter.unusedVariables false
section
variable {P : Program} {w : World} {K : PySem.W.Frag} {mg : Str → Option Value} {base : Heap}
theorem sc_let : FnScope ["thing", "x"] ["thing"] (defScope s_is_let) := ⟨rfl, rfl, rfl, by decide +kernel, rfl, by decide +kernel, by decide +kernel⟩
theorem ok_let {f g1 g2 : Addr} {fd d1 d2 : FuncData} (F : Fun K "is_let" "is_let" s_is_let f fd) (T : Txt K mg) (W : Def P w K mg base "is_output_pair" ["thing"] 4 (spPairB K) g1 d1) (R : Def P w K mg base "is_rising" ["things"] 1 (spRisP K) g2 d2) : FnOk P w K mg base CX0 5 f fd ["thing"] (spLetB K) := by
  refine F.ok sc_let (fun vs H Q E h => ?_) (fun cdv A outer s H vs Q E hr h => ?_)
  · obtain ⟨v, d, rfl, _⟩ := h
    rfl
  obtain ⟨v, d, rfl, hk, hz, q⟩ := h
  have nd := sc_let.nd
  refine ⟨_, pss_one (ps_ret (pe_and (pe_callB call_isi (by rfl) T.isi boot_isinstance (pa_cons (pv 0) (pa_cons (pe_bltn (v := .ty "list") (by rfl) T.list boot_list rfl) pa_nil)))
    (pe_and (pe_cmpR op_gt (pe_callB call_len_seq (by rfl) T.len PySem.boot_len (pa_cons (pv 0) pa_nil)) pe_int (nomark _))
    (pe_and (pe_callB (cr_all rfl) (by rfl) T.all (by decide +kernel) (pa_cons
      (pe_lc (own := [("x", 1)]) (g := gName 1) (tt := tYes) (te := tCall (spPairB K) [] E0 (tCons (tVar 1) tNil)) rfl nd (pi_list (pv 0)) (blkOk_by (N := ["thing", "x"]) (sc := defScope s_is_let) (by decide +kernel)) (fun _ _ _ _ _ => pg_name (i := 1) nd rfl (Or.inl rfl)) (fun _ _ _ _ _ => pts_nil)
        (fun _ _ _ _ _ => (by exact pe_call W.G hr rfl W.m W.k W.b .nil pass0 (pa_cons (pv 1) pa_nil)))) pa_nil))
    (pe_one (pe_call R.G (hr.mono (by decide)) rfl R.m R.k R.b .nil pass0 (pa_cons (pv 0) pa_nil))))))), ?_⟩
  refine ⟨_, rfl, v, .ty "list", _, _, isLstD d, rfl, .ty "list", dp_ty hk, kit_lst d, _, rfl, ?_⟩
  cases cl : isLstD d with
  | false =>
    have : letB d = false := by cases d <;> first | rfl | cases cl
    rw [this] at q
    exact iteF (q _ (Same.refl H))
  | true =>
    obtain ⟨ds, rfl⟩ : ∃ ds, d = .list ds := by cases d <;> first | exact ⟨_, rfl⟩ | cases cl
    obtain ⟨p, vs, rfl, hS, hD⟩ : ∃ t vs, v = .ref t ∧ SqL K H t vs ∧ DpAll K H vs ds := by
      cases hk with
      | lst a b => exact ⟨_, _, rfl, a, b⟩
    have hl := dpAll_len hD
    have hds := hz ds rfl
    have eO : letB (.list ds) = (decide (0 < ds.length) && ((ds.map pairB).all id && risP (ds.map pairOf))) := rfl
    refine iteT ⟨_, rfl, p, _, rfl, .inl hS, _, _, rfl, rfl, ?_⟩
    by_cases c : 0 < ds.length
    case neg =>
      rw [eO, decide_eq_false c, Bool.false_and] at q
      refine ⟨_, rfl, iteF' (decide_eq_false (by omega)) ?_⟩
      exact q _ (Same.refl H)
    rw [eO, decide_eq_true c, Bool.true_and] at q
    refine ⟨_, rfl, iteT' (decide_eq_true (by omega)) ?_⟩
    refine ⟨_, rfl, p, rfl, ⟨_, hS⟩, fun D hD' => ?_⟩
    refine list_turns (xs := vs) (fun i H' => Same H H' ∧ H' D = some (.lst (((ds.map pairB).take i).map V.bl))) ⟨same_new hD' _, upd_same⟩ (fun i H' _ h => h.1.seq hS) ?_ ?_
    · rintro i x H' hx ⟨s1, h1⟩
      obtain ⟨di, hdi, hxi⟩ := dpAll_get hD hx
      have hi : i < ds.length := (List.getElem?_eq_some_iff.mp hdi).1
      have hb : (ds.map pairB)[i]? = some (pairB di) := by rw [List.getElem?_map, hdi]; rfl
      refine ⟨rfl, _, rfl, x, di, rfl, dp_mono s1 _ _ hxi, fun H2 s2 => ⟨_, s2 _ _ h1, ?_, same_upd (s1.trans s2) hD', by rw [upd_same, take_bl _ hb]⟩⟩
      rw [List.length_map]
      exact Nat.lt_of_le_of_lt (List.length_take_le _ _) (Nat.lt_of_lt_of_le hi (Nat.le_trans hds (by decide)))
    · rintro H1 ⟨s1, h1⟩
      rw [hl, ← List.length_map (f := pairB), List.take_length] at h1
      refine ⟨D, _, rfl, SqL.of h1, _, rfl, ?_⟩
      cases ca : (ds.map pairB).all id with
      | false =>
        rw [ca, Bool.false_and] at q
        exact iteF (q _ s1)
      | true =>
        rw [ca, Bool.true_and] at q
        have hp := pairs_at (dpAll_mono s1 _ _ hD) ca
        have li : (ds.map pairOf).length = ds.length := List.length_map _
        exact iteT ⟨_, rfl, p, vs, ds.map pairOf, rfl, s1.seq hS, hp, by omega, by omega, fun H2 s2 => q _ (s1.trans s2)⟩
end
end TA

set_option Elab.async false
set_option maxRecDepth 100000
set_option maxHeartbeats 4000000
namespace TA
open PySem L2 PyProof.Rows
set_option linter.unusedVariables false
/-- a pair of inputs, so many of each hand -/
def inB (n0 n1 : Nat) : PyData → Bool
  | .tuple [x, y] => within x 0 ((n0 : Int) - 1) && within y 0 ((n1 : Int) - 1)
  | _ => false
theorem inB_no {n0 n1 : Nat} {d : PyData} (h : ∀ x y, d ≠ .tuple [x, y]) : inB n0 n1 d = false := by
  match d, h with
  | .tuple [x, y], h => exact absurd rfl (h x y)
  | .tuple [], _ | .tuple [_], _ | .tuple (_ :: _ :: _ :: _), _ | .none, _ | .bool _, _ | .int _, _ | .str _, _ | .list _, _ | .dict _, _ => rfl
theorem tup_cases (d : PyData) : (∃ x y, d = .tuple [x, y]) ∨ (∀ x y, d ≠ .tuple [x, y]) := by
  match d with
  | .tuple [x, y] => exact .inl ⟨x, y, rfl⟩
  | .tuple [] | .tuple [_] | .tuple (_ :: _ :: _ :: _) | .none | .bool _ | .int _ | .str _ | .list _ | .dict _ => exact .inr (fun x y e => by cases e)
theorem dp_pair {K : PySem.W.Frag} {H : Hp} {v : V} {d : PyData} (h : Dp K H v d) : (∃ a x y e f, v = .ref a ∧ d = .tuple [e, f] ∧ SqT K H a [x, y] ∧ Dp K H x e ∧ Dp K H y f) ∨ ((∀ x y, d ≠ .tuple [x, y]) ∧ (isTupD d = false ∨ (isTupD d = true ∧ ∃ a xs, v = .ref a ∧ SqT K H a xs ∧ xs.length ≠ 2))) := by
  rcases tup_cases d with ⟨e, f, rfl⟩ | hn
  · left
    obtain ⟨a, xs, rfl, hs, ha⟩ := dp_tup h
    cases ha with
    | cons h1 h2 =>
      cases h2 with
      | cons h2 h3 =>
        cases h3
        exact ⟨_, _, _, _, _, rfl, rfl, hs, h1, h2⟩
  · right
    refine ⟨hn, ?_⟩
    cases h with
    | @tup a xs ds h1 h2 =>
      refine .inr ⟨rfl, a, xs, rfl, h1, fun e => ?_⟩
      have el := dpAll_len h2
      rw [e] at el
      match ds, el, hn with
      | [x, y], _, hn => exact hn x y rfl
    | _ => exact .inl rfl
/-- the outputs let alone, as two lists of rows -/
structure AloneAt (K : PySem.W.Frag) (H : Hp) (al : Addr) (n0 n1 : Nat) : Prop where
  ex : ∃ (r0 r1 : Addr) (xs0 xs1 : List V), SqL K H al [.ref r0, .ref r1] ∧ SqL K H r0 xs0 ∧ SqL K H r1 xs1 ∧ xs0.length = n0 ∧ xs1.length = n1
theorem AloneAt.mono {K : PySem.W.Frag} {H H' : Hp} {al : Addr} {n0 n1 : Nat} (s : Same H H') (h : AloneAt K H al n0 n1) : AloneAt K H' al n0 n1 := by
  obtain ⟨r0, r1, xs0, xs1, a, b, c, d⟩ := h.ex
  exact ⟨r0, r1, xs0, xs1, s.seq a, s.seq b, s.seq c, d⟩
def spInp (K : PySem.W.Frag) : Sp := fun vs H Q _ => ∃ (v : V) (d : PyData) (al : Addr) (n0 n1 : Nat), vs = [v, .ref al] ∧ Dp K H v d ∧ AloneAt K H al n0 n1 ∧ ∀ H', Same H H' → Q (.bl (inB n0 n1 d)) H'
structure TxtH (K : PySem.W.Frag) (mg : Str → Option Value) : Prop where
  hands : ∃ hA, mg "HANDS" = some (.ref hA) ∧ ∀ H, SqT K H hA [.int 0, .int 1]
section
variable {P : Program} {w : World} {K : PySem.W.Frag} {mg : Str → Option Value} {base : Heap}
abbrev nInp : List Str := ["thing", "alone", "hand"]
theorem sc_inp : FnScope nInp ["thing", "alone"] (defScope s_is_input_pair) := ⟨rfl, rfl, rfl, by decide +kernel, rfl, by decide +kernel, by decide +kernel⟩
theorem ok_inp {f g1 : Addr} {fd d1 : FuncData} (F : Fun K "is_input_pair" "is_input_pair" s_is_input_pair f fd) (T : Txt K mg) (U : TxtH K mg) (W : Def P w K mg base "is_whole_within" ["thing", "least", "most"] 2 (spWithinG K) g1 d1) : FnOk P w K mg base CX0 3 f fd ["thing", "alone"] (spInp K) := by
  refine F.ok sc_inp (fun vs H Q E h => ?_) (fun cdv A outer s H vs Q E hr h => ?_)
  · obtain ⟨v, d, al, n0, n1, rfl, _⟩ := h
    rfl
  obtain ⟨v, d, al, n0, n1, rfl, hk, hA, q⟩ := h
  obtain ⟨hT, mH, hH⟩ := U.hands
  have nd := sc_inp.nd
  refine ⟨_, pss_one (ps_ret (pe_and (pe_callB call_isi (by rfl) T.isi boot_isinstance (pa_cons (pv 0) (pa_cons (pe_bltn (v := .ty "tuple") (by rfl) T.tuple boot_tuple rfl) pa_nil)))
    (pe_and (pe_cmpR op_eq (pe_callB call_len_seq (by rfl) T.len PySem.boot_len (pa_cons (pv 0) pa_nil)) pe_int (nomark _))
    (pe_one (pe_callB (cr_all rfl) (by rfl) T.all (by decide +kernel) (pa_cons
      (pe_lc (own := [("hand", 2)]) (g := gName 2) (tt := tYes) (te := tCall (spWithinG K) [] E0 (tCons (tOp (rIxT K) (tVar 0) (tVar 2)) (tCons (tC (.int 0)) (tCons (tOp (rI0 fun i j => .int (i - j)) (tCB (fun xs H Q => ∃ p ys, xs = [.ref p] ∧ (SqL K H p ys ∨ SqT K H p ys) ∧ Q (.int ys.length) H) (tCons (tOp (rIxL K) (tVar 1) (tVar 2)) tNil)) (tC (.int 1))) tNil)))) rfl nd
        (pi_tup (pe_glob (v := .ref hT) rfl mH rfl)) (blkOk_by (N := nInp) (sc := defScope s_is_input_pair) (by decide +kernel)) (fun _ _ _ _ _ => pg_name (i := 2) nd rfl (Or.inl rfl)) (fun _ _ _ _ _ => pts_nil)
        (fun _ _ _ _ _ => (by refine pe_call W.G hr rfl W.m W.k W.b .nil pass0 (pa_cons ?_ (pa_cons pe_int (pa_cons (pe_op op_sub ?_ pe_int) pa_nil))); (exact pe_ix ix_tup (pv 0) (pv 2) (fun _ _ => rfl)); (refine pe_callB call_len_seq (by rfl) T.len PySem.boot_len (pa_cons ?_ pa_nil); (exact pe_ix ix_list (pv 1) (pv 2) (fun _ _ => rfl)))))) pa_nil)))))), ?_⟩
  rcases dp_pair hk with ⟨a, x, y, e, g, rfl, rfl, ha, hx, hy⟩ | ⟨hn, c2 | ⟨c2, a, xs, rfl, ha, hl⟩⟩
  case inr.inl =>
    rw [inB_no hn] at q
    exact ⟨_, rfl, v, V.ty "tuple", _, _, false, rfl, .ty "tuple", dp_ty hk, (by rw [kit_tup, c2]), _, rfl, iteF (q _ (Same.refl H))⟩
  case inr.inr =>
    rw [inB_no hn] at q
    refine ⟨_, rfl, V.ref a, V.ty "tuple", _, _, true, rfl, .ty "tuple", dp_ty hk, (by rw [kit_tup, c2]), _, rfl, iteT ?_⟩
    refine ⟨_, rfl, a, _, rfl, .inr ha, rfl, _, rfl, iteF' (decide_eq_false fun e => hl (by injection e with e; omega)) ?_⟩
    exact q _ (Same.refl H)
  refine ⟨_, rfl, V.ref a, V.ty "tuple", _, _, true, rfl, .ty "tuple", dp_ty hk, kit_tup _, _, rfl, iteT ?_⟩
  refine ⟨_, rfl, a, _, rfl, .inr ha, rfl, _, rfl, iteT ?_⟩
  obtain ⟨r0, r1, xs0, xs1, k1, k2, k3, rfl, rfl⟩ := hA.ex
  refine ⟨hT, rfl, ⟨_, hH H⟩, fun D hD => ?_⟩
  refine tup_turns (xs := [V.int 0, V.int 1]) (fun i H' => Same H H' ∧ H' D = some (.lst (([within e 0 ((xs0.length : Int) - 1), within g 0 ((xs1.length : Int) - 1)].take i).map V.bl))) ⟨same_new hD _, upd_same⟩ (fun i H' _ _ => hH H') ?_ ?_
  · rintro i z H' hz ⟨s1, h1⟩
    rcases i with _ | _ | i
    · obtain rfl : z = .int 0 := by simpa using hz.symm
      exact ⟨rfl, _, rfl, _, rfl, a, _, _, _, rfl, rfl, seqT_mono s1 ha, (by rfl), _, rfl, _, rfl, al, _, _, _, rfl, rfl, s1.seq k1, (by rfl), r0, _, rfl, .inl (s1.seq k2), _, _, rfl, rfl, x, e, 0, _, rfl, dp_mono s1 _ _ hx, _, h1, (by show 0 < sizeLine; decide), same_upd s1 hD, by rw [upd_same]; rfl⟩
    · obtain rfl : z = .int 1 := by simpa using hz.symm
      exact ⟨rfl, _, rfl, _, rfl, a, _, _, _, rfl, rfl, seqT_mono s1 ha, (by rfl), _, rfl, _, rfl, al, _, _, _, rfl, rfl, s1.seq k1, (by rfl), r1, _, rfl, .inl (s1.seq k3), _, _, rfl, rfl, y, g, 0, _, rfl, dp_mono s1 _ _ hy, _, h1, (by show 1 < sizeLine; decide), same_upd s1 hD, by rw [upd_same]; rfl⟩
    · simp at hz
  · rintro H' ⟨s1, h1⟩
    refine ⟨D, _, rfl, SqL.of h1, ?_⟩
    have z := q _ s1
    have e2 : inB xs0.length xs1.length (.tuple [e, g]) = (within e 0 ((xs0.length : Int) - 1) && within g 0 ((xs1.length : Int) - 1)) := rfl
    rw [e2] at z
    show Q (.bl (_ && (_ && true))) H'
    rw [Bool.and_true]
    exact z
end
end TA

set_option Elab.async false
set_option maxRecDepth 100000
set_option maxHeartbeats 4000000
namespace TA
open PySem L2 PyProof.Rows
set_option linter.unusedVariables false
/-! a task's things in the heap -/
inductive A2 {α β : Type} (R : α → β → Prop) : List α → List β → Prop
  | nil : A2 R [] []
  | cons {x y xs ys} : R x y → A2 R xs ys → A2 R (x :: xs) (y :: ys)
theorem A2.len {α β : Type} {R : α → β → Prop} : ∀ {xs : List α} {ys : List β}, A2 R xs ys → xs.length = ys.length
  | _, _, .nil => rfl
  | _, _, .cons _ b => congrArg (· + 1) b.len
theorem A2.imp {α β : Type} {R S : α → β → Prop} (f : ∀ x y, R x y → S x y) : ∀ {xs : List α} {ys : List β}, A2 R xs ys → A2 S xs ys
  | _, _, .nil => .nil
  | _, _, .cons a b => .cons (f _ _ a) (b.imp f)
theorem A2.get {α β : Type} {R : α → β → Prop} : ∀ {xs : List α} {ys : List β} {i : Nat} {x : α}, A2 R xs ys → xs[i]? = some x → ∃ y, ys[i]? = some y ∧ R x y
  | _, _, i, _, .nil, e => by simp at e
  | _, _, 0, _, .cons a _, e => ⟨_, rfl, by simp at e; rw [← e]; exact a⟩
  | _, _, i + 1, x, .cons _ b, e => by
    obtain ⟨y, h1, h2⟩ := A2.get (i := i) (x := x) b (by simpa using e)
    exact ⟨y, by simpa using h1, h2⟩
theorem A2.at {α β : Type} {R : α → β → Prop} {xs : List α} {ys : List β} {i : Nat} {y : β} (h : A2 R xs ys) (e : ys[i]? = some y) : ∃ x, xs[i]? = some x ∧ R x y := by
  have hi : i < xs.length := by rw [h.len]; exact (List.getElem?_eq_some_iff.mp e).1
  obtain ⟨y', h1, h2⟩ := h.get (List.getElem?_eq_getElem hi)
  rw [e] at h1
  cases h1
  exact ⟨_, List.getElem?_eq_getElem hi, h2⟩
theorem A2.snoc {α β : Type} {R : α → β → Prop} : ∀ {xs : List α} {ys : List β} {x : α} {y : β}, A2 R xs ys → R x y → A2 R (xs ++ [x]) (ys ++ [y])
  | _, _, _, _, .nil, h => .cons h .nil
  | _, _, _, _, .cons a b, h => .cons a (b.snoc h)
theorem A2.mem {α β : Type} {R : α → β → Prop} {xs : List α} {ys : List β} {x : α} (h : A2 R xs ys) (m : x ∈ xs) : ∃ y, y ∈ ys ∧ R x y := by
  obtain ⟨i, e⟩ := List.getElem?_of_mem m
  obtain ⟨y, e2, r⟩ := h.get e
  exact ⟨y, List.mem_of_getElem? e2, r⟩
theorem A2.ofMap {α β γ : Type} {R : α → β → Prop} (f : γ → α) (g : γ → β) : ∀ (zs : List γ), (∀ z ∈ zs, R (f z) (g z)) → A2 R (zs.map f) (zs.map g)
  | [], _ => .nil
  | z :: zs, h => .cons (h z List.mem_cons_self) (A2.ofMap f g zs fun x m => h x (List.mem_cons_of_mem _ m))
/-- a pair of ints, a list of ints, rows of these, what is let alone, pairs let -/
def TpAt (H : Hp) (v : V) (p : Int × Int) : Prop := ∃ t, v = .ref t ∧ H t = some (.tup [.int p.1, .int p.2])
def RowAt (H : Hp) (v : V) (row : List Int) : Prop := ∃ t, v = .ref t ∧ H t = some (.lst (row.map .int))
def RowsAt (H : Hp) (v : V) (rows : List (List Int)) : Prop := ∃ t xs, v = .ref t ∧ H t = some (.lst xs) ∧ A2 (RowAt H) xs rows
def AlAt (H : Hp) (v : V) (al : Nat → List (List Int)) : Prop := ∃ t x0 x1, v = .ref t ∧ H t = some (.lst [x0, x1]) ∧ RowsAt H x0 (al 0) ∧ RowsAt H x1 (al 1)
def LetAt (H : Hp) (v : V) (l : List (Int × Int)) : Prop := ∃ t xs, v = .ref t ∧ H t = some (.lst xs) ∧ A2 (TpAt H) xs l
/-- pairs of inputs -/
abbrev IP := Nat × Nat
def kI (p : IP) : List Key := [.inl (p.1 : Int), .inl (p.2 : Int)]
def iI (p : IP) : Int × Int := ((p.1 : Int), (p.2 : Int))
abbrev BD := List (IP × List (Int × Int))
def EnAt (H : Hp) (e : List Key × V) (b : IP × List (Int × Int)) : Prop := e.1 = kI b.1 ∧ LetAt H e.2 b.2
def BoAt (H : Hp) (d : Addr) (bo : BD) : Prop := ∃ kvs, H d = some (.dT kvs) ∧ A2 (EnAt H) kvs bo
/-- what is no dict stands as it stood -/
def flatO (o : HO) : Prop := (∃ xs, o = .lst xs) ∨ (∃ xs, o = .tup xs)
def Kp (H H' : Hp) : Prop := ∀ b o, flatO o → H b = some o → H' b = some o
theorem Kp.lst {H H' : Hp} (s : Kp H H') {b xs} (e : H b = some (.lst xs)) : H' b = some (.lst xs) := s _ _ (.inl ⟨_, rfl⟩) e
theorem Kp.tup {H H' : Hp} (s : Kp H H') {b xs} (e : H b = some (.tup xs)) : H' b = some (.tup xs) := s _ _ (.inr ⟨_, rfl⟩) e
theorem Kp.refl (H : Hp) : Kp H H := fun _ _ _ e => e
theorem Kp.trans {H H1 H2 : Hp} (s : Kp H H1) (t : Kp H1 H2) : Kp H H2 := fun b o f e => t b o f (s b o f e)
theorem Kp.same {H H' : Hp} (s : Same H H') : Kp H H' := fun b o _ e => s b o e
theorem Kp.put {H : Hp} {d : Addr} {u : HO} {o : HO} (e : H d = some u) (n : ¬ flatO u) : Kp H (upd H d o) := fun b x f h => by
  by_cases c : b = d
  · subst c
    rw [e] at h
    cases h
    exact absurd f n
  · rw [upd_ne c]; exact h
theorem nf_dT {k : List (List Key × V)} : ¬ flatO (.dT k) := by rintro (⟨_, h⟩ | ⟨_, h⟩) <;> cases h
theorem nf_frz {o u} : ¬ flatO (.frz o u) := by rintro (⟨_, h⟩ | ⟨_, h⟩) <;> cases h
theorem TpAt.mono {H H' : Hp} (s : Kp H H') {v : V} {p : Int × Int} (h : TpAt H v p) : TpAt H' v p := by
  obtain ⟨t, e, h⟩ := h
  exact ⟨t, e, s.tup h⟩
theorem RowAt.mono {H H' : Hp} (s : Kp H H') {v : V} {p} (h : RowAt H v p) : RowAt H' v p := by
  obtain ⟨t, e, h⟩ := h
  exact ⟨t, e, s.lst h⟩
theorem RowsAt.mono {H H' : Hp} (s : Kp H H') {v : V} {p} (h : RowsAt H v p) : RowsAt H' v p := by
  obtain ⟨t, xs, e, h, a⟩ := h
  exact ⟨t, xs, e, s.lst h, a.imp fun _ _ r => r.mono s⟩
theorem AlAt.mono {H H' : Hp} (s : Kp H H') {v : V} {p} (h : AlAt H v p) : AlAt H' v p := by
  obtain ⟨t, x0, x1, e, h, a, b⟩ := h
  exact ⟨t, x0, x1, e, s.lst h, a.mono s, b.mono s⟩
theorem LetAt.mono {H H' : Hp} (s : Kp H H') {v : V} {p} (h : LetAt H v p) : LetAt H' v p := by
  obtain ⟨t, xs, e, h, a⟩ := h
  exact ⟨t, xs, e, s.lst h, a.imp fun _ _ r => r.mono s⟩
theorem EnAt.mono {H H' : Hp} (s : Kp H H') {v} {p} (h : EnAt H v p) : EnAt H' v p := ⟨h.1, h.2.mono s⟩
theorem BoAt.mono {H H' : Hp} (s : Same H H') {v} {p} (h : BoAt H v p) : BoAt H' v p := by
  obtain ⟨kvs, h, a⟩ := h
  exact ⟨kvs, s _ _ h, a.imp fun _ _ r => r.mono (.same s)⟩
def But (a : Addr) (H H' : Hp) : Prop := ∀ b o, b ≠ a → H b = some o → H' b = some o
theorem But.trans {a : Addr} {H H1 H2 : Hp} (h : But a H H1) (g : But a H1 H2) : But a H H2 := fun b o e q => g b o e (h b o e q)
theorem But.same {a : Addr} {H H' : Hp} (s : Same H H') : But a H H' := fun b o _ q => s b o q
theorem But.at {a : Addr} {H : Hp} {o : HO} : But a H (upd H a o) := fun b u nb e => by rw [upd_ne nb]; exact e
theorem But.kp {d : Addr} {H H' : Hp} {u : HO} (e : H d = some u) (n : ¬ flatO u) (s : But d H H') : Kp H H' := fun b x f h => s b x (fun c => by subst c; rw [e] at h; cases h; exact n f) h
/-- a dict that was locked and is unlocked again -/
theorem But.unlock {d : Addr} {H H' : Hp} {u : HO} (e : H d = some u) (s : But d H H') : Same H (upd H' d u) := fun b x h => by
  by_cases c : b = d
  · subst c
    rw [e] at h
    cases h
    exact upd_same
  · rw [upd_ne c]; exact s b x c h
theorem But.new {d p : Addr} {H0 H : Hp} {o : HO} (s : But d H0 H) (f : H0 p = none) : But d H0 (upd H p o) := fun b u nb e => by
  rw [upd_ne (ne_of_none e f)]
  exact s b u nb e
/-! the same as data -/
def pairD (p : Int × Int) : PyData := .tuple [.int p.1, .int p.2]
def rowD (row : List Int) : PyData := .list (row.map .int)
def rowsD (rows : List (List Int)) : PyData := .list (rows.map rowD)
def alD (al : Nat → List (List Int)) : PyData := .list [rowsD (al 0), rowsD (al 1)]
def letD (l : List (Int × Int)) : PyData := .list (l.map pairD)
theorem dp_ints {K : PySem.W.Frag} {H : Hp} : ∀ (row : List Int), DpAll K H (row.map V.int) (row.map PyData.int)
  | [] => .nil
  | i :: r => .cons (.int i) (dp_ints r)
theorem A2.dp {K : PySem.W.Frag} {H : Hp} {α : Type} {R : V → α → Prop} (f : α → PyData) (g : ∀ x y, R x y → Dp K H x (f y)) : ∀ {xs : List V} {ys : List α}, A2 R xs ys → DpAll K H xs (ys.map f)
  | _, _, .nil => .nil
  | _, _, .cons a b => .cons (g _ _ a) (b.dp f g)
theorem TpAt.dp {K : PySem.W.Frag} {H : Hp} {v : V} {p} (h : TpAt H v p) : Dp K H v (pairD p) := by
  obtain ⟨t, rfl, h⟩ := h
  exact .tup (SqT.of h) (.cons (.int _) (.cons (.int _) .nil))
theorem RowAt.dp {K : PySem.W.Frag} {H : Hp} {v : V} {p} (h : RowAt H v p) : Dp K H v (rowD p) := by
  obtain ⟨t, rfl, h⟩ := h
  exact .lst (SqL.of h) (dp_ints p)
theorem RowsAt.dp {K : PySem.W.Frag} {H : Hp} {v : V} {p} (h : RowsAt H v p) : Dp K H v (rowsD p) := by
  obtain ⟨t, xs, rfl, h, a⟩ := h
  exact .lst (SqL.of h) (a.dp rowD fun _ _ r => r.dp)
theorem AlAt.dp {K : PySem.W.Frag} {H : Hp} {v : V} {p} (h : AlAt H v p) : Dp K H v (alD p) := by
  obtain ⟨t, x0, x1, rfl, h, a, b⟩ := h
  exact .lst (SqL.of h) (.cons a.dp (.cons b.dp .nil))
theorem LetAt.dp {K : PySem.W.Frag} {H : Hp} {v : V} {p} (h : LetAt H v p) : Dp K H v (letD p) := by
  obtain ⟨t, xs, rfl, h, a⟩ := h
  exact .lst (SqL.of h) (a.dp pairD fun _ _ r => r.dp)
/-! what is drawn -/
def ltP (p q : Int × Int) : Prop := p.1 < q.1 ∨ (p.1 = q.1 ∧ p.2 < q.2)
def ltN (p q : IP) : Prop := p.1 < q.1 ∨ (p.1 = q.1 ∧ p.2 < q.2)
def okOut (x : Int) : Prop := 0 ≤ x ∧ x ≤ 63
def okRow (row : List Int) : Prop := 1 ≤ row.length ∧ row.length ≤ 60 ∧ row.Pairwise (· < ·) ∧ ∀ x ∈ row, okOut x
def okLet (l : List (Int × Int)) : Prop := 1 ≤ l.length ∧ l.length ≤ 60 ∧ l.Pairwise ltP ∧ ∀ p ∈ l, okOut p.1 ∧ okOut p.2
structure TD where
  al : Nat → List (List Int)
  bo : BD
structure WF (T : TD) : Prop where
  n0 : ∀ h, h < 2 → 1 ≤ (T.al h).length ∧ (T.al h).length ≤ 20
  row : ∀ h, h < 2 → ∀ r ∈ T.al h, okRow r
  srt : (T.bo.map (·.1)).Pairwise ltN
  rng : ∀ e ∈ T.bo, e.1.1 < (T.al 0).length ∧ e.1.2 < (T.al 1).length
  lets : ∀ e ∈ T.bo, okLet e.2
  com0 : ∀ a, a < (T.al 0).length → ∃ e ∈ T.bo, e.1.1 = a
  com1 : ∀ a, a < (T.al 1).length → ∃ e ∈ T.bo, e.1.2 = a
  many : T.bo.length ≤ 60
/-! the checks say yes to what is drawn -/
theorem risI_yes {ns : List Int} (h : ns.Pairwise (· < ·)) : risI ns = true := by
  unfold risI
  rw [List.all_eq_true]
  intro b hb
  obtain ⟨i, hi, rfl⟩ := List.mem_map.mp hb
  have hi := List.mem_range.mp hi
  have h1 : i < ns.length := by omega
  have h2 : i + 1 < ns.length := by omega
  show decide _ = true
  rw [decide_eq_true_eq, List.getD_eq_getElem?_getD, List.getD_eq_getElem?_getD, List.getElem?_eq_getElem h1, List.getElem?_eq_getElem h2]
  exact List.pairwise_iff_getElem.mp h i (i + 1) h1 h2 (by omega)
theorem out_yes {x : Int} (h : okOut x) : outB (.int x) = true := by
  unfold outB within
  exact decide_eq_true h
theorem intsOf_ints : ∀ row : List Int, intsOf (row.map PyData.int) = row
  | [] => rfl
  | x :: r => by
    have := intsOf_ints r
    unfold intsOf at this ⊢
    rw [List.map_cons, List.map_cons, this]
theorem outs_yes {row : List Int} (h : okRow row) : outsB (rowD row) = true := by
  show (decide (0 < (row.map PyData.int).length) && (((row.map PyData.int).map outB).all id && risI (intsOf (row.map PyData.int)))) = true
  rw [intsOf_ints, risI_yes h.2.2.1, List.length_map, decide_eq_true (show 0 < row.length by have := h.1; omega), Bool.and_true, Bool.true_and, List.all_eq_true]
  intro b hb
  obtain ⟨d, hd, rfl⟩ := List.mem_map.mp hb
  obtain ⟨x, hx, rfl⟩ := List.mem_map.mp hd
  exact out_yes (h.2.2.2 x hx)
theorem rows_yes {rows : List (List Int)} (h0 : 1 ≤ rows.length) (h : ∀ r ∈ rows, okRow r) : rowsB (rowsD rows) = true := by
  show (decide (0 < (rows.map rowD).length) && ((rows.map rowD).map outsB).all id) = true
  rw [List.length_map, decide_eq_true (show 0 < rows.length by omega), Bool.true_and, List.all_eq_true]
  intro b hb
  obtain ⟨d, hd, rfl⟩ := List.mem_map.mp hb
  obtain ⟨x, hx, rfl⟩ := List.mem_map.mp hd
  exact outs_yes (h x hx)
theorem alone_yes {T : TD} (W : WF T) : aloneB (alD T.al) = true := by
  show (decide (2 = 2) && [rowsB (rowsD (T.al 0)), rowsB (rowsD (T.al 1))].all id) = true
  rw [rows_yes (W.n0 0 (by decide)).1 (W.row 0 (by decide)), rows_yes (W.n0 1 (by decide)).1 (W.row 1 (by decide))]
  rfl
theorem lex_yes {p q : Int × Int} (h : ltP p q) : HT.lexLt [p.1, p.2] [q.1, q.2] = true := by
  rcases h with h | ⟨h1, h2⟩
  · have : ¬ p.1 = q.1 := by omega
    simp [HT.lexLt, h, this]
  · have : ¬ p.2 = q.2 := by omega
    simp [HT.lexLt, h1, h2, this]
theorem risP_yes {l : List (Int × Int)} (h : l.Pairwise ltP) : risP ((l.map pairD).map pairOf) = true := by
  unfold risP
  rw [List.all_eq_true]
  intro b hb
  obtain ⟨i, hi, rfl⟩ := List.mem_map.mp hb
  have hi := List.mem_range.mp hi
  rw [List.length_map, List.length_map] at hi
  have h1 : i < l.length := by omega
  have h2 : i + 1 < l.length := by omega
  have e : ∀ j (hj : j < l.length), ((l.map pairD).map pairOf).getD j [] = [l[j].1, l[j].2] := fun j hj => by
    rw [List.getD_eq_getElem?_getD, List.getElem?_map, List.getElem?_map, List.getElem?_eq_getElem hj]
    rfl
  show HT.lexLt _ _ = true
  rw [e i h1, e (i + 1) h2]
  exact lex_yes (List.pairwise_iff_getElem.mp h i (i + 1) h1 h2 (by omega))
theorem pair_yes {p : Int × Int} (h : okOut p.1 ∧ okOut p.2) : pairB (pairD p) = true := by
  show (decide (2 = 2) && [outB (.int p.1), outB (.int p.2)].all id) = true
  rw [out_yes h.1, out_yes h.2]
  rfl
theorem let_yes {l : List (Int × Int)} (h : okLet l) : letB (letD l) = true := by
  show (decide (0 < (l.map pairD).length) && (((l.map pairD).map pairB).all id && risP ((l.map pairD).map pairOf))) = true
  rw [risP_yes h.2.2.1, List.length_map, decide_eq_true (show 0 < l.length by have := h.1; omega), Bool.and_true, Bool.true_and, List.all_eq_true]
  intro b hb
  obtain ⟨d, hd, rfl⟩ := List.mem_map.mp hb
  obtain ⟨x, hx, rfl⟩ := List.mem_map.mp hd
  exact pair_yes (h.2.2.2 x hx)
theorem in_yes {n0 n1 : Nat} {p : IP} (h : p.1 < n0 ∧ p.2 < n1) : inB n0 n1 (pairD (iI p)) = true := by
  show (decide ((0 : Int) ≤ (p.1 : Int) ∧ (p.1 : Int) ≤ (n0 : Int) - 1) && decide ((0 : Int) ≤ (p.2 : Int) ∧ (p.2 : Int) ≤ (n1 : Int) - 1)) = true
  rw [decide_eq_true (show (0 : Int) ≤ (p.1 : Int) ∧ (p.1 : Int) ≤ (n0 : Int) - 1 by omega), decide_eq_true (show (0 : Int) ≤ (p.2 : Int) ∧ (p.2 : Int) ≤ (n1 : Int) - 1 by omega)]
  rfl
theorem small_row {row : List Int} (h : okRow row) : small (rowD row) := fun ds e => by
  cases e
  rw [List.length_map]
  have := h.2.1
  omega
end TA

set_option Elab.async false
set_option maxRecDepth 100000
set_option maxHeartbeats 4000000
namespace TA
open PySem L2 PyProof.Rows
set_option linter.unusedVariables false
structure Txt2 (K : PySem.W.Frag) (mg : Str → Option Value) : Prop where
  sorted : mg "sorted" = none
  set : mg "set" = none
  max : mg "max" = none
  zip : mg "zip" = none
  dict : mg "dict" = none
theorem hu65_of {A : Around} {k : Nat} (hr : Room k A) : A.units + 65 < cLine := by have := hr.un; omega
theorem keyT_turns {d : Addr} {o : Obj} {kvs : List (List Key × V)} {H0 : Hp} {Qd : Hp → Prop} {B : (Hp → Prop) → V → Hp → Prop} (Pv : Nat → Hp → Prop) (start : Pv 0 H0) (still : ∀ i H, Pv i H → H d = some (.frz o (.dT kvs)))
    (turn : ∀ i k v q H, kvs[i]? = some (k, v) → H q = some (.tup (k.map kV)) → Pv i H → B (Pv (i + 1)) (.ref q) H) (last : ∀ H, Pv kvs.length H → Qd H) :
    ∃ W : Nat → Nat → Hp → Prop, (∃ m, W 0 m H0) ∧ ∀ i m H, W i m H →
      ((Itkt d o kvs).stop i H ∧ Qd H) ∨ ((Itkt d o kvs).go i H ∧ ∃ Nx : Hp → Prop, (∀ H', Nx H' → ∃ m', m' < m ∧ W (i + 1) m' H') ∧ ∀ x H', (Itkt d o kvs).yld i H x H' → B Nx x H') :=
  turns kvs.length Pv start (fun H w => ⟨⟨still _ H w, Nat.le_refl _⟩, last H w⟩) fun i H hi w => ⟨⟨still i H w, hi⟩, fun x H' ⟨e, k, v, q, e1, e2, e3⟩ => by rw [e, e2]; exact turn i k v q H e1 e3 w⟩
theorem itemT_turns {d : Addr} {o : Obj} {kvs : List (List Key × V)} {H0 : Hp} {Qd : Hp → Prop} {B : (Hp → Prop) → V → Hp → Prop} (Pv : Nat → Hp → Prop) (start : Pv 0 H0) (still : ∀ i H, Pv i H → H d = some (.frz o (.dT kvs)))
    (turn : ∀ i k v q T H, kvs[i]? = some (k, v) → H q = some (.tup (k.map kV)) → H T = none → Pv i H → B (Pv (i + 1)) (.ref T) (upd H T (.tup [.ref q, v]))) (last : ∀ H, Pv kvs.length H → Qd H) :
    ∃ W : Nat → Nat → Hp → Prop, (∃ m, W 0 m H0) ∧ ∀ i m H, W i m H →
      ((Itit d o kvs).stop i H ∧ Qd H) ∨ ((Itit d o kvs).go i H ∧ ∃ Nx : Hp → Prop, (∀ H', Nx H' → ∃ m', m' < m ∧ W (i + 1) m' H') ∧ ∀ x H', (Itit d o kvs).yld i H x H' → B Nx x H') :=
  turns kvs.length Pv start (fun H w => ⟨⟨still _ H w, Nat.le_refl _⟩, last H w⟩) fun i H hi w => ⟨⟨still i H w, hi⟩, fun x H' ⟨T, q, k, v, e1, e2, e3, e4, e5⟩ => by rw [e3, e5]; exact turn i k v q T H e1 e2 e4 w⟩
/-! what comes, each once -/
def sel (h : Nat) (p : IP) : Nat := if h = 0 then p.1 else p.2
def distStep (acc : List Int) (x : Int) : List Int := if x ∈ acc then acc else acc ++ [x]
def dist (l : List Int) : List Int := l.foldl distStep []
theorem dist_snoc (l : List Int) (x : Int) : dist (l ++ [x]) = distStep (dist l) x := by
  unfold dist
  rw [List.foldl_append]
  rfl
theorem dist_mem_aux (x : Int) : ∀ (l acc : List Int), x ∈ l.foldl distStep acc ↔ x ∈ acc ∨ x ∈ l
  | [], acc => by simp
  | y :: l, acc => by
    rw [List.foldl_cons, dist_mem_aux x l]
    unfold distStep
    split
    · rename_i h
      constructor
      · rintro (a | a)
        · exact .inl a
        · exact .inr (List.mem_cons_of_mem _ a)
      · rintro (a | a)
        · exact .inl a
        · rcases List.mem_cons.mp a with rfl | a
          · exact .inl h
          · exact .inr a
    · rw [List.mem_append, List.mem_singleton, List.mem_cons]
      constructor
      · rintro ((a | a) | a)
        · exact .inl a
        · exact .inr (.inl a)
        · exact .inr (.inr a)
      · rintro (a | a | a)
        · exact .inl (.inl a)
        · exact .inl (.inr a)
        · exact .inr a
theorem dist_mem {l : List Int} {x : Int} : x ∈ dist l ↔ x ∈ l := by
  unfold dist
  rw [dist_mem_aux]
  simp
theorem dist_nd_aux : ∀ (l acc : List Int), acc.Nodup → (l.foldl distStep acc).Nodup
  | [], _, h => h
  | y :: l, acc, h => by
    rw [List.foldl_cons]
    refine dist_nd_aux l _ ?_
    unfold distStep
    split
    · exact h
    · rename_i c
      exact List.nodup_append.mpr ⟨h, by simp, fun a ha b hb e => by rw [List.mem_singleton] at hb; subst hb; subst e; exact c ha⟩
theorem dist_nd (l : List Int) : (dist l).Nodup := dist_nd_aux l [] List.nodup_nil
theorem nodup_sub : ∀ {xs ys : List Int}, xs.Nodup → (∀ x ∈ xs, x ∈ ys) → xs.length ≤ ys.length
  | [], _, _, _ => Nat.zero_le _
  | x :: xs, ys, h, s => by
    have hx := s x List.mem_cons_self
    obtain ⟨h1, h2⟩ := List.nodup_cons.mp h
    have r := nodup_sub (xs := xs) (ys := ys.erase x) h2 fun y hy => by
      have ne : y ≠ x := fun e => h1 (e ▸ hy)
      exact (List.mem_erase_of_ne ne).mpr (s y (List.mem_cons_of_mem _ hy))
    rw [List.length_erase_of_mem hx] at r
    have : 0 < ys.length := List.length_pos_of_mem hx
    rw [List.length_cons]
    omega
/-- all below n come, nothing else does -/
theorem dist_all {l : List Int} {n : Nat} (h1 : ∀ x ∈ l, ∃ a : Nat, a < n ∧ x = (a : Int)) (h2 : ∀ a : Nat, a < n → (a : Int) ∈ l) : (dist l).length = n := by
  have e : ((List.range n).map fun (a : Nat) => (a : Int)).length = n := by rw [List.length_map, List.length_range]
  have nd : ((List.range n).map fun (a : Nat) => (a : Int)).Nodup := List.Pairwise.map _ (fun a b (h : a ≠ b) => by show (a : Int) ≠ (b : Int); omega) List.nodup_range
  refine Nat.le_antisymm ?_ ?_
  · rw [← e]
    refine nodup_sub (dist_nd l) fun x hx => ?_
    obtain ⟨a, ha, rfl⟩ := h1 x (dist_mem.mp hx)
    exact List.mem_map.mpr ⟨a, List.mem_range.mpr ha, rfl⟩
  · have r := nodup_sub (xs := (List.range n).map fun (a : Nat) => (a : Int)) (ys := dist l) nd fun x hx => by
      obtain ⟨a, ha, rfl⟩ := List.mem_map.mp hx
      exact dist_mem.mpr (h2 a (List.mem_range.mp ha))
    rw [e] at r
    exact r
theorem dist_len_le (l : List Int) : (dist l).length ≤ l.length := nodup_sub (dist_nd l) fun x hx => dist_mem.mp hx
/-- row h of what is let alone -/
theorem AlAt.row {H : Hp} {v : V} {al : Nat → List (List Int)} (h : AlAt H v al) : ∃ t x0 x1, v = .ref t ∧ H t = some (.lst [x0, x1]) ∧ ∀ k, k < 2 → ∃ x, ([x0, x1] : List V)[k]? = some x ∧ RowsAt H x (al k) := by
  obtain ⟨t, x0, x1, e, h, a, b⟩ := h
  refine ⟨t, x0, x1, e, h, fun k hk => ?_⟩
  obtain rfl | rfl : k = 0 ∨ k = 1 := by omega
  · exact ⟨x0, rfl, a⟩
  · exact ⟨x1, rfl, b⟩
theorem kI_at {p : IP} {h : Nat} (hh : h < 2) : ((kI p).map kV)[h]? = some (.int (sel h p : Int)) := by
  obtain rfl | rfl : h = 0 ∨ h = 1 := by omega
  · rfl
  · rfl
theorem dec_nat {a b : Nat} : decide (V.int (a : Int) = V.int (b : Int)) = decide (a = b) := by
  by_cases c : a = b
  · rw [decide_eq_true c, c]; exact decide_eq_true rfl
  · rw [decide_eq_false c]; exact decide_eq_false fun e => by injection e with e; omega
def spEach (K : PySem.W.Frag) : Sp := fun vs H Q _ => ∃ (d : Addr) (v : V) (h : Nat) (kvs : List (List Key × V)) (ips : List IP) (al : Nat → List (List Int)), vs = [.ref d, v, .int (h : Int)] ∧ h < 2 ∧ H d = some (.dT kvs) ∧ kvs.map (·.1) = ips.map kI ∧ AlAt H v al ∧ ips.length ≤ 60 ∧
  ∀ H', Same H H' → Q (.bl (decide ((dist (ips.map fun p => ((sel h p : Nat) : Int))).length = (al h).length))) H'
section
variable {P : Program} {w : World} {K : PySem.W.Frag} {mg : Str → Option Value} {base : Heap}
abbrev nEach : List Str := ["both", "alone", "hand", "pair"]
theorem sc_each : FnScope nEach ["both", "alone", "hand"] (defScope s_each_comes) := ⟨rfl, rfl, rfl, by decide +kernel, rfl, by decide +kernel, by decide +kernel⟩
theorem ok_each {f : Addr} {fd : FuncData} (F : Fun K "each_comes" "each_comes" s_each_comes f fd) (T : Txt K mg) (T2 : Txt2 K mg) : FnOk P w K mg base CX0 1 f fd ["both", "alone", "hand"] (spEach K) := by
  refine F.ok sc_each (fun vs H Q E h => ?_) (fun cdv A outer s H vs Q E hr h => ?_)
  · obtain ⟨d, v, h, kvs, ips, al, rfl, _⟩ := h
    rfl
  obtain ⟨d, v, h, kvs, ips, al, rfl, hh, hd, hk, hA, hn, q⟩ := h
  have nd := sc_each.nd
  refine ⟨_, (pss_one (ps_ret (pe_cmpR op_eq (pe_callB call_len_SI (by rfl) T.len PySem.boot_len (pa_cons (pe_lock (pe_scI (own := [("pair", 3)]) (g := (gName 3)) (tt := tYes) (te := (tOp (rIxT K) (tVar 3) (tVar 2))) rfl nd (pi_keys (pv 0)) (blkOk_by (N := nEach) (sc := defScope s_each_comes) (by decide +kernel)) (fun _ _ _ _ _ => (by exact (pg_name (i := 3) nd rfl (Or.inl rfl)))) (fun _ _ _ _ _ => pts_nil) (fun _ _ _ _ _ => (by exact (pe_ix ix_tup (pv 3) (pv 2) (fun _ _ => rfl)))))) pa_nil)) (pe_callB call_len_seq (by rfl) T.len PySem.boot_len (pa_cons (pe_ix ix_list (pv 1) (pv 2) (fun _ _ => rfl)) pa_nil)) (nomark _)))), ?_⟩
  have hkl : kvs.length = ips.length := by
    have := congrArg List.length hk
    rwa [List.length_map, List.length_map] at this
  refine ⟨d, _, hd, trivial, fun od => ?_⟩
  have hd1 : (upd H d (.frz od (.dT kvs))) d = some (.frz od (.dT kvs)) := upd_same
  refine ⟨_, rfl, d, od, rfl, .inr ⟨kvs, hd1, fun D hD => ?_⟩⟩
  have nD : d ≠ D := ne_of_none hd1 hD
  refine keyT_turns (fun i H' => But d H H' ∧ H' d = some (.frz od (.dT kvs)) ∧ H' D = some (SetO w D (fun j => decide (j ∈ dist ((ips.take i).map fun p => ((sel h p : Nat) : Int)))) (dist ((ips.take i).map fun p => ((sel h p : Nat) : Int))).length)) ?_ (fun i H' h => h.2.1) ?_ ?_
  · refine ⟨But.at.trans (.same (same_new hD _)), by rw [upd_ne nD]; exact hd1, ?_⟩
    rw [upd_same]
    exact congrArg (fun z => some (SetO w D z 0)) (funext fun j => by simp [dist])
  · rintro i k v' qa H' hi hq ⟨b1, e1, e2⟩
    have hi2 : i < ips.length := by rw [← hkl]; exact (List.getElem?_eq_some_iff.mp hi).1
    have ek : k = kI ips[i] := by
      have z : (kvs.map (·.1))[i]? = some k := by rw [List.getElem?_map, hi]; rfl
      rw [hk, List.getElem?_map, List.getElem?_eq_getElem hi2] at z
      exact (Option.some.inj z).symm
    subst ek
    refine ⟨rfl, _, rfl, _, rfl, qa, _, _, _, rfl, rfl, SqT.of hq, atI_nat (kI_at hh), _, _, _, rfl, e2, ?_, ?_⟩
    · have := dist_len_le ((ips.take i).map fun p => ((sel h p : Nat) : Int))
      rw [List.length_map, List.length_take] at this
      unfold scanBound
      omega
    · have hDn : H D = none := by
        cases e : H D with
        | none => rfl
        | some o =>
          have z := But.at (H := H) (o := .frz od (.dT kvs)) D o (Ne.symm nD) e
          rw [z] at hD
          cases hD
      refine ⟨b1.new hDn, by rw [upd_ne nD]; exact e1, ?_⟩
      have et : (ips.take (i + 1)).map (fun p => ((sel h p : Nat) : Int)) = (ips.take i).map (fun p => ((sel h p : Nat) : Int)) ++ [((sel h ips[i] : Nat) : Int)] := by
        rw [List.take_add_one, List.getElem?_eq_getElem hi2, List.map_append]
        rfl
      rw [upd_same, et, dist_snoc]
      generalize dist ((ips.take i).map fun p => ((sel h p : Nat) : Int)) = L
      generalize ((sel h ips[i] : Nat) : Int) = x
      unfold distStep
      by_cases c : x ∈ L
      · rw [if_pos c, if_pos (decide_eq_true c)]
        refine congrArg (fun z => some (SetO w D z L.length)) (funext fun j => ?_)
        by_cases cj : j = x
        · subst cj; simp [c]
        · simp [cj]
      · rw [if_neg c, if_neg (by simp [c])]
        rw [List.length_append]
        refine congrArg (fun z => some (SetO w D z (L.length + 1))) (funext fun j => ?_)
        by_cases cj : j = x
        · subst cj; simp
        · simp [cj]
  · rintro H1 ⟨b1, e1, e2⟩
    rw [hkl, List.take_length] at e2
    have s1 : Same H (upd H1 d (.dT kvs)) := b1.unlock hd
    refine ⟨e1, D, _, _, rfl, (by rw [upd_ne (Ne.symm nD)]; exact e2), ?_⟩
    obtain ⟨t, x0, x1, rfl, ht, hrow⟩ := hA.row
    obtain ⟨x, hx, r, xs, rfl, hr2, ha2⟩ := hrow h hh
    refine ⟨_, rfl, _, rfl, t, _, _, _, rfl, rfl, SqL.of (s1 _ _ ht), atI_nat hx, r, xs, rfl, .inl (SqL.of (s1 _ _ hr2)), rfl, ?_⟩
    rw [dec_nat, ha2.len]
    exact q _ s1
end
end TA

set_option Elab.async false
set_option maxRecDepth 100000
set_option maxHeartbeats 4000000
namespace TA
open PySem L2 PyProof.Rows
set_option linter.unusedVariables false
theorem AlAt.at2 {K : PySem.W.Frag} {H : Hp} {v : V} {al : Nat → List (List Int)} (h : AlAt H v al) : ∃ t, v = .ref t ∧ AloneAt K H t (al 0).length (al 1).length := by
  obtain ⟨t, x0, x1, e, h, ⟨r0, xs0, rfl, h0, a0⟩, ⟨r1, xs1, rfl, h1, a1⟩⟩ := h
  exact ⟨t, e, ⟨r0, r1, xs0, xs1, SqL.of h, SqL.of h0, SqL.of h1, a0.len, a1.len⟩⟩
theorem all_true (n : Nat) : (List.replicate n true).all id = true := by
  rw [List.all_eq_true]
  intro b hb
  exact (List.mem_replicate.mp hb).2
theorem rep_snoc {n : Nat} : (List.replicate n true).map V.bl ++ [V.bl true] = (List.replicate (n + 1) true).map V.bl := by
  rw [List.replicate_succ', List.map_append]
  rfl
theorem comes_all {T : TD} (W : WF T) {h : Nat} (hh : h < 2) : (dist ((T.bo.map (·.1)).map fun p => ((sel h p : Nat) : Int))).length = (T.al h).length := by
  refine dist_all (fun x hx => ?_) (fun a ha => ?_)
  · obtain ⟨p, hp, rfl⟩ := List.mem_map.mp hx
    obtain ⟨e, he, rfl⟩ := List.mem_map.mp hp
    refine ⟨_, ?_, rfl⟩
    obtain ⟨r1, r2⟩ := W.rng e he
    obtain rfl | rfl : h = 0 ∨ h = 1 := by omega
    · exact r1
    · exact r2
  · obtain rfl | rfl : h = 0 ∨ h = 1 := by omega
    · obtain ⟨e, he, rfl⟩ := W.com0 a ha
      exact List.mem_map.mpr ⟨e.1, List.mem_map.mpr ⟨e, he, rfl⟩, rfl⟩
    · obtain ⟨e, he, rfl⟩ := W.com1 a ha
      exact List.mem_map.mpr ⟨e.1, List.mem_map.mpr ⟨e, he, rfl⟩, rfl⟩
theorem small_let {l : List (Int × Int)} (h : okLet l) : small (letD l) := fun ds e => by
  cases e
  rw [List.length_map]
  have := h.2.1
  omega
theorem keys_of {H : Hp} : ∀ {kvs : List (List Key × V)} {bo : BD}, A2 (EnAt H) kvs bo → kvs.map (·.1) = (bo.map (·.1)).map kI
  | _, _, .nil => rfl
  | _, _, .cons a b => by rw [List.map_cons, List.map_cons, List.map_cons, keys_of b, a.1]
theorem kI_tp {H : Hp} {q : Addr} {p : IP} (h : H q = some (.tup ((kI p).map kV))) : TpAt H (.ref q) (iI p) := ⟨q, rfl, h⟩
def spBoth (K : PySem.W.Frag) : Sp := fun vs H Q _ => ∃ (d : Addr) (v : V) (T : TD), vs = [.ref d, v] ∧ BoAt H d T.bo ∧ AlAt H v T.al ∧ WF T ∧ ∀ H', Same H H' → Q (.bl true) H'
section
variable {P : Program} {w : World} {K : PySem.W.Frag} {mg : Str → Option Value} {base : Heap}
abbrev nBoth : List Str := ["thing", "alone", "pair", "let", "hand"]
theorem sc_both : FnScope nBoth ["thing", "alone"] (defScope s_is_both) := ⟨rfl, rfl, rfl, by decide +kernel, rfl, by decide +kernel, by decide +kernel⟩
theorem ok_both {f g1 g2 g3 : Addr} {fd d1 d2 d3 : FuncData} (F : Fun K "is_both" "is_both" s_is_both f fd) (T : Txt K mg) (T2 : Txt2 K mg) (U : TxtH K mg) (W1 : Def P w K mg base "is_input_pair" ["thing", "alone"] 3 (spInp K) g1 d1)
    (W2 : Def P w K mg base "is_let" ["thing"] 5 (spLetB K) g2 d2) (W3 : Def P w K mg base "each_comes" ["both", "alone", "hand"] 1 (spEach K) g3 d3) : FnOk P w K mg base CX0 6 f fd ["thing", "alone"] (spBoth K) := by
  refine F.ok sc_both (fun vs H Q E h => ?_) (fun cdv A outer s H vs Q E hr h => ?_)
  · obtain ⟨d, v, D, rfl, _⟩ := h
    rfl
  obtain ⟨d, v, D, rfl, ⟨kvs, hd, ha⟩, hA, hW, q⟩ := h
  obtain ⟨hT, mH, hH⟩ := U.hands
  have nd := sc_both.nd
  refine ⟨_, (pss_one (ps_ret (pe_and (pe_callB call_isi (by rfl) T.isi boot_isinstance (pa_cons (pv 0) (pa_cons (pe_bltn (v := .ty "dict") (by rfl) T2.dict boot_dict rfl) pa_nil))) (pe_and (pe_callB (cr_all rfl) (by rfl) T.all (by decide +kernel) (pa_cons (pe_lock (pe_lc (own := [("pair", 2), ("let", 3)]) (g := (gTup K 2 (gCons (gName 2) (gCons (gName 3) gNil)))) (tt := tYes) (te := (tAndV (tCall (spInp K) [] E0 (tCons (tVar 2) (tCons (tVar 1) tNil))) (tCall (spLetB K) [] E0 (tCons (tVar 3) tNil)))) rfl nd (pi_itemsT (pv 0)) (blkOk_by (N := nBoth) (sc := defScope s_is_both) (by decide +kernel)) (fun _ _ _ _ _ => (by exact (pg_tup (by rfl) (pgs_cons (pg_name (i := 2) nd rfl (Or.inl rfl)) (pgs_cons (pg_name (i := 3) nd rfl (Or.inl rfl)) pgs_nil))))) (fun _ _ _ _ _ => pts_nil) (fun _ _ _ _ _ => (by exact (pe_and (pe_call W1.G (hr.mono (by decide)) rfl W1.m W1.k W1.b .nil pass0 (pa_cons (pv 2) (pa_cons (pv 1) pa_nil))) (pe_one (pe_call W2.G (hr.mono (by decide)) rfl W2.m W2.k W2.b .nil pass0 (pa_cons (pv 3) pa_nil)))))))) pa_nil)) (pe_one (pe_callB (cr_all rfl) (by rfl) T.all (by decide +kernel) (pa_cons (pe_lc (own := [("hand", 4)]) (g := (gName 4)) (tt := tYes) (te := (tCall (spEach K) [] E0 (tCons (tVar 0) (tCons (tVar 1) (tCons (tVar 4) tNil))))) rfl nd (pi_tup (pe_glob (v := .ref hT) rfl mH rfl)) (blkOk_by (N := nBoth) (sc := defScope s_is_both) (by decide +kernel)) (fun _ _ _ _ _ => (by exact (pg_name (i := 4) nd rfl (Or.inl rfl)))) (fun _ _ _ _ _ => pts_nil) (fun _ _ _ _ _ => (by exact (pe_call W3.G (hr.mono (by decide)) rfl W3.m W3.k W3.b .nil pass0 (pa_cons (pv 0) (pa_cons (pv 1) (pa_cons (pv 4) pa_nil))))))) pa_nil))))))), ?_⟩
  have hkl := ha.len
  refine ⟨_, rfl, V.ref d, .ty "dict", .type "dict", .type "dict", true, rfl, .ty "dict", .base (.dT hd), kit_ty (by decide +kernel), _, rfl, iteT ?_⟩
  refine ⟨d, _, hd, trivial, fun od => ?_⟩
  have hd1 : (upd H d (.frz od (.dT kvs))) d = some (.frz od (.dT kvs)) := upd_same
  refine ⟨_, rfl, d, od, kvs, rfl, hd1, fun L hL => ?_⟩
  have nL : d ≠ L := ne_of_none hd1 hL
  have hLn : H L = none := by
    cases e : H L with
    | none => rfl
    | some o =>
      have z := But.at (H := H) (o := .frz od (.dT kvs)) L o (Ne.symm nL) e
      rw [z] at hL
      cases hL
  refine itemT_turns (fun i H' => But d H H' ∧ H' d = some (.frz od (.dT kvs)) ∧ H' L = some (.lst ((List.replicate i true).map V.bl))) ⟨But.at.trans (.same (same_new hL _)), by rw [upd_ne nL]; exact hd1, upd_same⟩ (fun i H' h => h.2.1) ?_ ?_
  · rintro i k x qa Tt H' hi hq hTn ⟨b1, e1, e2⟩
    obtain ⟨eb, hbi, ek, hx⟩ := ha.get hi
    have hm := List.mem_of_getElem? hbi
    dsimp only at ek hx
    subst ek
    have s1 := same_new hTn (.tup [V.ref qa, x])
    have kp : Kp H (upd H' Tt (.tup [V.ref qa, x])) := (b1.kp hd nf_dT).trans (.same s1)
    obtain ⟨al, rfl, hAl⟩ := (hA.mono kp).at2 (K := K)
    have hi2 : i < kvs.length := (List.getElem?_eq_some_iff.mp hi).1
    refine ⟨Tt, _, rfl, SqT.of upd_same, rfl, _, _, rfl, _, _, rfl, rfl, rfl, _, rfl, _, rfl, _, _, al, _, _, rfl, (kI_tp (s1 _ _ hq)).dp, hAl, fun H2 s2 => ?_⟩
    rw [in_yes (hW.rng eb hm)]
    refine ⟨_, rfl, iteT ⟨_, rfl, _, _, rfl, ((hx.mono kp).mono (.same s2)).dp, small_let (hW.lets eb hm), fun H3 s3 => ?_⟩⟩
    rw [let_yes (hW.lets eb hm)]
    have s13 := (s1.trans s2).trans s3
    refine ⟨_, s13 _ _ e2, ?_, (b1.trans (.same s13)).new hLn, by rw [upd_ne nL]; exact s13 _ _ e1, by rw [upd_same, rep_snoc]⟩
    rw [List.length_map, List.length_replicate]
    have := hW.many
    exact Nat.lt_of_lt_of_le (show i < 100 by omega) (by decide)
  · rintro H1 ⟨b1, e1, e2⟩
    have s1 : Same H (upd H1 d (.dT kvs)) := b1.unlock hd
    refine ⟨e1, L, _, rfl, SqL.of (by rw [upd_ne (Ne.symm nL)]; exact e2), ?_⟩
    rw [all_true]
    refine ⟨_, rfl, iteT ⟨hT, rfl, ⟨_, hH _⟩, fun L2 hL2 => ?_⟩⟩
    generalize upd H1 d (.dT kvs) = H2 at s1 hL2 ⊢
    refine tup_turns (xs := [V.int 0, V.int 1]) (fun i H' => Same H H' ∧ H' L2 = some (.lst ((List.replicate i true).map V.bl))) ⟨s1.trans (same_new hL2 _), upd_same⟩ (fun i H' _ _ => hH H') ?_ ?_
    · rintro i z H' hz ⟨s3, h3⟩
      have hi : i < 2 := (List.getElem?_eq_some_iff.mp hz).1
      obtain rfl : z = .int (i : Int) := by
        obtain rfl | rfl : i = 0 ∨ i = 1 := by omega
        · simpa using hz.symm
        · simpa using hz.symm
      obtain ⟨al, x0, x1, rfl, _⟩ := id hA
      refine ⟨rfl, _, rfl, _, rfl, _, rfl, d, _, i, kvs, D.bo.map (·.1), D.al, rfl, hi, s3 _ _ hd, keys_of ha, hA.mono (.same s3), by rw [List.length_map]; exact hW.many, fun H4 s4 => ?_⟩
      rw [comes_all hW hi, decide_eq_true rfl]
      have hL2n : H L2 = none := by
        cases e : H L2 with
        | none => rfl
        | some o => rw [s1 _ _ e] at hL2; cases hL2
      refine ⟨_, s4 _ _ h3, ?_, same_upd (s3.trans s4) hL2n, by rw [upd_same, rep_snoc]⟩
      rw [List.length_map, List.length_replicate]
      exact Nat.lt_of_lt_of_le (show i < 100 by omega) (by decide)
    · rintro H3 ⟨s3, h3⟩
      refine ⟨L2, _, rfl, SqL.of h3, ?_⟩
      rw [all_true]
      exact q _ s3
end
end TA

set_option Elab.async false
set_option maxRecDepth 100000
set_option maxHeartbeats 4000000
namespace TA
open PySem L2 PyProof.Rows
set_option linter.unusedVariables false
abbrev s_init : Stmt := inClass s_Task 0
abbrev s_eq : Stmt := inClass s_Task 1
abbrev s_inputs : Stmt := inClass s_Task 2
abbrev s_pairs : Stmt := inClass s_Task 3
theorem kfld : ¬ (("alone" : Str) = "both") := by decide +kernel
/-- a task's fields -/
def flds (a d : Addr) : List (Str × V) := putF "both" (.ref d) (putF "alone" (.ref a) [])
theorem flds_eq (a d : Addr) : flds a d = ([("alone", V.ref a), ("both", V.ref d)] : List (Str × V)) := by
  show (if ("alone" : Str) = "both" then [(("alone" : Str), V.ref d)] else (("alone" : Str), V.ref a) :: putF "both" (V.ref d) []) = ([("alone", V.ref a), ("both", V.ref d)] : List (Str × V))
  rw [if_neg kfld]
  all_goals rfl
theorem flds_alone (a d : Addr) : (flds a d).lookup ("alone" : Str) = some (.ref a) := by
  unfold flds
  rw [lookup_putF, if_neg kfld, lookup_putF, if_pos rfl]
theorem flds_both (a d : Addr) : (flds a d).lookup ("both" : Str) = some (.ref d) := by
  unfold flds
  rw [lookup_putF, if_pos rfl]
theorem flds_no (a d : Addr) {m : Str} (h1 : ¬ m = "both") (h2 : ¬ m = "alone") : (flds a d).lookup m = none := by
  unfold flds
  rw [lookup_putF, if_neg h1, lookup_putF, if_neg h2]
  all_goals rfl
/-- a task stands at p -/
def TaskAt (C : Addr) (H : Hp) (p : Addr) (T : TD) : Prop := ∃ dx a d, H p = some (.ins C dx (flds a d)) ∧ AlAt H (.ref a) T.al ∧ BoAt H d T.bo
theorem TaskAt.mono {C : Addr} {H H' : Hp} (s : Same H H') {p : Addr} {T : TD} (h : TaskAt C H p T) : TaskAt C H' p T := by
  obtain ⟨dx, a, d, h1, h2, h3⟩ := h
  exact ⟨dx, a, d, s _ _ h1, h2.mono (.same s), h3.mono s⟩
/-- a task whose dict is perhaps walked just now -/
def BoR (H : Hp) (d : Addr) (bo : BD) : Prop := ∃ kvs, Rd H d (.dT kvs) ∧ A2 (EnAt H) kvs bo
def TaskR (C : Addr) (H : Hp) (p : Addr) (T : TD) : Prop := ∃ dx a d, H p = some (.ins C dx (flds a d)) ∧ AlAt H (.ref a) T.al ∧ BoR H d T.bo
theorem rd_same {H H' : Hp} (s : Same H H') {a : Addr} {u : HO} (h : Rd H a u) : Rd H' a u := by
  rcases h with h | ⟨o, h⟩
  · exact .inl (s _ _ h)
  · exact .inr ⟨o, s _ _ h⟩
theorem rd_some {H : Hp} {a : Addr} {u : HO} (h : Rd H a u) : H a ≠ none := by
  rcases h with h | ⟨o, h⟩ <;> rw [h] <;> exact fun c => by cases c
theorem BoR.mono {H H' : Hp} (s : Same H H') {v} {p} (h : BoR H v p) : BoR H' v p := by
  obtain ⟨kvs, h, a⟩ := h
  exact ⟨kvs, rd_same s h, a.imp fun _ _ r => r.mono (.same s)⟩
theorem TaskAt.r {C : Addr} {H : Hp} {p : Addr} {T : TD} (h : TaskAt C H p T) : TaskR C H p T := by
  obtain ⟨dx, a, d, h1, h2, kvs, h3, h4⟩ := h
  exact ⟨dx, a, d, h1, h2, kvs, .inl h3, h4⟩
theorem TaskR.mono {C : Addr} {H H' : Hp} (s : Same H H') {p : Addr} {T : TD} (h : TaskR C H p T) : TaskR C H' p T := by
  obtain ⟨dx, a, d, h1, h2, h3⟩ := h
  exact ⟨dx, a, d, s _ _ h1, h2.mono (.same s), h3.mono s⟩
theorem dget_rd {H : Hp} {a b : Addr} {kvs : List (List Key × V)} {k : List Key} (e : Rd H a (.dT kvs)) (eb : H b = some (.tup (k.map kV))) : DGet H a (.ref b) (valV kvs k) := .inr ⟨kvs, k, b, e, rfl, eb, rfl⟩
def rLenTR : List V → Hp → VK → Prop := fun xs H Q => ∃ (p : Addr) (kvs : List (List Key × V)), xs = [.ref p] ∧ Rd H p (.dT kvs) ∧ Q (.int ((kvs.length : Nat) : Int)) H
theorem len_dTR {X : Cx} : CallR X (.builtin "len") rLenTR := by
  intro pins s σ H xs us Q I r h
  obtain ⟨p, kvs, rfl, hp, q⟩ := h
  obtain ⟨u, rfl, rx⟩ := vals1 r
  obtain rfl : u = .ref p := rx
  obtain ⟨z, hd, ys, rel, dd⟩ := dt_rd I.hok hp
  have hl : kvs.length = ys.length := Paired.length rel
  refine call_len_dictH hd dd (by rw [← hl]; rw [sizeLine_eq] at z; omega) ?_
  rw [← hl]
  exact ⟨.int ((kvs.length : Nat) : Int), H, I.tok _, ⟨_, rfl⟩, q⟩
structure TxtC (K : PySem.W.Frag) (mg : Str → Option Value) (C : Addr) : Prop where
  cl : Cls K C
  nA : NoAttr K C "alone"
  nB : NoAttr K C "both"
  mg : mg "Task" = some (.ref C)
structure MDef (P : Program) (w : World) (K : PySem.W.Frag) (mg : Str → Option Value) (base : Heap) (C : Addr) (m : Str) (ps : List Str) (k : Nat) (sp : Sp) (f : Addr) (fd : FuncData) : Prop where
  G : FnOk P w K mg base CX0 k f fd ps sp
  b : Binds K fd ps []
  M : Meth K C m f
/-- what is new in H' behind H0, but for D -/
def nwx (H0 : Hp) (D : Addr) (H' : Hp) : Hp := fun b => if H0 b = none ∧ b ≠ D then H' b else none
theorem nwx_some {H0 : Hp} {D : Addr} {H' : Hp} {b : Addr} {o : HO} (h : nwx H0 D H' b = some o) : H0 b = none ∧ b ≠ D ∧ H' b = some o := by
  unfold nwx at h
  split at h
  · rename_i c
    exact ⟨c.1, c.2, h⟩
  · cases h
theorem nwx_put {H0 : Hp} {D : Addr} {H' : Hp} {b : Addr} {o : HO} (h0 : H0 b = none) (hD : b ≠ D) (h : H' b = some o) : nwx H0 D H' b = some o := by
  unfold nwx
  rw [if_pos ⟨h0, hD⟩, h]
theorem kp_nwx {H0 : Hp} {D : Addr} {H' : Hp} : Kp (nwx H0 D H') H' := fun b o _ h => (nwx_some h).2.2
theorem kp_nwx_but {H0 : Hp} {D : Addr} {H H' : Hp} (s : But D H H') : Kp (nwx H0 D H) (nwx H0 D H') := fun b o _ h => by
  obtain ⟨h1, h2, h3⟩ := nwx_some h
  exact nwx_put h1 h2 (s b o h2 h3)
theorem none_of_same {H H' : Hp} (s : Same H H') {b : Addr} (h : H' b = none) : H b = none := by
  cases e : H b with
  | none => rfl
  | some o => rw [s _ _ e] at h; cases h
theorem none_of_but {d : Addr} {H H' : Hp} (s : But d H H') {b : Addr} (n : b ≠ d) (h : H' b = none) : H b = none := by
  cases e : H b with
  | none => rfl
  | some o => rw [s _ _ n e] at h; cases h
theorem kp_nwx_in {H0 H1 : Hp} {D D1 : Addr} {H2 : Hp} (s : Same H0 H1) {o1 : HO} (e1 : H1 D1 = some o1) : Kp (nwx H1 D H2) (nwx H0 D1 H2) := fun b o _ h => by
  obtain ⟨h1, h2, h3⟩ := nwx_some h
  exact nwx_put (none_of_same s h1) (fun c => by subst c; rw [e1] at h1; cases h1) h3
/-- pairs let in a new list, the pairs' tuples anywhere -/
def Let2 (Hl H : Hp) (v : V) (l : List (Int × Int)) : Prop := ∃ t xs, v = .ref t ∧ Hl t = some (.lst xs) ∧ A2 (TpAt H) xs l
theorem Let2.mono {Hl Hl' H H' : Hp} (s : Kp Hl Hl') (s' : Kp H H') {v : V} {p} (h : Let2 Hl H v p) : Let2 Hl' H' v p := by
  obtain ⟨t, xs, e, h, a⟩ := h
  exact ⟨t, xs, e, s.lst h, a.imp fun _ _ r => r.mono s'⟩
def En2 (Hl H : Hp) (e : List Key × V) (b : IP × List (Int × Int)) : Prop := e.1 = kI b.1 ∧ Let2 Hl H e.2 b.2
theorem En2.mono {Hl Hl' H H' : Hp} (s : Kp Hl Hl') (s' : Kp H H') {v} {p} (h : En2 Hl H v p) : En2 Hl' H' v p := ⟨h.1, h.2.mono s s'⟩
theorem En2.en {Hl H : Hp} (s : Kp Hl H) {v} {p} (h : En2 Hl H v p) : EnAt H v p := by
  obtain ⟨e, t, xs, e2, h, a⟩ := h
  exact ⟨e, t, xs, e2, s.lst h, a⟩
theorem kI_inj {p q : IP} (h : kI p = kI q) : p = q := by
  unfold kI at h
  injection h with h1 h2
  injection h2 with h2 _
  injection h1 with h1
  injection h2 with h2
  have a : p.1 = q.1 := by omega
  have b : p.2 = q.2 := by omega
  exact Prod.ext a b
theorem valV_noneP : ∀ {kvs : List (List Key × V)} {k : List Key}, (∀ e ∈ kvs, e.1 ≠ k) → valV kvs k = none
  | [], _, _ => rfl
  | e :: r, k, h => by
    rw [valV_neg (h e List.mem_cons_self)]
    exact valV_noneP fun x hx => h x (List.mem_cons_of_mem _ hx)
theorem ltN_ne {p q : IP} (h : ltN p q) : p ≠ q := by
  rintro rfl
  rcases h with h | ⟨_, h⟩ <;> omega
/-- what a new task holds: its lists are new, all of them -/
def NewAt (C : Addr) (H H' : Hp) (p : Addr) (T : TD) : Prop := ∃ dx a d kvs, H' p = some (.ins C dx (flds a d)) ∧ AlAt (nwx H p H') (.ref a) T.al ∧ H d = none ∧ H' d = some (.dT kvs) ∧ A2 (En2 (nwx H p H') H') kvs T.bo
theorem NewAt.task {C : Addr} {H H' : Hp} {p : Addr} {T : TD} (h : NewAt C H H' p T) : TaskAt C H' p T := by
  obtain ⟨dx, a, d, kvs, h1, h2, _, h3, h4⟩ := h
  exact ⟨dx, a, d, h1, h2.mono kp_nwx, kvs, h3, h4.imp fun _ _ r => r.en kp_nwx⟩
def spInit (K : PySem.W.Frag) (C : Addr) : Sp := fun vs H Q _ => ∃ (p dx a d : Addr) (T : TD), vs = [.ref p, .ref a, .ref d] ∧ H p = some (.ins C dx []) ∧ AlAt H (.ref a) T.al ∧ BoAt H d T.bo ∧ WF T ∧
  ∀ H', But p H H' → NewAt C H H' p T → Q .non H'
theorem al_rows {H : Hp} {v : V} {al : Nat → List (List Int)} (h : AlAt H v al) : ∃ t xs, v = .ref t ∧ H t = some (.lst xs) ∧ A2 (RowsAt H) xs [al 0, al 1] := by
  obtain ⟨t, x0, x1, e, h, a, b⟩ := h
  exact ⟨t, _, e, h, .cons a (.cons b .nil)⟩
theorem al_of {H : Hp} {t : Addr} {xs : List V} {al : Nat → List (List Int)} (h : H t = some (.lst xs)) (a : A2 (RowsAt H) xs [al 0, al 1]) : AlAt H (.ref t) al := by
  cases a with
  | cons a b =>
    cases b with
    | cons b c =>
      cases c
      exact ⟨t, _, _, rfl, h, a, b⟩
theorem small_rows {T : TD} (W : WF T) {h : Nat} (hh : h < 2) : ∀ e ∈ (T.al h).map rowD, small e := fun e he => by
  obtain ⟨r, hr, rfl⟩ := List.mem_map.mp he
  exact small_row (W.row h hh r hr)
theorem take_get {α : Type} {l : List α} {i : Nat} {x : α} (h : l[i]? = some x) : l.take (i + 1) = l.take i ++ [x] := by
  rw [List.take_add_one, h]
  rfl
section
variable {P : Program} {w : World} {K : PySem.W.Frag} {mg : Str → Option Value} {base : Heap}
abbrev nInit : List Str := ["self", "alone", "both", "rows", "outputs", "pair", "let"]
theorem sc_init : FnScope nInit ["self", "alone", "both"] (defScope s_init) := ⟨rfl, rfl, rfl, by decide +kernel, rfl, by decide +kernel, by decide +kernel⟩
theorem ok_init {f g4 g5 C : Addr} {fd d4 d5 : FuncData} (F : Fun K "__init__" "Task.__init__" s_init f fd) (T : Txt K mg) (T2 : Txt2 K mg) (Z : TxtC K mg C) (W4 : Def P w K mg base "is_alone" ["thing"] 6 (spAlone K) g4 d4)
    (W5 : Def P w K mg base "is_both" ["thing", "alone"] 6 (spBoth K) g5 d5) : FnOk P w K mg base CX0 7 f fd ["self", "alone", "both"] (spInit K C) := by
  refine F.ok sc_init (fun vs H Q E h => ?_) (fun cdv A outer s H vs Q E hr h => ?_)
  · obtain ⟨p, dx, a, d, D, rfl, _⟩ := h
    rfl
  obtain ⟨p, dx, a, d, D, rfl, hp, hA, hB, hW, q⟩ := h
  have nd := sc_init.nd
  have hu := hu_of hr
  refine ⟨_, (pss_cons (ps_if (pt_not (pt_val (pe_call W4.G (hr.mono (by decide)) rfl W4.m W4.k W4.b .nil pass0 (pa_cons (pv 1) pa_nil))))
      pss_never
      pss_nil)
    (pss_cons (ps_if (pt_not (pt_val (pe_call W5.G (hr.mono (by decide)) rfl W5.m W5.k W5.b .nil pass0 (pa_cons (pv 2) (pa_cons (pv 1) pa_nil)))))
      pss_never
      pss_nil)
    (pss_cons (ps_fld (pv 0) (pe_lc (own := [("rows", 3)]) (g := (gName 3)) (tt := tYes) (te := (tLc (iList K (tVar 3)) (gName 4) tYes (tCB (fun xs H Q => ∃ p ys, xs = [.ref p] ∧ (SqL K H p ys ∨ SqT K H p ys) ∧ ∀ l, H l = none → Q (.ref l) (upd H l (.lst ys))) (tCons (tVar 4) tNil)) [4])) rfl nd (pi_list (pv 1)) (blkOk_by (N := nInit) (sc := defScope s_init) (by decide +kernel)) (fun _ _ _ _ _ => (by exact (pg_name (i := 3) nd rfl (Or.inl rfl)))) (fun _ _ _ _ _ => pts_nil) (fun _ _ _ _ _ => (by exact (pe_lc (own := [("outputs", 4)]) (g := (gName 4)) (tt := tYes) (te := (tCB (fun xs H Q => ∃ p ys, xs = [.ref p] ∧ (SqL K H p ys ∨ SqT K H p ys) ∧ ∀ l, H l = none → Q (.ref l) (upd H l (.lst ys))) (tCons (tVar 4) tNil))) rfl nd (pi_list (pv 3)) (blkOk_by (N := nInit)  (by kernel_rfl)) (fun _ _ _ _ _ => (by exact (pg_name (i := 4) nd rfl (Or.inl rfl)))) (fun _ _ _ _ _ => pts_nil) (fun _ _ _ _ _ => (by exact (pe_callTy call_list_of (by rfl) T.list boot_list (pa_cons (pv 4) pa_nil)))))))) rfl)
    (pss_one (ps_fld (pv 0) (pe_lock (pe_dcT (own := [("pair", 5), ("let", 6)]) (g := (gTup K 2 (gCons (gName 5) (gCons (gName 6) gNil)))) (tt := tYes) (tk := (tVar 5)) (tv := (tCB (fun xs H Q => ∃ p ys, xs = [.ref p] ∧ (SqL K H p ys ∨ SqT K H p ys) ∧ ∀ l, H l = none → Q (.ref l) (upd H l (.lst ys))) (tCons (tVar 6) tNil))) hu rfl nd (pi_itemsT (pv 2)) (blkOk_by (N := nInit) (sc := defScope s_init) (by decide +kernel)) (fun _ _ _ _ _ => (by exact (pg_tup (by rfl) (pgs_cons (pg_name (i := 5) nd rfl (Or.inl rfl)) (pgs_cons (pg_name (i := 6) nd rfl (Or.inl rfl)) pgs_nil))))) (fun _ _ _ _ _ => pts_nil) (fun _ _ _ _ _ => (by exact (pv 5))) (fun _ _ _ _ _ => (by exact (pe_callTy call_list_of (by rfl) T.list boot_list (pa_cons (pv 6) pa_nil)))))) rfl))))), ?_⟩
  refine ⟨_, rfl, _, _, rfl, hA.dp, (fun ds e => by cases e; exact (by decide : 2 ≤ 1000)), ?_, fun H1 s1 => ?_⟩
  · rintro ds e z hz
    cases e
    rcases List.mem_cons.mp hz with rfl | hz
    · refine ⟨fun es e => ?_, fun es e => ?_⟩
      · cases e
        rw [List.length_map]
        have := hW.n0 0 (by decide); omega
      · cases e
        exact small_rows hW (by decide)
    · obtain rfl := List.mem_singleton.mp hz
      refine ⟨fun es e => ?_, fun es e => ?_⟩
      · cases e
        rw [List.length_map]
        have := hW.n0 1 (by decide); omega
      · cases e
        exact small_rows hW (by decide)
  rw [alone_yes hW]
  refine ⟨true, rfl, iteF ?_⟩
  refine ⟨_, rfl, _, rfl, d, _, D, rfl, hB.mono s1, hA.mono (.same s1), hW, fun H2 s2 => ⟨true, rfl, iteF ?_⟩⟩
  have s12 := s1.trans s2
  obtain ⟨al, xs, e, hal, hrows⟩ := al_rows (hA.mono (.same s12))
  obtain rfl : a = al := by injection e
  clear e
  refine ⟨_, rfl, a, rfl, ⟨_, SqL.of hal⟩, fun D1 hD1 => ?_⟩
  have hD1n : H D1 = none := none_of_same s12 hD1
  refine list_turns (xs := xs) (fun i H' => Same H2 H' ∧ ∃ ys, H' D1 = some (.lst ys) ∧ A2 (RowsAt (nwx H2 D1 H')) ys ([D.al 0, D.al 1].take i)) ⟨same_new hD1 _, [], upd_same, .nil⟩ (fun i H' _ h => h.1.seq (SqL.of hal)) ?_ ?_
  · rintro i x H' hx ⟨s3, ys, hy, ay⟩
    obtain ⟨rows, hr1, t, zs, rfl, ht, az⟩ := hrows.get hx
    have ht3 := s3 _ _ ht
    have hsz : rows.length ≤ 20 := by
      have hi : i < 2 := (List.getElem?_eq_some_iff.mp hr1).1
      obtain rfl | rfl : i = 0 ∨ i = 1 := by omega
      · obtain rfl : D.al 0 = rows := by simpa using hr1
        exact (hW.n0 0 (by decide)).2
      · obtain rfl : D.al 1 = rows := by simpa using hr1
        exact (hW.n0 1 (by decide)).2
    refine ⟨rfl, _, rfl, t, rfl, ⟨_, SqL.of ht3⟩, fun D2 hD2 => ?_⟩
    refine list_turns (xs := zs) (fun j H4 => Same H' H4 ∧ ∃ us, H4 D2 = some (.lst us) ∧ A2 (RowAt (nwx H' D2 H4)) us (rows.take j)) ⟨same_new hD2 _, [], upd_same, .nil⟩ (fun j H4 _ h => h.1.seq (SqL.of ht3)) ?_ ?_
    · rintro j z H4 hz ⟨s4, us, hu4, au⟩
      obtain ⟨row, hr2, tt, rfl, htt⟩ := az.get hz
      have htt4 := s4 _ _ (s3 _ _ htt)
      refine ⟨rfl, _, rfl, tt, _, rfl, .inl (SqL.of htt4), fun l hl => ?_⟩
      have s5 := same_new hl (.lst (row.map V.int))
      have nl : l ≠ D2 := (ne_of_none hu4 hl).symm
      have hjr : us.length < rows.length := by
        rw [au.len, List.length_take]
        have := (List.getElem?_eq_some_iff.mp hr2).1
        omega
      refine ⟨us, s5 _ _ hu4, Nat.lt_of_lt_of_le (show us.length < 100 by omega) (by decide), ?_⟩
      refine ⟨same_upd (s4.trans s5) hD2, _, upd_same, ?_⟩
      rw [take_get hr2]
      refine A2.snoc (au.imp fun _ _ r => r.mono (kp_nwx_but ((But.same s5).trans But.at))) ⟨l, rfl, nwx_put (none_of_same s4 hl) nl ?_⟩
      rw [upd_ne nl]
      exact upd_same
    · rintro H4 ⟨s4, us, hu4, au⟩
      have hzl := az.len
      rw [hzl, List.take_length] at au
      have ne : D2 ≠ D1 := (ne_of_none hy hD2).symm
      refine ⟨ys, s4 _ _ hy, ?_, ?_⟩
      · rw [ay.len, List.length_take]
        exact Nat.lt_of_le_of_lt (Nat.min_le_right _ _) (by show 2 < sizeLine; decide)
      refine ⟨same_upd (s3.trans s4) hD1, _, upd_same, ?_⟩
      rw [take_get hr1]
      refine A2.snoc (ay.imp fun _ _ r => r.mono (kp_nwx_but ((But.same s4).trans But.at))) ?_
      have r0 : RowsAt (nwx H2 D1 H4) (.ref D2) rows := ⟨D2, us, rfl, nwx_put (none_of_same s3 hD2) ne hu4, au.imp fun _ _ r => r.mono (kp_nwx_in s3 hy)⟩
      exact r0.mono (kp_nwx_but But.at)
  · rintro H3 ⟨s3, ys, hy, ay⟩
    have hxl := hrows.len
    rw [hxl, List.take_length] at ay
    have hp3 := s3 _ _ (s12 _ _ hp)
    refine ⟨_, rfl, p, C, dx, _, rfl, hp3, Z.cl, Z.nA, (by show 0 < 1000; decide), ?_⟩
    have npD1 : D1 ≠ p := (ne_of_none (s12 _ _ hp) hD1).symm
    generalize hH5 : upd H3 p (.ins C dx (putF "alone" (.ref D1) [])) = H5
    have b5 : But p H H5 := by rw [← hH5]; exact (But.same (s12.trans s3)).trans But.at
    have hp5 : H5 p = some (.ins C dx (putF "alone" (.ref D1) [])) := by rw [← hH5]; exact upd_same
    have hD15 : H5 D1 = some (.lst ys) := by rw [← hH5, upd_ne npD1]; exact hy
    have ay5 : A2 (RowsAt (nwx H p H5)) ys [D.al 0, D.al 1] := ay.imp fun _ _ r => r.mono fun b o _ h => by
      obtain ⟨h1, h2, h3⟩ := nwx_some h
      have hb : b ≠ p := fun c => by subst c; rw [s12 _ _ hp] at h1; cases h1
      refine nwx_put (none_of_same s12 h1) hb ?_
      rw [← hH5, upd_ne hb]; exact h3
    obtain ⟨kvs, hd, ha⟩ := hB
    have ndp : d ≠ p := ne_of hd hp (fun z => by cases z)
    have hd5 : H5 d = some (.dT kvs) := b5 _ _ ndp hd
    have ha5 : A2 (EnAt H5) kvs D.bo := ha.imp fun _ _ r => r.mono (b5.kp hp (by rintro (⟨_, h⟩ | ⟨_, h⟩) <;> cases h))
    refine ⟨d, _, hd5, trivial, fun od => ?_⟩
    have hd6 : (upd H5 d (.frz od (.dT kvs))) d = some (.frz od (.dT kvs)) := upd_same
    refine ⟨_, rfl, d, od, kvs, rfl, hd6, fun L hL => ?_⟩
    have nL : d ≠ L := ne_of_none hd6 hL
    have hLn : H5 L = none := none_of_but But.at (Ne.symm nL) hL
    refine itemT_turns (fun i H' => But d H5 H' ∧ H' d = some (.frz od (.dT kvs)) ∧ ∃ ks, H' L = some (.dT ks) ∧ A2 (En2 (nwx H5 L H') H') ks (D.bo.take i)) ⟨But.at.trans (.same (same_new hL _)), by rw [upd_ne nL]; exact hd6, [], upd_same, .nil⟩ (fun i H' h => h.2.1) ?_ ?_
    · rintro i k x qa Tt H' hi hq hTn ⟨b1, e1, ks, e2, as⟩
      obtain ⟨eb, hbi, ek, hx⟩ := ha5.get hi
      dsimp only at ek hx
      subst ek
      have s1 := same_new hTn (.tup [V.ref qa, x])
      have kp : Kp H5 (upd H' Tt (.tup [V.ref qa, x])) := (b1.kp hd5 nf_dT).trans (.same s1)
      obtain ⟨t, xs2, rfl, ht, at2⟩ := hx.mono kp
      refine ⟨Tt, _, rfl, SqT.of upd_same, rfl, _, _, rfl, _, _, rfl, rfl, rfl, _, rfl, _, rfl, t, _, rfl, .inl (SqL.of ht), fun l hl => ?_⟩
      have s2 := same_new hl (.lst xs2)
      have hil : i < D.bo.length := (List.getElem?_eq_some_iff.mp hbi).1
      have hks : ks.length < 100 := by
        rw [as.len, List.length_take]
        have := hW.many
        omega
      refine ⟨ks, _, qa, rfl, s2 _ _ (s1 _ _ hq), s2 _ _ (s1 _ _ e2), Nat.lt_of_lt_of_le hks (by decide), ?_⟩
      have nl : l ≠ L := (ne_of_none (s1 _ _ e2) hl).symm
      have hvn : valV ks (kI eb.1) = none := valV_noneP fun e he c => by
        obtain ⟨y, hy1, hy2, _⟩ := as.mem he
        rw [hy2] at c
        have c := kI_inj c
        obtain ⟨j, hj⟩ := List.getElem?_of_mem hy1
        have hjl : j < i := by
          have := (List.getElem?_eq_some_iff.mp hj).1
          rw [List.length_take] at this
          omega
        rw [List.getElem?_take_of_lt hjl] at hj
        have sr := List.pairwise_iff_getElem.mp hW.srt j i (by rw [List.length_map]; omega) (by rw [List.length_map]; exact hil) hjl
        rw [List.getElem_map, List.getElem_map, (List.getElem?_eq_some_iff.mp hj).2, (List.getElem?_eq_some_iff.mp hbi).2] at sr
        exact ltN_ne sr c
      rw [putK_new _ hvn]
      have s12' := s1.trans s2
      have kpl : Kp (upd (upd H' Tt (.tup [V.ref qa, V.ref t])) l (.lst xs2)) (upd (upd (upd H' Tt (.tup [V.ref qa, V.ref t])) l (.lst xs2)) L (.dT (ks ++ [(kI eb.1, V.ref l)]))) := .put (s12' _ _ e2) nf_dT
      refine ⟨(b1.trans (.same s12')).new hLn, by rw [upd_ne nL]; exact s12' _ _ e1, _, upd_same, ?_⟩
      rw [take_get hbi]
      refine A2.snoc (as.imp fun _ _ r => r.mono (kp_nwx_but ((But.same s12').trans But.at)) ((Kp.same s12').trans kpl)) ⟨rfl, l, xs2, rfl, nwx_put ?_ nl ?_, at2.imp fun _ _ r => r.mono ((Kp.same s2).trans kpl)⟩
      · refine none_of_but (b1.trans (.same s1)) (fun c => ?_) hl
        subst c
        rw [s1 _ _ e1] at hl
        cases hl
      · rw [upd_ne nl]; exact upd_same
    · rintro H6 ⟨b1, e1, ks, e2, as⟩
      rw [ha5.len, List.take_length] at as
      have s6 : Same H5 (upd H6 d (.dT kvs)) := b1.unlock hd5
      generalize hH7 : upd H6 d (.dT kvs) = H7 at s6
      have e27 : H7 L = some (.dT ks) := by rw [← hH7, upd_ne (Ne.symm nL)]; exact e2
      have kp67 : Kp H6 H7 := by rw [← hH7]; exact .put e1 nf_frz
      refine ⟨e1, ?_⟩
      have hp7 := s6 _ _ hp5
      refine ⟨_, rfl, p, C, dx, _, rfl, hp7, Z.cl, Z.nB, (by show 1 < 1000; decide), ?_⟩
      have npL : L ≠ p := fun c => by subst c; rw [hp5] at hLn; cases hLn
      have nLp : H L = none := none_of_but b5 npL hLn
      have b7 : But p H (upd H7 p (.ins C dx (flds D1 L))) := (b5.trans (.same s6)).trans But.at
      refine q _ b7 ⟨dx, D1, L, ks, upd_same, al_of (nwx_put hD1n npD1 ?_) (ay5.imp fun _ _ r => r.mono (kp_nwx_but ((But.same s6).trans But.at))), nLp, ?_, as.imp fun _ _ r => r.mono (fun b o _ h => ?_) ?_⟩
      · rw [upd_ne npD1]; exact s6 _ _ hD15
      · rw [upd_ne npL]; exact e27
      · obtain ⟨h1, h2, h3⟩ := nwx_some h
        have hb : b ≠ p := fun c => by subst c; rw [hp5] at h1; cases h1
        have hbd : b ≠ d := fun c => by subst c; rw [hd5] at h1; cases h1
        refine nwx_put (none_of_but b5 hb h1) hb ?_
        rw [upd_ne hb, ← hH7, upd_ne hbd]
        exact h3
      · exact kp67.trans (.put hp7 (by rintro (⟨_, h⟩ | ⟨_, h⟩) <;> cases h))
end
end TA

set_option Elab.async false
set_option maxRecDepth 100000
set_option maxHeartbeats 4000000
namespace TA
open PySem L2 PyProof.Rows
set_option linter.unusedVariables false
theorem inV_int (x : Int) (fs : List Int) : inV (.int x) (fs.map V.int) = decide (x ∈ fs) := by
  induction fs with
  | nil => rfl
  | cons y r ih =>
    show (eqV (.int y) (.int x) || inV (.int x) (r.map V.int)) = _
    rw [ih]
    by_cases c : y = x
    · subst c
      rw [show eqV (.int y) (.int y) = true from by simp [eqV]]
      simp
    · rw [show eqV (.int y) (.int x) = false from by simp [eqV, c]]
      by_cases m : x ∈ r
      · simp [m]
      · have : ¬ x = y := fun e => c e.symm
        simp [m, this]
theorem flat_ints (fs : List Int) : (fs.map V.int).all flatV = true := by
  rw [List.all_eq_true]
  intro v hv
  obtain ⟨x, _, rfl⟩ := List.mem_map.mp hv
  rfl
def hasK (bo : BD) (xy : Int × Int) : Bool := bo.any fun e => decide (iI e.1 = xy)
theorem hasK_yes {bo : BD} {e : IP × List (Int × Int)} (h : e ∈ bo) : hasK bo (iI e.1) = true := List.any_eq_true.mpr ⟨e, h, decide_eq_true rfl⟩
def k2 (xy : Int × Int) : List Key := [.inl xy.1, .inl xy.2]
theorem k2_iff {p : IP} {xy : Int × Int} : kI p = k2 xy ↔ iI p = xy := by
  unfold kI k2 iI
  constructor
  · intro h
    injection h with h1 h2
    injection h2 with h2 _
    injection h1 with h1
    injection h2 with h2
    exact Prod.ext h1 h2
  · intro h
    rw [← h]
theorem some_hasK {H : Hp} : ∀ {kvs : List (List Key × V)} {bo : BD}, A2 (EnAt H) kvs bo → ∀ xy, (valV kvs (k2 xy)).isSome = hasK bo xy
  | _, _, .nil, _ => rfl
  | (k, v) :: kvs, b :: bo, .cons a r, xy => by
    obtain ⟨ek, _⟩ := a
    dsimp only at ek
    subst ek
    show _ = (decide (iI b.1 = xy) || hasK bo xy)
    by_cases c : iI b.1 = xy
    · rw [valV_pos (k2_iff.mpr c), decide_eq_true c]
      rfl
    · rw [valV_neg (fun h => c (k2_iff.mp h)), some_hasK r xy, decide_eq_false c, Bool.false_or]
theorem iI_inj {p q : IP} (h : iI p = iI q) : p = q := by
  unfold iI at h
  injection h with h1 h2
  exact Prod.ext (by omega) (by omega)
/-- what the dict holds at a pair that comes -/
theorem val_at {H : Hp} : ∀ {kvs : List (List Key × V)} {bo : BD}, A2 (EnAt H) kvs bo → (bo.map (·.1)).Pairwise ltN → ∀ e ∈ bo, ∃ v, valV kvs (kI e.1) = some v ∧ LetAt H v e.2
  | _, _, .nil, _, e, m => by cases m
  | (k, v) :: kvs, b :: bo, .cons a r, s, e, m => by
    obtain ⟨ek, hl⟩ := a
    dsimp only at ek hl
    subst ek
    rw [List.map_cons, List.pairwise_cons] at s
    rcases List.mem_cons.mp m with rfl | m
    · exact ⟨v, valV_pos rfl, hl⟩
    · rw [valV_neg (fun h => ltN_ne (s.1 _ (List.mem_map.mpr ⟨e, m, rfl⟩)) (kI_inj h))]
      exact val_at r s.2 e m
def rowB (d : PyData) (m : Nat) : Bool := match d with
  | .list ds => decide (ds.length = m) && (ds.map outB).all id
  | _ => false
def chosenB (d : PyData) (n0 n1 : Nat) : Bool := match d with
  | .list [d0, d1] => rowB d0 n0 && rowB d1 n1
  | _ => false
def okA (T : TD) (ch : Nat → List Int) (h a : Nat) : Prop := (ch h).getD a 0 ∈ (T.al h).getD a []
instance {T : TD} {ch : Nat → List Int} {h a : Nat} : Decidable (okA T ch h a) := by unfold okA; exact inferInstance
def spInputs (K : PySem.W.Frag) (C : Addr) : Sp := fun vs H Q _ => ∃ (p : Addr) (h : Nat) (T : TD), vs = [.ref p, .int (h : Int)] ∧ h < 2 ∧ TaskR C H p T ∧ Q (.int ((T.al h).length : Int)) H
def spPairs (K : PySem.W.Frag) (C : Addr) : Sp := fun vs H Q _ => ∃ (p : Addr) (T : TD), vs = [.ref p] ∧ TaskAt C H p T ∧ WF T ∧ ∀ (r : Addr) (xs : List V), H r = none → A2 (TpAt H) xs (T.bo.map fun e => iI e.1) → Q (.ref r) (upd H r (.lst xs))
def spPair (K : PySem.W.Frag) (C : Addr) : Sp := fun vs H Q _ => ∃ (p : Addr) (v : V) (T : TD) (xy : Int × Int), vs = [.ref p, v] ∧ TaskR C H p T ∧ WF T ∧ TpAt H v xy ∧ ∀ H', Same H H' → Q (.bl (hasK T.bo xy)) H'
def spRow (K : PySem.W.Frag) : Sp := fun vs H Q _ => ∃ (v : V) (d : PyData) (m : Nat), vs = [v, .int (m : Int)] ∧ Dp K H v d ∧ small d ∧ ∀ H', Same H H' → Q (.bl (rowB d m)) H'
def spChosen (K : PySem.W.Frag) (C : Addr) : Sp := fun vs H Q _ => ∃ (p : Addr) (v : V) (d : PyData) (T : TD), vs = [.ref p, v] ∧ TaskR C H p T ∧ Dp K H v d ∧ (∀ ds, d = .list ds → ∀ e ∈ ds, small e) ∧ ∀ H', Same H H' → Q (.bl (chosenB d (T.al 0).length (T.al 1).length)) H'
/-- what alone_fault tells -/
def AloneRes (T : TD) (ch : Nat → List Int) (fv : V) (H' : Hp) : Prop := (fv = .non ∧ ∀ h a, h < 2 → a < (T.al h).length → okA T ch h a) ∨
  ∃ r h a, fv = .ref r ∧ H' r = some (.tup [.str "alone", .int ((h : Nat) : Int), .int ((a : Nat) : Int)]) ∧ h < 2 ∧ a < (T.al h).length ∧ ¬ okA T ch h a ∧ ∀ h' a', h' < 2 → a' < (T.al h').length → (h' < h ∨ (h' = h ∧ a' < a)) → okA T ch h' a'
def spAloneF (K : PySem.W.Frag) (C : Addr) : Sp := fun vs H Q _ => ∃ (p : Addr) (v : V) (T : TD) (ch : Nat → List Int), vs = [.ref p, v] ∧ TaskAt C H p T ∧ WF T ∧ RowsAt H v [ch 0, ch 1] ∧ (∀ h, h < 2 → (ch h).length = (T.al h).length) ∧
  ∀ fv H', Same H H' → AloneRes T ch fv H' → Q fv H'
section
variable {P : Program} {w : World} {K : PySem.W.Frag} {mg : Str → Option Value} {base : Heap}
abbrev nInputs : List Str := ["self", "hand"]
theorem sc_inputs : FnScope nInputs nInputs (defScope s_inputs) := ⟨rfl, rfl, rfl, by decide +kernel, rfl, by decide +kernel, by decide +kernel⟩
theorem within_hand {h : Nat} (hh : h < 2) : within (.int (h : Int)) 0 1 = true := by
  show decide ((0 : Int) ≤ (h : Int) ∧ (h : Int) ≤ 1) = true
  exact decide_eq_true (by omega)
theorem ok_inputs {f g C : Addr} {fd gd : FuncData} (F : Fun K "inputs" "Task.inputs" s_inputs f fd) (T : Txt K mg) (Z : TxtC K mg C) (WH : Def P w K mg base "is_hand" ["thing"] 3 (spHandG K) g gd) : FnOk P w K mg base CX0 4 f fd nInputs (spInputs K C) := by
  refine F.ok sc_inputs (fun vs H Q E h => ?_) (fun cdv A outer s H vs Q E hr h => ?_)
  · obtain ⟨p, h, D, rfl, _⟩ := h
    rfl
  obtain ⟨p, h, D, rfl, hh, hT, q⟩ := h
  refine ⟨_, (pss_cons (ps_if (pt_not (pt_val (pe_call WH.G (hr.mono (by decide)) rfl WH.m WH.k WH.b .nil pass0 (pa_cons (pv 1) pa_nil))))
      pss_never
      pss_nil)
    (pss_one (ps_ret (pe_callB call_len_seq (by rfl) T.len PySem.boot_len (pa_cons (pe_ix ix_list (pe_fld (pv 0) rfl) (pv 1) (fun _ _ => rfl)) pa_nil))))), ?_⟩
  obtain ⟨dx, a, d, hp, hA, _⟩ := hT
  obtain ⟨t, x0, x1, e, ht, hrow⟩ := hA.row
  obtain rfl : a = t := by injection e
  obtain ⟨x, hx, r, xs, rfl, hr2, ha2⟩ := hrow h hh
  refine ⟨_, rfl, _, _, rfl, .int _, ?_⟩
  rw [within_hand hh]
  refine ⟨true, rfl, iteF ?_⟩
  refine ⟨_, rfl, p, C, dx, _, _, rfl, hp, Z.cl, Z.nA, flds_alone _ _, _, rfl, a, _, _, _, rfl, rfl, SqL.of ht, atI_nat hx, r, xs, rfl, .inl (SqL.of hr2), ?_⟩
  rw [ha2.len]
  exact q
abbrev nPairs : List Str := ["self"]
theorem sc_pairs : FnScope nPairs nPairs (defScope s_pairs) := ⟨rfl, rfl, rfl, by decide +kernel, rfl, by decide +kernel, by decide +kernel⟩
theorem keys_sorted {T : TD} (W : WF T) {L : List (Addr × List Int)} (h1 : (L.map (·.2)).Perm (T.bo.map fun e => [((e.1.1 : Nat) : Int), ((e.1.2 : Nat) : Int)])) (h2 : L.Pairwise (fun q r => TS.code 64 q.2 ≤ TS.code 64 r.2)) :
    L.map (·.2) = T.bo.map fun e => [((e.1.1 : Nat) : Int), ((e.1.2 : Nat) : Int)] := by
  have n0 := (W.n0 0 (by decide)).2
  have n1 := (W.n0 1 (by decide)).2
  have bd : ∀ x ∈ T.bo.map (fun e => [((e.1.1 : Nat) : Int), ((e.1.2 : Nat) : Int)]), ∃ a b : Nat, a < 20 ∧ b < 20 ∧ x = [(a : Int), (b : Int)] := fun x hx => by
    obtain ⟨e, he, rfl⟩ := List.mem_map.mp hx
    have := W.rng e he
    exact ⟨e.1.1, e.1.2, by omega, by omega, rfl⟩
  refine List.Perm.eq_of_pairwise (le := fun a b => TS.code 64 a ≤ TS.code 64 b) (fun a b ha hb h h' => ?_) (List.pairwise_map.mpr h2) ?_ h1
  · obtain ⟨a1, a2, _, _, rfl⟩ := bd a (h1.mem_iff.mp ha)
    obtain ⟨b1, b2, _, _, rfl⟩ := bd b hb
    rw [code_pair, code_pair] at h h'
    have e1 : a1 = b1 := by omega
    have e2 : a2 = b2 := by omega
    rw [e1, e2]
  · rw [List.pairwise_map]
    have s := W.srt
    rw [List.pairwise_map] at s
    refine s.imp_of_mem fun {a b} ha hb h => ?_
    have := W.rng a ha
    have := W.rng b hb
    rw [code_pair, code_pair]
    rcases h with h | ⟨h, h'⟩
    · omega
    · omega
theorem ok_pairs {f C : Addr} {fd : FuncData} (F : Fun K "pairs" "Task.pairs" s_pairs f fd) (T2 : Txt2 K mg) (Z : TxtC K mg C) : FnOk P w K mg base CX0 1 f fd nPairs (spPairs K C) := by
  refine F.ok sc_pairs (fun vs H Q E h => ?_) (fun cdv A outer s H vs Q E hr h => ?_)
  · obtain ⟨p, D, rfl, _⟩ := h
    rfl
  obtain ⟨p, D, rfl, hT, hW, q⟩ := h
  refine ⟨_, (pss_one (ps_ret (pe_callB (cr_sortedDT (d := 2) (B := 64) (by decide) rfl) (by rfl) T2.sorted (by decide +kernel) (pa_cons (pe_fld (pv 0) rfl) pa_nil)))), ?_⟩
  obtain ⟨dx, a, d, hp, hA, kvs, hd, ha⟩ := hT
  refine ⟨_, rfl, p, C, dx, _, _, rfl, hp, Z.cl, Z.nB, flds_both _ _, d, kvs, D.bo.map (fun e => [((e.1.1 : Nat) : Int), ((e.1.2 : Nat) : Int)]), rfl, .inl hd, ?_, ?_, ?_, fun L r h1 h2 h3 hr0 => ?_⟩
  · rw [keys_of ha, List.map_map, List.map_map]
    rfl
  · rw [List.length_map]
    have := hW.many
    omega
  · intro ns hns
    obtain ⟨e, he, rfl⟩ := List.mem_map.mp hns
    have := hW.rng e he
    have := (hW.n0 0 (by decide)).2
    have := (hW.n0 1 (by decide)).2
    refine ⟨rfl, fun m hm => ?_⟩
    rcases List.mem_cons.mp hm with rfl | hm
    · omega
    · obtain rfl := List.mem_singleton.mp hm
      omega
  · refine q r _ hr0 ?_
    have e := keys_sorted hW h1 h2
    clear h1 h2 q
    generalize D.bo = bo at e
    induction L generalizing bo with
    | nil =>
      cases bo with
      | nil => exact .nil
      | cons _ _ => cases e
    | cons x L ih =>
      cases bo with
      | nil => cases e
      | cons b bo =>
        rw [List.map_cons, List.map_cons] at e
        injection e with e1 e2
        refine .cons ⟨x.1, rfl, ?_⟩ (ih (fun y hy => h3 y (List.mem_cons_of_mem _ hy)) bo e2)
        rw [h3 x List.mem_cons_self, e1]
        rfl
abbrev nIsPair : List Str := ["task", "thing"]
theorem sc_ispair : FnScope nIsPair nIsPair (defScope s_is_pair) := ⟨rfl, rfl, rfl, by decide +kernel, rfl, by decide +kernel, by decide +kernel⟩
theorem inB_hasK {T : TD} (W : WF T) {xy : Int × Int} (h : inB (T.al 0).length (T.al 1).length (pairD xy) = false) : hasK T.bo xy = false := by
  cases c : hasK T.bo xy with
  | false => rfl
  | true =>
    obtain ⟨e, he, h1⟩ := List.any_eq_true.mp c
    have h2 := of_decide_eq_true h1
    rw [← h2, in_yes (W.rng e he)] at h
    cases h
theorem ok_ispair {f g C : Addr} {fd gd : FuncData} (F : Fun K "is_pair" "is_pair" s_is_pair f fd) (T : Txt K mg) (Z : TxtC K mg C) (W1 : Def P w K mg base "is_input_pair" ["thing", "alone"] 3 (spInp K) g gd) : FnOk P w K mg base CX0 4 f fd nIsPair (spPair K C) := by
  refine F.ok sc_ispair (fun vs H Q E h => ?_) (fun cdv A outer s H vs Q E hr h => ?_)
  · obtain ⟨p, v, D, xy, rfl, _⟩ := h
    rfl
  obtain ⟨p, v, D, xy, rfl, hT, hW, hv, q⟩ := h
  have hu := hu_of hr
  refine ⟨_, (pss_one (ps_ret (pe_and (pe_call W1.G (hr.mono (by decide)) rfl W1.m W1.k W1.b .nil pass0 (pa_cons (pv 1) (pa_cons (pe_fld (pv 0) rfl) pa_nil))) (pe_one (pe_cmp (pc_din hu (pv 1) (pe_fld (pv 0) rfl)) rfl))))), ?_⟩
  obtain ⟨dx, a, d, hp, hA, hB⟩ := hT
  obtain ⟨al, e, hal⟩ := hA.at2 (K := K)
  obtain rfl : a = al := by injection e
  refine ⟨_, rfl, _, rfl, p, C, dx, _, _, rfl, hp, Z.cl, Z.nA, flds_alone _ _, v, _, a, _, _, rfl, hv.dp, hal, fun H1 s1 => ⟨_, rfl, ?_⟩⟩
  cases c : inB (D.al 0).length (D.al 1).length (pairD xy) with
  | false =>
    rw [inB_hasK hW c] at q
    exact iteF (q _ s1)
  | true =>
    obtain ⟨kvs, hd, ha⟩ := hB.mono s1
    obtain ⟨t, rfl, ht⟩ := hv.mono (.same s1)
    refine iteT ⟨_, rfl, _, rfl, p, C, dx, _, _, rfl, s1 _ _ hp, Z.cl, Z.nB, flds_both _ _, d, _, rfl, dget_rd (k := k2 xy) hd ht, ?_⟩
    rw [some_hasK ha]
    exact q _ s1
abbrev nRow : List Str := ["thing", "many", "x"]
theorem sc_row : FnScope nRow ["thing", "many"] (defScope s_is_row) := ⟨rfl, rfl, rfl, by decide +kernel, rfl, by decide +kernel, by decide +kernel⟩
theorem ok_row {f g : Addr} {fd gd : FuncData} (F : Fun K "is_row" "is_row" s_is_row f fd) (T : Txt K mg) (WO : Def P w K mg base "is_output" ["thing"] 3 (spOut K) g gd) : FnOk P w K mg base CX0 4 f fd ["thing", "many"] (spRow K) := by
  refine F.ok sc_row (fun vs H Q E h => ?_) (fun cdv A outer s H vs Q E hr h => ?_)
  · obtain ⟨v, d, m, rfl, _⟩ := h
    rfl
  obtain ⟨v, d, m, rfl, hk, hz, q⟩ := h
  have nd := sc_row.nd
  refine ⟨_, (pss_one (ps_ret (pe_and (pe_callB call_isi (by rfl) T.isi boot_isinstance (pa_cons (pv 0) (pa_cons (pe_bltn (v := .ty "list") (by rfl) T.list boot_list rfl) pa_nil))) (pe_and (pe_cmpR op_eq (pe_callB call_len_seq (by rfl) T.len PySem.boot_len (pa_cons (pv 0) pa_nil)) (pv 1) (nomark _)) (pe_one (pe_callB (cr_all rfl) (by rfl) T.all (by decide +kernel) (pa_cons (pe_lc (own := [("x", 2)]) (g := (gName 2)) (tt := tYes) (te := (tCall (spOut K) [] E0 (tCons (tVar 2) tNil))) rfl nd (pi_list (pv 0)) (blkOk_by (N := nRow) (sc := defScope s_is_row) (by decide +kernel)) (fun _ _ _ _ _ => (by exact (pg_name (i := 2) nd rfl (Or.inl rfl)))) (fun _ _ _ _ _ => pts_nil) (fun _ _ _ _ _ => (by exact (pe_call WO.G (hr.mono (by decide)) rfl WO.m WO.k WO.b .nil pass0 (pa_cons (pv 2) pa_nil))))) pa_nil))))))), ?_⟩
  refine ⟨_, rfl, v, .ty "list", _, _, isLstD d, rfl, .ty "list", dp_ty hk, kit_lst d, _, rfl, ?_⟩
  cases cl : isLstD d with
  | false =>
    have : rowB d m = false := by cases d <;> first | rfl | cases cl
    rw [this] at q
    exact iteF (q _ (Same.refl H))
  | true =>
    obtain ⟨ds, rfl⟩ : ∃ ds, d = .list ds := by cases d <;> first | exact ⟨_, rfl⟩ | cases cl
    obtain ⟨p, vs, rfl, hS, hD⟩ : ∃ t vs, v = .ref t ∧ SqL K H t vs ∧ DpAll K H vs ds := by
      cases hk with
      | lst a b => exact ⟨_, _, rfl, a, b⟩
    have hl := dpAll_len hD
    have hds := hz ds rfl
    have eO : rowB (.list ds) m = (decide (ds.length = m) && (ds.map outB).all id) := rfl
    refine iteT ⟨_, rfl, p, _, rfl, .inl hS, _, rfl, rfl, _, rfl, ?_⟩
    rw [hl, dec_nat]
    by_cases c : ds.length = m
    case neg =>
      rw [eO, decide_eq_false c, Bool.false_and] at q
      refine iteF' (decide_eq_false c) ?_
      exact q _ (Same.refl H)
    rw [eO, decide_eq_true c, Bool.true_and] at q
    refine iteT' (decide_eq_true c) ?_
    refine ⟨_, rfl, p, rfl, ⟨_, hS⟩, fun D hD' => ?_⟩
    refine list_turns (xs := vs) (fun i H' => Same H H' ∧ H' D = some (.lst (((ds.map outB).take i).map V.bl))) ⟨same_new hD' _, upd_same⟩ (fun i H' _ h => h.1.seq hS) ?_ ?_
    · rintro i x H' hx ⟨s1, h1⟩
      obtain ⟨di, hdi, hxi⟩ := dpAll_get hD hx
      have hi : i < ds.length := (List.getElem?_eq_some_iff.mp hdi).1
      have hb : (ds.map outB)[i]? = some (outB di) := by rw [List.getElem?_map, hdi]; rfl
      refine ⟨rfl, _, rfl, x, di, rfl, dp_mono s1 _ _ hxi, _, h1, ?_, same_upd s1 hD', by rw [upd_same, take_bl _ hb]⟩
      rw [List.length_map]
      exact Nat.lt_of_le_of_lt (List.length_take_le _ _) (Nat.lt_of_lt_of_le hi (Nat.le_trans hds (by decide)))
    · rintro H1 ⟨s1, h1⟩
      rw [hl, ← List.length_map (f := outB), List.take_length] at h1
      exact ⟨D, _, rfl, SqL.of h1, q _ s1⟩
end
end TA

set_option Elab.async false
set_option maxRecDepth 100000
set_option maxHeartbeats 4000000
namespace TA
open PySem L2 PyProof.Rows
set_option linter.unusedVariables false
theorem two_cases (ds : List PyData) : (∃ x y, ds = [x, y]) ∨ ds.length ≠ 2 := by
  match ds with
  | [x, y] => exact .inl ⟨x, y, rfl⟩
  | [] | [_] | _ :: _ :: _ :: _ => exact .inr (by simp)
theorem chosen_no {ds : List PyData} {n0 n1 : Nat} (h : ds.length ≠ 2) : chosenB (.list ds) n0 n1 = false := by
  match ds, h with
  | [x, y], h => exact absurd rfl h
  | [], _ | [_], _ | _ :: _ :: _ :: _, _ => rfl
theorem hand_at {i : Nat} {z : V} (h : ([V.int 0, V.int 1] : List V)[i]? = some z) : i < 2 ∧ z = .int (i : Int) := by
  have hi : i < 2 := (List.getElem?_eq_some_iff.mp h).1
  refine ⟨hi, ?_⟩
  obtain rfl | rfl : i = 0 ∨ i = 1 := by omega
  · simpa using h.symm
  · simpa using h.symm
section
variable {P : Program} {w : World} {K : PySem.W.Frag} {mg : Str → Option Value} {base : Heap}
abbrev nChosen : List Str := ["task", "thing", "hand"]
theorem sc_chosen : FnScope nChosen ["task", "thing"] (defScope s_is_chosen) := ⟨rfl, rfl, rfl, by decide +kernel, rfl, by decide +kernel, by decide +kernel⟩
theorem ok_chosen {f g1 g2 C : Addr} {fd d1 d2 : FuncData} (F : Fun K "is_chosen" "is_chosen" s_is_chosen f fd) (T : Txt K mg) (U : TxtH K mg) (Z : TxtC K mg C) (WR : Def P w K mg base "is_row" ["thing", "many"] 4 (spRow K) g1 d1)
    (Inp : MDef P w K mg base C "inputs" nInputs 4 (spInputs K C) g2 d2) : FnOk P w K mg base CX0 5 f fd ["task", "thing"] (spChosen K C) := by
  refine F.ok sc_chosen (fun vs H Q E h => ?_) (fun cdv A outer s H vs Q E hr h => ?_)
  · obtain ⟨p, v, d, D, rfl, _⟩ := h
    rfl
  obtain ⟨p, v, d, D, rfl, hTk, hk, hz, q⟩ := h
  obtain ⟨hT, mH, hH⟩ := U.hands
  have nd := sc_chosen.nd
  refine ⟨_, (pss_one (ps_ret (pe_and (pe_callB call_isi (by rfl) T.isi boot_isinstance (pa_cons (pv 1) (pa_cons (pe_bltn (v := .ty "list") (by rfl) T.list boot_list rfl) pa_nil))) (pe_and (pe_cmpR op_eq (pe_callB call_len_seq (by rfl) T.len PySem.boot_len (pa_cons (pv 1) pa_nil)) pe_int (nomark _)) (pe_one (pe_callB (cr_all rfl) (by rfl) T.all (by decide +kernel) (pa_cons (pe_lc (own := [("hand", 2)]) (g := (gName 2)) (tt := tYes) (te := (tCall (spRow K) [] E0 (tCons (tOp (rIxL K) (tVar 1) (tVar 2)) (tCons (tMeth C "inputs" (spInputs K C) [] E0 (tVar 0) (tCons (tVar 2) tNil)) tNil)))) rfl nd (pi_tup (pe_glob (v := .ref hT) rfl mH rfl)) (blkOk_by (N := nChosen) (sc := defScope s_is_chosen) (by decide +kernel)) (fun _ _ _ _ _ => (by exact (pg_name (i := 2) nd rfl (Or.inl rfl)))) (fun _ _ _ _ _ => pts_nil) (fun _ _ _ _ _ => (by exact (pe_call WR.G (hr.mono (by decide)) rfl WR.m WR.k WR.b .nil pass0 (pa_cons (pe_ix ix_list (pv 1) (pv 2) (fun _ _ => rfl)) (pa_cons (pe_meth (pv 0) Z.cl Inp.M Inp.G (hr.mono (by decide)) Inp.b .nil pass0 (pa_cons (pv 2) pa_nil)) pa_nil)))))) pa_nil))))))), ?_⟩
  refine ⟨_, rfl, v, .ty "list", _, _, isLstD d, rfl, .ty "list", dp_ty hk, kit_lst d, _, rfl, ?_⟩
  cases cl : isLstD d with
  | false =>
    have : chosenB d (D.al 0).length (D.al 1).length = false := by cases d <;> first | rfl | cases cl
    rw [this] at q
    exact iteF (q _ (Same.refl H))
  | true =>
    obtain ⟨ds, rfl⟩ : ∃ ds, d = .list ds := by cases d <;> first | exact ⟨_, rfl⟩ | cases cl
    obtain ⟨t, vs, rfl, hS, hD⟩ : ∃ t vs, v = .ref t ∧ SqL K H t vs ∧ DpAll K H vs ds := by
      cases hk with
      | lst a b => exact ⟨_, _, rfl, a, b⟩
    have hl := dpAll_len hD
    refine iteT ⟨_, rfl, t, _, rfl, .inl hS, rfl, _, rfl, ?_⟩
    rcases two_cases ds with ⟨x, y, rfl⟩ | c
    case inr =>
      rw [chosen_no c] at q
      refine iteF' (decide_eq_false fun e => c (by injection e with e; omega)) ?_
      exact q _ (Same.refl H)
    refine iteT' (decide_eq_true (by rw [hl]; rfl)) ?_
    cases hD with
    | cons hx hD =>
    cases hD with
    | cons hy hD =>
    cases hD
    rename_i vx vy
    refine ⟨hT, rfl, ⟨_, hH _⟩, fun L hL => ?_⟩
    refine tup_turns (xs := [V.int 0, V.int 1]) (fun i H' => Same H H' ∧ H' L = some (.lst (([rowB x (D.al 0).length, rowB y (D.al 1).length].take i).map V.bl))) ⟨same_new hL _, upd_same⟩ (fun i H' _ _ => hH H') ?_ ?_
    · rintro i z H' hz' ⟨s3, h3⟩
      obtain ⟨hi, rfl⟩ := hand_at hz'
      obtain ⟨u, e, hu1, hu2, hu3⟩ : ∃ u e, ([vx, vy] : List V)[i]? = some u ∧ ([x, y] : List PyData)[i]? = some e ∧ Dp K H u e := by
        obtain rfl | rfl : i = 0 ∨ i = 1 := by omega
        · exact ⟨vx, x, rfl, rfl, hx⟩
        · exact ⟨vy, y, rfl, rfl, hy⟩
      obtain ⟨dx, a, d, hp, hA, hB⟩ := hTk.mono s3
      refine ⟨rfl, _, rfl, _, rfl, t, _, _, _, rfl, rfl, s3.seq hS, atI_nat hu1, ?_⟩
      refine ⟨_, rfl, p, dx, _, rfl, hp, flds_no _ _ (by decide +kernel) (by decide +kernel), _, rfl, p, i, D, rfl, hi, ⟨dx, a, d, hp, hA, hB⟩, ?_⟩
      refine ⟨u, e, (D.al i).length, rfl, dp_mono s3 _ _ hu3, hz _ rfl _ (List.mem_of_getElem? hu2), fun H4 s4 => ?_⟩
      have hb : [rowB x (D.al 0).length, rowB y (D.al 1).length][i]? = some (rowB e (D.al i).length) := by
        obtain rfl | rfl : i = 0 ∨ i = 1 := by omega
        · obtain rfl : x = e := by simpa using hu2
          rfl
        · obtain rfl : y = e := by simpa using hu2
          rfl
      refine ⟨_, s4 _ _ h3, ?_, same_upd (s3.trans s4) hL, by rw [upd_same, take_bl _ hb]⟩
      rw [List.length_map]
      exact Nat.lt_of_le_of_lt (List.length_take_le _ _) (Nat.lt_of_lt_of_le hi (by decide))
    · rintro H3 ⟨s3, h3⟩
      refine ⟨L, _, rfl, SqL.of h3, ?_⟩
      have e1 : chosenB (.list [x, y]) (D.al 0).length (D.al 1).length = (([rowB x (D.al 0).length, rowB y (D.al 1).length].take [V.int 0, V.int 1].length).all id) := by
        show (rowB x _ && rowB y _) = (rowB x _ && (rowB y _ && true))
        rw [Bool.and_true]
      rw [e1] at q
      exact q _ s3
end
end TA

set_option Elab.async false
set_option maxRecDepth 100000
set_option maxHeartbeats 4000000
namespace TA
open PySem L2 PyProof.Rows
set_option linter.unusedVariables false
def WellAt (H : Hp) (a : Addr) (n : Int) : Prop := ∃ x y z : Int, H a = some (.lst [.int x, .int y, .int z]) ∧ 0 ≤ x ∧ 0 ≤ y ∧ y < 2147483647 ∧ 0 ≤ z ∧ z ≤ n
theorem WellAt.same {H H' : Hp} {a : Addr} {n : Int} (s : Same H H') (w : WellAt H a n) : WellAt H' a n := by
  obtain ⟨x, y, z, h, r⟩ := w
  exact ⟨x, y, z, s _ _ h, r⟩
theorem join3 {b : Bool} {X : Prop} {R : L2.St → Hp → Prop} {σ : L2.St} {H : Hp} (Iv : L2.St → Hp → Prop) (h0 : b = false → Iv σ H) (k : ∀ σ Hc, Iv σ Hc → R σ Hc) (h1 : b = true → (∀ σ Hc, Iv σ Hc → R σ Hc) → X) : if b = true then X else R σ H := by
  cases b with
  | false => exact iteF (k σ H (h0 rfl))
  | true => exact iteT (h1 rfl k)
def spCell (K : PySem.W.Frag) : Sp := fun vs H Q _ => ∃ (a : Addr) (ns : List Int) (k : Int), vs = [.ref a, .int k] ∧ SqL K H a (ns.map V.int) ∧ ns.length ≤ 1000 ∧ 0 ≤ k ∧ ∀ c : Int, Q (.int c) H
def spDigit : Sp := fun vs H Q _ => ∃ (a : Addr) (n m : Int), vs = [.ref a, .int m] ∧ ((∃ x : Int, H a = some (.lst [.int x])) ∨ WellAt H a n) ∧ 0 ≤ n ∧ n < 999999 ∧ 0 < m ∧ m < 1000 ∧ ∀ (r : Int) (H' : Hp), 0 ≤ r → r < m → But a H H' → WellAt H' a (n + 1) → Q (.int r) H'
theorem WellAt.but {H H' : Hp} {a d : Addr} {n : Int} (w : WellAt H a n) (ne : a ≠ d) (s : But d H H') : WellAt H' a n := by
  obtain ⟨x, y, z, h, r⟩ := w
  exact ⟨x, y, z, s _ _ ne h, r⟩
theorem WellAt.up {H : Hp} {a : Addr} {n m : Int} (w : WellAt H a n) (h : n ≤ m) : WellAt H a m := by
  obtain ⟨x, y, z, h0, a1, a2, a3, a4, a5⟩ := w
  exact ⟨x, y, z, h0, a1, a2, a3, a4, by omega⟩
theorem WellAt.ne {H : Hp} {a b : Addr} {n : Int} (w : WellAt H a n) (h : H b = none) : a ≠ b := by
  obtain ⟨x, y, z, h0, _⟩ := w
  exact ne_of_none h0 h
/-- a well that is drawn from, or not yet -/
def Dr (H : Hp) (a : Addr) (n : Int) : Prop := (∃ x : Int, H a = some (.lst [.int x])) ∨ WellAt H a n
def spFew : Sp := fun vs H Q _ => ∃ (a : Addr) (n g m : Int), vs = [.ref a, .int g, .int m] ∧ Dr H a n ∧ 0 ≤ n ∧ n < 999900 ∧ 0 < g ∧ g < 64 ∧ 0 < m ∧ m ≤ 4 ∧
  ∀ (p : Addr) (ns : List Int) (H' : Hp), But a H H' → H p = none → H' p = some (.lst (ns.map V.int)) → WellAt H' a (n + 5) → 1 ≤ ns.length → ns.length ≤ 4 → ns.Pairwise (· < ·) → (∀ x ∈ ns, 0 ≤ x ∧ x < g) → Q (.ref p) H'
section
variable {P : Program} {w : World} {K : PySem.W.Frag} {mg : Str → Option Value} {base : Heap}
theorem scCell : FnScope ["_law_script", "_law_k"] ["_law_script", "_law_k"] (defScope sCell) := ⟨rfl, rfl, rfl, by decide +kernel, rfl, by decide +kernel, by decide +kernel⟩
theorem ok_cell {f : Addr} {fd : FuncData} (F : Fun K "_law_cell_at" "_law_cell_at" sCell f fd) (T : Txt K mg) : FnOk P w K mg base CX0 1 f fd ["_law_script", "_law_k"] (spCell K) := by
  refine F.ok scCell (fun vs H Q E h => ?_) (fun cdv A outer s H vs Q E hr h => ?_)
  · obtain ⟨a, ns, k, rfl, _⟩ := h
    rfl
  obtain ⟨a, ns, k, rfl, hS, hn, hk, q⟩ := h
  refine ⟨_, pss_cons (ps_if (pt_cmpR op_lt (pv 1) (pe_callB call_len_seq (by rfl) T.len PySem.boot_len (pa_cons (pv 0) pa_nil)) (nomark _)) (pss_one (ps_ret (pe_ix ix_list (pv 0) (pv 1) (fun _ _ => rfl)))) pss_nil)
    (pss_one (ps_ret pe_int)), ?_⟩
  refine ⟨_, rfl, _, rfl, a, _, rfl, .inl hS, _, _, rfl, rfl, _, rfl, ?_⟩
  refine ite2 (fun c => ?_) (fun c => ?_)
  · have c' : k < (((ns.map V.int).length : Nat) : Int) := of_decide_eq_true c
    rw [List.length_map] at c'
    have hk' : k.toNat < ns.length := by omega
    have ek : k = ((k.toNat : Nat) : Int) := by omega
    have g : atI (ns.map V.int) ((k.toNat : Nat) : Int) = some (.int ns[k.toNat]) := atI_nat (by rw [List.getElem?_map, List.getElem?_eq_getElem hk'] <;> rfl)
    rw [← ek] at g
    exact ⟨_, rfl, _, rfl, a, _, _, _, rfl, rfl, hS, g, q _⟩
  · exact q 0
theorem scDigit : FnScope ["_law_state", "_law_base", "_law_cell", "_law_found", "_law_number"] ["_law_state", "_law_base"] (defScope s__law_digit) := ⟨rfl, rfl, rfl, by decide +kernel, rfl, by decide +kernel, by decide +kernel⟩
theorem ok_digit {f : Addr} {fd : FuncData} (F : Fun K "_law_digit" "_law_digit" s__law_digit f fd) (T : Txt K mg) : FnOk P w K mg base CX0 1 f fd ["_law_state", "_law_base"] spDigit := by
  refine F.ok scDigit (fun vs H Q E h => ?_) (fun cdv A outer s H vs Q E hr h => ?_)
  · obtain ⟨a, n, m, rfl, _⟩ := h
    rfl
  obtain ⟨a, n, m, rfl, hst, hn0, hn, hm, hm2, q⟩ := h
  have nd := scDigit.nd
  have ix : ∀ {X : Cx} {e1 e2 : Expr} {t1 t2 : TE} {p : Pos}, PE X e1 t1 → PE X e2 t2 → PlainIx e2 → PE X (.Subscript e1 e2 p) (tOp (rIxL X.K) t1 t2) := fun h1 h2 h3 => pe_ix ix_list h1 h2 h3
  refine ⟨_, pss_cons (ps_if (pt_cmpR op_eq (pe_callB call_len_seq (by rfl) T.len PySem.boot_len (pa_cons (pv 0) pa_nil)) pe_int (nomark _))
      (pss_cons (ps_set (i := 2) nd rfl (Or.inl rfl) (pe_ix ix_list (pv 0) pe_int (fun _ _ => rfl)))
      (pss_cons (ps_asg (pe_ix ix_list (pe_lst (pa_cons pe_int (pa_cons (pv 2) pa_nil))) (pe_callTy call_int1 (by rfl) T.int boot_int (pa_cons (pe_cmpR op_ge (pv 2) (pe_op op_pow pe_int pe_int) (nomark _)) pa_nil)) (fun _ _ => rfl)) (pg_sub (pv 0) pe_int set_list))
      (pss_one (ps_expr (pe_bm PySem.F.plainAttrs_list PySem.F.slot_list_extend PySem.F.type_list_extend mt_extend (pv 0) (pa_cons (pe_lst (pa_cons (pe_op op_mod (pv 2) pe_int) (pa_cons pe_int pa_nil))) pa_nil)))))) pss_nil)
    (pss_cons (ps_if (pt_cmpR op_gt (pe_ix ix_list (pv 0) pe_int (fun _ _ => rfl)) pe_int (nomark _))
      (pss_cons (ps_set (i := 3) nd rfl (Or.inl rfl) (pe_op op_mod (pe_ix ix_list (pv 0) pe_int (fun _ _ => rfl)) (pv 1)))
      (pss_cons (ps_asg (pe_op op_fdiv (pe_ix ix_list (pv 0) pe_int (fun _ _ => rfl)) (pv 1)) (pg_sub (pv 0) pe_int set_list))
      (pss_one (ps_ret (pv 3))))) pss_nil)
    (pss_cons (ps_asg (pe_op op_add (pe_ix ix_list (pv 0) pe_int (fun _ _ => rfl)) pe_int) (pg_sub (pv 0) pe_int set_list))
    (pss_cons (ps_set (i := 4) nd rfl (Or.inl rfl) (pe_op op_mod (pe_op op_mul (pe_op op_add (pe_op op_add (pe_ix ix_list (pv 0) pe_int (fun _ _ => rfl)) (pe_op op_mul pe_int (pe_ix ix_list (pv 0) pe_int (fun _ _ => rfl)))) pe_int) pe_int) pe_int))
    (pss_cons (ps_set (i := 4) nd rfl (Or.inl rfl) (pe_op op_mod (pe_op op_mul (pv 4) (pe_op op_add (pe_op op_fdiv (pv 4) pe_int) pe_int)) pe_int))
    (pss_one (ps_ret (pe_op op_mod (pe_op op_mod (pe_op op_mul (pv 4) (pe_op op_add (pe_op op_fdiv (pv 4) pe_int) pe_int)) pe_int) (pv 1)))))))), ?_⟩
  obtain ⟨xs, hxs, hlen⟩ : ∃ xs, H a = some (.lst xs) ∧ ((xs.length = 1 ∧ ∃ x : Int, xs = [.int x]) ∨ (xs.length = 3 ∧ WellAt H a n)) := by
    rcases hst with ⟨x, h⟩ | ⟨x, y, z, h, r⟩
    · exact ⟨_, h, .inl ⟨rfl, x, rfl⟩⟩
    · exact ⟨_, h, .inr ⟨rfl, x, y, z, h, r⟩⟩
  refine ⟨_, rfl, a, xs, rfl, .inl (SqL.of hxs), rfl, _, rfl, ?_⟩
  refine join3 (fun σ Hc => ∃ g, σ = [some (.ref a), some (.int m), g, none, none] ∧ But a H Hc ∧ WellAt Hc a n) ?_ ?_ ?_
  · intro hb
    rcases hlen with ⟨h1, _⟩ | ⟨_, hw⟩
    · rw [h1] at hb
      cases hb
    · exact ⟨none, rfl, fun b o _ e => e, hw⟩
  · rintro σ Hc ⟨g, rfl, b, x, y, z, hL, hx, hy, hy2, hz, hz2⟩
    refine ⟨_, rfl, a, _, _, _, rfl, rfl, SqL.of hL, rfl, _, _, rfl, rfl, _, rfl, ?_⟩
    refine ite2 (fun c => ?_) (fun c => ?_)
    · refine ⟨_, rfl, a, _, _, _, rfl, rfl, SqL.of hL, rfl, _, rfl, _, _, rfl, rfl, hm, ?_⟩
      refine ⟨_, rfl, a, _, _, _, rfl, rfl, SqL.of hL, rfl, _, rfl, _, _, rfl, rfl, ⟨hm, by omega⟩, ?_⟩
      refine ⟨_, rfl, a, _, _, 0, rfl, rfl, hL, rfl, _, rfl, ?_⟩
      exact q _ _ (Int.emod_nonneg _ (by omega)) (Int.emod_lt_of_pos _ hm) (b.trans But.at) ⟨_, y, z, upd_same, Int.ediv_nonneg hx (by omega), hy, hy2, hz, by omega⟩
    · have hL2 : (upd Hc a (.lst [.int x, .int y, .int (z + 1)])) a = some (.lst [.int x, .int y, .int (z + 1)]) := upd_same
      refine ⟨_, rfl, a, _, _, _, rfl, rfl, SqL.of hL, rfl, _, _, rfl, rfl, ?_⟩
      refine ⟨_, rfl, a, _, _, 2, rfl, rfl, hL, rfl, ?_⟩
      refine ⟨_, rfl, a, _, _, _, rfl, rfl, SqL.of hL2, rfl, _, rfl, a, _, _, _, rfl, rfl, SqL.of hL2, rfl, _, _, rfl, rfl, .inl ⟨by decide, by decide⟩, _, _, rfl, rfl, _, _, rfl, rfl, _, _, rfl, rfl, .inr ⟨by decide, by decide⟩, _, _, rfl, rfl, (by show (0 : Int) < 2147483647; decide), ?_⟩
      have n0 := Int.emod_nonneg ((y + 7919 * (z + 1) + 1) * 48271) (show (2147483647 : Int) ≠ 0 by decide)
      have n1 := Int.emod_lt_of_pos ((y + 7919 * (z + 1) + 1) * 48271) (show (0 : Int) < 2147483647 by decide)
      generalize ((y + 7919 * (z + 1) + 1) * 48271) % 2147483647 = i at n0 n1 ⊢
      refine ⟨_, rfl, _, rfl, _, _, rfl, rfl, ⟨by decide, by decide⟩, _, _, rfl, rfl, _, _, rfl, rfl, .inl ⟨by omega, by omega⟩, _, _, rfl, rfl, (by show (0 : Int) < 2147483647; decide), ?_⟩
      have k0 := Int.emod_nonneg (i * (i / 1009 + 69621)) (show (2147483647 : Int) ≠ 0 by decide)
      have k1 := Int.emod_lt_of_pos (i * (i / 1009 + 69621)) (show (0 : Int) < 2147483647 by decide)
      generalize (i * (i / 1009 + 69621)) % 2147483647 = j at k0 k1 ⊢
      refine ⟨_, rfl, _, rfl, _, _, rfl, rfl, ⟨by decide, by decide⟩, _, _, rfl, rfl, _, _, rfl, rfl, .inl ⟨by omega, by omega⟩, _, _, rfl, rfl, (by show (0 : Int) < 2147483399; decide), _, rfl, _, _, rfl, rfl, hm, ?_⟩
      exact q _ _ (Int.emod_nonneg _ (by omega)) (Int.emod_lt_of_pos _ hm) (b.trans But.at) ⟨x, y, z + 1, upd_same, hx, hy, hy2, by omega, by omega⟩
  · intro hb k
    obtain ⟨x, rfl⟩ : ∃ x : Int, xs = [.int x] := by
      rcases hlen with ⟨_, h⟩ | ⟨h3, _⟩
      · exact h
      · rw [h3] at hb
        cases hb
    refine ⟨_, rfl, a, _, _, _, rfl, rfl, SqL.of hxs, rfl, ?_⟩
    refine ⟨_, rfl, (by show 2 ≤ sizeLine; decide), fun l hl => ?_⟩
    have s1 := same_new hl (.lst [V.int 0, V.int x])
    refine ⟨_, rfl, _, _, rfl, rfl, ⟨by decide, by decide, by decide⟩, _, _, rfl, rfl, .inr ⟨_, rfl, ?_⟩⟩
    obtain ⟨y, hy, y0⟩ : ∃ y : Int, atI [V.int 0, V.int x] (if decide (x ≥ 10 ^ (18 : Int).toNat) = true then 1 else 0) = some (.int y) ∧ 0 ≤ y := by
      by_cases c : x ≥ 10 ^ (18 : Int).toNat
      · rw [decide_eq_true c]
        have : (0 : Int) ≤ 10 ^ (18 : Int).toNat := by decide
        exact ⟨x, rfl, by omega⟩
      · rw [decide_eq_false c]
        exact ⟨0, rfl, Int.le_refl 0⟩
    refine ⟨l, _, _, _, rfl, rfl, SqL.of upd_same, hy, _, rfl, a, [.int x], _, 0, rfl, rfl, s1 _ _ hxs, rfl, ?_⟩
    have hL : (upd (upd H l (.lst [V.int 0, V.int x])) a (.lst ([V.int x].set 0 (.int y)))) a = some (.lst [.int y]) := upd_same
    refine ⟨_, rfl, .inl ⟨rfl, _, SqL.of hL⟩, _, rfl, _, _, rfl, rfl, (by show (0 : Int) < 2147483647; decide), (by show 2 ≤ sizeLine; decide), fun l2 hl2 => ?_⟩
    have nl : a ≠ l2 := ne_of_none hL hl2
    refine ⟨a, l2, [.int y], _, rfl, rfl, (by rw [upd_ne nl]; exact hL), upd_same, (by show 3 ≤ sizeLine; decide), ?_⟩
    refine k _ _ ⟨_, rfl, ?_, y, x % 2147483647, 0, upd_same, y0, Int.emod_nonneg _ (by decide), Int.emod_lt_of_pos _ (by decide), Int.le_refl 0, hn0⟩
    exact (((But.same s1).trans But.at).trans (But.same (same_new hl2 _))).trans But.at
abbrev nFew : List Str := ["_law_state", "_law_great", "_law_most", "_law_k"]
theorem sc_few : FnScope nFew ["_law_state", "_law_great", "_law_most"] (defScope s__law_few) := ⟨rfl, rfl, rfl, by decide +kernel, rfl, by decide +kernel, by decide +kernel⟩
theorem ok_few {f g1 : Addr} {fd d1 : FuncData} (F : Fun K "_law_few" "_law_few" s__law_few f fd) (T : Txt K mg) (T2 : Txt2 K mg) (Dg : Def P w K mg base "_law_digit" ["_law_state", "_law_base"] 1 spDigit g1 d1) : FnOk P w K mg base CX0 2 f fd ["_law_state", "_law_great", "_law_most"] spFew := by
  refine F.ok sc_few (fun vs H Q E h => ?_) (fun cdv A outer s H vs Q E hr h => ?_)
  · obtain ⟨a, n, g, m, rfl, _⟩ := h
    rfl
  obtain ⟨a, n, g, m, rfl, hD, hn0, hn, hg0, hg, hm0, hm, q⟩ := h
  have nd := sc_few.nd
  refine ⟨_, (pss_one (ps_ret (pe_callB (cr_sortedSet rfl) (by rfl) T2.sorted (by decide +kernel) (pa_cons (pe_callTy (cr_setOfI rfl) (by rfl) T2.set (by decide +kernel) (pa_cons (pe_lc (own := [("_law_k", 3)]) (g := (gName 3)) (tt := tYes) (te := (tCall spDigit [] E0 (tCons (tVar 0) (tCons (tVar 1) tNil)))) rfl nd (pi_range1 (by rfl) T.range (pa_cons (pe_op op_add pe_int (pe_call Dg.G (hr.mono (by decide)) rfl Dg.m Dg.k Dg.b .nil pass0 (pa_cons (pv 0) (pa_cons (pv 2) pa_nil)))) pa_nil)) (blkOk_by (N := nFew) (sc := defScope s__law_few) (by decide +kernel)) (fun _ _ _ _ _ => (by exact (pg_name (i := 3) nd rfl (Or.inl rfl)))) (fun _ _ _ _ _ => pts_nil) (fun _ _ _ _ _ => (by exact (pe_call Dg.G (hr.mono (by decide)) rfl Dg.m Dg.k Dg.b .nil pass0 (pa_cons (pv 0) (pa_cons (pv 1) pa_nil)))))) pa_nil)) pa_nil)))), ?_⟩
  refine ⟨_, rfl, _, rfl, a, n, m, rfl, hD, hn0, by omega, hm0, by omega, fun r H1 r0 r1 b1 w1 => ?_⟩
  refine ⟨_, _, rfl, rfl, 1 + r, rfl, by omega, by omega, fun D hD1 => ?_⟩
  have haD : a ≠ D := w1.ne hD1
  have s1 := same_new hD1 (.lst [])
  refine range_turns (n := (1 + r).toNat) (fun i H' => But a H1 H' ∧ WellAt H' a (n + 1 + (i : Int)) ∧ ∃ ns : List Int, H' D = some (.lst (ns.map V.int)) ∧ ns.length = i ∧ ∀ x ∈ ns, 0 ≤ x ∧ x < g) ⟨.same s1, ?_, [], upd_same, rfl, fun x hx => by cases hx⟩ ?_ ?_
  · have := w1.same s1
    simpa using this
  · rintro i H' hi ⟨b2, w2, ns, h2, hl, hb⟩
    refine ⟨rfl, _, rfl, _, rfl, a, n + 1 + (i : Int), g, rfl, .inr w2, by omega, by omega, hg0, by omega, fun x H3 x0 x1 b3 w3 => ?_⟩
    have h3 := b3 _ _ (Ne.symm haD) h2
    refine ⟨_, h3, ?_, (b2.trans b3).new hD1, ?_, ns ++ [x], by rw [upd_same, List.map_append]; rfl, by rw [List.length_append, hl]; rfl, fun y hy => ?_⟩
    · rw [List.length_map, hl]
      exact Nat.lt_of_lt_of_le (show i < 100 by omega) (by decide)
    · have := w3.but haD But.at (H' := upd H3 D (.lst (ns.map V.int ++ [V.int x])))
      rw [show n + 1 + ((i + 1 : Nat) : Int) = n + 1 + (i : Int) + 1 by omega]
      exact this
    · rcases List.mem_append.mp hy with hy | hy
      · exact hb y hy
      · obtain rfl := List.mem_singleton.mp hy
        exact ⟨x0, x1⟩
  · rintro H2 ⟨b2, w2, ns, h2, hl, hb⟩
    refine ⟨D, ns, rfl, SqL.of h2, by omega, fun c k hc hk => ?_⟩
    have s3 := same_new hc (SetO w c (fun j => decide (j ∈ ns)) k)
    refine ⟨c, _, k, rfl, upd_same, by omega, fun ms p hs hmem hlm hp => ?_⟩
    have s4 := same_new hp (.lst (ms.map V.int))
    have bAll := ((b1.trans b2).trans (.same s3)).trans (.same s4)
    have hpn : H p = none := none_of_but ((b1.trans b2).trans (.same s3)) (Ne.symm ((w2.same s3).ne hp)) hp
    refine q p ms _ bAll hpn upd_same (((w2.same s3).same s4).up (by omega)) ?_ (by omega) hs (fun x hx => hb x (of_decide_eq_true ((hmem x).mp hx)))
    rcases ms with _ | ⟨x, ms⟩
    · have : ns ≠ [] := by
        intro e
        rw [e] at hl
        simp at hl
        omega
      obtain ⟨y, hy⟩ := List.exists_mem_of_ne_nil _ this
      have := (hmem y).mpr (decide_eq_true hy)
      cases this
    · exact Nat.succ_le_succ (Nat.zero_le _)
end
end TA

set_option Elab.async false
set_option maxRecDepth 100000
set_option maxHeartbeats 4000000
namespace TA
open PySem L2 PyProof.Rows
set_option linter.unusedVariables false
theorem TpAt.but {H H' : Hp} {d : Addr} {zs : List V} (e : H d = some (.lst zs)) (s : But d H H') {v : V} {p : Int × Int} (h : TpAt H v p) : TpAt H' v p := by
  obtain ⟨t, rfl, h⟩ := h
  exact ⟨t, rfl, s _ _ (ne_of h e (fun z => by cases z)) h⟩
theorem WellAt.lst {H : Hp} {a : Addr} {n : Int} (w : WellAt H a n) : ∃ zs, H a = some (.lst zs) := by
  obtain ⟨x, y, z, h0, _⟩ := w
  exact ⟨_, h0⟩
theorem Dr.lst {H : Hp} {a : Addr} {n : Int} (w : Dr H a n) : ∃ zs, H a = some (.lst zs) := by
  rcases w with ⟨x, h⟩ | w
  · exact ⟨_, h⟩
  · exact w.lst
/-- pairs below g, so many at most, sorted -/
def okL (g : Int) (l : List (Int × Int)) : Prop := 1 ≤ l.length ∧ l.length ≤ 40 ∧ l.Pairwise ltP ∧ ∀ p ∈ l, (0 ≤ p.1 ∧ p.1 < g) ∧ (0 ≤ p.2 ∧ p.2 < g)
def spOuts2 : Sp := fun vs H Q _ => ∃ (a : Addr) (n g : Int), vs = [.ref a, .int g] ∧ Dr H a n ∧ 0 ≤ n ∧ n < 999900 ∧ 2 ≤ g ∧ g ≤ 8 ∧
  ∀ (p : Addr) (xs : List V) (l : List (Int × Int)) (H' : Hp), But a H H' → H p = none → H' p = some (.lst xs) → A2 (TpAt H') xs l → WellAt H' a (n + 15) → okL g l → Q (.ref p) H'
theorem tp_ks {H : Hp} : ∀ {xs : List V} {l : List (Int × Int)}, A2 (TpAt H) xs l → ∃ ks : List (Addr × List Int), xs = ks.map (fun p => V.ref p.1) ∧ ks.map (·.2) = l.map (fun p => [p.1, p.2]) ∧ ∀ p ∈ ks, H p.1 = some (.tup (p.2.map V.int))
  | _, _, .nil => ⟨[], rfl, rfl, fun p hp => by cases hp⟩
  | _, _, .cons (y := y) ⟨t, ex, h⟩ r => by
    obtain ⟨ks, e1, e2, e3⟩ := tp_ks r
    refine ⟨(t, [y.1, y.2]) :: ks, by rw [List.map_cons, ex, e1], by rw [List.map_cons, List.map_cons, e2], fun p hp => ?_⟩
    rcases List.mem_cons.mp hp with rfl | hp
    · exact h
    · exact e3 p hp
theorem A2.app {α β : Type} {R : α → β → Prop} : ∀ {xs xs' : List α} {ys ys' : List β}, A2 R xs ys → A2 R xs' ys' → A2 R (xs ++ xs') (ys ++ ys')
  | _, _, _, _, .nil, h => h
  | _, _, _, _, .cons a b, h => .cons a (b.app h)
theorem nodup_le {α : Type} [DecidableEq α] : ∀ {xs ys : List α}, xs.Nodup → (∀ x ∈ xs, x ∈ ys) → xs.length ≤ ys.length
  | [], _, _, _ => Nat.zero_le _
  | x :: xs, ys, h, s => by
    have hx := s x List.mem_cons_self
    obtain ⟨h1, h2⟩ := List.nodup_cons.mp h
    have r := nodup_le (xs := xs) (ys := ys.erase x) h2 fun y hy => by
      have ne : y ≠ x := fun e => h1 (e ▸ hy)
      exact (List.mem_erase_of_ne ne).mpr (s y (List.mem_cons_of_mem _ hy))
    rw [List.length_erase_of_mem hx] at r
    have : 0 < ys.length := List.length_pos_of_mem hx
    rw [List.length_cons]
    omega
def toP (q : Addr × List Int) : Int × Int := (q.2.getD 0 0, q.2.getD 1 0)
section
variable {P : Program} {w : World} {K : PySem.W.Frag} {mg : Str → Option Value} {base : Heap}
abbrev nOuts : List Str := ["_law_state", "_law_great", "_law_way", "_law_close", "_law_x", "_law_y", "_law_k"]
theorem sc_outs : FnScope nOuts ["_law_state", "_law_great"] (defScope s__law_outs) := ⟨rfl, rfl, rfl, by decide +kernel, rfl, by decide +kernel, by decide +kernel⟩
theorem ok_outs2 {f g1 : Addr} {fd d1 : FuncData} (F : Fun K "_law_outs" "_law_outs" s__law_outs f fd) (T : Txt K mg) (T2 : Txt2 K mg) (Dg : Def P w K mg base "_law_digit" ["_law_state", "_law_base"] 1 spDigit g1 d1) : FnOk P w K mg base CX0 2 f fd ["_law_state", "_law_great"] spOuts2 := by
  refine F.ok sc_outs (fun vs H Q E h => ?_) (fun cdv A outer s H vs Q E hr h => ?_)
  · obtain ⟨a, n, g, rfl, _⟩ := h
    rfl
  obtain ⟨a, n, g, rfl, hD, hn0, hn, hg0, hg, q⟩ := h
  have nd := sc_outs.nd
  have hu64 : (A.deeper (envOfC "_law_outs" (defScope s__law_outs) s.heap.objs.size f cdv)).units + 64 < cLine := by have := hr.un; omega
  refine ⟨_, (pss_cons (ps_set (i := 2) nd rfl (Or.inl rfl) (pe_call Dg.G (hr.mono (by decide)) rfl Dg.m Dg.k Dg.b .nil pass0 (pa_cons (pv 0) (pa_cons pe_int pa_nil))))
    (pss_cons (ps_if (pt_cmpR op_eq (pv 2) pe_int (nomark _))
      (pss_cons (ps_set (i := 3) nd rfl (Or.inl rfl) (pe_lst pa_nil))
    (pss_cons (ps_for PassesOwn.never (by rfl) (pi_range1 (by rfl) T.range (pa_cons (pv 1) pa_nil)) (pg_name (i := 4) nd rfl (Or.inr rfl))
      (pss_one (ps_set (i := 3) nd rfl (Or.inl rfl) (pe_op op_cat (pv 3) (pe_lc (own := [("_law_y", 5)]) (g := (gName 5)) (tt := tYes) (te := (tTup (tCons (tVar 4) (tCons (tVar 5) tNil)))) rfl nd (pi_range2 (by rfl) T.range (pa_cons (pe_callB (call_max2 rfl) (by rfl) T2.max (by decide +kernel) (pa_cons pe_int (pa_cons (pe_op op_sub (pv 4) pe_int) pa_nil))) (pa_cons (pe_callB (call_min2 rfl) (by rfl) T.min (by decide +kernel) (pa_cons (pv 1) (pa_cons (pe_op op_add (pv 4) pe_int) pa_nil))) pa_nil))) (blkOk_by (N := nOuts) (sc := defScope s__law_outs) (by decide +kernel)) (fun _ _ _ _ _ => (by exact (pg_name (i := 5) nd rfl (Or.inl rfl)))) (fun _ _ _ _ _ => pts_nil) (fun _ _ _ _ _ => (by exact (pe_tup (pa_cons (pv 4) (pa_cons (pv 5) pa_nil))))))))))
    (pss_one (ps_ret (pv 3)))))
      pss_nil)
    (pss_cons (ps_if (pt_cmpR op_eq (pv 2) pe_int (nomark _))
      (pss_one (ps_ret (pe_lc (own := [("_law_x", 4)]) (g := (gName 4)) (tt := tYes) (te := (tTup (tCons (tVar 4) (tCons (tVar 4) tNil)))) rfl nd (pi_range1 (by rfl) T.range (pa_cons (pv 1) pa_nil)) (blkOk_by (N := nOuts) (sc := defScope s__law_outs) (by decide +kernel)) (fun _ _ _ _ _ => (by exact (pg_name (i := 4) nd rfl (Or.inl rfl)))) (fun _ _ _ _ _ => pts_nil) (fun _ _ _ _ _ => (by exact (pe_tup (pa_cons (pv 4) (pa_cons (pv 4) pa_nil))))))))
      pss_nil)
    (pss_one (ps_ret (pe_callB (cr_sortedT rfl) (by rfl) T2.sorted (by decide +kernel) (pa_cons (pe_callTy (cr_setOfT rfl hu64) (by rfl) T2.set (by decide +kernel) (pa_cons (pe_lc (own := [("_law_k", 6)]) (g := (gName 6)) (tt := tYes) (te := (tTup (tCons (tCall spDigit [] E0 (tCons (tVar 0) (tCons (tVar 1) tNil))) (tCons (tCall spDigit [] E0 (tCons (tVar 0) (tCons (tVar 1) tNil))) tNil)))) rfl nd (pi_range1 (by rfl) T.range (pa_cons (pe_op op_add pe_int (pe_call Dg.G (hr.mono (by decide)) rfl Dg.m Dg.k Dg.b .nil pass0 (pa_cons (pv 0) (pa_cons pe_int pa_nil)))) pa_nil)) (blkOk_by (N := nOuts) (sc := defScope s__law_outs) (by decide +kernel)) (fun _ _ _ _ _ => (by exact (pg_name (i := 6) nd rfl (Or.inl rfl)))) (fun _ _ _ _ _ => pts_nil) (fun _ _ _ _ _ => (by exact (pe_tup (pa_cons (pe_call Dg.G (hr.mono (by decide)) rfl Dg.m Dg.k Dg.b .nil pass0 (pa_cons (pv 0) (pa_cons (pv 1) pa_nil))) (pa_cons (pe_call Dg.G (hr.mono (by decide)) rfl Dg.m Dg.k Dg.b .nil pass0 (pa_cons (pv 0) (pa_cons (pv 1) pa_nil))) pa_nil)))))) pa_nil)) pa_nil))))))), ?_⟩
  refine ⟨_, rfl, a, n, 4, rfl, hD, hn0, by omega, by decide, by decide, fun r H1 r0 r1 b1 w1 => ?_⟩
  refine ⟨_, rfl, rfl, _, rfl, ?_⟩
  refine ite2 (fun c => ?_) (fun c => ?_)
  · clear c
    refine ⟨(by show 0 ≤ sizeLine; decide), fun c0 hc0 => ?_⟩
    have s1 := same_new hc0 (.lst [])
    have hc0n : H c0 = none := none_of_but b1 (Ne.symm (w1.ne hc0)) hc0
    refine ⟨_, rfl, g, rfl, by omega, by omega, for_range (n := g.toNat) (fun i σ H' => ∃ g4 g5 g6 cl xs l, σ = [some (.ref a), some (.int g), some (.int r), some (.ref cl), g4, g5, g6] ∧ Same H1 H' ∧ H1 cl = none ∧ H' cl = some (.lst xs) ∧ A2 (TpAt H') xs l ∧ i ≤ l.length ∧ l.length ≤ 3 * i ∧ l.Pairwise ltP ∧ (∀ p ∈ l, p.1 < (i : Int)) ∧ ∀ p ∈ l, (0 ≤ p.1 ∧ p.1 < g) ∧ (0 ≤ p.2 ∧ p.2 < g)) ⟨_, _, _, c0, [], [], rfl, s1, hc0, upd_same, .nil, Nat.le_refl _, Nat.le_refl _, .nil, (fun p hp => nomatch hp), (fun p hp => nomatch hp)⟩ ?_ ?_⟩
    · rintro i σ H' hi ⟨g4, g5, g6, cl, xs, l, rfl, sH, hcn, hcl, hx, hl1, hl2, hpw, hlt, hbd⟩
      have ej : (0 : Int) + (i : Int) = (i : Int) := by omega
      rw [ej]
      refine ⟨_, rfl, _, rfl, _, _, rfl, rfl, _, _, rfl, _, rfl, _, rfl, _, _, rfl, rfl, _, _, rfl, ?_⟩
      have ehi : ∃ hi' : Int, (if (i : Int) + 2 < g then (i : Int) + 2 else g) = hi' ∧ (i : Int) < hi' ∧ hi' ≤ (i : Int) + 2 ∧ hi' ≤ g := ⟨_, rfl, by split <;> omega, by split <;> omega, by split <;> omega⟩
      have elo : ∃ lo : Int, (if (i : Int) - 1 > 0 then (i : Int) - 1 else 0) = lo ∧ 0 ≤ lo ∧ lo ≤ (i : Int) ∧ (i : Int) - 1 ≤ lo := ⟨_, rfl, by split <;> omega, by split <;> omega, by split <;> omega⟩
      obtain ⟨hi', eh, h1, h2, h3⟩ := ehi
      obtain ⟨lo, el, l1, l2, l3⟩ := elo
      refine ⟨lo, hi', by rw [eh, el], ⟨by omega, by omega, by omega, by omega⟩, fun D hD => ?_⟩
      have sD := same_new hD (.lst [])
      have hclD : cl ≠ D := ne_of_none hcl hD
      refine range_turns (lo := lo) (n := (hi' - lo).toNat) (fun k H2 => Same H' H2 ∧ ∃ ys, H2 D = some (.lst ys) ∧ A2 (TpAt H2) ys ((List.range k).map fun (j : Nat) => ((i : Int), lo + (j : Int)))) ⟨sD, [], upd_same, .nil⟩ ?_ ?_
      · rintro k H2 hk ⟨s2, ys, hy, ay⟩
        refine ⟨rfl, _, rfl, _, rfl, (by show 2 ≤ sizeLine; decide), fun t ht => ?_⟩
        have s3 := same_new ht (.tup [V.int (i : Int), V.int (lo + (k : Int))])
        have hk3 : ys.length ≤ 3 := by rw [ay.len, List.length_map, List.length_range]; omega
        refine ⟨ys, s3 _ _ hy, Nat.lt_of_le_of_lt hk3 (by decide), same_upd (s2.trans s3) hD, _, upd_same, ?_⟩
        have e : (List.range (k + 1)).map (fun j : Nat => ((i : Int), lo + (j : Int))) = (List.range k).map (fun j : Nat => ((i : Int), lo + (j : Int))) ++ [((i : Int), lo + (k : Int))] := by
          rw [List.range_succ, List.map_append]; rfl
        rw [e]
        exact A2.snoc (ay.imp fun _ _ r => (r.mono (.same s3)).but (s3 _ _ hy) But.at) (TpAt.but (s3 _ _ hy) But.at ⟨t, rfl, upd_same⟩)
      · rintro H2 ⟨s2, ys, hy, ay⟩
        have hyl : ys.length = (hi' - lo).toNat := by rw [ay.len, List.length_map, List.length_range]
        have hxl := hx.len
        have hg2 : i < 8 := by omega
        refine ⟨cl, D, _, _, rfl, rfl, s2 _ _ hcl, hy, ?_, fun p hp => ?_⟩
        · exact Nat.le_trans (show xs.length + ys.length ≤ 100 by omega) (by decide)
        have s3 := same_new hp (.lst (xs ++ ys))
        have sAll := s2.trans s3
        refine ⟨_, _, _, p, xs ++ ys, l ++ (List.range (hi' - lo).toNat).map (fun j : Nat => ((i : Int), lo + (j : Int))), rfl, sH.trans sAll, none_of_same (sH.trans s2) hp, upd_same, ?_, ?_, ?_, ?_, ?_, ?_⟩
        · have a1 := hx.imp fun _ _ r => r.mono (.same sAll)
          have a2 := ay.imp fun _ _ r => r.mono (.same s3)
          exact A2.app a1 a2
        · rw [List.length_append, List.length_map, List.length_range]; omega
        · rw [List.length_append, List.length_map, List.length_range]; omega
        · refine List.pairwise_append.mpr ⟨hpw, ?_, fun p hp q hq => ?_⟩
          · rw [List.pairwise_map]
            exact List.Pairwise.imp (fun {a b} (h : a < b) => .inr ⟨rfl, by show lo + (a : Int) < lo + (b : Int); omega⟩) List.pairwise_lt_range
          · obtain ⟨j, _, rfl⟩ := List.mem_map.mp hq
            exact .inl (hlt p hp)
        · intro p hp
          rcases List.mem_append.mp hp with h | h
          · have := hlt p h; omega
          · obtain ⟨j, _, rfl⟩ := List.mem_map.mp h
            show (i : Int) < ((i + 1 : Nat) : Int)
            omega
        · intro p hp
          rcases List.mem_append.mp hp with h | h
          · exact hbd p h
          · obtain ⟨j, hj, rfl⟩ := List.mem_map.mp h
            have hj := List.mem_range.mp hj
            show (0 ≤ (i : Int) ∧ (i : Int) < g) ∧ (0 ≤ lo + (j : Int) ∧ lo + (j : Int) < g)
            omega
    · rintro σ H' ⟨g4, g5, g6, cl, xs, l, rfl, sH, hcn, hcl, hx, hl1, hl2, hpw, hlt, hbd⟩
      refine ⟨_, rfl, q cl xs l H' (b1.trans (.same sH)) (none_of_but b1 (Ne.symm (w1.ne hcn)) hcn) hcl hx ((w1.same sH).up (by omega)) ⟨by omega, by omega, hpw, hbd⟩⟩
  refine ⟨_, rfl, rfl, _, rfl, ?_⟩
  refine ite2 (fun c2 => ?_) (fun c2 => ?_)
  · clear c2
    refine ⟨_, rfl, g, rfl, by omega, by omega, fun D hD => ?_⟩
    have sD := same_new hD (.lst [])
    refine range_turns (n := g.toNat) (fun k H2 => Same H1 H2 ∧ ∃ ys, H2 D = some (.lst ys) ∧ A2 (TpAt H2) ys ((List.range k).map fun (j : Nat) => ((j : Int), (j : Int)))) ⟨sD, [], upd_same, .nil⟩ ?_ ?_
    · rintro k H2 hk ⟨s2, ys, hy, ay⟩
      have ej : (0 : Int) + (k : Int) = (k : Int) := by omega
      rw [ej]
      refine ⟨rfl, _, rfl, _, rfl, (by show 2 ≤ sizeLine; decide), fun t ht => ?_⟩
      have s3 := same_new ht (.tup [V.int (k : Int), V.int (k : Int)])
      have hk3 : ys.length ≤ 8 := by rw [ay.len, List.length_map, List.length_range]; omega
      refine ⟨ys, s3 _ _ hy, Nat.lt_of_le_of_lt hk3 (by decide), same_upd (s2.trans s3) hD, _, upd_same, ?_⟩
      have e : (List.range (k + 1)).map (fun j : Nat => ((j : Int), (j : Int))) = (List.range k).map (fun j : Nat => ((j : Int), (j : Int))) ++ [((k : Int), (k : Int))] := by
        rw [List.range_succ, List.map_append]; rfl
      rw [e]
      exact A2.snoc (ay.imp fun _ _ r => (r.mono (.same s3)).but (s3 _ _ hy) But.at) (TpAt.but (s3 _ _ hy) But.at ⟨t, rfl, upd_same⟩)
    · rintro H2 ⟨s2, ys, hy, ay⟩
      refine q D ys _ H2 (b1.trans (.same s2)) (none_of_but b1 (Ne.symm (w1.ne hD)) hD) hy ay ((w1.same s2).up (by omega)) ⟨?_, ?_, ?_, fun p hp => ?_⟩
      · rw [List.length_map, List.length_range]; omega
      · rw [List.length_map, List.length_range]; omega
      · rw [List.pairwise_map]
        exact List.Pairwise.imp (fun {a b} (h : a < b) => .inl (by show (a : Int) < (b : Int); omega)) List.pairwise_lt_range
      · obtain ⟨j, hj, rfl⟩ := List.mem_map.mp hp
        have hj := List.mem_range.mp hj
        show (0 ≤ (j : Int) ∧ (j : Int) < g) ∧ (0 ≤ (j : Int) ∧ (j : Int) < g)
        omega
  · refine ⟨_, rfl, a, n + 1, 6, rfl, .inr w1, by omega, by omega, by decide, by decide, fun r2 H2 r20 r21 b2 w2 => ?_⟩
    refine ⟨_, _, rfl, rfl, 1 + r2, rfl, by omega, by omega, fun D hD => ?_⟩
    have haD : a ≠ D := w2.ne hD
    have s1 := same_new hD (.lst [])
    refine range_turns (n := (1 + r2).toNat) (fun i H' => But a H2 H' ∧ WellAt H' a (n + 2 + 2 * (i : Int)) ∧ ∃ xs l, H' D = some (.lst xs) ∧ A2 (TpAt H') xs l ∧ l.length = i ∧ ∀ p ∈ l, (0 ≤ p.1 ∧ p.1 < g) ∧ (0 ≤ p.2 ∧ p.2 < g)) ⟨.same s1, ?_, [], [], upd_same, .nil, rfl, fun x hx => by cases hx⟩ ?_ ?_
    · have := w2.same s1
      rw [show n + 2 + 2 * ((0 : Nat) : Int) = n + 1 + 1 by omega]
      exact this
    · rintro i H' hi ⟨b3, w3, xs, l, h2, ax, hl, hb⟩
      refine ⟨rfl, _, rfl, _, rfl, a, n + 2 + 2 * (i : Int), g, rfl, .inr w3, by omega, by omega, by omega, by omega, fun x H3 x0 x1 b4 w4 => ?_⟩
      refine ⟨_, rfl, _, rfl, a, n + 2 + 2 * (i : Int) + 1, g, rfl, .inr w4, by omega, by omega, by omega, by omega, fun y H4 y0 y1 b5 w5 => ?_⟩
      refine ⟨(by show 2 ≤ sizeLine; decide), fun t ht => ?_⟩
      have s6 := same_new ht (.tup [V.int x, V.int y])
      have h4 : H4 D = some (.lst xs) := b5 _ _ (Ne.symm haD) (b4 _ _ (Ne.symm haD) h2)
      obtain ⟨z3, e3⟩ := w3.lst
      obtain ⟨z4, e4⟩ := w4.lst
      refine ⟨xs, s6 _ _ h4, ?_, (((b3.trans b4).trans b5).trans (.same s6)).new hD, ?_, _, l ++ [(x, y)], upd_same, ?_, by rw [List.length_append, hl]; rfl, fun p hp => ?_⟩
      · rw [ax.len, hl]
        exact Nat.lt_of_lt_of_le (show i < 100 by omega) (by decide)
      · rw [show n + 2 + 2 * ((i + 1 : Nat) : Int) = n + 2 + 2 * (i : Int) + 1 + 1 by omega]
        exact (w5.same s6).but haD But.at
      · exact A2.snoc (ax.imp fun _ _ r => ((((r.but e3 b4).but e4 b5).mono (.same s6)).but (s6 _ _ h4) But.at)) (TpAt.but (s6 _ _ h4) But.at ⟨t, rfl, upd_same⟩)
      · rcases List.mem_append.mp hp with h | h
        · exact hb p h
        · obtain rfl := List.mem_singleton.mp h
          exact ⟨⟨x0, x1⟩, ⟨y0, y1⟩⟩
    · rintro H3 ⟨b3, w3, xs, l, h2, ax, hl, hb⟩
      obtain ⟨ks, rfl, ek, hk⟩ := tp_ks ax
      have hkl : ks.length = l.length := by
        have := congrArg List.length ek
        rwa [List.length_map, List.length_map] at this
      have hks : ∀ p ∈ ks, ∃ x y, p.2 = [x, y] ∧ (0 ≤ x ∧ x < g) ∧ (0 ≤ y ∧ y < g) := fun p hp => by
        have : p.2 ∈ ks.map (·.2) := List.mem_map.mpr ⟨p, hp, rfl⟩
        rw [ek] at this
        obtain ⟨z, hz, e⟩ := List.mem_map.mp this
        exact ⟨z.1, z.2, e.symm, hb z hz⟩
      refine ⟨D, ks, rfl, SqL.of h2, fun p hp => SqT.of (hk p hp), by omega, fun c L hc hL1 hL2 => ?_⟩
      have s4 := same_new hc (SetTO P w c L)
      refine ⟨c, L, 2, 64, rfl, upd_same, fun p hp => SqT.of (s4 _ _ (hk p (hL1 p hp))), by decide, fun p hp => ?_, fun L' p hperm hnd hlen hpw hp => ?_⟩
      · obtain ⟨x, y, e, h1, h2⟩ := hks p (hL1 p hp)
        rw [e]
        refine ⟨rfl, fun m hm => ?_⟩
        rcases List.mem_cons.mp hm with rfl | hm
        · omega
        · obtain rfl := List.mem_singleton.mp hm
          omega
      have s5 := same_new hp (.lst (L'.map fun q => V.ref q.1))
      have hin : ∀ z ∈ L', z ∈ ks := fun z hz => hL1 z (hperm.mem_iff.mp hz)
      have bAll : But a H2 (upd (upd H3 c (SetTO P w c L)) p (.lst (L'.map fun q => V.ref q.1))) := (b3.trans (.same s4)).trans (.same s5)
      have pn2 : H2 p = none := none_of_but (b3.trans (.same s4)) (Ne.symm ((w3.same s4).ne hp)) hp
      have pn1 : H1 p = none := none_of_but b2 (Ne.symm ((w3.same s4).ne hp)) pn2
      have a2 : A2 (TpAt (upd (upd H3 c (SetTO P w c L)) p (.lst (L'.map fun q => V.ref q.1)))) (L'.map fun q => V.ref q.1) (L'.map toP) := A2.ofMap _ _ L' fun z hz => by
        obtain ⟨x, y, e, _, _⟩ := hks z (hin z hz)
        refine ⟨z.1, rfl, ?_⟩
        have := s5 _ _ (s4 _ _ (hk z (hin z hz)))
        rw [e] at this
        unfold toP
        rw [e]
        exact this
      refine q p _ _ _ ((b1.trans b2).trans bAll) (none_of_but b1 (Ne.symm ((w3.same s4).ne hp)) pn1) upd_same a2 (((w3.same s4).same s5).up (by omega)) ⟨?_, ?_, ?_, fun z hz => ?_⟩
      · rw [List.length_map]
        have hne : ks ≠ [] := by
          intro e
          rw [e] at hkl
          simp at hkl
          omega
        obtain ⟨z, hz⟩ := List.exists_mem_of_ne_nil _ hne
        obtain ⟨y, hy, _⟩ := List.mem_map.mp (hL2 z hz)
        exact List.length_pos_of_mem (hperm.mem_iff.mpr hy)
      · rw [List.length_map]
        have e1 : L'.length ≤ ks.length := by
          have := hperm.length_eq
          have h3 : (L'.map (·.2)).length ≤ (ks.map (·.2)).length := nodup_le hnd fun x hx => by
            obtain ⟨z, hz, rfl⟩ := List.mem_map.mp hx
            exact List.mem_map.mpr ⟨z, hin z hz, rfl⟩
          rwa [List.length_map, List.length_map] at h3
        omega
      · rw [List.pairwise_map]
        have hnd' : L'.Pairwise fun q r => q.2 ≠ r.2 := List.pairwise_map.mp hnd
        refine (hpw.and hnd').imp_of_mem fun {x y} hx hy h => ?_
        obtain ⟨x1, x2, ex, bx1, bx2⟩ := hks x (hin x hx)
        obtain ⟨y1, y2, ey, by1, by2⟩ := hks y (hin y hy)
        rw [ex, ey] at h
        have := L2.pair_lt h.1 h.2 ⟨bx1.1, by omega⟩ ⟨bx2.1, by omega⟩ ⟨by1.1, by omega⟩ ⟨by2.1, by omega⟩
        unfold toP
        rw [ex, ey]
        exact this
      · obtain ⟨y, hy, rfl⟩ := List.mem_map.mp hz
        obtain ⟨x1, x2, ex, bx1, bx2⟩ := hks y (hin y hy)
        unfold toP
        rw [ex]
        exact ⟨bx1, bx2⟩
end
end TA

set_option Elab.async false
set_option maxRecDepth 100000
set_option maxHeartbeats 4000000
namespace TA
open PySem L2 PyProof.Rows
set_option linter.unusedVariables false
/-- a heap seen at some places alone -/
def vw (p : Addr → Bool) (H : Hp) : Hp := fun b => if p b = true then H b else none
theorem vw_some {p : Addr → Bool} {H : Hp} {b : Addr} {o : HO} (h : vw p H b = some o) : p b = true ∧ H b = some o := by
  unfold vw at h
  split at h
  · rename_i c; exact ⟨c, h⟩
  · cases h
theorem vw_put {p : Addr → Bool} {H : Hp} {b : Addr} {o : HO} (c : p b = true) (h : H b = some o) : vw p H b = some o := by
  unfold vw
  rw [if_pos c, h]
theorem vw_kp {p : Addr → Bool} {H : Hp} : Kp (vw p H) H := fun b o _ h => (vw_some h).2
theorem vw_mono {p q : Addr → Bool} {H H' : Hp} (s : ∀ b o, p b = true → flatO o → H b = some o → q b = true ∧ H' b = some o) : Kp (vw p H) (vw q H') := fun b o f h => by
  obtain ⟨h1, h2⟩ := vw_some h
  obtain ⟨h3, h4⟩ := s b o h1 f h2
  exact vw_put h3 h4
/-- all but a -/
def pA (a : Addr) : Addr → Bool := fun b => decide (b ≠ a)
theorem pA_ok {a b : Addr} : pA a b = true ↔ b ≠ a := decide_eq_true_iff
theorem vwA_but {a : Addr} {H H' : Hp} (s : But a H H') : Kp (vw (pA a) H) (vw (pA a) H') := vw_mono fun b o h _ e => ⟨h, s b o (pA_ok.mp h) e⟩
theorem vwA_put {a d : Addr} {H : Hp} {k : List (List Key × V)} {o : HO} (e : H d = some (.dT k)) : Kp (vw (pA a) H) (vw (pA a) (upd H d o)) := vw_mono fun b u h f g => ⟨h, Kp.put e nf_dT b u f g⟩
theorem orB {b : Bool} {H : Hp} {B : Hp → Prop} {R : Prop} (Iv : Hp → Prop) (h0 : b = true → Iv H) (k : ∀ Hc, Iv Hc → B Hc) (r : b = false → (∀ Hc, Iv Hc → B Hc) → R) : if b = true then B H else R := by
  cases b with
  | true => exact iteT (k H (h0 rfl))
  | false => exact iteF (r rfl k)
theorem nat_mod {x n : Nat} : ((x : Int) % (n : Int)) = ((x % n : Nat) : Int) := by omega
theorem mod_dec {x n y : Nat} : decide (V.int ((x : Int) % (n : Int)) = V.int (y : Int)) = decide (x % n = y) := by rw [nat_mod, dec_nat]
/-- the law's dict under way, up to the pair (i, j) -/
def PIn (H0 : Hp) (a Lm D1 B : Addr) (n0 n1 : Nat) (n : Int) (al : Nat → List (List Int)) (i j : Nat) (H' : Hp) : Prop := ∃ (bo : BD) (kvs : List (List Key × V)), But a H0 H' ∧ H' Lm = some (.lst [V.int (n0 : Int), V.int (n1 : Int)]) ∧ WellAt H' a (n + 60 + 70 * (i : Int) + 17 * (j : Int)) ∧
  AlAt (vw (pA a) H') (.ref D1) al ∧ H' B = some (.dT kvs) ∧ A2 (EnAt (vw (pA a) H')) kvs bo ∧ (bo.map (·.1)).Pairwise ltN ∧ (∀ e ∈ bo, (e.1.1 < i ∨ (e.1.1 = i ∧ e.1.2 < j)) ∧ e.1.1 < n0 ∧ e.1.2 < n1 ∧ okLet e.2) ∧ (∀ x y, (x < i ∧ y < n1) ∨ (x = i ∧ y < j) → (x % n1 = y ∨ y % n0 = x) → ∃ e ∈ bo, e.1 = (x, y)) ∧ bo.length ≤ 4 * i + j
def spParts : Sp := fun vs H Q _ => ∃ (a : Addr) (n m : Int), vs = [.ref a, .int m] ∧ Dr H a n ∧ 0 ≤ n ∧ n < 900000 ∧ 0 < m ∧ m ≤ 4 ∧
  ∀ (r al d : Addr) (T : TD) (H' : Hp), But a H H' → H r = none → H al = none → H d = none → H' r = some (.tup [.ref al, .ref d]) → AlAt (vw (pA a) H') (.ref al) T.al → (∃ kvs, H' d = some (.dT kvs) ∧ A2 (EnAt (vw (pA a) H')) kvs T.bo) → WellAt H' a (n + 500) → WF T →
    (∀ h, h < 2 → ((T.al h).length : Int) ≤ m) → (∀ h, h < 2 → ∀ r ∈ T.al h, ∀ x ∈ r, x < 6) → Q (.ref r) H'
theorem okL_let {g : Int} {l : List (Int × Int)} (h : okL g l) (hg : g ≤ 8) : okLet l := ⟨h.1, by have := h.2.1; omega, h.2.2.1, fun p hp => by
  obtain ⟨⟨a, b⟩, c, d⟩ := h.2.2.2 p hp
  exact ⟨⟨a, by omega⟩, ⟨c, by omega⟩⟩⟩
theorem two_list {rs : List (List (List Int))} (h : rs.length = 2) : rs = [rs.getD 0 [], rs.getD 1 []] := by
  match rs, h with
  | [x, y], _ => rfl
section
variable {P : Program} {w : World} {K : PySem.W.Frag} {mg : Str → Option Value} {base : Heap}
abbrev nParts : List Str := ["_law_state", "_law_most", "_law_many", "_law_great", "_law_a", "_law_alone", "_law_both", "_law_b", "_law_hand"]
theorem sc_parts : FnScope nParts ["_law_state", "_law_most"] (defScope s__law_parts) := ⟨rfl, rfl, rfl, by decide +kernel, rfl, by decide +kernel, by decide +kernel⟩
theorem ok_parts {f g1 g2 g3 : Addr} {fd d1 d2 d3 : FuncData} (F : Fun K "_law_parts" "_law_parts" s__law_parts f fd) (T : Txt K mg) (T2 : Txt2 K mg) (Dg : Def P w K mg base "_law_digit" ["_law_state", "_law_base"] 1 spDigit g1 d1)
    (Few : Def P w K mg base "_law_few" ["_law_state", "_law_great", "_law_most"] 2 spFew g2 d2) (Outs : Def P w K mg base "_law_outs" ["_law_state", "_law_great"] 2 spOuts2 g3 d3) : FnOk P w K mg base CX0 3 f fd ["_law_state", "_law_most"] spParts := by
  refine F.ok sc_parts (fun vs H Q E h => ?_) (fun cdv A outer s H vs Q E hr h => ?_)
  · obtain ⟨a, n, m, rfl, _⟩ := h
    rfl
  obtain ⟨a, n, m, rfl, hD, hn0, hn, hm0, hm, q⟩ := h
  have nd := sc_parts.nd
  have hu := hu_of hr
  refine ⟨_, (pss_cons (ps_set (i := 2) nd rfl (Or.inr rfl) (pe_lst (pa_cons (pe_op op_add pe_int (pe_call Dg.G (hr.mono (by decide)) rfl Dg.m Dg.k Dg.b .nil pass0 (pa_cons (pv 0) (pa_cons (pv 1) pa_nil)))) (pa_cons (pe_op op_add pe_int (pe_call Dg.G (hr.mono (by decide)) rfl Dg.m Dg.k Dg.b .nil pass0 (pa_cons (pv 0) (pa_cons (pv 1) pa_nil)))) pa_nil))))
    (pss_cons (ps_set (i := 3) nd rfl (Or.inr rfl) (pe_op op_add pe_int (pe_call Dg.G (hr.mono (by decide)) rfl Dg.m Dg.k Dg.b .nil pass0 (pa_cons (pv 0) (pa_cons pe_int pa_nil)))))
    (pss_cons (ps_setLc (i := 5) (own := [("_law_hand", 8)]) (g := (gName 8)) (tt := tYes) (te := (tLc (iRng1 (tCons (tOp (rIxL K) (tVar 2) (tVar 8)) tNil)) (gName 4) tYes (tCall (spFew) [] E0 (tCons (tVar 0) (tCons (tVar 3) (tCons (tC (.int 3)) tNil)))) [4])) rfl nd rfl rfl (sw_true rfl rfl rfl (by decide +kernel)) (pi_range1 (by rfl) T.range (pa_cons pe_int pa_nil)) (blkOk_by (N := nParts) (sc := defScope s__law_parts) (by decide +kernel)) (fun _ _ _ _ _ => (by exact (pg_name (i := 8) nd rfl (Or.inl rfl)))) (fun _ _ _ _ _ => pts_nil) (fun _ _ _ _ _ => (by exact (pe_lc (own := [("_law_a", 4)]) (g := (gName 4)) (tt := tYes) (te := (tCall (spFew) [] E0 (tCons (tVar 0) (tCons (tVar 3) (tCons (tC (.int 3)) tNil))))) rfl nd (pi_range1 (by rfl) T.range (pa_cons (pe_ix ix_list (pv 2) (pv 8) (fun _ _ => rfl)) pa_nil)) (blkOk_by (N := nParts)  (by kernel_rfl)) (fun _ _ _ _ _ => (by exact (pg_name (i := 4) nd rfl (Or.inl rfl)))) (fun _ _ _ _ _ => pts_nil) (fun _ _ _ _ _ => (by exact (pe_call Few.G (hr.mono (by decide)) rfl Few.m Few.k Few.b .nil pass0 (pa_cons (pv 0) (pa_cons (pv 3) (pa_cons pe_int pa_nil))))))))))
    (pss_cons (ps_set (i := 6) nd rfl (Or.inl rfl) pe_dnewT)
    (pss_cons (ps_for PassesOwn.never (by rfl) (pi_range1 (by rfl) T.range (pa_cons (pe_ix ix_list (pv 2) pe_int (fun _ _ => rfl)) pa_nil)) (pg_name (i := 4) nd rfl (Or.inl rfl))
      (pss_one (ps_for PassesOwn.never (by rfl) (pi_range1 (by rfl) T.range (pa_cons (pe_ix ix_list (pv 2) pe_int (fun _ _ => rfl)) pa_nil)) (pg_name (i := 7) nd rfl (Or.inl rfl))
      (pss_one (ps_if (PW.pt (pw_or (pt_cmpR op_eq (pe_op op_mod (pv 4) (pe_ix ix_list (pv 2) pe_int (fun _ _ => rfl))) (pv 7) (nomark _)) (pw_or (pt_cmpR op_eq (pe_op op_mod (pv 7) (pe_ix ix_list (pv 2) pe_int (fun _ _ => rfl))) (pv 4) (nomark _)) (pw_or1 (pt_cmpR op_gt (pe_call Dg.G (hr.mono (by decide)) rfl Dg.m Dg.k Dg.b .nil pass0 (pa_cons (pv 0) (pa_cons pe_int pa_nil))) pe_int (nomark _))))))
      (pss_one (ps_dput hu (pv 6) (pe_tup (pa_cons (pv 4) (pa_cons (pv 7) pa_nil))) (pe_call Outs.G (hr.mono (by decide)) rfl Outs.m Outs.k Outs.b .nil pass0 (pa_cons (pv 0) (pa_cons (pv 3) pa_nil))) rfl))
      pss_nil)))))
    (pss_one (ps_ret (pe_tup (pa_cons (pv 5) (pa_cons (pv 6) pa_nil)))))))))), ?_⟩
  refine ⟨_, rfl, _, rfl, a, n, m, rfl, hD, hn0, by omega, hm0, by omega, fun r0 H1 r00 r01 b1 w1 => ?_⟩
  refine ⟨_, _, rfl, rfl, _, rfl, _, rfl, a, n + 1, m, rfl, .inr w1, by omega, by omega, hm0, by omega, fun r1 H2 r10 r11 b2 w2 => ?_⟩
  refine ⟨_, _, rfl, rfl, (by show 2 ≤ sizeLine; decide), fun Lm hLm => ?_⟩
  have s3 := same_new hLm (.lst [V.int (1 + r0), V.int (1 + r1)])
  obtain ⟨n0, hn0'⟩ : ∃ n0 : Nat, 1 + r0 = (n0 : Int) := ⟨(1 + r0).toNat, by omega⟩
  obtain ⟨n1, hn1'⟩ : ∃ n1 : Nat, 1 + r1 = (n1 : Int) := ⟨(1 + r1).toNat, by omega⟩
  show gName 2 (V.ref Lm) _ (upd H2 Lm (HO.lst [V.int (1 + r0), V.int (1 + r1)])) _
  rw [hn0', hn1'] at s3 ⊢
  have q0 : 1 ≤ n0 ∧ (n0 : Int) ≤ m := by omega
  have q1 : 1 ≤ n1 ∧ (n1 : Int) ≤ m := by omega
  refine ⟨_, rfl, a, n + 1 + 1, 4, rfl, .inr (w2.same s3), by omega, by omega, by decide, by decide, fun r2 H4 r20 r21 b4 w4 => ?_⟩
  have hLa : a ≠ Lm := w2.ne hLm
  have hLm4 : H4 Lm = some (.lst [V.int (n0 : Int), V.int (n1 : Int)]) := b4 _ _ (Ne.symm hLa) upd_same
  have hmN : ∀ h, h < 2 → ∃ k : Nat, ([V.int (n0 : Int), V.int (n1 : Int)] : List V)[h]? = some (.int (k : Int)) ∧ k = (if h = 0 then n0 else n1) ∧ 1 ≤ k ∧ (k : Int) ≤ m := fun h hh => by
    obtain rfl | rfl : h = 0 ∨ h = 1 := by omega
    · exact ⟨n0, rfl, rfl, q0.1, q0.2⟩
    · exact ⟨n1, rfl, rfl, q1.1, q1.2⟩
  refine ⟨_, _, rfl, rfl, ?_⟩
  obtain ⟨g, hg, hg2, hg6⟩ : ∃ g : Int, 2 + r2 = g ∧ 2 ≤ g ∧ g ≤ 5 := ⟨_, rfl, by omega, by omega⟩
  show gName 3 (V.int (2 + r2)) _ _ _
  rw [hg]
  have b04 : But a H H4 := ((b1.trans b2).trans (.same s3)).trans b4
  refine ⟨2, rfl, by decide, by decide, fun D1 hD1 => ?_⟩
  have s5 := same_new hD1 (.lst [])
  have haD1 : a ≠ D1 := w4.ne hD1
  have hLD1 : Lm ≠ D1 := ne_of_none hLm4 hD1
  let p1 : Addr → Bool := fun b => decide (b ≠ a ∧ b ≠ D1)
  have p1_ok : ∀ b, p1 b = true ↔ (b ≠ a ∧ b ≠ D1) := fun b => decide_eq_true_iff
  refine range_turns (n := 2) (fun i H' => But a H4 H' ∧ WellAt H' a (n + 3 + 21 * (i : Int)) ∧ ∃ ys rs, H' D1 = some (.lst ys) ∧ A2 (RowsAt (vw p1 H')) ys rs ∧ rs.length = i ∧ ∀ k rr, rs[k]? = some rr → rr.length = (if k = 0 then n0 else n1) ∧ ∀ r ∈ rr, (1 ≤ r.length ∧ r.length ≤ 4 ∧ r.Pairwise (· < ·) ∧ ∀ x ∈ r, 0 ≤ x ∧ x < g)) ⟨.same s5, ?_, [], [], upd_same, .nil, rfl, fun k rr e => by simp at e⟩ ?_ ?_
  · have := w4.same s5
    rw [show n + 3 + 21 * ((0 : Nat) : Int) = n + 1 + 1 + 1 by omega]
    exact this
  · rintro i H' hi ⟨b5, w5, ys, rs, hy, ay, hrl, hrr⟩
    have ej : (0 : Int) + (i : Int) = (i : Int) := by omega
    rw [ej]
    obtain ⟨k, hk1, hk2, hk3, hk4⟩ := hmN i hi
    have hLm' := b5 _ _ (Ne.symm hLa) hLm4
    refine ⟨rfl, _, rfl, _, rfl, Lm, _, _, _, rfl, rfl, SqL.of hLm', atI_nat hk1, (k : Int), rfl, by omega, by omega, fun D2 hD2 => ?_⟩
    have s6 := same_new hD2 (.lst [])
    have haD2 : a ≠ D2 := w5.ne hD2
    have hD12 : D1 ≠ D2 := ne_of_none hy hD2
    let p2 : Addr → Bool := fun b => decide (b ≠ a ∧ b ≠ D1 ∧ b ≠ D2)
    have p2_ok : ∀ b, p2 b = true ↔ (b ≠ a ∧ b ≠ D1 ∧ b ≠ D2) := fun b => decide_eq_true_iff
    refine range_turns (n := k) (fun j H6 => But a H' H6 ∧ WellAt H6 a (n + 3 + 21 * (i : Int) + 5 * (j : Int)) ∧ ∃ us rr, H6 D2 = some (.lst us) ∧ A2 (RowAt (vw p2 H6)) us rr ∧ rr.length = j ∧ ∀ r ∈ rr, (1 ≤ r.length ∧ r.length ≤ 4 ∧ r.Pairwise (· < ·) ∧ ∀ x ∈ r, 0 ≤ x ∧ x < g)) ⟨.same s6, ?_, [], [], upd_same, .nil, rfl, fun r hr => nomatch hr⟩ ?_ ?_
    · have := w5.same s6
      rw [show n + 3 + 21 * (i : Int) + 5 * ((0 : Nat) : Int) = n + 3 + 21 * (i : Int) by omega]
      exact this
    · rintro j H6 hj ⟨b6, w6, us, rr, hu6, au, hul, hub⟩
      refine ⟨rfl, _, rfl, _, rfl, a, _, g, 3, rfl, .inr w6, by omega, by omega, by omega, by omega, by decide, by decide, fun p ns H7 b7 hp7 hp7' w7 l1 l2 l3 l4 => ?_⟩
      have hD27 := b7 _ _ (Ne.symm haD2) hu6
      have np2 : p ≠ D2 := (ne_of_none hu6 hp7).symm
      have np1 : p ≠ D1 := (ne_of_none (b6 _ _ (Ne.symm haD1) hy) hp7).symm
      have npa : p ≠ a := (w6.ne hp7).symm
      refine ⟨us, hD27, ?_, (b6.trans b7).new hD2, ?_, _, rr ++ [ns], upd_same, ?_, by rw [List.length_append, hul]; rfl, fun r hr => ?_⟩
      · rw [au.len, hul]
        exact Nat.lt_of_lt_of_le (show j < 100 by omega) (by decide)
      · rw [show n + 3 + 21 * (i : Int) + 5 * ((j + 1 : Nat) : Int) = n + 3 + 21 * (i : Int) + 5 * (j : Int) + 5 by omega]
        exact w7.but haD2 But.at
      · refine A2.snoc (au.imp fun _ _ r => r.mono (vw_mono fun b o h f e => ⟨h, ?_⟩)) ⟨p, rfl, vw_put ((p2_ok p).mpr ⟨npa, np1, np2⟩) (by rw [upd_ne np2]; exact hp7')⟩
        obtain ⟨z1, z2, z3⟩ := (p2_ok b).mp h
        rw [upd_ne z3]
        exact b7 _ _ z1 e
      · rcases List.mem_append.mp hr with h | h
        · exact hub r h
        · obtain rfl := List.mem_singleton.mp h
          exact ⟨l1, l2, l3, l4⟩
    · rintro H6 ⟨b6, w6, us, rr, hu6, au, hul, hub⟩
      have hy6 := b6 _ _ (Ne.symm haD1) hy
      refine ⟨ys, hy6, ?_, (b5.trans b6).new hD1, ?_, _, rs ++ [rr], upd_same, ?_, by rw [List.length_append, hrl]; rfl, fun k' rr' e => ?_⟩
      · rw [ay.len, hrl]
        exact Nat.lt_of_lt_of_le hi (by decide)
      · refine WellAt.up (n := n + 3 + 21 * (i : Int) + 5 * (k : Int)) (w6.but haD1 But.at) ?_
        have : k ≤ 4 := by omega
        omega
      · refine A2.snoc (ay.imp fun _ _ r => r.mono (vw_mono fun b o h f e => ⟨h, ?_⟩)) ⟨D2, us, rfl, vw_put ((p1_ok D2).mpr ⟨Ne.symm haD2, Ne.symm hD12⟩) (by rw [upd_ne (Ne.symm hD12)]; exact hu6), au.imp fun _ _ r => r.mono (vw_mono fun b o h f e => ?_)⟩
        · obtain ⟨z1, z2⟩ := (p1_ok b).mp h
          rw [upd_ne z2]
          exact b6 _ _ z1 e
        · obtain ⟨z1, z2, z3⟩ := (p2_ok b).mp h
          exact ⟨(p1_ok b).mpr ⟨z1, z2⟩, by rw [upd_ne z2]; exact e⟩
      · by_cases c : k' < rs.length
        · rw [List.getElem?_append_left c] at e
          exact hrr k' rr' e
        · have c2 : k' = rs.length := by
            have := (List.getElem?_eq_some_iff.mp e).1
            rw [List.length_append] at this
            have e1 : ([rr] : List (List (List Int))).length = 1 := rfl
            omega
          subst c2
          rw [List.getElem?_append_right (Nat.le_refl _), Nat.sub_self] at e
          obtain rfl : rr = rr' := by simpa using e
          refine ⟨?_, hub⟩
          rw [hul, hk2, hrl]
  · rintro H5 ⟨b5, w5, ys, rs, hy, ay, hrl, hrr⟩
    have hLm5 := b5 _ _ (Ne.symm hLa) hLm4
    let al : Nat → List (List Int) := fun h => rs.getD h []
    have hal : A2 (RowsAt (vw p1 H5)) ys [al 0, al 1] := by
      have := two_list hrl
      rw [this] at ay
      exact ay
    have halP : ∀ h, h < 2 → (al h).length = (if h = 0 then n0 else n1) ∧ ∀ r ∈ al h, (1 ≤ r.length ∧ r.length ≤ 4 ∧ r.Pairwise (· < ·) ∧ ∀ x ∈ r, 0 ≤ x ∧ x < g) := fun h hh => by
      refine hrr h (al h) ?_
      show rs[h]? = some (rs.getD h [])
      rw [List.getD_eq_getElem?_getD, List.getElem?_eq_getElem (show h < rs.length by omega)]
      rfl
    have hAl : AlAt (vw (pA a) H5) (.ref D1) al := by
      refine al_of (vw_put (pA_ok.mpr (Ne.symm haD1)) hy) (hal.imp fun _ _ r => r.mono (vw_mono fun b o h f e => ⟨pA_ok.mpr ((p1_ok b).mp h).1, e⟩))
    intro B hB
    have s6 := same_new hB (.dT [])
    have haB : a ≠ B := w5.ne hB
    have b0B : But a H (upd H5 B (.dT [])) := (b04.trans b5).trans (.same s6)
    refine ⟨_, rfl, Lm, _, _, _, rfl, rfl, SqL.of (s6 _ _ hLm5), (by rfl), (n0 : Int), rfl, by omega, by omega, ?_⟩
    have hBn : H B = none := none_of_but (b04.trans b5) (Ne.symm haB) hB
    have hDn : H D1 = none := none_of_but b04 (Ne.symm haD1) hD1
    have hBD : B ≠ D1 := (ne_of_none hy hB).symm
    have hBL : B ≠ Lm := (ne_of_none hLm5 hB).symm
    have q04 : n0 ≤ 4 := by omega
    have q14 : n1 ≤ 4 := by omega
    refine for_range (n := n0) (fun i σ H' => ∃ g4 g7, σ = [some (.ref a), some (.int m), some (.ref Lm), some (.int g), g4, some (.ref D1), some (.ref B), g7, none] ∧ PIn H a Lm D1 B n0 n1 n al i 0 H') ⟨_, _, rfl, [], [], b0B, s6 _ _ hLm5, ?_, hAl.mono (vwA_but (.same s6)), upd_same, .nil, .nil, (fun e he => nomatch he), (fun x y hx => ?_), Nat.zero_le _⟩ ?_ ?_
    · refine WellAt.up (w5.same s6) ?_
      omega
    · rcases hx with ⟨h1, _⟩ | ⟨_, h2⟩
      · exact absurd h1 (Nat.not_lt_zero _)
      · exact absurd h2 (Nat.not_lt_zero _)
    · rintro i σ H' hi ⟨g4, g7, rfl, hP⟩
      have ej : (0 : Int) + (i : Int) = (i : Int) := by omega
      rw [ej]
      have hL' : H' Lm = some (.lst [V.int (n0 : Int), V.int (n1 : Int)]) := by
        obtain ⟨bo, kvs, _, h, _⟩ := hP
        exact h
      refine ⟨_, rfl, Lm, _, _, _, rfl, rfl, SqL.of hL', (by rfl), (n1 : Int), rfl, by omega, by omega, ?_⟩
      refine for_range (n := n1) (fun j σ H' => ∃ g7, σ = [some (.ref a), some (.int m), some (.ref Lm), some (.int g), some (.int (i : Int)), some (.ref D1), some (.ref B), g7, none] ∧ PIn H a Lm D1 B n0 n1 n al i j H') ⟨_, rfl, hP⟩ ?_ ?_
      · clear hP hL'
        rintro j σ H' hj ⟨g7, rfl, bo, kvs, bH, hL', wH, hA', hB', ha', hsr, hrg, hcv, hbl⟩
        have ej : (0 : Int) + (j : Int) = (j : Int) := by omega
        rw [ej]
        refine ⟨_, rfl, _, rfl, Lm, _, _, _, rfl, rfl, SqL.of hL', (by rfl), _, _, rfl, rfl, (by show (0 : Int) < (n1 : Int); omega), _, rfl, rfl, _, rfl, ?_⟩
        have skip : ∀ Hc, ¬ (i % n1 = j ∨ j % n0 = i) → But a H' Hc → WellAt Hc a (n + 60 + 70 * (i : Int) + 17 * (j : Int) + 1) → PIn H a Lm D1 B n0 n1 n al i (j + 1) Hc := fun Hc nc bc wc => by
          refine ⟨bo, kvs, bH.trans bc, bc _ _ (Ne.symm hLa) hL', wc.up (by omega), hA'.mono (vwA_but bc), bc _ _ (Ne.symm haB) hB', ha'.imp fun _ _ r => r.mono (vwA_but bc), hsr, fun e he => ?_, fun x y h c => ?_, by omega⟩
          · obtain ⟨h1, h2⟩ := hrg e he
            exact ⟨by omega, h2⟩
          · rcases h with h | ⟨h1, h2⟩
            · exact hcv x y (.inl h) c
            · rcases Nat.lt_succ_iff_lt_or_eq.mp h2 with h3 | h3
              · exact hcv x y (.inr ⟨h1, h3⟩) c
              · subst h1; subst h3
                exact absurd c nc
        have body : ∀ (D : Ends) (Hc : Hp), But a H' Hc → WellAt Hc a (n + 60 + 70 * (i : Int) + 17 * (j : Int) + 1) → (∀ Hn, PIn H a Lm D1 B n0 n1 n al i (j + 1) Hn → D.nx [some (.ref a), some (.int m), some (.ref Lm), some (.int g), some (.int (i : Int)), some (.ref D1), some (.ref B), some (.int (j : Int)), none] Hn) →
            sDPut (tVar 6) (tTup (tCons (tVar 4) (tCons (tVar 7) tNil))) (tCall spOuts2 [] E0 (tCons (tVar 0) (tCons (tVar 3) tNil))) D [some (.ref a), some (.int m), some (.ref Lm), some (.int g), some (.int (i : Int)), some (.ref D1), some (.ref B), some (.int (j : Int)), none] Hc := by
          intro D Hc bc wc next
          refine ⟨_, rfl, _, rfl, a, _, g, rfl, .inr wc, by omega, by omega, hg2, by omega, fun p xs l H6 b6 hp6 hp6' ax w6 okl => ?_⟩
          refine ⟨_, rfl, _, rfl, _, rfl, (by show 2 ≤ sizeLine; decide), fun t ht => ?_⟩
          have s7 := same_new ht (.tup [V.int (i : Int), V.int (j : Int)])
          have bcc := bc.trans b6
          have hB6 : H6 B = some (.dT kvs) := bcc _ _ (Ne.symm haB) hB'
          have hvn : valV kvs (kI (i, j)) = none := valV_noneP fun e he c => by
            obtain ⟨y, hy1, hy2, _⟩ := ha'.mem he
            rw [hy2] at c
            have c := kI_inj c
            have h1 := (hrg y hy1).1
            rw [c] at h1
            have h1 : i < i ∨ (i = i ∧ j < j) := h1
            omega
          have hsz : kvs.length ≤ 20 := by rw [ha'.len]; omega
          refine ⟨B, _, rfl, DPut.t (k := kI (i, j)) (s7 _ _ hB6) upd_same (Nat.lt_of_le_of_lt hsz (by decide)), ?_⟩
          rw [putK_new _ hvn]
          have hB7 := s7 _ _ hB6
          have kpA : Kp (vw (pA a) H') (vw (pA a) (upd (upd H6 t (.tup [V.int (i : Int), V.int (j : Int)])) B (.dT (kvs ++ [(kI (i, j), V.ref p)])))) := ((vwA_but (bcc.trans (.same s7)))).trans (vwA_put hB7)
          have npa : p ≠ a := (wc.ne hp6).symm
          have npB : p ≠ B := fun c => by subst c; rw [bc _ _ (Ne.symm haB) hB'] at hp6; cases hp6
          refine next _ ⟨bo ++ [((i, j), l)], _, ((bH.trans bcc).trans (.same s7)).new hBn, by rw [upd_ne (Ne.symm hBL)]; exact s7 _ _ (bcc _ _ (Ne.symm hLa) hL'), ((w6.same s7).but haB But.at).up (by omega), hA'.mono kpA, upd_same, ?_, ?_, ?_, ?_, ?_⟩
          · refine A2.snoc (ha'.imp fun _ _ r => r.mono kpA) ⟨rfl, p, xs, rfl, vw_put (pA_ok.mpr npa) (by rw [upd_ne npB]; exact s7 _ _ hp6'), ?_⟩
            obtain ⟨z6, e6⟩ := w6.lst
            refine ax.imp fun v xy r => ?_
            obtain ⟨tt, rfl, htt⟩ := r
            have nta : tt ≠ a := ne_of htt e6 (fun z => by cases z)
            have ntB : tt ≠ B := ne_of htt hB6 (fun z => by cases z)
            exact ⟨tt, rfl, vw_put (pA_ok.mpr nta) (by rw [upd_ne ntB]; exact s7 _ _ htt)⟩
          · rw [List.map_append]
            refine List.pairwise_append.mpr ⟨hsr, by simp, fun x hx y hy => ?_⟩
            obtain ⟨e, he, rfl⟩ := List.mem_map.mp hx
            obtain rfl : y = (i, j) := by simpa using hy
            exact (hrg e he).1
          · intro e he
            rcases List.mem_append.mp he with h | h
            · obtain ⟨h1, h2⟩ := hrg e h
              exact ⟨by omega, h2⟩
            · obtain rfl := List.mem_singleton.mp h
              exact ⟨.inr ⟨rfl, Nat.lt_succ_self _⟩, hi, hj, okL_let okl (by omega)⟩
          · intro x y h c
            rcases h with h | ⟨h1, h2⟩
            · obtain ⟨e, he, h3⟩ := hcv x y (.inl h) c
              exact ⟨e, List.mem_append_left _ he, h3⟩
            · rcases Nat.lt_succ_iff_lt_or_eq.mp h2 with h3 | h3
              · obtain ⟨e, he, h4⟩ := hcv x y (.inr ⟨h1, h3⟩) c
                exact ⟨e, List.mem_append_left _ he, h4⟩
              · subst h1; subst h3
                exact ⟨_, List.mem_append_right _ (List.mem_singleton.mpr rfl), rfl⟩
          · rw [List.length_append]
            have e1 : ([((i, j), l)] : BD).length = 1 := rfl
            omega
        by_cases c1 : i % n1 = j
        · exact iteT' (mod_dec.trans (decide_eq_true c1)) (iteT (body _ H' (.same (Same.refl _)) (wH.up (by omega)) fun Hn h => ⟨_, rfl, h⟩))
        refine iteF' (mod_dec.trans (decide_eq_false c1)) ?_
        refine ⟨_, rfl, _, rfl, Lm, _, _, _, rfl, rfl, SqL.of hL', (by rfl), _, _, rfl, rfl, (by show (0 : Int) < (n0 : Int); omega), _, rfl, rfl, _, rfl, ?_⟩
        by_cases c2 : j % n0 = i
        · exact iteT' (mod_dec.trans (decide_eq_true c2)) (iteT (body _ H' (.same (Same.refl _)) (wH.up (by omega)) fun Hn h => ⟨_, rfl, h⟩))
        refine iteF' (mod_dec.trans (decide_eq_false c2)) ?_
        refine ⟨_, rfl, a, _, 3, rfl, .inr wH, by omega, by omega, by decide, by decide, fun r5 H6 r50 r51 b6 w6 => ?_⟩
        refine ⟨_, _, rfl, rfl, _, rfl, ?_⟩
        by_cases c3 : (0 : Int) < r5
        · exact iteT' (decide_eq_true c3) (body _ H6 b6 w6 fun Hn h => ⟨_, rfl, h⟩)
        · exact iteF' (decide_eq_false c3) ⟨_, rfl, skip H6 (fun c => c.elim c1 c2) b6 w6⟩
      · rintro σ H2 ⟨g7, rfl, bo, kvs, bH, hL', wH, hA', hB', ha', hsr, hrg, hcv, hbl⟩
        refine ⟨_, _, rfl, bo, kvs, bH, hL', wH.up (by omega), hA', hB', ha', hsr, fun e he => ?_, fun x y hx c => ?_, by omega⟩
        · obtain ⟨h1, h2⟩ := hrg e he
          exact ⟨by omega, h2⟩
        · rcases hx with ⟨h, hy⟩ | ⟨_, h⟩
          · rcases Nat.lt_succ_iff_lt_or_eq.mp h with h | h
            · exact hcv x y (.inl ⟨h, hy⟩) c
            · exact hcv x y (.inr ⟨h, hy⟩) c
          · exact absurd h (Nat.not_lt_zero _)
    · rintro σ H' ⟨g4, g7, rfl, bo, kvs, bH, hL', wH, hA', hB', ha', hsr, hrg, hcv, hbl⟩
      refine ⟨_, rfl, _, rfl, (by show 2 ≤ sizeLine; decide), fun r hr => ?_⟩
      have s8 := same_new hr (.tup [V.ref D1, V.ref B])
      have hrn : H r = none := none_of_but bH (Ne.symm (wH.ne hr)) hr
      have e0 : (al 0).length = n0 := (halP 0 (by decide)).1
      have e1 : (al 1).length = n1 := (halP 1 (by decide)).1
      refine q r D1 B ⟨al, bo⟩ _ (bH.trans (.same s8)) hrn hDn hBn upd_same (hA'.mono (vwA_but (.same s8))) ⟨kvs, s8 _ _ hB', ha'.imp fun _ _ r => r.mono (vwA_but (.same s8))⟩ ((wH.same s8).up (by omega)) ⟨fun h hh => ?_, fun h hh r hr => ?_, hsr, fun e he => ?_, fun e he => (hrg e he).2.2.2, fun x hx => ?_, fun y hy => ?_, by show bo.length ≤ 60; omega⟩ (fun h hh => ?_) (fun h hh r hr x hx => ?_)
      · obtain rfl | rfl : h = 0 ∨ h = 1 := by omega
        · show 1 ≤ (al 0).length ∧ (al 0).length ≤ 20
          omega
        · show 1 ≤ (al 1).length ∧ (al 1).length ≤ 20
          omega
      · obtain ⟨z1, z2, z3, z4⟩ := (halP h hh).2 r hr
        exact ⟨z1, by omega, z3, fun x hx => ⟨(z4 x hx).1, by have := (z4 x hx).2; omega⟩⟩
      · show e.1.1 < (al 0).length ∧ e.1.2 < (al 1).length
        rw [e0, e1]
        exact ⟨(hrg e he).2.1, (hrg e he).2.2.1⟩
      · have hx : x < n0 := by rw [← e0]; exact hx
        obtain ⟨e, he, h⟩ := hcv x (x % n1) (.inl ⟨hx, Nat.mod_lt _ (by omega)⟩) (.inl rfl)
        exact ⟨e, he, by rw [h]⟩
      · have hy : y < n1 := by rw [← e1]; exact hy
        obtain ⟨e, he, h⟩ := hcv (y % n0) y (.inl ⟨Nat.mod_lt _ (by omega), hy⟩) (.inr rfl)
        exact ⟨e, he, by rw [h]⟩
      · obtain rfl | rfl : h = 0 ∨ h = 1 := by omega
        · show (((al 0).length : Nat) : Int) ≤ m
          omega
        · show (((al 1).length : Nat) : Int) ≤ m
          omega
      · obtain ⟨z1, z2, z3, z4⟩ := (halP h hh).2 r hr
        have := (z4 x hx).2
        omega
end
end TA

set_option Elab.async false
set_option maxRecDepth 100000
set_option maxHeartbeats 4000000
namespace TA
open PySem L2 PyProof.Rows
set_option linter.unusedVariables false
/-- xs[i] as an augmented assignment reads it, 0 ≤ i -/
theorem get_list {X : Cx} : PGet X (fun o i H Q => ∃ (p : Addr) (xs : List V) (k : Nat) (v : V), o = .ref p ∧ i = .int (k : Int) ∧ SqL X.K H p xs ∧ xs[k]? = some v ∧ Q v H) := by
  intro pins s σ H o i ov iv Q I ro ri h
  obtain ⟨p, xs, k, v, rfl, rfl, hq, he, q⟩ := h
  cases ro
  obtain ⟨t, rfl⟩ := ri
  obtain ⟨its, r, pl, hz⟩ := I.list hq
  obtain ⟨w, ew, rw'⟩ := r.get he
  have hl := r.length
  have hn := line63
  have hk : k < xs.length := (List.getElem?_eq_some_iff.mp he).1
  refine getItem_listL (l := its) pl.isList (by omega) ?_ (by simpa using ew) ⟨v, H, I, rw', q⟩
  omega
/-! weavings with a box -/
def HW (ws : List Int) : Prop := ∀ x ∈ ws, x = 0 ∨ x = 1
def winG : List Int → Nat → Nat → Option Nat
  | [], _, _ => none
  | h :: r, a, b => if h = 0 then (if a = 1 then some 0 else winG r (a + 1) b) else (if b = 1 then some 1 else winG r a (b + 1))
def win (ws : List Int) : Option Nat := winG ws 0 0
def oN : Option Nat → V
  | none => .non
  | some h => .int ((h : Nat) : Int)
def wbB (ws : List Int) : Bool := decide (ws.count 0 ≤ 3) && decide (ws.count 1 ≤ 3) && (match win ws with
  | none => true
  | some h => decide (ws.count ((h : Nat) : Int) = 2))
theorem winG_lt : ∀ {ws : List Int} {a b h : Nat}, winG ws a b = some h → h < 2
  | [], _, _, _, e => by cases e
  | x :: r, a, b, h, e => by
    unfold winG at e
    split at e
    · split at e
      · cases e; decide
      · exact winG_lt e
    · split at e
      · cases e; decide
      · exact winG_lt e
theorem win_lt {ws : List Int} {h : Nat} (e : win ws = some h) : h < 2 := winG_lt e
structure TxtB (K : PySem.W.Frag) (mg : Str → Option Value) : Prop where
  two : ∃ t, mg "STEPS_TO_BOX" = some (.int 2 t)
  three : ∃ t, mg "STEPS_OF_LOSER" = some (.int 3 t)
def spWin : Sp := fun vs H Q _ => ∃ (l : Addr) (ws : List Int), vs = [.ref l] ∧ H l = some (.lst (ws.map V.int)) ∧ HW ws ∧ ∀ H', Same H H' → Q (oN (win ws)) H'
def spBW : Sp := fun vs H Q _ => ∃ (l : Addr) (ws : List Int), vs = [.ref l] ∧ H l = some (.lst (ws.map V.int)) ∧ HW ws ∧ ws.length ≤ 20 ∧ ∀ H', Same H H' → Q (.bl (wbB ws)) H'
theorem ws_at {ws : List Int} {i : Nat} {x : V} (h : (ws.map V.int)[i]? = some x) : ∃ k, x = .int k ∧ ws[i]? = some k := by
  rw [List.getElem?_map] at h
  obtain ⟨k, hk, rfl⟩ := Option.map_eq_some_iff.mp h
  exact ⟨k, rfl, hk⟩
theorem drop_get {α : Type} {l : List α} {i : Nat} {x : α} (h : l[i]? = some x) : l.drop i = x :: l.drop (i + 1) := by
  obtain ⟨hi, rfl⟩ := List.getElem?_eq_some_iff.mp h
  exact List.drop_eq_getElem_cons hi
section
variable {P : Program} {w : World} {K : PySem.W.Frag} {mg : Str → Option Value} {base : Heap}
abbrev nWin : List Str := ["weaving", "steps", "hand"]
theorem sc_win : FnScope nWin ["weaving"] (defScope s_winner) := ⟨rfl, rfl, rfl, by decide +kernel, rfl, by decide +kernel, by decide +kernel⟩
theorem ok_win {f : Addr} {fd : FuncData} (F : Fun K "winner" "winner" s_winner f fd) (T : Txt K mg) (B : TxtB K mg) : FnOk P w K mg base CX0 1 f fd ["weaving"] spWin := by
  refine F.ok sc_win (fun vs H Q E h => ?_) (fun cdv A outer s H vs Q E hr h => ?_)
  · obtain ⟨l, ws, rfl, _⟩ := h
    rfl
  obtain ⟨l, ws, rfl, hl, hw, q⟩ := h
  have nd := sc_win.nd
  obtain ⟨t2, m2⟩ := B.two
  refine ⟨_, (pss_cons (ps_set (i := 1) nd rfl (Or.inl rfl) (pe_lst (pa_cons pe_int (pa_cons pe_int pa_nil))))
    (pss_cons (ps_for PassesOwn.never (by rfl) (pi_list (pv 0)) (pg_name (i := 2) nd rfl (Or.inl rfl))
      (pss_cons (ps_augS (pv 1) (pv 2) get_list pe_int ip_add set_list)
    (pss_one (ps_if (pt_cmpR op_eq (pe_ix ix_list (pv 1) (pv 2) (fun _ _ => rfl)) (pe_glob (v := .int 2) rfl m2 ⟨_, rfl⟩) (nomark _))
      (pss_one (ps_ret (pv 2)))
      pss_nil))))
    (pss_one (ps_ret pe_non)))), ?_⟩
  refine ⟨(by show 2 ≤ sizeLine; decide), fun S hS => ?_⟩
  have s1 := same_new hS (.lst [V.int 0, V.int 0])
  refine ⟨_, rfl, l, rfl, ⟨_, SqL.of (s1 _ _ hl)⟩, for_list (xs := ws.map V.int) (fun i σ H' => ∃ (g : Option V) (a b : Nat), σ = [some (.ref l), some (.ref S), g] ∧ Same H H' ∧ H' S = some (.lst [V.int ((a : Nat) : Int), V.int ((b : Nat) : Int)]) ∧ winG (ws.drop i) a b = win ws) ⟨_, 0, 0, rfl, s1, upd_same, rfl⟩ (fun i σ H' _ ⟨g, a, b, _, s2, _⟩ => SqL.of (s2 _ _ hl)) ?_ ?_⟩
  · rintro i x σ H' hx ⟨g, a, b, rfl, s2, hSS, hg⟩
    obtain ⟨k, rfl, hk⟩ := ws_at hx
    rw [drop_get hk] at hg
    unfold winG at hg
    obtain rfl | rfl := hw k (List.mem_of_getElem? hk)
    · rw [if_pos rfl] at hg
      refine ⟨_, rfl, _, rfl, S, _, 0, _, rfl, rfl, SqL.of hSS, rfl, _, _, rfl, rfl, S, [V.int ((a : Nat) : Int), V.int ((b : Nat) : Int)], _, 0, rfl, rfl, hSS, rfl, ?_⟩
      have s3 : Same H (upd H' S (.lst [V.int ((a : Nat) + 1 : Int), V.int ((b : Nat) : Int)])) := same_upd s2 hS
      refine ⟨_, rfl, _, rfl, S, _, _, _, rfl, rfl, SqL.of upd_same, rfl, rfl, _, rfl, ?_⟩
      by_cases c : a = 1
      · subst c
        rw [if_pos rfl] at hg
        refine iteT' (by decide) ⟨_, rfl, ?_⟩
        have := q _ s3
        rw [← hg] at this
        exact this
      · rw [if_neg c] at hg
        refine iteF' (decide_eq_false fun e => c (by have e : V.int ((a : Int) + 1) = V.int 2 := e; injection e with e; omega)) ?_
        exact ⟨_, a + 1, b, rfl, s3, upd_same, hg⟩
    · rw [if_neg (by decide)] at hg
      refine ⟨_, rfl, _, rfl, S, _, 1, _, rfl, rfl, SqL.of hSS, rfl, _, _, rfl, rfl, S, [V.int ((a : Nat) : Int), V.int ((b : Nat) : Int)], _, 1, rfl, rfl, hSS, rfl, ?_⟩
      have s3 : Same H (upd H' S (.lst [V.int ((a : Nat) : Int), V.int ((b : Nat) + 1 : Int)])) := same_upd s2 hS
      refine ⟨_, rfl, _, rfl, S, _, _, _, rfl, rfl, SqL.of upd_same, rfl, rfl, _, rfl, ?_⟩
      by_cases c : b = 1
      · subst c
        rw [if_pos rfl] at hg
        refine iteT' (by decide) ⟨_, rfl, ?_⟩
        have := q _ s3
        rw [← hg] at this
        exact this
      · rw [if_neg c] at hg
        refine iteF' (decide_eq_false fun e => c (by have e : V.int ((b : Int) + 1) = V.int 2 := e; injection e with e; omega)) ?_
        exact ⟨_, a, b + 1, rfl, s3, upd_same, hg⟩
  · rintro σ H' ⟨g, a, b, rfl, s2, _, hg⟩
    rw [List.length_map, List.drop_length] at hg
    have := q _ s2
    rw [← hg] at this
    exact this
abbrev nBW : List Str := ["thing", "won", "hand"]
theorem sc_bw : FnScope nBW ["thing"] (defScope s_is_boxed_weaving) := ⟨rfl, rfl, rfl, by decide +kernel, rfl, by decide +kernel, by decide +kernel⟩
theorem ok_bw {f g1 g2 : Addr} {fd d1 d2 : FuncData} (F : Fun K "is_boxed_weaving" "is_boxed_weaving" s_is_boxed_weaving f fd) (T : Txt K mg) (T2 : Txt2 K mg) (U : TxtH K mg) (B : TxtB K mg) (WH : Def P w K mg base "is_hand" ["thing"] 3 (spHandG K) g1 d1)
    (Wn : Def P w K mg base "winner" ["weaving"] 1 spWin g2 d2) : FnOk P w K mg base CX0 4 f fd ["thing"] spBW := by
  refine F.ok sc_bw (fun vs H Q E h => ?_) (fun cdv A outer s H vs Q E hr h => ?_)
  · obtain ⟨l, ws, rfl, _⟩ := h
    rfl
  obtain ⟨l, ws, rfl, hl, hw, hn, q⟩ := h
  have nd := sc_bw.nd
  obtain ⟨t2, m2⟩ := B.two
  obtain ⟨t3, m3⟩ := B.three
  obtain ⟨hT, mH, hH⟩ := U.hands
  refine ⟨_, (pss_cons (ps_if (PW.pt (pw_or (pt_not (pt_val (pe_callB call_isi (by rfl) T.isi boot_isinstance (pa_cons (pv 0) (pa_cons (pe_bltn (v := .ty "list") (by rfl) T.list boot_list rfl) pa_nil))))) (pw_or1 (pt_not (pt_val (pe_callB (cr_all rfl) (by rfl) T.all (by decide +kernel) (pa_cons (pe_lc (own := [("hand", 2)]) (g := (gName 2)) (tt := tYes) (te := (tCall (spHandG K) [] E0 (tCons (tVar 2) tNil))) rfl nd (pi_list (pv 0)) (blkOk_by (N := nBW) (sc := defScope s_is_boxed_weaving) (by decide +kernel)) (fun _ _ _ _ _ => (by exact (pg_name (i := 2) nd rfl (Or.inl rfl)))) (fun _ _ _ _ _ => pts_nil) (fun _ _ _ _ _ => (by exact (pe_call WH.G (hr.mono (by decide)) rfl WH.m WH.k WH.b .nil pass0 (pa_cons (pv 2) pa_nil))))) pa_nil)))))))
      (pss_one (ps_ret pe_bl))
      pss_nil)
    (pss_cons (ps_if (pt_cmpR op_gt (pe_callB (cr_max rfl) (by rfl) T2.max (by decide +kernel) (pa_cons (pe_lc (own := [("hand", 2)]) (g := (gName 2)) (tt := tYes) (te := (tBM K "list" (rCntI K) (tVar 0) (tCons (tVar 2) tNil))) rfl nd (pi_tup (pe_glob (v := .ref hT) rfl mH rfl)) (blkOk_by (N := nBW) (sc := defScope s_is_boxed_weaving) (by decide +kernel)) (fun _ _ _ _ _ => (by exact (pg_name (i := 2) nd rfl (Or.inl rfl)))) (fun _ _ _ _ _ => pts_nil) (fun _ _ _ _ _ => (by exact (pe_bm PySem.F.plainAttrs_list PySem.F.slot_list_count PySem.F.type_list_count mt_lcount (pv 0) (pa_cons (pv 2) pa_nil))))) pa_nil)) (pe_glob (v := .int 3) rfl m3 ⟨_, rfl⟩) (nomark _))
      (pss_one (ps_ret pe_bl))
      pss_nil)
    (pss_cons (ps_set (i := 1) nd rfl (Or.inl rfl) (pe_call Wn.G (hr.mono (by decide)) rfl Wn.m Wn.k Wn.b .nil pass0 (pa_cons (pv 0) pa_nil)))
    (pss_one (ps_ret (pe_or (pe_cmpR op_isN (pv 1) pe_non (nomark _)) (pe_one (pe_cmpR op_eq (pe_bm PySem.F.plainAttrs_list PySem.F.slot_list_count PySem.F.type_list_count mt_lcount (pv 0) (pa_cons (pv 1) pa_nil)) (pe_glob (v := .int 2) rfl m2 ⟨_, rfl⟩) (nomark _))))))))), ?_⟩
  refine ⟨_, rfl, V.ref l, .ty "list", .type "list", .type "list", true, rfl, .ty "list", .base (.lst hl), kit_ty (by decide +kernel), _, rfl, iteF ?_⟩
  refine ⟨_, rfl, l, rfl, ⟨_, SqL.of hl⟩, fun L hL => ?_⟩
  refine list_turns (xs := ws.map V.int) (fun i H' => Same H H' ∧ H' L = some (.lst ((List.replicate i true).map V.bl))) ⟨same_new hL _, upd_same⟩ (fun i H' _ h => h.1.seq (SqL.of hl)) ?_ ?_
  · rintro i x H' hx ⟨s3, h3⟩
    obtain ⟨k, rfl, hk⟩ := ws_at hx
    refine ⟨rfl, _, rfl, _, _, rfl, .int _, ?_⟩
    rw [show within (.int k) 0 1 = true by obtain rfl | rfl := hw k (List.mem_of_getElem? hk) <;> rfl]
    refine ⟨_, h3, ?_, same_upd s3 hL, by rw [upd_same, rep_snoc]⟩
    rw [List.length_map, List.length_replicate]
    have := (List.getElem?_eq_some_iff.mp hk).1
    exact Nat.lt_of_lt_of_le (show i < 100 by omega) (by decide)
  · rintro H3 ⟨s3, h3⟩
    refine ⟨L, _, rfl, SqL.of h3, ?_⟩
    rw [all_true]
    refine ⟨_, rfl, iteF ?_⟩
    refine ⟨hT, rfl, ⟨_, hH _⟩, fun D hD => ?_⟩
    refine tup_turns (xs := [V.int 0, V.int 1]) (fun i H' => Same H H' ∧ H' D = some (.lst (([((ws.count 0 : Nat) : Int), ((ws.count 1 : Nat) : Int)].take i).map V.int))) ⟨s3.trans (same_new hD _), upd_same⟩ (fun i H' _ _ => hH H') ?_ ?_
    · rintro i z H' hz ⟨s4, h4⟩
      obtain ⟨hi, rfl⟩ := hand_at hz
      refine ⟨rfl, _, rfl, .inl ⟨rfl, _, SqL.of (s4 _ _ hl)⟩, _, rfl, l, ws, _, rfl, rfl, SqL.of (s4 _ _ hl), _, h4, ?_, same_upd s4 (none_of_same s3 hD), ?_⟩
      · rw [List.length_map]
        exact Nat.lt_of_le_of_lt (List.length_take_le _ _) (Nat.lt_of_lt_of_le hi (by decide))
      · rw [upd_same]
        obtain rfl | rfl : i = 0 ∨ i = 1 := by omega
        · rfl
        · rfl
    · rintro H4 ⟨s4, h4⟩
      refine ⟨D, [((ws.count 0 : Nat) : Int), ((ws.count 1 : Nat) : Int)], rfl, SqL.of h4, Nat.zero_lt_two, fun m hm hle => ?_⟩
      have hmax : (m > 3) ↔ ¬ (ws.count 0 ≤ 3 ∧ ws.count 1 ≤ 3) := by
        have h0 := hle _ List.mem_cons_self
        have h1 := hle _ (List.mem_cons_of_mem _ List.mem_cons_self)
        rcases List.mem_cons.mp hm with rfl | hm
        · omega
        · obtain rfl := List.mem_singleton.mp hm
          omega
      refine ⟨_, _, rfl, rfl, _, rfl, ?_⟩
      by_cases c : ws.count 0 ≤ 3 ∧ ws.count 1 ≤ 3
      case neg =>
        refine iteT' (decide_eq_true (hmax.mpr c)) ?_
        have := q _ s4
        rw [show wbB ws = false by
          unfold wbB
          rw [← Bool.decide_and, decide_eq_false c, Bool.false_and]] at this
        exact this
      refine iteF' (decide_eq_false fun e => hmax.mp e c) ?_
      refine ⟨_, rfl, l, ws, rfl, s4 _ _ hl, hw, fun H5 s5 => ?_⟩
      have s45 := s4.trans s5
      have q := q _ s45
      have e0 : wbB ws = (match win ws with
        | none => true
        | some h => decide (ws.count ((h : Nat) : Int) = 2)) := by
        unfold wbB
        rw [← Bool.decide_and, decide_eq_true c, Bool.true_and]
      rw [e0] at q
      cases hwn : win ws with
      | none =>
        rw [hwn] at q
        exact ⟨_, rfl, rfl, _, rfl, iteT q⟩
      | some h =>
        rw [hwn] at q
        refine ⟨_, rfl, rfl, _, rfl, iteF ⟨_, rfl, .inl ⟨rfl, _, SqL.of (s45 _ _ hl)⟩, _, rfl, l, ws, _, rfl, rfl, SqL.of (s45 _ _ hl), rfl, ?_⟩⟩
        have e1 : decide (V.int ((ws.count ((h : Nat) : Int) : Nat) : Int) = V.int 2) = decide (ws.count ((h : Nat) : Int) = 2) := dec_nat
        rw [e1]
        exact q
end
end TA

set_option Elab.async false
set_option maxRecDepth 100000
set_option maxHeartbeats 4000000
namespace TA
open PySem L2 PyProof.Rows
set_option linter.unusedVariables false
/-! data that may be compared -/
def Ok (n : Nat) (d : PyData) : Prop := d.canLay0 = true ∧ d.depth ≤ n
theorem Ok.shaped {n : Nat} {d : PyData} (h : Ok n d) (e : n ≤ 64) : SeqAt.shaped d = true := by
  unfold SeqAt.shaped
  rw [h.1, decide_eq_true (Nat.le_trans h.2 e)]
  rfl
theorem ok_int {n : Nat} (i : Int) : Ok (n + 1) (.int i) := ⟨by simp [PyData.canLay0], by simp [PyData.depth]⟩
theorem ok_non {n : Nat} : Ok (n + 1) .none := ⟨by simp [PyData.canLay0], by simp [PyData.depth]⟩
theorem ok_all {n : Nat} : ∀ {ds : List PyData}, (∀ d ∈ ds, Ok n d) → PyData.canLayAll0 ds = true ∧ PyData.depthAll ds ≤ n
  | [], _ => ⟨rfl, by simp [PyData.depthAll]⟩
  | d :: ds, q => by
    obtain ⟨a, b⟩ := ok_all (ds := ds) (fun x hx => q x (List.mem_cons_of_mem _ hx))
    obtain ⟨c, e⟩ := q d List.mem_cons_self
    refine ⟨by simp [PyData.canLayAll0, a, c], ?_⟩
    simp only [PyData.depthAll]
    omega
theorem ok_list {n : Nat} {ds : List PyData} (q : ∀ d ∈ ds, Ok n d) : Ok (n + 1) (.list ds) := by
  obtain ⟨a, b⟩ := ok_all q
  refine ⟨by simpa [PyData.canLay0] using a, ?_⟩
  simp only [PyData.depth]
  omega
theorem ok_tuple {n : Nat} {ds : List PyData} (q : ∀ d ∈ ds, Ok n d) : Ok (n + 1) (.tuple ds) := by
  obtain ⟨a, b⟩ := ok_all q
  refine ⟨by simpa [PyData.canLay0] using a, ?_⟩
  simp only [PyData.depth]
  omega
theorem okD_pair (p : Int × Int) : Ok 2 (pairD p) := ok_tuple fun d hd => by
  rcases List.mem_cons.mp hd with rfl | hd
  · exact ok_int _
  · obtain rfl := List.mem_singleton.mp hd
    exact ok_int _
theorem okD_pairs (l : List (Int × Int)) : Ok 3 (.list (l.map pairD)) := ok_list fun d hd => by
  obtain ⟨p, _, rfl⟩ := List.mem_map.mp hd
  exact okD_pair p
theorem eqv_pair (p q : Int × Int) : PyData.eqv (pairD p) (pairD q) = decide (p = q) := by
  show ((p.1 == q.1) && ((p.2 == q.2) && true)) = decide (p = q)
  rw [Bool.and_true]
  by_cases h : p = q
  · subst h
    simp
  · rw [decide_eq_false h]
    by_cases h1 : p.1 = q.1
    · have : ¬ p.2 = q.2 := fun h2 => h (Prod.ext h1 h2)
      simp [this]
    · simp [h1]
theorem any_pair (l : List (Int × Int)) (p : Int × Int) : ((l.map pairD).any fun z => PyData.eqv z (pairD p)) = decide (p ∈ l) := by
  rw [List.any_map]
  by_cases h : p ∈ l
  · rw [decide_eq_true h, List.any_eq_true]
    exact ⟨p, h, by show PyData.eqv (pairD p) (pairD p) = true; rw [eqv_pair, decide_eq_true rfl]⟩
  · rw [decide_eq_false h, List.any_eq_false]
    intro q hq c
    have c : PyData.eqv (pairD q) (pairD p) = true := c
    rw [eqv_pair] at c
    exact h (of_decide_eq_true c ▸ hq)
/-! the checks of boxed protocols and bars -/
def anKV (an : Nat → IP × List (Int × Int) → Int) (h : Nat) (bo : BD) : List (List Key × V) := bo.map fun e => (kI e.1, V.int (an h e))
/-- a task at p whose dict is not the one at d -/
def TaskX (C : Addr) (H : Hp) (p : Addr) (T : TD) (d : Addr) : Prop := ∃ dx a d', H p = some (.ins C dx (flds a d')) ∧ AlAt H (.ref a) T.al ∧ BoR H d' T.bo ∧ d' ≠ d
theorem TaskX.task {C : Addr} {H : Hp} {p : Addr} {T : TD} {d : Addr} (h : TaskX C H p T d) : TaskR C H p T := by
  obtain ⟨dx, a, d', h1, h2, h3, _⟩ := h
  exact ⟨dx, a, d', h1, h2, h3⟩
theorem TaskX.mono {C : Addr} {H H' : Hp} (s : Same H H') {p : Addr} {T : TD} {d : Addr} (h : TaskX C H p T d) : TaskX C H' p T d := by
  obtain ⟨dx, a, d', h1, h2, h3, h4⟩ := h
  exact ⟨dx, a, d', s _ _ h1, h2.mono (.same s), h3.mono s, h4⟩
theorem TaskX.new {C : Addr} {H H' : Hp} (s : Same H H') {p : Addr} {T : TD} {d : Addr} (h : TaskR C H p T) (n : H d = none) : TaskX C H' p T d := by
  obtain ⟨dx, a, d', h1, h2, h3⟩ := h
  refine ⟨dx, a, d', s _ _ h1, h2.mono (.same s), h3.mono s, fun c => ?_⟩
  subst c
  obtain ⟨kvs, h3, _⟩ := h3
  exact rd_some h3 n
theorem TaskX.but {C : Addr} {H H' : Hp} {d : Addr} {k : List (List Key × V)} (e : H d = some (.dT k)) (s : But d H H') {p : Addr} {T : TD} (h : TaskX C H p T d) : TaskR C H' p T := by
  obtain ⟨dx, a, d', h1, h2, ⟨kvs, h3, h5⟩, h4⟩ := h
  have kp := s.kp e nf_dT
  exact ⟨dx, a, d', s _ _ (ne_of h1 e (fun z => by cases z)) h1, h2.mono kp, kvs, h3.imp (s _ _ h4) (fun ⟨o, z⟩ => ⟨o, s _ _ h4 z⟩), h5.imp fun _ _ r => r.mono kp⟩
structure BxF (C : Addr) (H : Hp) (p t : Addr) (T : TD) (ch : Nat → List Int) (an : Nat → IP × List (Int × Int) → Int) (al ans d0 d1 : Addr) : Prop where
  ht : H t = some (.tup [.ref al, .ref ans])
  hal : RowsAt H (.ref al) [ch 0, ch 1]
  hans : H ans = some (.lst [.ref d0, .ref d1])
  h0 : H d0 = some (.dT (anKV an 0 T.bo))
  h1 : H d1 = some (.dT (anKV an 1 T.bo))
  x0 : TaskX C H p T d0
  x1 : TaskX C H p T d1
  len : ∀ h, h < 2 → (ch h).length = (T.al h).length
  outc : ∀ h, h < 2 → ∀ x ∈ ch h, okOut x
  outa : ∀ h, h < 2 → ∀ e ∈ T.bo, okOut (an h e)
theorem BxF.mono {C : Addr} {H H' : Hp} (s : Same H H') {p t : Addr} {T : TD} {ch an al ans d0 d1} (b : BxF C H p t T ch an al ans d0 d1) : BxF C H' p t T ch an al ans d0 d1 :=
  ⟨s _ _ b.ht, b.hal.mono (.same s), s _ _ b.hans, s _ _ b.h0, s _ _ b.h1, b.x0.mono s, b.x1.mono s, b.len, b.outc, b.outa⟩
def spIsAns (K : PySem.W.Frag) (C : Addr) : Sp := fun vs H Q _ => ∃ (p d : Addr) (T : TD) (h : Nat) (an : Nat → IP × List (Int × Int) → Int), vs = [.ref p, .ref d] ∧ TaskX C H p T d ∧ WF T ∧ H d = some (.dT (anKV an h T.bo)) ∧ (∀ e ∈ T.bo, okOut (an h e)) ∧ ∀ H', Same H H' → Q (.bl true) H'
def spIsBoxed (K : PySem.W.Frag) (C : Addr) : Sp := fun vs H Q _ => ∃ (p t : Addr) (T : TD) (ch : Nat → List Int) (an : Nat → IP × List (Int × Int) → Int) (al ans d0 d1 : Addr), vs = [.ref p, .ref t] ∧ WF T ∧ BxF C H p t T ch an al ans d0 d1 ∧ ∀ H', Same H H' → Q (.bl true) H'

/-! what is refused -/
theorem fnOr {P : Program} {w : World} {K : PySem.W.Frag} {mg : Str → Option Value} {base : Heap} {CX : CXT} {k : Nat} {f : Addr} {fd : FuncData} {ps : List Str} {sp sp' : Sp} (F : FnOk P w K mg base CX k f fd ps sp) (G : FnOk P w K mg base CX k f fd ps sp') :
    FnOk P w K mg base CX k f fd ps (fun vs H Q E => sp vs H Q E ∨ sp' vs H Q E) :=
  ⟨fun vs H Q E q => q.elim (F.len vs H Q E) (G.len vs H Q E), fun A outer s H args us vs Q E hr he hb hv hs => hs.elim (F.run A outer s H args us vs Q E hr he hb hv) (G.run A outer s H args us vs Q E hr he hb hv)⟩
def spPairN (K : PySem.W.Frag) (C : Addr) : Sp := fun vs H Q _ => ∃ (p : Addr) (v : V) (T : TD) (d : PyData), vs = [.ref p, v] ∧ TaskR C H p T ∧ Dp K H v d ∧ inB (T.al 0).length (T.al 1).length d = false ∧ ∀ H', Same H H' → Q (.bl false) H'
def spPairX (K : PySem.W.Frag) (C : Addr) : Sp := fun vs H Q E => spPair K C vs H Q E ∨ spPairN K C vs H Q E
def spRowN : Sp := fun vs H Q _ => ∃ (a : Addr) (k : List (List Key × V)) (m : Int), vs = [.ref a, .int m] ∧ H a = some (.dT k) ∧ Q (.bl false) H
def spRowX (K : PySem.W.Frag) : Sp := fun vs H Q E => spRow K vs H Q E ∨ spRowN vs H Q E
def spChosenN (C : Addr) : Sp := fun vs H Q _ => ∃ (p l d0 d1 : Addr) (k0 k1 : List (List Key × V)) (T : TD), vs = [.ref p, .ref l] ∧ TaskR C H p T ∧ H l = some (.lst [.ref d0, .ref d1]) ∧ H d0 = some (.dT k0) ∧ H d1 = some (.dT k1) ∧ ∀ H', Same H H' → Q (.bl false) H'
def spChosenX (K : PySem.W.Frag) (C : Addr) : Sp := fun vs H Q E => spChosen K C vs H Q E ∨ spChosenN C vs H Q E
/-- what is no dict with an answer for each pair -/
def OddA (H : Hp) (T : TD) (x : V) : Prop := x = .non ∨ ∃ (d : Addr) (k : List (List Key × V)), x = .ref d ∧ H d = some (.dT k) ∧ k.length ≠ T.bo.length
def spIsAnsN (C : Addr) : Sp := fun vs H Q _ => ∃ (p : Addr) (x : V) (T : TD), vs = [.ref p, x] ∧ TaskR C H p T ∧ OddA H T x ∧ ∀ H', Same H H' → Q (.bl false) H'
def spIsAnsX (K : PySem.W.Frag) (C : Addr) : Sp := fun vs H Q E => spIsAns K C vs H Q E ∨ spIsAnsN C vs H Q E
/-- what chooses nothing -/
def OddC (K : PySem.W.Frag) (H : Hp) (T : TD) (c : V) : Prop := (∃ d, Dp K H c d ∧ (∀ ds, d = .list ds → ∀ e ∈ ds, small e) ∧ chosenB d (T.al 0).length (T.al 1).length = false) ∨
  ∃ (l d0 d1 : Addr) (k0 k1 : List (List Key × V)), c = .ref l ∧ H l = some (.lst [.ref d0, .ref d1]) ∧ H d0 = some (.dT k0) ∧ H d1 = some (.dT k1)
structure GoodC (H : Hp) (T : TD) (al : Addr) (ch : Nat → List Int) : Prop where
  hal : RowsAt H (.ref al) [ch 0, ch 1]
  len : ∀ h, h < 2 → (ch h).length = (T.al h).length
  outc : ∀ h, h < 2 → ∀ x ∈ ch h, okOut x
theorem GoodC.mono {H H' : Hp} (s : Same H H') {T : TD} {al : Addr} {ch : Nat → List Int} (g : GoodC H T al ch) : GoodC H' T al ch := ⟨g.hal.mono (.same s), g.len, g.outc⟩
/-- what is no boxed protocol by its form -/
inductive OddF (K : PySem.W.Frag) (C : Addr) (H : Hp) (p : Addr) (T : TD) : V → Prop
  | lst {a : Addr} {xs : List V} : H a = some (.lst xs) → OddF K C H p T (.ref a)
  | non : OddF K C H p T .non
  | one {a : Addr} {x : V} : H a = some (.tup [x]) → OddF K C H p T (.ref a)
  | cho {t : Addr} {c x : V} : H t = some (.tup [c, x]) → OddC K H T c → OddF K C H p T (.ref t)
  | few {t al ans : Addr} {x : V} {ch : Nat → List Int} : H t = some (.tup [.ref al, .ref ans]) → GoodC H T al ch → H ans = some (.lst [x]) → OddF K C H p T (.ref t)
  | ans {t al ans d0 : Addr} {x : V} {ch : Nat → List Int} {an : Nat → IP × List (Int × Int) → Int} : H t = some (.tup [.ref al, .ref ans]) → GoodC H T al ch → H ans = some (.lst [.ref d0, x]) → H d0 = some (.dT (anKV an 0 T.bo)) → TaskX C H p T d0 → (∀ e ∈ T.bo, okOut (an 0 e)) → OddA H T x → OddF K C H p T (.ref t)
theorem OddA.mono {H H' : Hp} (s : Same H H') {T : TD} {x : V} (h : OddA H T x) : OddA H' T x := h.imp id fun ⟨d, k, e, h1, h2⟩ => ⟨d, k, e, s _ _ h1, h2⟩
theorem OddC.mono {K : PySem.W.Frag} {H H' : Hp} (s : Same H H') {T : TD} {x : V} (h : OddC K H T x) : OddC K H' T x :=
  h.imp (fun ⟨d, h1, h2, h3⟩ => ⟨d, dp_mono s _ _ h1, h2, h3⟩) fun ⟨l, d0, d1, k0, k1, e, h1, h2, h3⟩ => ⟨l, d0, d1, k0, k1, e, s _ _ h1, s _ _ h2, s _ _ h3⟩
theorem OddF.mono {K : PySem.W.Frag} {C : Addr} {H H' : Hp} (s : Same H H') {p : Addr} {T : TD} {v : V} (h : OddF K C H p T v) : OddF K C H' p T v := by
  cases h with
  | lst h => exact .lst (s _ _ h)
  | non => exact .non
  | one h => exact .one (s _ _ h)
  | cho h1 h2 => exact .cho (s _ _ h1) (h2.mono s)
  | few h1 h2 h3 => exact .few (s _ _ h1) (h2.mono s) (s _ _ h3)
  | ans h1 h2 h3 h4 h5 h6 h7 => exact .ans (s _ _ h1) (h2.mono s) (s _ _ h3) (s _ _ h4) (h5.mono s) h6 (h7.mono s)
def spIsBoxedN (K : PySem.W.Frag) (C : Addr) : Sp := fun vs H Q _ => ∃ (p : Addr) (v : V) (T : TD), vs = [.ref p, v] ∧ WF T ∧ TaskR C H p T ∧ OddF K C H p T v ∧ ∀ H', Same H H' → Q (.bl false) H'
def spIsBoxedX (K : PySem.W.Frag) (C : Addr) : Sp := fun vs H Q E => spIsBoxed K C vs H Q E ∨ spIsBoxedN K C vs H Q E
section
variable {P : Program} {w : World} {K : PySem.W.Frag} {mg : Str → Option Value} {base : Heap}
theorem Def.imp {x : Str} {ps : List Str} {k : Nat} {sp sp' : Sp} {f : Addr} {fd : FuncData} (D : Def P w K mg base x ps k sp f fd) (h : ∀ vs H Q E, sp' vs H Q E → sp vs H Q E) : Def P w K mg base x ps k sp' f fd := ⟨D.G.imp h, D.b, D.k, D.m⟩
theorem ok_ispairX {f g C : Addr} {fd gd : FuncData} (F : Fun K "is_pair" "is_pair" s_is_pair f fd) (T : Txt K mg) (Z : TxtC K mg C) (W1 : Def P w K mg base "is_input_pair" ["thing", "alone"] 3 (spInp K) g gd) : FnOk P w K mg base CX0 4 f fd nIsPair (spPairX K C) := by
  refine fnOr (ok_ispair F T Z W1) (F.ok sc_ispair (fun vs H Q E h => ?_) (fun cdv A outer s H vs Q E hr h => ?_))
  · obtain ⟨p, v, D, d, rfl, _⟩ := h
    rfl
  obtain ⟨p, v, D, dv, rfl, hT, hv, hi, q⟩ := h
  have hu := hu_of hr
  refine ⟨_, (pss_one (ps_ret (pe_and (pe_call W1.G (hr.mono (by decide)) rfl W1.m W1.k W1.b .nil pass0 (pa_cons (pv 1) (pa_cons (pe_fld (pv 0) rfl) pa_nil))) (pe_one (pe_cmp (pc_din hu (pv 1) (pe_fld (pv 0) rfl)) rfl))))), ?_⟩
  obtain ⟨dx, a, d, hp, hA, hB⟩ := hT
  obtain ⟨al, e, hal⟩ := hA.at2 (K := K)
  obtain rfl : a = al := by injection e
  refine ⟨_, rfl, _, rfl, p, C, dx, _, _, rfl, hp, Z.cl, Z.nA, flds_alone _ _, v, _, a, _, _, rfl, hv, hal, fun H1 s1 => ⟨_, rfl, ?_⟩⟩
  rw [hi]
  exact iteF (q _ s1)
theorem ok_rowX {f g : Addr} {fd gd : FuncData} (F : Fun K "is_row" "is_row" s_is_row f fd) (T : Txt K mg) (WO : Def P w K mg base "is_output" ["thing"] 3 (spOut K) g gd) : FnOk P w K mg base CX0 4 f fd ["thing", "many"] (spRowX K) := by
  refine fnOr (ok_row F T WO) (F.ok sc_row (fun vs H Q E h => ?_) (fun cdv A outer s H vs Q E hr h => ?_))
  · obtain ⟨a, k, m, rfl, _⟩ := h
    rfl
  obtain ⟨a, k, m, rfl, ha, q⟩ := h
  have nd := sc_row.nd
  refine ⟨_, (pss_one (ps_ret (pe_and (pe_callB call_isi (by rfl) T.isi boot_isinstance (pa_cons (pv 0) (pa_cons (pe_bltn (v := .ty "list") (by rfl) T.list boot_list rfl) pa_nil))) (pe_and (pe_cmpR op_eq (pe_callB call_len_seq (by rfl) T.len PySem.boot_len (pa_cons (pv 0) pa_nil)) (pv 1) (nomark _)) (pe_one (pe_callB (cr_all rfl) (by rfl) T.all (by decide +kernel) (pa_cons (pe_lc (own := [("x", 2)]) (g := (gName 2)) (tt := tYes) (te := (tCall (spOut K) [] E0 (tCons (tVar 2) tNil))) rfl nd (pi_list (pv 0)) (blkOk_by (N := nRow) (sc := defScope s_is_row) (by decide +kernel)) (fun _ _ _ _ _ => (by exact (pg_name (i := 2) nd rfl (Or.inl rfl)))) (fun _ _ _ _ _ => pts_nil) (fun _ _ _ _ _ => (by exact (pe_call WO.G (hr.mono (by decide)) rfl WO.m WO.k WO.b .nil pass0 (pa_cons (pv 2) pa_nil))))) pa_nil))))))), ?_⟩
  refine ⟨_, rfl, V.ref a, .ty "list", .type "dict", .type "list", false, rfl, .ty "list", .base (.dT ha), kit_ty (by decide +kernel), _, rfl, iteF q⟩
theorem ok_chosenX {f g1 g2 C : Addr} {fd d1 d2 : FuncData} (F : Fun K "is_chosen" "is_chosen" s_is_chosen f fd) (T : Txt K mg) (U : TxtH K mg) (Z : TxtC K mg C) (WR : Def P w K mg base "is_row" ["thing", "many"] 4 (spRowX K) g1 d1)
    (Inp : MDef P w K mg base C "inputs" nInputs 4 (spInputs K C) g2 d2) : FnOk P w K mg base CX0 5 f fd ["task", "thing"] (spChosenX K C) := by
  refine fnOr (ok_chosen F T U Z (WR.imp fun _ _ _ _ h => .inl h) Inp) (F.ok sc_chosen (fun vs H Q E h => ?_) (fun cdv A outer s H vs Q E hr h => ?_))
  · obtain ⟨p, l, d0, d1, k0, k1, D, rfl, _⟩ := h
    rfl
  obtain ⟨p, l, d0, d1, k0, k1, D, rfl, hTk, hl, h0, h1, q⟩ := h
  obtain ⟨hT, mH, hH⟩ := U.hands
  have nd := sc_chosen.nd
  have WR : Def P w K mg base "is_row" ["thing", "many"] 4 spRowN g1 _ := WR.imp fun _ _ _ _ h => .inr h
  refine ⟨_, (pss_one (ps_ret (pe_and (pe_callB call_isi (by rfl) T.isi boot_isinstance (pa_cons (pv 1) (pa_cons (pe_bltn (v := .ty "list") (by rfl) T.list boot_list rfl) pa_nil))) (pe_and (pe_cmpR op_eq (pe_callB call_len_seq (by rfl) T.len PySem.boot_len (pa_cons (pv 1) pa_nil)) pe_int (nomark _)) (pe_one (pe_callB (cr_all rfl) (by rfl) T.all (by decide +kernel) (pa_cons (pe_lc (own := [("hand", 2)]) (g := (gName 2)) (tt := tYes) (te := (tCall spRowN [] E0 (tCons (tOp (rIxL K) (tVar 1) (tVar 2)) (tCons (tMeth C "inputs" (spInputs K C) [] E0 (tVar 0) (tCons (tVar 2) tNil)) tNil)))) rfl nd (pi_tup (pe_glob (v := .ref hT) rfl mH rfl)) (blkOk_by (N := nChosen) (sc := defScope s_is_chosen) (by decide +kernel)) (fun _ _ _ _ _ => (by exact (pg_name (i := 2) nd rfl (Or.inl rfl)))) (fun _ _ _ _ _ => pts_nil) (fun _ _ _ _ _ => (by exact (pe_call WR.G (hr.mono (by decide)) rfl WR.m WR.k WR.b .nil pass0 (pa_cons (pe_ix ix_list (pv 1) (pv 2) (fun _ _ => rfl)) (pa_cons (pe_meth (pv 0) Z.cl Inp.M Inp.G (hr.mono (by decide)) Inp.b .nil pass0 (pa_cons (pv 2) pa_nil)) pa_nil)))))) pa_nil))))))), ?_⟩
  refine ⟨_, rfl, V.ref l, .ty "list", .type "list", .type "list", true, rfl, .ty "list", .base (.lst hl), kit_ty (by decide +kernel), _, rfl, iteT ?_⟩
  refine ⟨_, rfl, l, _, rfl, .inl (SqL.of hl), rfl, _, rfl, iteT ?_⟩
  refine ⟨hT, rfl, ⟨_, hH _⟩, fun L hL => ?_⟩
  refine tup_turns (xs := [V.int 0, V.int 1]) (fun i H' => Same H H' ∧ H' L = some (.lst (([false, false].take i).map V.bl))) ⟨same_new hL _, upd_same⟩ (fun i H' _ _ => hH H') ?_ ?_
  · rintro i z H' hz' ⟨s3, h3⟩
    obtain ⟨hi, rfl⟩ := hand_at hz'
    obtain ⟨e, k, hu1, hu3⟩ : ∃ (e : Addr) (k : List (List Key × V)), ([V.ref d0, V.ref d1] : List V)[i]? = some (.ref e) ∧ H e = some (.dT k) := by
      obtain rfl | rfl : i = 0 ∨ i = 1 := by omega
      · exact ⟨d0, k0, rfl, h0⟩
      · exact ⟨d1, k1, rfl, h1⟩
    obtain ⟨dx, a, d, hp, hA, hB⟩ := hTk.mono s3
    refine ⟨rfl, _, rfl, _, rfl, l, _, _, _, rfl, rfl, s3.seq (SqL.of hl), atI_nat hu1, ?_⟩
    refine ⟨_, rfl, p, dx, _, rfl, hp, flds_no _ _ (by decide +kernel) (by decide +kernel), _, rfl, p, i, D, rfl, hi, ⟨dx, a, d, hp, hA, hB⟩, ?_⟩
    refine ⟨e, k, _, rfl, s3 _ _ hu3, ?_⟩
    refine ⟨_, h3, ?_, same_upd s3 hL, by rw [upd_same, take_bl _ (show [false, false][i]? = some false from (by
      obtain rfl | rfl : i = 0 ∨ i = 1 := by omega
      · rfl
      · rfl))]⟩
    rw [List.length_map]
    exact Nat.lt_of_le_of_lt (List.length_take_le _ _) (Nat.lt_of_lt_of_le hi (by decide))
  · rintro H3 ⟨s3, h3⟩
    refine ⟨L, _, rfl, SqL.of h3, ?_⟩
    exact q _ s3
abbrev nIsAns : List Str := ["task", "thing", "pair", "output"]
theorem sc_isans : FnScope nIsAns ["task", "thing"] (defScope s_is_answers) := ⟨rfl, rfl, rfl, by decide +kernel, rfl, by decide +kernel, by decide +kernel⟩
theorem ok_isans {f g1 g2 C : Addr} {fd d1 d2 : FuncData} (F : Fun K "is_answers" "is_answers" s_is_answers f fd) (T : Txt K mg) (T2 : Txt2 K mg) (Z : TxtC K mg C) (WP : Def P w K mg base "is_pair" ["task", "thing"] 4 (spPair K C) g1 d1)
    (WO : Def P w K mg base "is_output" ["thing"] 3 (spOut K) g2 d2) : FnOk P w K mg base CX0 5 f fd ["task", "thing"] (spIsAns K C) := by
  refine F.ok sc_isans (fun vs H Q E h => ?_) (fun cdv A outer s H vs Q E hr h => ?_)
  · obtain ⟨p, d, D, h, an, rfl, _⟩ := h
    rfl
  obtain ⟨p, d, D, h, an, rfl, hX, hW, hd, ho, q⟩ := h
  have nd := sc_isans.nd
  refine ⟨_, (pss_one (ps_ret (pe_and (pe_callB call_isi (by rfl) T.isi boot_isinstance (pa_cons (pv 1) (pa_cons (pe_bltn (v := .ty "dict") (by rfl) T2.dict boot_dict rfl) pa_nil))) (pe_and (pe_cmpR op_eq (pe_callB call_len_dT (by rfl) T.len PySem.boot_len (pa_cons (pv 1) pa_nil)) (pe_callB len_dTR (by rfl) T.len PySem.boot_len (pa_cons (pe_fld (pv 0) rfl) pa_nil)) (nomark _)) (pe_one (pe_callB (cr_all rfl) (by rfl) T.all (by decide +kernel) (pa_cons (pe_lock (pe_lc (own := [("pair", 2), ("output", 3)]) (g := (gTup K 2 (gCons (gName 2) (gCons (gName 3) gNil)))) (tt := tYes) (te := (tAndV (tCall (spPair K C) [] E0 (tCons (tVar 0) (tCons (tVar 2) tNil))) (tCall (spOut K) [] E0 (tCons (tVar 3) tNil)))) rfl nd (pi_itemsT (pv 1)) (blkOk_by (N := nIsAns) (sc := defScope s_is_answers) (by decide +kernel)) (fun _ _ _ _ _ => (by exact (pg_tup (by rfl) (pgs_cons (pg_name (i := 2) nd rfl (Or.inl rfl)) (pgs_cons (pg_name (i := 3) nd rfl (Or.inl rfl)) pgs_nil))))) (fun _ _ _ _ _ => pts_nil) (fun _ _ _ _ _ => (by exact (pe_and (pe_call WP.G (hr.mono (by decide)) rfl WP.m WP.k WP.b .nil pass0 (pa_cons (pv 0) (pa_cons (pv 2) pa_nil))) (pe_one (pe_call WO.G (hr.mono (by decide)) rfl WO.m WO.k WO.b .nil pass0 (pa_cons (pv 3) pa_nil)))))))) pa_nil))))))), ?_⟩
  obtain ⟨dx, a, d', hp, hA, ⟨kvs, hd', ha⟩, hne⟩ := id hX
  have hkl : (anKV an h D.bo).length = D.bo.length := List.length_map _
  refine ⟨_, rfl, V.ref d, .ty "dict", .type "dict", .type "dict", true, rfl, .ty "dict", .base (.dT hd), kit_ty (by decide +kernel), _, rfl, iteT ?_⟩
  refine ⟨_, rfl, d, _, rfl, hd, _, rfl, p, C, dx, _, _, rfl, hp, Z.cl, Z.nB, flds_both _ _, d', kvs, rfl, hd', rfl, _, rfl, ?_⟩
  refine iteT' (by rw [dec_nat]; exact decide_eq_true (by rw [hkl, ha.len])) ?_
  refine ⟨d, _, hd, trivial, fun od => ?_⟩
  have hd1 : (upd H d (.frz od (.dT (anKV an h D.bo)))) d = some (.frz od (.dT (anKV an h D.bo))) := upd_same
  refine ⟨_, rfl, d, od, _, rfl, hd1, fun L hL => ?_⟩
  have nL : d ≠ L := ne_of_none hd1 hL
  have hLn : H L = none := none_of_but But.at (Ne.symm nL) hL
  refine itemT_turns (fun i H' => But d H H' ∧ H' d = some (.frz od (.dT (anKV an h D.bo))) ∧ H' L = some (.lst ((List.replicate i true).map V.bl))) ⟨But.at.trans (.same (same_new hL _)), by rw [upd_ne nL]; exact hd1, upd_same⟩ (fun i H' h => h.2.1) ?_ ?_
  · rintro i k x qa Tt H' hi hq hTn ⟨b1, e1, e2⟩
    unfold anKV at hi
    rw [List.getElem?_map] at hi
    obtain ⟨eb, hbi, e⟩ := Option.map_eq_some_iff.mp hi
    injection e with e3 e4
    subst e3
    subst e4
    have hm := List.mem_of_getElem? hbi
    have s1 := same_new hTn (.tup [V.ref qa, V.int (an h eb)])
    have hi2 : i < D.bo.length := (List.getElem?_eq_some_iff.mp hbi).1
    refine ⟨Tt, _, rfl, SqT.of upd_same, rfl, _, _, rfl, _, _, rfl, rfl, rfl, _, rfl, _, rfl, p, _, D, iI eb.1, rfl, hX.but hd (b1.trans (.same s1)), hW, kI_tp (s1 _ _ hq), fun H2 s2 => ?_⟩
    rw [hasK_yes hm]
    refine ⟨_, rfl, iteT ⟨_, rfl, _, _, rfl, .int _, ?_⟩⟩
    rw [out_yes (ho eb hm)]
    have s13 := s1.trans s2
    refine ⟨_, s13 _ _ e2, ?_, (b1.trans (.same s13)).new hLn, by rw [upd_ne nL]; exact s13 _ _ e1, by rw [upd_same, rep_snoc]⟩
    rw [List.length_map, List.length_replicate]
    have := hW.many
    exact Nat.lt_of_lt_of_le (show i < 100 by omega) (by decide)
  · rintro H1 ⟨b1, e1, e2⟩
    have s1 : Same H (upd H1 d (.dT (anKV an h D.bo))) := b1.unlock hd
    refine ⟨e1, L, _, rfl, SqL.of (by rw [upd_ne (Ne.symm nL)]; exact e2), ?_⟩
    rw [all_true]
    exact q _ s1
theorem ok_isansX {f g1 g2 C : Addr} {fd d1 d2 : FuncData} (F : Fun K "is_answers" "is_answers" s_is_answers f fd) (T : Txt K mg) (T2 : Txt2 K mg) (Z : TxtC K mg C) (WP : Def P w K mg base "is_pair" ["task", "thing"] 4 (spPairX K C) g1 d1)
    (WO : Def P w K mg base "is_output" ["thing"] 3 (spOut K) g2 d2) : FnOk P w K mg base CX0 5 f fd ["task", "thing"] (spIsAnsX K C) := by
  have WP : Def P w K mg base "is_pair" ["task", "thing"] 4 (spPair K C) g1 d1 := WP.imp fun _ _ _ _ h => .inl h
  refine fnOr (ok_isans F T T2 Z WP WO) (F.ok sc_isans (fun vs H Q E h => ?_) (fun cdv A outer s H vs Q E hr h => ?_))
  · obtain ⟨p, x, D, rfl, _⟩ := h
    rfl
  obtain ⟨p, x, D, rfl, hX, ho, q⟩ := h
  have nd := sc_isans.nd
  refine ⟨_, (pss_one (ps_ret (pe_and (pe_callB call_isi (by rfl) T.isi boot_isinstance (pa_cons (pv 1) (pa_cons (pe_bltn (v := .ty "dict") (by rfl) T2.dict boot_dict rfl) pa_nil))) (pe_and (pe_cmpR op_eq (pe_callB call_len_dT (by rfl) T.len PySem.boot_len (pa_cons (pv 1) pa_nil)) (pe_callB len_dTR (by rfl) T.len PySem.boot_len (pa_cons (pe_fld (pv 0) rfl) pa_nil)) (nomark _)) (pe_one (pe_callB (cr_all rfl) (by rfl) T.all (by decide +kernel) (pa_cons (pe_lock (pe_lc (own := [("pair", 2), ("output", 3)]) (g := (gTup K 2 (gCons (gName 2) (gCons (gName 3) gNil)))) (tt := tYes) (te := (tAndV (tCall (spPair K C) [] E0 (tCons (tVar 0) (tCons (tVar 2) tNil))) (tCall (spOut K) [] E0 (tCons (tVar 3) tNil)))) rfl nd (pi_itemsT (pv 1)) (blkOk_by (N := nIsAns) (sc := defScope s_is_answers) (by decide +kernel)) (fun _ _ _ _ _ => (by exact (pg_tup (by rfl) (pgs_cons (pg_name (i := 2) nd rfl (Or.inl rfl)) (pgs_cons (pg_name (i := 3) nd rfl (Or.inl rfl)) pgs_nil))))) (fun _ _ _ _ _ => pts_nil) (fun _ _ _ _ _ => (by exact (pe_and (pe_call WP.G (hr.mono (by decide)) rfl WP.m WP.k WP.b .nil pass0 (pa_cons (pv 0) (pa_cons (pv 2) pa_nil))) (pe_one (pe_call WO.G (hr.mono (by decide)) rfl WO.m WO.k WO.b .nil pass0 (pa_cons (pv 3) pa_nil)))))))) pa_nil))))))), ?_⟩
  rcases ho with rfl | ⟨d, k, rfl, hd, hn⟩
  · exact ⟨_, rfl, V.non, .ty "dict", .type "NoneType", .type "dict", false, rfl, .ty "dict", dp_ty (d := .none) .non, kit_ty (by decide +kernel), _, rfl, iteF (q _ (Same.refl H))⟩
  obtain ⟨dx, a, d', hp, hA, ⟨kvs, hd', ha⟩⟩ := id hX
  refine ⟨_, rfl, V.ref d, .ty "dict", .type "dict", .type "dict", true, rfl, .ty "dict", .base (.dT hd), kit_ty (by decide +kernel), _, rfl, iteT ?_⟩
  refine ⟨_, rfl, d, _, rfl, hd, _, rfl, p, C, dx, _, _, rfl, hp, Z.cl, Z.nB, flds_both _ _, d', kvs, rfl, hd', rfl, _, rfl, ?_⟩
  refine iteF' (by rw [dec_nat]; exact decide_eq_false (by rw [ha.len]; exact hn)) ?_
  exact q _ (Same.refl H)
abbrev nIsBoxed : List Str := ["task", "thing", "answers"]
theorem sc_isboxed : FnScope nIsBoxed ["task", "thing"] (defScope s_is_boxed) := ⟨rfl, rfl, rfl, by decide +kernel, rfl, by decide +kernel, by decide +kernel⟩
theorem row_yes {c : List Int} {n : Nat} (h : c.length = n) (o : ∀ x ∈ c, okOut x) : rowB (rowD c) n = true := by
  show (decide ((c.map PyData.int).length = n) && ((c.map PyData.int).map outB).all id) = true
  rw [List.length_map, decide_eq_true h, Bool.true_and, List.all_eq_true]
  intro b hb
  obtain ⟨d, hd, rfl⟩ := List.mem_map.mp hb
  obtain ⟨x, hx, rfl⟩ := List.mem_map.mp hd
  exact out_yes (o x hx)
theorem BxF.chosen {C : Addr} {H : Hp} {p t : Addr} {T : TD} {ch an al ans d0 d1} (b : BxF C H p t T ch an al ans d0 d1) : chosenB (rowsD [ch 0, ch 1]) (T.al 0).length (T.al 1).length = true := by
  show (rowB (rowD (ch 0)) _ && rowB (rowD (ch 1)) _) = true
  rw [row_yes (b.len 0 (by decide)) (b.outc 0 (by decide)), row_yes (b.len 1 (by decide)) (b.outc 1 (by decide))]
  rfl
theorem ok_isboxed {f g1 g2 C : Addr} {fd d1 d2 : FuncData} (F : Fun K "is_boxed" "is_boxed" s_is_boxed f fd) (T : Txt K mg) (Z : TxtC K mg C) (WC : Def P w K mg base "is_chosen" ["task", "thing"] 5 (spChosen K C) g1 d1)
    (WIA : Def P w K mg base "is_answers" ["task", "thing"] 5 (spIsAns K C) g2 d2) : FnOk P w K mg base CX0 6 f fd ["task", "thing"] (spIsBoxed K C) := by
  refine F.ok sc_isboxed (fun vs H Q E h => ?_) (fun cdv A outer s H vs Q E hr h => ?_)
  · obtain ⟨p, t, D, ch, an, al, ans, e0, e1, rfl, _⟩ := h
    rfl
  obtain ⟨p, t, D, ch, an, al, ans, e0, e1, rfl, hW, B, q⟩ := h
  have nd := sc_isboxed.nd
  refine ⟨_, (pss_one (ps_ret (pe_and (pe_callB call_isi (by rfl) T.isi boot_isinstance (pa_cons (pv 1) (pa_cons (pe_bltn (v := .ty "tuple") (by rfl) T.tuple boot_tuple rfl) pa_nil))) (pe_and (pe_cmpR op_eq (pe_callB call_len_seq (by rfl) T.len PySem.boot_len (pa_cons (pv 1) pa_nil)) pe_int (nomark _)) (pe_and (pe_call WC.G (hr.mono (by decide)) rfl WC.m WC.k WC.b .nil pass0 (pa_cons (pv 0) (pa_cons (pe_ix ix_tup (pv 1) pe_int (fun _ _ => rfl)) pa_nil))) (pe_and (pe_callB call_isi (by rfl) T.isi boot_isinstance (pa_cons (pe_ix ix_tup (pv 1) pe_int (fun _ _ => rfl)) (pa_cons (pe_bltn (v := .ty "list") (by rfl) T.list boot_list rfl) pa_nil))) (pe_and (pe_cmpR op_eq (pe_callB call_len_seq (by rfl) T.len PySem.boot_len (pa_cons (pe_ix ix_tup (pv 1) pe_int (fun _ _ => rfl)) pa_nil)) pe_int (nomark _)) (pe_one (pe_callB (cr_all rfl) (by rfl) T.all (by decide +kernel) (pa_cons (pe_lc (own := [("answers", 2)]) (g := (gName 2)) (tt := tYes) (te := (tCall (spIsAns K C) [] E0 (tCons (tVar 0) (tCons (tVar 2) tNil)))) rfl nd (pi_list (pe_ix ix_tup (pv 1) pe_int (fun _ _ => rfl))) (blkOk_by (N := nIsBoxed) (sc := defScope s_is_boxed) (by decide +kernel)) (fun _ _ _ _ _ => (by exact (pg_name (i := 2) nd rfl (Or.inl rfl)))) (fun _ _ _ _ _ => pts_nil) (fun _ _ _ _ _ => (by exact (pe_call WIA.G (hr.mono (by decide)) rfl WIA.m WIA.k WIA.b .nil pass0 (pa_cons (pv 0) (pa_cons (pv 2) pa_nil)))))) pa_nil)))))))))), ?_⟩
  refine ⟨_, rfl, V.ref t, .ty "tuple", .type "tuple", .type "tuple", true, rfl, .ty "tuple", .base (.tup B.ht), kit_ty (by decide +kernel), _, rfl, iteT ?_⟩
  refine ⟨_, rfl, t, _, rfl, .inr (SqT.of B.ht), rfl, _, rfl, iteT ?_⟩
  refine ⟨_, rfl, _, rfl, t, _, _, _, rfl, rfl, SqT.of B.ht, (by rfl), p, _, _, D, rfl, B.x0.task, B.hal.dp, ?_, fun H1 s1 => ?_⟩
  · rintro ds e z hz
    cases e
    rcases List.mem_cons.mp hz with rfl | hz
    · intro es e
      cases e
      rw [List.length_map, B.len 0 (by decide)]
      have := hW.n0 0 (by decide); omega
    · obtain rfl := List.mem_singleton.mp hz
      intro es e
      cases e
      rw [List.length_map, B.len 1 (by decide)]
      have := hW.n0 1 (by decide); omega
  rw [B.chosen]
  have B1 := B.mono s1
  refine ⟨_, rfl, iteT ?_⟩
  refine ⟨_, rfl, t, _, _, _, rfl, rfl, SqT.of B1.ht, (by rfl), V.ref ans, .ty "list", .type "list", .type "list", true, rfl, .ty "list", .base (.lst B1.hans), kit_ty (by decide +kernel), _, rfl, iteT ?_⟩
  refine ⟨_, rfl, t, _, _, _, rfl, rfl, SqT.of B1.ht, (by rfl), ans, _, rfl, .inl (SqL.of B1.hans), rfl, _, rfl, iteT ?_⟩
  refine ⟨_, rfl, t, _, _, _, rfl, rfl, SqT.of B1.ht, (by rfl), ans, rfl, ⟨_, SqL.of B1.hans⟩, fun L hL => ?_⟩
  refine list_turns (xs := [V.ref e0, V.ref e1]) (fun i H' => Same H1 H' ∧ H' L = some (.lst ((List.replicate i true).map V.bl))) ⟨same_new hL _, upd_same⟩ (fun i H' _ h => SqL.of (h.1 _ _ B1.hans)) ?_ ?_
  · rintro i x H' hx ⟨s3, h3⟩
    have hi : i < 2 := (List.getElem?_eq_some_iff.mp hx).1
    have B3 := B1.mono s3
    obtain ⟨d, rfl, hX, hd⟩ : ∃ d, x = .ref d ∧ TaskX C H' p D d ∧ H' d = some (.dT (anKV an i D.bo)) := by
      obtain rfl | rfl : i = 0 ∨ i = 1 := by omega
      · exact ⟨e0, by simpa using hx.symm, B3.x0, B3.h0⟩
      · exact ⟨e1, by simpa using hx.symm, B3.x1, B3.h1⟩
    refine ⟨rfl, _, rfl, _, rfl, p, d, D, i, an, rfl, hX, hW, hd, B.outa i hi, fun H4 s4 => ⟨_, s4 _ _ h3, ?_, same_upd (s3.trans s4) hL, by rw [upd_same, rep_snoc]⟩⟩
    rw [List.length_map, List.length_replicate]
    exact Nat.lt_of_lt_of_le (show i < 100 by omega) (by decide)
  · rintro H3 ⟨s3, h3⟩
    refine ⟨L, _, rfl, SqL.of h3, ?_⟩
    rw [all_true]
    exact q _ (s1.trans s3)
end
end TA

set_option Elab.async false
set_option maxRecDepth 100000
set_option maxHeartbeats 4000000
namespace TA
open PySem L2 PyProof.Rows
set_option linter.unusedVariables false
section
variable {P : Program} {w : World} {K : PySem.W.Frag} {mg : Str → Option Value} {base : Heap}
theorem GoodC.yes {H : Hp} {T : TD} {al : Addr} {ch : Nat → List Int} (g : GoodC H T al ch) : chosenB (rowsD [ch 0, ch 1]) (T.al 0).length (T.al 1).length = true := by
  show (rowB (rowD (ch 0)) _ && rowB (rowD (ch 1)) _) = true
  rw [row_yes (g.len 0 (by decide)) (g.outc 0 (by decide)), row_yes (g.len 1 (by decide)) (g.outc 1 (by decide))]
  rfl
theorem GoodC.sm {H : Hp} {T : TD} {al : Addr} {ch : Nat → List Int} (g : GoodC H T al ch) (hW : WF T) : ∀ ds, rowsD [ch 0, ch 1] = .list ds → ∀ e ∈ ds, small e := by
  rintro ds e z hz
  cases e
  rcases List.mem_cons.mp hz with rfl | hz
  · intro es e
    cases e
    rw [List.length_map, g.len 0 (by decide)]
    have := hW.n0 0 (by decide); omega
  · obtain rfl := List.mem_singleton.mp hz
    intro es e
    cases e
    rw [List.length_map, g.len 1 (by decide)]
    have := hW.n0 1 (by decide); omega
theorem ok_isboxedX {f g1 g2 C : Addr} {fd d1 d2 : FuncData} (F : Fun K "is_boxed" "is_boxed" s_is_boxed f fd) (T : Txt K mg) (Z : TxtC K mg C) (WC : Def P w K mg base "is_chosen" ["task", "thing"] 5 (spChosenX K C) g1 d1)
    (WIA : Def P w K mg base "is_answers" ["task", "thing"] 5 (spIsAnsX K C) g2 d2) : FnOk P w K mg base CX0 6 f fd ["task", "thing"] (spIsBoxedX K C) := by
  refine fnOr (ok_isboxed F T Z (WC.imp fun _ _ _ _ h => .inl h) (WIA.imp fun _ _ _ _ h => .inl h)) (F.ok sc_isboxed (fun vs H Q E h => ?_) (fun cdv A outer s H vs Q E hr h => ?_))
  · obtain ⟨p, v, D, rfl, _⟩ := h
    rfl
  obtain ⟨p, v, D, rfl, hW, hX, hO, q⟩ := h
  have nd := sc_isboxed.nd
  refine ⟨_, (pss_one (ps_ret (pe_and (pe_callB call_isi (by rfl) T.isi boot_isinstance (pa_cons (pv 1) (pa_cons (pe_bltn (v := .ty "tuple") (by rfl) T.tuple boot_tuple rfl) pa_nil))) (pe_and (pe_cmpR op_eq (pe_callB call_len_seq (by rfl) T.len PySem.boot_len (pa_cons (pv 1) pa_nil)) pe_int (nomark _)) (pe_and (pe_call WC.G (hr.mono (by decide)) rfl WC.m WC.k WC.b .nil pass0 (pa_cons (pv 0) (pa_cons (pe_ix ix_tup (pv 1) pe_int (fun _ _ => rfl)) pa_nil))) (pe_and (pe_callB call_isi (by rfl) T.isi boot_isinstance (pa_cons (pe_ix ix_tup (pv 1) pe_int (fun _ _ => rfl)) (pa_cons (pe_bltn (v := .ty "list") (by rfl) T.list boot_list rfl) pa_nil))) (pe_and (pe_cmpR op_eq (pe_callB call_len_seq (by rfl) T.len PySem.boot_len (pa_cons (pe_ix ix_tup (pv 1) pe_int (fun _ _ => rfl)) pa_nil)) pe_int (nomark _)) (pe_one (pe_callB (cr_all rfl) (by rfl) T.all (by decide +kernel) (pa_cons (pe_lc (own := [("answers", 2)]) (g := (gName 2)) (tt := tYes) (te := (tCall (spIsAnsX K C) [] E0 (tCons (tVar 0) (tCons (tVar 2) tNil)))) rfl nd (pi_list (pe_ix ix_tup (pv 1) pe_int (fun _ _ => rfl))) (blkOk_by (N := nIsBoxed) (sc := defScope s_is_boxed) (by decide +kernel)) (fun _ _ _ _ _ => (by exact (pg_name (i := 2) nd rfl (Or.inl rfl)))) (fun _ _ _ _ _ => pts_nil) (fun _ _ _ _ _ => (by exact (pe_call WIA.G (hr.mono (by decide)) rfl WIA.m WIA.k WIA.b .nil pass0 (pa_cons (pv 0) (pa_cons (pv 2) pa_nil)))))) pa_nil)))))))))), ?_⟩
  cases hO with
  | @lst a xs ha => exact ⟨_, rfl, V.ref a, .ty "tuple", .type "list", .type "tuple", false, rfl, .ty "tuple", .base (.lst ha), kit_ty (by decide +kernel), _, rfl, iteF (q _ (Same.refl H))⟩
  | non => exact ⟨_, rfl, V.non, .ty "tuple", .type "NoneType", .type "tuple", false, rfl, .ty "tuple", dp_ty (d := .none) .non, kit_ty (by decide +kernel), _, rfl, iteF (q _ (Same.refl H))⟩
  | @one t x ht =>
    refine ⟨_, rfl, V.ref t, .ty "tuple", .type "tuple", .type "tuple", true, rfl, .ty "tuple", .base (.tup ht), kit_ty (by decide +kernel), _, rfl, iteT ?_⟩
    exact ⟨_, rfl, t, _, rfl, .inr (SqT.of ht), rfl, _, rfl, iteF (q _ (Same.refl H))⟩
  | @cho t c x ht hc =>
    refine ⟨_, rfl, V.ref t, .ty "tuple", .type "tuple", .type "tuple", true, rfl, .ty "tuple", .base (.tup ht), kit_ty (by decide +kernel), _, rfl, iteT ?_⟩
    refine ⟨_, rfl, t, _, rfl, .inr (SqT.of ht), rfl, _, rfl, iteT ?_⟩
    rcases hc with ⟨d, hd, hs, hn⟩ | ⟨l, d0, d1, k0, k1, rfl, hl, h0, h1⟩
    · refine ⟨_, rfl, _, rfl, t, _, _, _, rfl, rfl, SqT.of ht, (by rfl), .inl ⟨p, _, d, D, rfl, hX, hd, hs, fun H1 s1 => ?_⟩⟩
      rw [hn]
      exact ⟨_, rfl, iteF (q _ s1)⟩
    · exact ⟨_, rfl, _, rfl, t, _, _, _, rfl, rfl, SqT.of ht, (by rfl), .inr ⟨p, l, d0, d1, k0, k1, D, rfl, hX, hl, h0, h1, fun H1 s1 => ⟨_, rfl, iteF (q _ s1)⟩⟩⟩
  | @few t al ans x ch ht g ha =>
    refine ⟨_, rfl, V.ref t, .ty "tuple", .type "tuple", .type "tuple", true, rfl, .ty "tuple", .base (.tup ht), kit_ty (by decide +kernel), _, rfl, iteT ?_⟩
    refine ⟨_, rfl, t, _, rfl, .inr (SqT.of ht), rfl, _, rfl, iteT ?_⟩
    refine ⟨_, rfl, _, rfl, t, _, _, _, rfl, rfl, SqT.of ht, (by rfl), .inl ⟨p, _, _, D, rfl, hX, g.hal.dp, g.sm hW, fun H1 s1 => ?_⟩⟩
    rw [g.yes]
    refine ⟨_, rfl, iteT ?_⟩
    refine ⟨_, rfl, t, _, _, _, rfl, rfl, SqT.of (s1 _ _ ht), (by rfl), V.ref ans, .ty "list", .type "list", .type "list", true, rfl, .ty "list", .base (.lst (s1 _ _ ha)), kit_ty (by decide +kernel), _, rfl, iteT ?_⟩
    exact ⟨_, rfl, t, _, _, _, rfl, rfl, SqT.of (s1 _ _ ht), (by rfl), ans, _, rfl, .inl (SqL.of (s1 _ _ ha)), rfl, _, rfl, iteF (q _ s1)⟩
  | @ans t al ans d0 x ch an ht g ha h0 hX0 ho hA =>
    refine ⟨_, rfl, V.ref t, .ty "tuple", .type "tuple", .type "tuple", true, rfl, .ty "tuple", .base (.tup ht), kit_ty (by decide +kernel), _, rfl, iteT ?_⟩
    refine ⟨_, rfl, t, _, rfl, .inr (SqT.of ht), rfl, _, rfl, iteT ?_⟩
    refine ⟨_, rfl, _, rfl, t, _, _, _, rfl, rfl, SqT.of ht, (by rfl), .inl ⟨p, _, _, D, rfl, hX, g.hal.dp, g.sm hW, fun H1 s1 => ?_⟩⟩
    rw [g.yes]
    refine ⟨_, rfl, iteT ?_⟩
    refine ⟨_, rfl, t, _, _, _, rfl, rfl, SqT.of (s1 _ _ ht), (by rfl), V.ref ans, .ty "list", .type "list", .type "list", true, rfl, .ty "list", .base (.lst (s1 _ _ ha)), kit_ty (by decide +kernel), _, rfl, iteT ?_⟩
    refine ⟨_, rfl, t, _, _, _, rfl, rfl, SqT.of (s1 _ _ ht), (by rfl), ans, _, rfl, .inl (SqL.of (s1 _ _ ha)), rfl, _, rfl, iteT ?_⟩
    refine ⟨_, rfl, t, _, _, _, rfl, rfl, SqT.of (s1 _ _ ht), (by rfl), ans, rfl, ⟨_, SqL.of (s1 _ _ ha)⟩, fun L hL => ?_⟩
    refine list_turns (xs := [V.ref d0, x]) (fun i H' => Same H1 H' ∧ H' L = some (.lst (([true, false].take i).map V.bl))) ⟨same_new hL _, upd_same⟩ (fun i H' _ h => SqL.of (h.1 _ _ (s1 _ _ ha))) ?_ ?_
    · rintro i z H' hz ⟨s3, h3⟩
      have hi : i < 2 := (List.getElem?_eq_some_iff.mp hz).1
      have s13 := s1.trans s3
      have fin : ∀ b, [true, false][i]? = some b → ∀ H4, Same H' H4 → ∃ zs, H4 L = some (.lst zs) ∧ zs.length < sizeLine ∧ (Same H1 (upd H4 L (.lst (zs ++ [V.bl b]))) ∧ (upd H4 L (.lst (zs ++ [V.bl b]))) L = some (.lst (([true, false].take (i + 1)).map V.bl))) := fun b hb H4 s4 => by
        refine ⟨_, s4 _ _ h3, ?_, same_upd (s3.trans s4) hL, by rw [upd_same, take_bl _ hb]⟩
        rw [List.length_map]
        exact Nat.lt_of_le_of_lt (List.length_take_le _ _) (Nat.lt_of_lt_of_le hi (by decide))
      obtain rfl | rfl : i = 0 ∨ i = 1 := by omega
      · obtain rfl : z = V.ref d0 := by simpa using hz.symm
        refine ⟨rfl, _, rfl, _, rfl, .inl ⟨p, d0, D, 0, an, rfl, hX0.mono s13, hW, s13 _ _ h0, ho, fun H4 s4 => ?_⟩⟩
        exact fin true rfl H4 s4
      · obtain rfl : z = x := by simpa using hz.symm
        refine ⟨rfl, _, rfl, _, rfl, .inr ⟨p, z, D, rfl, hX.mono s13, hA.mono s13, fun H4 s4 => ?_⟩⟩
        exact fin false rfl H4 s4
    · rintro H3 ⟨s3, h3⟩
      refine ⟨L, _, rfl, SqL.of h3, ?_⟩
      exact q _ (s1.trans s3)
end
end TA

set_option Elab.async false
set_option maxRecDepth 100000
set_option maxHeartbeats 4000000
namespace TA
open PySem L2 PyProof.Rows
set_option linter.unusedVariables false
/-- which hand this is -/
def handV : V → Option Nat
  | .int i => if i = 0 then some 0 else if i = 1 then some 1 else none
  | _ => none
def flatE (x : V) : Prop := x = .non ∨ (∃ b, x = .bl b) ∨ ∃ k, x = .int k
/-- what is no weaving by its parts -/
inductive OddW (H : Hp) : V → Prop
  | tup {a : Addr} {xs : List V} : H a = some (.tup xs) → OddW H (.ref a)
  | non : OddW H .non
  | str {s : Str} : OddW H (.str s)
  | lst {a : Addr} {xs : List V} : H a = some (.lst xs) → xs.length ≤ 20 → (∀ x ∈ xs, flatE x) → (∃ x ∈ xs, handV x = none) → OddW H (.ref a)
theorem OddW.mono {H H' : Hp} (s : Same H H') {v : V} (h : OddW H v) : OddW H' v := by
  cases h with
  | tup h => exact .tup (s _ _ h)
  | non => exact .non
  | str => exact .str
  | lst h a b c => exact .lst (s _ _ h) a b c
def flatD : V → PyData
  | .int i => .int i
  | .bl b => .bool b
  | _ => .none
theorem flat_dp {K : PySem.W.Frag} {H : Hp} {x : V} (h : flatE x) : Dp K H x (flatD x) := by
  rcases h with rfl | ⟨b, rfl⟩ | ⟨k, rfl⟩
  · exact .non
  · exact .bl b
  · exact .int k
theorem flat_hand {x : V} (h : flatE x) : within (flatD x) 0 1 = (handV x).isSome := by
  rcases h with rfl | ⟨b, rfl⟩ | ⟨k, rfl⟩
  · rfl
  · rfl
  · rw [show within (flatD (V.int k)) 0 1 = decide (0 ≤ k ∧ k ≤ 1) from rfl]
    show _ = (if k = 0 then some 0 else if k = 1 then some 1 else none : Option Nat).isSome
    by_cases c0 : k = 0
    · subst c0; rfl
    · by_cases c1 : k = 1
      · subst c1; rfl
      · rw [if_neg c0, if_neg c1]
        rw [decide_eq_false (by omega)]; rfl
def spBWN : Sp := fun vs H Q _ => ∃ v : V, vs = [v] ∧ OddW H v ∧ ∀ H', Same H H' → Q (.bl false) H'
def spBWX : Sp := fun vs H Q E => spBW vs H Q E ∨ spBWN vs H Q E
structure RaiseC (K : PySem.W.Frag) (mg : Str → Option Value) (n : Str) (C : Addr) : Prop where
  m : mg n = some (.ref C)
  x : PySem.W.excIn K C [.type "ValueError", .type "Exception", .type "BaseException", .type "object"] "ValueError.__new__" = true
  k : PySem.W.keepIn K (.ref C) = true
  b : PySem.W.subIn K (.ref C) (.type "BaseException") = some true
  t : PySem.W.typeIn K (.ref C) = some (.type "type")
def oI : Option Int → V
  | none => .non
  | some i => .int i
/-- what a hand tells alone -/
def chO (ch : Nat → List Int) (h : Nat) (p : IP) : Int := (ch h).getD (sel h p) 0
/-- what a hand tells behind a weaving with a box -/
def tellO (ch : Nat → List Int) (an : Nat → IP × List (Int × Int) → Int) (ws : List Int) (e : IP × List (Int × Int)) (h : Nat) : Option Int := if win ws = some h then some (chO ch h e.1) else if ws.count ((h : Nat) : Int) = 3 then some (an h e) else none
/-- something is handed that isn't as it should be -/
def spTellN1 (K : PySem.W.Frag) (C cP : Addr) : Sp := fun vs H _ E => ∃ (p : Addr) (v vi vw : V) (T : TD), vs = [.ref p, v, vi, vw] ∧ WF T ∧ TaskR C H p T ∧ OddF K C H p T v ∧ ∀ H', Same H H' → E (.ref cP) none H'
def OddI (K : PySem.W.Frag) (H : Hp) (T : TD) (v : V) : Prop := (∃ d, Dp K H v d ∧ inB (T.al 0).length (T.al 1).length d = false) ∨ ∃ xy, TpAt H v xy ∧ hasK T.bo xy = false
theorem OddI.mono {K : PySem.W.Frag} {H H' : Hp} (s : Same H H') {T : TD} {v : V} (h : OddI K H T v) : OddI K H' T v := h.imp (fun ⟨d, h1, h2⟩ => ⟨d, dp_mono s _ _ h1, h2⟩) fun ⟨xy, h1, h2⟩ => ⟨xy, h1.mono (.same s), h2⟩
def spTellN2 (K : PySem.W.Frag) (C cI : Addr) : Sp := fun vs H _ E => ∃ (p t : Addr) (T : TD) (ch : Nat → List Int) (an : Nat → IP × List (Int × Int) → Int) (al ans d0 d1 : Addr) (vi vw : V), vs = [.ref p, .ref t, vi, vw] ∧ WF T ∧ BxF C H p t T ch an al ans d0 d1 ∧ OddI K H T vi ∧ ∀ H', Same H H' → E (.ref cI) none H'
def spTellN3 (C cW : Addr) : Sp := fun vs H _ E => ∃ (p t : Addr) (T : TD) (ch : Nat → List Int) (an : Nat → IP × List (Int × Int) → Int) (al ans d0 d1 tt : Addr) (vw : V) (e : IP × List (Int × Int)), vs = [.ref p, .ref t, .ref tt, vw] ∧ WF T ∧ BxF C H p t T ch an al ans d0 d1 ∧ e ∈ T.bo ∧ TpAt H (.ref tt) (iI e.1) ∧ OddW H vw ∧ ∀ H', Same H H' → E (.ref cW) none H'
def spTellG (C cW : Addr) : Sp := fun vs H Q E => ∃ (p t : Addr) (T : TD) (ch : Nat → List Int) (an : Nat → IP × List (Int × Int) → Int) (al ans d0 d1 tt lw : Addr) (ws : List Int) (e : IP × List (Int × Int)), vs = [.ref p, .ref t, .ref tt, .ref lw] ∧ WF T ∧ BxF C H p t T ch an al ans d0 d1 ∧ e ∈ T.bo ∧ TpAt H (.ref tt) (iI e.1) ∧
  H lw = some (.lst (ws.map V.int)) ∧ HW ws ∧ ws.length ≤ 20 ∧ (wbB ws = false → ∀ H', Same H H' → E (.ref cW) none H') ∧
  (wbB ws = true → ∀ (r : Addr) (H' : Hp), Same H H' → H' r = some (.tup [oI (tellO ch an ws e 0), oI (tellO ch an ws e 1)]) → Q (.ref r) H')
def spTell (K : PySem.W.Frag) (C cP cI cW : Addr) : Sp := fun vs H Q E => spTellN1 K C cP vs H Q E ∨ spTellN2 K C cI vs H Q E ∨ spTellN3 C cW vs H Q E ∨ spTellG C cW vs H Q E
theorem anKV_at {bo : BD} (s : (bo.map (·.1)).Pairwise ltN) (an : Nat → IP × List (Int × Int) → Int) (h : Nat) : ∀ e ∈ bo, valV (anKV an h bo) (kI e.1) = some (.int (an h e)) := by
  induction bo with
  | nil => intro e m; cases m
  | cons b bo ih =>
    intro e m
    rw [List.map_cons, List.pairwise_cons] at s
    show valV ((kI b.1, V.int (an h b)) :: anKV an h bo) (kI e.1) = _
    rcases List.mem_cons.mp m with rfl | m
    · exact valV_pos rfl
    · rw [valV_neg (fun c => ltN_ne (s.1 _ (List.mem_map.mpr ⟨e, m, rfl⟩)) (kI_inj c))]
      exact ih s.2 e m
theorem iI_at {h : Nat} (hh : h < 2) (p : IP) : ([V.int (iI p).1, V.int (iI p).2] : List V)[h]? = some (.int ((sel h p : Nat) : Int)) := by
  obtain rfl | rfl : h = 0 ∨ h = 1 := by omega
  · rfl
  · rfl
section
variable {P : Program} {w : World} {K : PySem.W.Frag} {mg : Str → Option Value} {base : Heap}
theorem ok_bwX {f g1 g2 : Addr} {fd d1 d2 : FuncData} (F : Fun K "is_boxed_weaving" "is_boxed_weaving" s_is_boxed_weaving f fd) (T : Txt K mg) (T2 : Txt2 K mg) (U : TxtH K mg) (B : TxtB K mg) (WH : Def P w K mg base "is_hand" ["thing"] 3 (spHandG K) g1 d1)
    (Wn : Def P w K mg base "winner" ["weaving"] 1 spWin g2 d2) : FnOk P w K mg base CX0 4 f fd ["thing"] spBWX := by
  refine fnOr (ok_bw F T T2 U B WH Wn) (F.ok sc_bw (fun vs H Q E h => ?_) (fun cdv A outer s H vs Q E hr h => ?_))
  · obtain ⟨v, rfl, _⟩ := h
    rfl
  obtain ⟨v, rfl, hO, q⟩ := h
  have nd := sc_bw.nd
  obtain ⟨t2, m2⟩ := B.two
  obtain ⟨t3, m3⟩ := B.three
  obtain ⟨hT, mH, hH⟩ := U.hands
  refine ⟨_, (pss_cons (ps_if (PW.pt (pw_or (pt_not (pt_val (pe_callB call_isi (by rfl) T.isi boot_isinstance (pa_cons (pv 0) (pa_cons (pe_bltn (v := .ty "list") (by rfl) T.list boot_list rfl) pa_nil))))) (pw_or1 (pt_not (pt_val (pe_callB (cr_all rfl) (by rfl) T.all (by decide +kernel) (pa_cons (pe_lc (own := [("hand", 2)]) (g := (gName 2)) (tt := tYes) (te := (tCall (spHandG K) [] E0 (tCons (tVar 2) tNil))) rfl nd (pi_list (pv 0)) (blkOk_by (N := nBW) (sc := defScope s_is_boxed_weaving) (by decide +kernel)) (fun _ _ _ _ _ => (by exact (pg_name (i := 2) nd rfl (Or.inl rfl)))) (fun _ _ _ _ _ => pts_nil) (fun _ _ _ _ _ => (by exact (pe_call WH.G (hr.mono (by decide)) rfl WH.m WH.k WH.b .nil pass0 (pa_cons (pv 2) pa_nil))))) pa_nil)))))))
      (pss_one (ps_ret pe_bl))
      pss_nil)
    (pss_cons (ps_if (pt_cmpR op_gt (pe_callB (cr_max rfl) (by rfl) T2.max (by decide +kernel) (pa_cons (pe_lc (own := [("hand", 2)]) (g := (gName 2)) (tt := tYes) (te := (tBM K "list" (rCntI K) (tVar 0) (tCons (tVar 2) tNil))) rfl nd (pi_tup (pe_glob (v := .ref hT) rfl mH rfl)) (blkOk_by (N := nBW) (sc := defScope s_is_boxed_weaving) (by decide +kernel)) (fun _ _ _ _ _ => (by exact (pg_name (i := 2) nd rfl (Or.inl rfl)))) (fun _ _ _ _ _ => pts_nil) (fun _ _ _ _ _ => (by exact (pe_bm PySem.F.plainAttrs_list PySem.F.slot_list_count PySem.F.type_list_count mt_lcount (pv 0) (pa_cons (pv 2) pa_nil))))) pa_nil)) (pe_glob (v := .int 3) rfl m3 ⟨_, rfl⟩) (nomark _))
      (pss_one (ps_ret pe_bl))
      pss_nil)
    (pss_cons (ps_set (i := 1) nd rfl (Or.inl rfl) (pe_call Wn.G (hr.mono (by decide)) rfl Wn.m Wn.k Wn.b .nil pass0 (pa_cons (pv 0) pa_nil)))
    (pss_one (ps_ret (pe_or (pe_cmpR op_isN (pv 1) pe_non (nomark _)) (pe_one (pe_cmpR op_eq (pe_bm PySem.F.plainAttrs_list PySem.F.slot_list_count PySem.F.type_list_count mt_lcount (pv 0) (pa_cons (pv 1) pa_nil)) (pe_glob (v := .int 2) rfl m2 ⟨_, rfl⟩) (nomark _))))))))), ?_⟩
  cases hO with
  | @tup a xs ha => exact ⟨_, rfl, V.ref a, .ty "list", .type "tuple", .type "list", false, rfl, .ty "list", .base (.tup ha), kit_ty (by decide +kernel), _, rfl, iteT (q _ (Same.refl H))⟩
  | non => exact ⟨_, rfl, V.non, .ty "list", .type "NoneType", .type "list", false, rfl, .ty "list", dp_ty (d := .none) .non, kit_ty (by decide +kernel), _, rfl, iteT (q _ (Same.refl H))⟩
  | @str s => exact ⟨_, rfl, V.str s, .ty "list", .type "str", .type "list", false, rfl, .ty "list", dp_ty (d := .str s) (.str s), kit_ty (by decide +kernel), _, rfl, iteT (q _ (Same.refl H))⟩
  | @lst l xs hl hz hf hb =>
    refine ⟨_, rfl, V.ref l, .ty "list", .type "list", .type "list", true, rfl, .ty "list", .base (.lst hl), kit_ty (by decide +kernel), _, rfl, iteF ?_⟩
    refine ⟨_, rfl, l, rfl, ⟨_, SqL.of hl⟩, fun L hL => ?_⟩
    refine list_turns (xs := xs) (fun i H' => Same H H' ∧ H' L = some (.lst (((xs.map fun x => (handV x).isSome).take i).map V.bl))) ⟨same_new hL _, upd_same⟩ (fun i H' _ h => h.1.seq (SqL.of hl)) ?_ ?_
    · rintro i x H' hx ⟨s3, h3⟩
      have hx' := hf x (List.mem_of_getElem? hx)
      have hi : i < xs.length := (List.getElem?_eq_some_iff.mp hx).1
      refine ⟨rfl, _, rfl, _, _, rfl, flat_dp hx', ?_⟩
      rw [flat_hand hx']
      refine ⟨_, h3, ?_, same_upd s3 hL, by rw [upd_same, take_bl _ (by rw [List.getElem?_map, hx]; rfl)]⟩
      rw [List.length_map]
      exact Nat.lt_of_le_of_lt (List.length_take_le _ _) (Nat.lt_of_lt_of_le (show i < 100 by omega) (by decide))
    · rintro H3 ⟨s3, h3⟩
      rw [← List.length_map (fun x => (handV x).isSome), List.take_length] at h3
      refine ⟨L, _, rfl, SqL.of h3, ?_⟩
      have e0 : ((xs.map fun x => (handV x).isSome).all id) = false := by
        obtain ⟨x, hx, hn⟩ := hb
        rw [List.all_eq_false]
        refine ⟨_, List.mem_map.mpr ⟨x, hx, rfl⟩, ?_⟩
        rw [hn]
        exact Bool.false_ne_true
      rw [e0]
      exact ⟨_, rfl, iteT (q _ s3)⟩
abbrev nTell : List Str := ["task", "boxed", "inputs", "weaving", "alone", "answers", "won", "told", "hand"]
theorem sc_tell : FnScope nTell ["task", "boxed", "inputs", "weaving"] (defScope s_tell_boxed) := ⟨rfl, rfl, rfl, by decide +kernel, rfl, by decide +kernel, by decide +kernel⟩
theorem oN_eq {o : Option Nat} {h : Nat} : (V.int ((h : Nat) : Int) = oN o) ↔ o = some h := by
  cases o with
  | none => exact ⟨fun e => (by cases e), fun e => (by cases e)⟩
  | some k =>
    constructor
    · intro e
      injection e with e
      have : h = k := by omega
      rw [this]
    · intro e
      cases e
      rfl
theorem ixN_two {h : Nat} (hh : h < 2) : ixN 2 (h : Int) = some h := by
  obtain rfl | rfl : h = 0 ∨ h = 1 := by omega
  · rfl
  · rfl
theorem ok_tell {f g1 g2 g3 g4 C cP cI cW : Addr} {fd d1 d2 d3 d4 : FuncData} (F : Fun K "tell_boxed" "tell_boxed" s_tell_boxed f fd) (T : Txt K mg) (U : TxtH K mg) (B3 : TxtB K mg) (R1 : RaiseC K mg "NoProtocol" cP) (R2 : RaiseC K mg "NoInputs" cI) (R3 : RaiseC K mg "NoWeaving" cW) (WIB : Def P w K mg base "is_boxed" ["task", "thing"] 6 (spIsBoxedX K C) g1 d1)
    (WP : Def P w K mg base "is_pair" ["task", "thing"] 4 (spPairX K C) g2 d2) (WBW : Def P w K mg base "is_boxed_weaving" ["thing"] 4 spBWX g3 d3) (Wn : Def P w K mg base "winner" ["weaving"] 1 spWin g4 d4) : FnOk P w K mg base (L2.CX P w) 7 f fd ["task", "boxed", "inputs", "weaving"] (spTell K C cP cI cW) := by
  refine F.okX sc_tell (fun vs H Q E h => ?_) (fun cdv A outer s H vs Q E hr h => ?_)
  · rcases h with ⟨p, v, vi, vw, D, rfl, _⟩ | ⟨p, t, D, ch, an, al, ans, e0, e1, vi, vw, rfl, _⟩ | ⟨p, t, D, ch, an, al, ans, e0, e1, tt, vw, e, rfl, _⟩ | ⟨p, t, D, ch, an, al, ans, e0, e1, tt, lw, ws, e, rfl, _⟩
    · rfl
    · rfl
    · rfl
    · rfl
  have nd := sc_tell.nd
  have hu := hu_of hr
  obtain ⟨t3, m3⟩ := B3.three
  obtain ⟨hT, mH, hH⟩ := U.hands
  refine ⟨_, (pss_cons (ps_if (pt_not (pt_val (pe_call WIB.G (hr.mono (by decide)) rfl WIB.m WIB.k WIB.b .nil pass0 (pa_cons (pv 0) (pa_cons (pv 1) pa_nil)))))
      (pss_one (ps_raise rfl (takes_of rfl rfl rfl rfl) (pmk_own PySem.F.excBase_ValueError R1.x R1.m R1.k (raises_own R1.b R1.t) (by exact rfl))))
      pss_nil)
    (pss_cons (ps_if (pt_not (pt_val (pe_call WP.G (hr.mono (by decide)) rfl WP.m WP.k WP.b .nil pass0 (pa_cons (pv 0) (pa_cons (pv 2) pa_nil)))))
      (pss_one (ps_raise rfl (takes_of rfl rfl rfl rfl) (pmk_own PySem.F.excBase_ValueError R2.x R2.m R2.k (raises_own R2.b R2.t) (by exact rfl))))
      pss_nil)
    (pss_cons (ps_if (pt_not (pt_val (pe_call WBW.G (hr.mono (by decide)) rfl WBW.m WBW.k WBW.b .nil pass0 (pa_cons (pv 3) pa_nil))))
      (pss_one (ps_raise rfl (takes_of rfl rfl rfl rfl) (pmk_own PySem.F.excBase_ValueError R3.x R3.m R3.k (raises_own R3.b R3.t) (by exact rfl))))
      pss_nil)
    (PSs.nox (pss_cons (ps_asg (pv 1) (pg_tup (by rfl) (pgs_cons (pg_name (i := 4) nd rfl (Or.inl rfl)) (pgs_cons (pg_name (i := 5) nd rfl (Or.inl rfl)) pgs_nil))))
    (pss_cons (ps_set (i := 6) nd rfl (Or.inl rfl) (pe_call Wn.G (hr.mono (by decide)) rfl Wn.m Wn.k Wn.b .nil pass0 (pa_cons (pv 3) pa_nil)))
    (pss_cons (ps_set (i := 7) nd rfl (Or.inl rfl) (pe_lst (pa_cons pe_non (pa_cons pe_non pa_nil))))
    (pss_cons (ps_for PassesOwn.never (by rfl) (pi_tup (pe_glob (v := .ref hT) rfl mH rfl)) (pg_name (i := 8) nd rfl (Or.inl rfl))
      (pss_one (ps_if (pt_cmpR op_eq (pv 8) (pv 6) (nomark _))
      (pss_one (ps_asg (pe_ix ix_list (pe_ix ix_list (pv 4) (pv 8) (fun _ _ => rfl)) (pe_ix ix_tup (pv 2) (pv 8) (fun _ _ => rfl)) (fun _ _ => rfl)) (pg_sub (pv 7) (pv 8) set_list)))
      (pss_one (ps_if (pt_cmpR op_eq (pe_bm PySem.F.plainAttrs_list PySem.F.slot_list_count PySem.F.type_list_count mt_lcount (pv 3) (pa_cons (pv 8) pa_nil)) (pe_glob (v := .int 3) rfl m3 ⟨_, rfl⟩) (nomark _))
      (pss_one (ps_asg (pe_dget hu (pe_ix ix_list (pv 5) (pv 8) (fun _ _ => rfl)) (pv 2) (fun _ _ => rfl)) (pg_sub (pv 7) (pv 8) set_list)))
      pss_nil)))))
    (pss_one (ps_ret (pe_callTy call_tuple_of (by rfl) T.tuple boot_tuple (pa_cons (pv 7) pa_nil)))))))))))), ?_⟩
  rcases h with ⟨p, v, vi, vw, D, rfl, hW, hX, hO, q⟩ | ⟨p, t, D, ch, an, al, ans, e0, e1, vi, vw, rfl, hW, B, hI, q⟩ | ⟨p, t, D, ch, an, al, ans, e0, e1, tt, vw, e, rfl, hW, B, he, htt, hO, q⟩ | ⟨p, t, D, ch, an, al, ans, e0, e1, tt, lw, ws, e, rfl, hW, B, he, htt, hlw, hw, hn, q1, q2⟩
  · exact ⟨_, rfl, _, rfl, .inr ⟨p, v, D, rfl, hW, hX, hO, fun H1 s1 => ⟨false, rfl, iteT (q _ s1)⟩⟩⟩
  · refine ⟨_, rfl, _, rfl, .inl ⟨p, t, D, ch, an, al, ans, e0, e1, rfl, hW, B, fun H1 s1 => ⟨true, rfl, iteF ?_⟩⟩⟩
    have B1 := B.mono s1
    rcases hI.mono s1 with ⟨d, h1, h2⟩ | ⟨xy, h1, h2⟩
    · exact ⟨_, rfl, _, rfl, .inr ⟨p, vi, D, d, rfl, B1.x0.task, h1, h2, fun H2 s2 => ⟨false, rfl, iteT (q _ (s1.trans s2))⟩⟩⟩
    · refine ⟨_, rfl, _, rfl, .inl ⟨p, vi, D, xy, rfl, B1.x0.task, hW, h1, fun H2 s2 => ?_⟩⟩
      rw [h2]
      exact ⟨false, rfl, iteT (q _ (s1.trans s2))⟩
  · refine ⟨_, rfl, _, rfl, .inl ⟨p, t, D, ch, an, al, ans, e0, e1, rfl, hW, B, fun H1 s1 => ⟨true, rfl, iteF ?_⟩⟩⟩
    have B1 := B.mono s1
    refine ⟨_, rfl, _, rfl, .inl ⟨p, _, D, iI e.1, rfl, B1.x0.task, hW, htt.mono (.same s1), fun H2 s2 => ?_⟩⟩
    rw [hasK_yes he]
    have s12 := s1.trans s2
    exact ⟨true, rfl, iteF ⟨_, rfl, .inr ⟨vw, rfl, hO.mono s12, fun H3 s3 => ⟨false, rfl, iteT (q _ (s12.trans s3))⟩⟩⟩⟩
  · skip
    refine ⟨_, rfl, _, rfl, .inl ⟨p, t, D, ch, an, al, ans, e0, e1, rfl, hW, B, fun H1 s1 => ⟨true, rfl, iteF ?_⟩⟩⟩
    have B1 := B.mono s1
    refine ⟨_, rfl, _, rfl, .inl ⟨p, _, D, iI e.1, rfl, B1.x0.task, hW, htt.mono (.same s1), fun H2 s2 => ?_⟩⟩
    rw [hasK_yes he]
    have s12 := s1.trans s2
    refine ⟨true, rfl, iteF ⟨_, rfl, .inl ⟨lw, ws, rfl, s12 _ _ hlw, hw, hn, fun H3 s3 => ?_⟩⟩⟩
    have s13 := s12.trans s3
    cases cw : wbB ws with
    | false => exact ⟨false, rfl, iteT (q1 cw _ s13)⟩
    | true =>
      have q := q2 cw
      refine ⟨true, rfl, iteF ?_⟩
      have B3 := B.mono s13
      refine ⟨_, rfl, t, _, rfl, SqT.of B3.ht, rfl, _, _, rfl, _, _, rfl, rfl, ?_⟩
      refine ⟨_, rfl, lw, ws, rfl, s13 _ _ hlw, hw, fun H4 s4 => ?_⟩
      have s14 := s13.trans s4
      refine ⟨(by show 2 ≤ sizeLine; decide), fun S hS => ?_⟩
      have s5 := same_new hS (.lst [V.non, V.non])
      refine ⟨hT, rfl, ⟨_, hH _⟩, for_tup (xs := [V.int 0, V.int 1]) (fun i σ H' => ∃ g, σ = [some (.ref p), some (.ref t), some (.ref tt), some (.ref lw), some (.ref al), some (.ref ans), some (oN (win ws)), some (.ref S), g] ∧ Same H H' ∧ H' S = some (.lst [if 0 < i then oI (tellO ch an ws e 0) else .non, if 1 < i then oI (tellO ch an ws e 1) else .non])) ⟨_, rfl, s14.trans s5, upd_same⟩ (fun i σ H' _ _ => hH H') ?_ ?_⟩
      · rintro i z σ H' hz ⟨g, rfl, s6, hSS⟩
        obtain ⟨hi, rfl⟩ := hand_at hz
        have B6 := B.mono s6
        have hSn : H S = none := none_of_same s14 hS
        have fin : ∀ v, v = oI (tellO ch an ws e i) → (upd H' S (.lst (([if 0 < i then oI (tellO ch an ws e 0) else .non, if 1 < i then oI (tellO ch an ws e 1) else .non] : List V).set i v))) S = some (.lst [if 0 < i + 1 then oI (tellO ch an ws e 0) else .non, if 1 < i + 1 then oI (tellO ch an ws e 1) else .non]) := by
          rintro v rfl
          rw [upd_same]
          obtain rfl | rfl : i = 0 ∨ i = 1 := by omega
          · rfl
          · rfl
        obtain ⟨ttt, ett, htt'⟩ := htt.mono (.same s6)
        obtain rfl : tt = ttt := by injection ett
        refine ⟨_, rfl, _, rfl, (by cases win ws <;> rfl), _, rfl, ?_⟩
        by_cases c : win ws = some i
        · refine iteT' (decide_eq_true (oN_eq.mpr c)) ?_
          obtain ⟨ta, xs, ea, hta, ar⟩ := B6.hal
          obtain rfl : al = ta := by injection ea
          obtain ⟨x, hx, rr, rfl, hrow⟩ := ar.at (i := i) (y := ch i) (by
            obtain rfl | rfl : i = 0 ∨ i = 1 := by omega
            · rfl
            · rfl)
          obtain ⟨rg0, rg1⟩ := hW.rng e he
          have hsl : sel i e.1 < (ch i).length := by
            rw [B.len i hi]
            obtain rfl | rfl : i = 0 ∨ i = 1 := by omega
            · exact rg0
            · exact rg1
          have gw : ((ch i).map V.int)[sel i e.1]? = some (.int (chO ch i e.1)) := by
            unfold chO
            rw [List.getElem?_map, List.getD_eq_getElem?_getD, List.getElem?_eq_getElem hsl]
            rfl
          refine ⟨_, rfl, _, rfl, al, _, _, _, rfl, rfl, SqL.of hta, atI_nat hx, _, rfl, _, rfl, tt, _, _, _, rfl, rfl, SqT.of htt', atI_nat (iI_at hi e.1), rr, _, _, _, rfl, rfl, SqL.of hrow, atI_nat gw, ?_⟩
          refine ⟨_, rfl, _, rfl, S, _, _, i, rfl, rfl, hSS, (ixN_two hi), ?_⟩
          refine ⟨_, rfl, same_upd s6 hSn, fin _ ?_⟩
          unfold tellO
          rw [if_pos c]
          rfl
        · refine iteF' (decide_eq_false fun h => c (oN_eq.mp h)) ?_
          refine ⟨_, rfl, .inl ⟨rfl, _, SqL.of (s6 _ _ hlw)⟩, _, rfl, lw, ws, _, rfl, rfl, SqL.of (s6 _ _ hlw), rfl, _, rfl, ?_⟩
          by_cases c3 : ws.count ((i : Nat) : Int) = 3
          · refine iteT' (decide_eq_true (by rw [c3]; rfl)) ?_
            obtain ⟨d, hd1, hd2⟩ : ∃ d, ([V.ref e0, V.ref e1] : List V)[i]? = some (.ref d) ∧ H' d = some (.dT (anKV an i D.bo)) := by
              obtain rfl | rfl : i = 0 ∨ i = 1 := by omega
              · exact ⟨e0, rfl, B6.h0⟩
              · exact ⟨e1, rfl, B6.h1⟩
            have dg : DGet H' d (.ref tt) (some (.int (an i e))) := (anKV_at hW.srt an i e he) ▸ DGet.t (k := kI e.1) hd2 htt'
            refine ⟨_, rfl, _, rfl, ans, _, _, _, rfl, rfl, SqL.of B6.hans, atI_nat hd1, _, rfl, d, _, rfl, dg, ?_⟩
            refine ⟨_, rfl, _, rfl, S, _, _, i, rfl, rfl, hSS, (ixN_two hi), ?_⟩
            refine ⟨_, rfl, same_upd s6 hSn, fin _ ?_⟩
            unfold tellO
            rw [if_neg c, if_pos c3]
            rfl
          · refine iteF' (decide_eq_false fun h => c3 (by injection h with h; omega)) ?_
            refine ⟨_, rfl, s6, ?_⟩
            have e0 : tellO ch an ws e i = none := by
              unfold tellO
              rw [if_neg c, if_neg c3]
            rw [hSS]
            obtain rfl | rfl : i = 0 ∨ i = 1 := by omega
            · rw [e0]; rfl
            · rw [e0]; rfl
      · rintro σ H' ⟨g, rfl, s6, hSS⟩
        refine ⟨_, rfl, S, _, rfl, .inl ⟨SqL.of hSS, fun r hr => ?_⟩⟩
        exact q r _ (s6.trans (same_new hr _)) upd_same
end
end TA

set_option Elab.async false
set_option maxRecDepth 100000
set_option maxHeartbeats 4000000
namespace TA
open PySem L2 PyProof.Rows
set_option linter.unusedVariables false
theorem iteJ {c : Bool} {A R : Prop} (r : R) (h : c = true → R → A) : if c = true then A else R := by
  cases c with
  | true => exact iteT (h rfl r)
  | false => exact iteF r
/-- the law's own steps; none where they are no weaving -/
def ownG {α : Type} (t a : Nat → α) : List V → Nat → Nat → Option Nat → Option α → Option α → Option (Option α × Option α)
  | [], _, _, _, f0, f1 => some (f0, f1)
  | x :: r, d0, d1, wn, f0, f1 =>
    if handV x = some 0 then (if d0 = 1 ∧ wn = none then ownG t a r (d0 + 1) d1 (some 0) (some (t 0)) f1 else if 2 ≤ d0 ∧ (wn = some 0 ∨ 3 ≤ d0) then none else if d0 = 2 then ownG t a r (d0 + 1) d1 wn (some (a 0)) f1 else ownG t a r (d0 + 1) d1 wn f0 f1)
    else if handV x = some 1 then (if d1 = 1 ∧ wn = none then ownG t a r d0 (d1 + 1) (some 1) f0 (some (t 1)) else if 2 ≤ d1 ∧ (wn = some 1 ∨ 3 ≤ d1) then none else if d1 = 2 then ownG t a r d0 (d1 + 1) wn f0 (some (a 1)) else ownG t a r d0 (d1 + 1) wn f0 f1)
    else none
def ownO {α : Type} (t a : Nat → α) (xs : List V) : Option (Option α × Option α) := ownG t a xs 0 0 none none none
theorem ownG_no {α : Type} {t a : Nat → α} : ∀ {xs : List V} {d0 d1 : Nat} {wn : Option Nat} {f0 f1 : Option α}, (∃ x ∈ xs, handV x = none) → ownG t a xs d0 d1 wn f0 f1 = none
  | [], _, _, _, _, _, ⟨x, h, _⟩ => nomatch h
  | x :: r, d0, d1, wn, f0, f1, h => by
    by_cases c : handV x = none
    · unfold ownG
      rw [if_neg (by rw [c]; exact fun z => nomatch z), if_neg (by rw [c]; exact fun z => nomatch z)]
    · have h : ∃ x ∈ r, handV x = none := by
        obtain ⟨y, hy, e⟩ := h
        rcases List.mem_cons.mp hy with rfl | hy
        · exact absurd e c
        · exact ⟨y, hy, e⟩
      unfold ownG
      repeat' split
      all_goals first | rfl | exact ownG_no h
def mapR {α β : Type} (g : α → β) (q : Option α × Option α) : Option β × Option β := (q.1.map g, q.2.map g)
theorem ownG_map {α β : Type} (g : α → β) (t a : Nat → α) : ∀ (xs : List V) (d0 d1 : Nat) (wn : Option Nat) (f0 f1 : Option α), ownG (fun h => g (t h)) (fun h => g (a h)) xs d0 d1 wn (f0.map g) (f1.map g) = (ownG t a xs d0 d1 wn f0 f1).map (mapR g)
  | [], _, _, _, _, _ => rfl
  | x :: r, d0, d1, wn, f0, f1 => by
    unfold ownG
    by_cases c : handV x = some 0
    · rw [if_pos c, if_pos c]
      by_cases c1 : d0 = 1 ∧ wn = none
      · rw [if_pos c1, if_pos c1]; exact ownG_map g t a r _ _ _ (some (t 0)) f1
      rw [if_neg c1, if_neg c1]
      by_cases c2 : 2 ≤ d0 ∧ (wn = some 0 ∨ 3 ≤ d0)
      · rw [if_pos c2, if_pos c2]; rfl
      rw [if_neg c2, if_neg c2]
      by_cases c3 : d0 = 2
      · rw [if_pos c3, if_pos c3]; exact ownG_map g t a r _ _ _ (some (a 0)) f1
      · rw [if_neg c3, if_neg c3]; exact ownG_map g t a r _ _ _ f0 f1
    · rw [if_neg c, if_neg c]
      by_cases c : handV x = some 1
      case neg => rw [if_neg c, if_neg c]; rfl
      rw [if_pos c, if_pos c]
      by_cases c1 : d1 = 1 ∧ wn = none
      · rw [if_pos c1, if_pos c1]; exact ownG_map g t a r _ _ _ f0 (some (t 1))
      rw [if_neg c1, if_neg c1]
      by_cases c2 : 2 ≤ d1 ∧ (wn = some 1 ∨ 3 ≤ d1)
      · rw [if_pos c2, if_pos c2]; rfl
      rw [if_neg c2, if_neg c2]
      by_cases c3 : d1 = 2
      · rw [if_pos c3, if_pos c3]; exact ownG_map g t a r _ _ _ f0 (some (a 1))
      · rw [if_neg c3, if_neg c3]; exact ownG_map g t a r _ _ _ f0 f1
def tellG {α : Type} (t a : Nat → α) (ws : List Int) (h : Nat) : Option α := if win ws = some h then some (t h) else if ws.count ((h : Nat) : Int) = 3 then some (a h) else none
theorem tellG_map {α β : Type} (g : α → β) (t a : Nat → α) (ws : List Int) (h : Nat) : tellG (fun h => g (t h)) (fun h => g (a h)) ws h = (tellG t a ws h).map g := by
  unfold tellG
  by_cases c : win ws = some h
  · rw [if_pos c, if_pos c]; rfl
  · rw [if_neg c, if_neg c]
    by_cases c : ws.count ((h : Nat) : Int) = 3
    · rw [if_pos c, if_pos c]; rfl
    · rw [if_neg c, if_neg c]; rfl
abbrev tB : Nat → Bool × Nat := fun h => (true, h)
abbrev aB : Nat → Bool × Nat := fun h => (false, h)
/-- the weavings that are handed in as such -/
def allW : List (List Int) := ((List.range 6).map fun k => ([0, 0, 1, 1, 1] : List Int).take k) ++ ((List.range 6).map fun k => ([1, 0, 1, 0, 0] : List Int).take k) ++ [[0, 0, 0], [1, 0, 1, 1], [0, 1, 0, 1, 1, 1]]
theorem all_own' : (allW.all fun ws => decide (ownO tB aB (ws.map V.int) = if wbB ws = true then some (tellG tB aB ws 0, tellG tB aB ws 1) else none)) = true := by decide +kernel
theorem all_own (ws : List Int) (h : ws ∈ allW) : ownO tB aB (ws.map V.int) = if wbB ws = true then some (tellG tB aB ws 0, tellG tB aB ws 1) else none := of_decide_eq_true (List.all_eq_true.mp all_own' ws h)
/-- the law's own steps and the program's agree -/
theorem own_tell {α : Type} (t a : Nat → α) {ws : List Int} (h : ws ∈ allW) : ownO t a (ws.map V.int) = if wbB ws = true then some (tellG t a ws 0, tellG t a ws 1) else none := by
  let g : Bool × Nat → α := fun x => if x.1 = true then t x.2 else a x.2
  have e1 : ownO t a (ws.map V.int) = (ownO tB aB (ws.map V.int)).map (mapR g) := ownG_map g tB aB _ 0 0 none none none
  rw [e1, all_own ws h]
  by_cases c : wbB ws = true
  · rw [if_pos c, if_pos c]
    show some (mapR g _) = _
    unfold mapR
    have e0 := tellG_map g tB aB ws 0
    have e1 := tellG_map g tB aB ws 1
    rw [← e0, ← e1]
    rfl
  · rw [if_neg c, if_neg c]
    rfl
theorem allW_ok : ∀ ws ∈ allW, (∀ x ∈ ws, x = 0 ∨ x = 1) ∧ ws.length ≤ 6 := by decide +kernel
theorem hand_flat : ∀ {x : V} {h : Nat}, handV x = some h → (h = 0 ∧ x = .int 0) ∨ (h = 1 ∧ x = .int 1)
  | .int i, h, e => by
    have e : (if i = 0 then some 0 else if i = 1 then some 1 else none : Option Nat) = some h := e
    by_cases c0 : i = 0
    · rw [if_pos c0] at e
      cases e
      exact .inl ⟨rfl, by rw [c0]⟩
    · rw [if_neg c0] at e
      by_cases c1 : i = 1
      · rw [if_pos c1] at e
        cases e
        exact .inr ⟨rfl, by rw [c1]⟩
      · rw [if_neg c1] at e
        cases e
  | .non, _, e | .bl _, _, e | .str _, _, e => nomatch e
/-- the law's own steps over what is no list, or over a list of flat things -/
def spOwn (C : Addr) : Sp := fun vs H Q _ => ∃ (p t : Addr) (T : TD) (ch : Nat → List Int) (an : Nat → IP × List (Int × Int) → Int) (al ans d0 d1 tt : Addr) (vw : V) (e : IP × List (Int × Int)), vs = [.ref al, .ref ans, .ref tt, vw] ∧ WF T ∧ BxF C H p t T ch an al ans d0 d1 ∧ e ∈ T.bo ∧ TpAt H (.ref tt) (iI e.1) ∧
  ((((∃ a xs, vw = .ref a ∧ H a = some (.tup xs)) ∨ vw = .non ∨ ∃ s, vw = .str s) ∧ ∀ H', Same H H' → Q (.str "weaving") H') ∨
   ∃ lw xs, vw = .ref lw ∧ H lw = some (.lst xs) ∧ xs.length ≤ 20 ∧ (∀ x ∈ xs, flatE x) ∧ (ownO (fun h => chO ch h e.1) (fun h => an h e) xs = none → ∀ H', Same H H' → Q (.str "weaving") H') ∧
    (∀ f0 f1, ownO (fun h => chO ch h e.1) (fun h => an h e) xs = some (f0, f1) → ∀ (u : Addr) (H' : Hp), Same H H' → H u = none → H' u = some (.tup [oI f0, oI f1]) → Q (.ref u) H'))
section
variable {P : Program} {w : World} {K : PySem.W.Frag} {mg : Str → Option Value} {base : Heap}
abbrev nOwn : List Str := ["_law_told", "_law_answers", "_law_inputs", "_law_weaving_here", "_law_won", "_law_done", "_law_found", "_law_hand"]
theorem sc_own : FnScope nOwn ["_law_told", "_law_answers", "_law_inputs", "_law_weaving_here"] (defScope s__law_own) := ⟨rfl, rfl, rfl, by decide +kernel, rfl, by decide +kernel, by decide +kernel⟩
theorem BxF.told {C : Addr} {H : Hp} {p t : Addr} {T : TD} {ch an al ans d0 d1} (B : BxF C H p t T ch an al ans d0 d1) (hW : WF T) {e : IP × List (Int × Int)} (he : e ∈ T.bo) {i : Nat} (hi : i < 2) : ∃ xs rr, H al = some (.lst xs) ∧ xs[i]? = some (.ref rr) ∧ H rr = some (.lst ((ch i).map V.int)) ∧ ((ch i).map V.int)[sel i e.1]? = some (.int (chO ch i e.1)) := by
  obtain ⟨ta, xs, ea, hta, ar⟩ := B.hal
  obtain rfl : al = ta := by injection ea
  obtain ⟨x, hx, rr, rfl, hrow⟩ := ar.at (i := i) (y := ch i) (by
    obtain rfl | rfl : i = 0 ∨ i = 1 := by omega
    · rfl
    · rfl)
  obtain ⟨rg0, rg1⟩ := hW.rng e he
  have hsl : sel i e.1 < (ch i).length := by
    rw [B.len i hi]
    obtain rfl | rfl : i = 0 ∨ i = 1 := by omega
    · exact rg0
    · exact rg1
  refine ⟨xs, rr, hta, hx, hrow, ?_⟩
  unfold chO
  rw [List.getElem?_map, List.getD_eq_getElem?_getD, List.getElem?_eq_getElem hsl]
  rfl
theorem BxF.answ {C : Addr} {H : Hp} {p t : Addr} {T : TD} {ch an al ans d0 d1} (B : BxF C H p t T ch an al ans d0 d1) (hW : WF T) {e : IP × List (Int × Int)} (he : e ∈ T.bo) {tt : Addr} (htt : H tt = some (.tup [.int (iI e.1).1, .int (iI e.1).2])) {i : Nat} (hi : i < 2) : ∃ d, ([V.ref d0, V.ref d1] : List V)[i]? = some (.ref d) ∧ DGet H d (.ref tt) (some (.int (an i e))) := by
  obtain ⟨d, hd1, hd2⟩ : ∃ d, ([V.ref d0, V.ref d1] : List V)[i]? = some (.ref d) ∧ H d = some (.dT (anKV an i T.bo)) := by
    obtain rfl | rfl : i = 0 ∨ i = 1 := by omega
    · exact ⟨d0, rfl, B.h0⟩
    · exact ⟨d1, rfl, B.h1⟩
  exact ⟨d, hd1, (anKV_at hW.srt an i e he) ▸ DGet.t (k := kI e.1) hd2 htt⟩
theorem oN_non {o : Option Nat} : (oN o = .non) ↔ o = none := by
  cases o with
  | none => exact ⟨fun _ => rfl, fun _ => rfl⟩
  | some k => exact ⟨fun e => (by cases e), fun e => (by cases e)⟩
theorem oN_int {o : Option Nat} {h : Nat} : (oN o = V.int ((h : Nat) : Int)) ↔ o = some h := ⟨fun e => oN_eq.mp e.symm, fun e => (oN_eq.mpr e).symm⟩
theorem ok_own {f C : Addr} {fd : FuncData} (F : Fun K "_law_own" "_law_own" s__law_own f fd) (T : Txt K mg) : FnOk P w K mg base CX0 1 f fd ["_law_told", "_law_answers", "_law_inputs", "_law_weaving_here"] (spOwn C) := by
  refine F.ok sc_own (fun vs H Q E h => ?_) (fun cdv A outer s H vs Q E hr h => ?_)
  · obtain ⟨p, t, D, ch, an, al, ans, e0, e1, tt, vw, e, rfl, _⟩ := h
    rfl
  obtain ⟨p, t, D, ch, an, al, ans, e0, e1, tt, vw, e, rfl, hW, B, he, htt, hv⟩ := h
  have nd := sc_own.nd
  have hu := hu_of hr
  refine ⟨_, (pss_cons (ps_if (pt_not (pt_val (pe_callB call_isi (by rfl) T.isi boot_isinstance (pa_cons (pv 3) (pa_cons (pe_bltn (v := .ty "list") (by rfl) T.list boot_list rfl) pa_nil)))))
      (pss_one (ps_ret pe_str))
      pss_nil)
    (pss_cons (ps_set (i := 4) nd rfl (Or.inl rfl) pe_non)
    (pss_cons (ps_set (i := 5) nd rfl (Or.inl rfl) (pe_lst (pa_cons pe_int (pa_cons pe_int pa_nil))))
    (pss_cons (ps_set (i := 6) nd rfl (Or.inl rfl) (pe_lst (pa_cons pe_non (pa_cons pe_non pa_nil))))
    (pss_cons (ps_for PassesOwn.never (by rfl) (pi_list (pv 3)) (pg_name (i := 7) nd rfl (Or.inl rfl))
      (pss_cons (ps_if (PW.pt (pw_or (pt_val (pe_callB call_isi (by rfl) T.isi boot_isinstance (pa_cons (pv 7) (pa_cons (pe_bltn (v := .ty "bool") (by rfl) T.bool boot_bool rfl) pa_nil)))) (pw_or1 (pt_cmpR op_notIn_seq (pv 7) (pe_lst (pa_cons pe_int (pa_cons pe_int pa_nil))) (by rfl)))))
      (pss_one (ps_ret pe_str))
      pss_nil)
    (pss_cons (ps_asg (pe_op op_add (pe_ix ix_list (pv 5) (pv 7) (fun _ _ => rfl)) pe_int) (pg_sub (pv 5) (pv 7) set_list))
    (pss_one (ps_if (PW.pt (pw_and (pt_cmpR op_eq (pe_ix ix_list (pv 5) (pv 7) (fun _ _ => rfl)) pe_int (nomark _)) (pw_and1 (pt_cmpR op_isN (pv 4) pe_non (nomark _)))))
      (pss_cons (ps_set (i := 4) nd rfl (Or.inl rfl) (pv 7))
    (pss_one (ps_asg (pe_ix ix_list (pe_ix ix_list (pv 0) (pv 7) (fun _ _ => rfl)) (pe_ix ix_tup (pv 2) (pv 7) (fun _ _ => rfl)) (fun _ _ => rfl)) (pg_sub (pv 6) (pv 7) set_list))))
      (pss_one (ps_if (PW.pt (pw_and (pt_cmpR op_gt (pe_ix ix_list (pv 5) (pv 7) (fun _ _ => rfl)) pe_int (nomark _)) (pw_and1 (PW.pt (pw_or (pt_cmpR op_eq (pv 4) (pv 7) (nomark _)) (pw_or1 (pt_cmpR op_gt (pe_ix ix_list (pv 5) (pv 7) (fun _ _ => rfl)) pe_int (nomark _))))))))
      (pss_one (ps_ret pe_str))
      (pss_one (ps_if (pt_cmpR op_eq (pe_ix ix_list (pv 5) (pv 7) (fun _ _ => rfl)) pe_int (nomark _))
      (pss_one (ps_asg (pe_dget hu (pe_ix ix_list (pv 1) (pv 7) (fun _ _ => rfl)) (pv 2) (fun _ _ => rfl)) (pg_sub (pv 6) (pv 7) set_list)))
      pss_nil)))))))))
    (pss_one (ps_ret (pe_callTy call_tuple_of (by rfl) T.tuple boot_tuple (pa_cons (pv 6) pa_nil))))))))), ?_⟩
  rcases hv with ⟨⟨a, xs, rfl, ha⟩ | rfl | ⟨s, rfl⟩, q⟩ | ⟨lw, xs, rfl, hlw, hn, hf, q1, q2⟩
  · exact ⟨_, rfl, V.ref a, .ty "list", .type "tuple", .type "list", false, rfl, .ty "list", .base (.tup ha), kit_ty (by decide +kernel), _, rfl, iteT (q _ (Same.refl H))⟩
  · exact ⟨_, rfl, V.non, .ty "list", .type "NoneType", .type "list", false, rfl, .ty "list", dp_ty (d := .none) .non, kit_ty (by decide +kernel), _, rfl, iteT (q _ (Same.refl H))⟩
  · exact ⟨_, rfl, V.str s, .ty "list", .type "str", .type "list", false, rfl, .ty "list", dp_ty (d := .str s) (.str s), kit_ty (by decide +kernel), _, rfl, iteT (q _ (Same.refl H))⟩
  refine ⟨_, rfl, V.ref lw, .ty "list", .type "list", .type "list", true, rfl, .ty "list", .base (.lst hlw), kit_ty (by decide +kernel), _, rfl, iteF ?_⟩
  refine ⟨(by show 2 ≤ sizeLine; decide), fun dn hdn => ?_⟩
  have s1 := same_new hdn (.lst [V.int 0, V.int 0])
  refine ⟨(by show 2 ≤ sizeLine; decide), fun fn hfn => ?_⟩
  have s2 := s1.trans (same_new hfn (.lst [V.non, V.non]))
  have ndf : dn ≠ fn := ne_of_none upd_same hfn
  have hfnH : H fn = none := none_of_same s1 hfn
  refine ⟨_, rfl, lw, rfl, ⟨_, SqL.of (s2 _ _ hlw)⟩, for_list (xs := xs) (fun i σ H' => ∃ (g : Option V) (a b : Nat) (wn : Option Nat) (f0 f1 : Option Int), σ = [some (.ref al), some (.ref ans), some (.ref tt), some (.ref lw), some (oN wn), some (.ref dn), some (.ref fn), g] ∧ Same H H' ∧ H' dn = some (.lst [V.int ((a : Nat) : Int), V.int ((b : Nat) : Int)]) ∧ H' fn = some (.lst [oI f0, oI f1]) ∧ ownG (fun h => chO ch h e.1) (fun h => an h e) (xs.drop i) a b wn f0 f1 = ownO (fun h => chO ch h e.1) (fun h => an h e) xs) ⟨_, 0, 0, none, none, none, rfl, s2, by rw [upd_ne ndf]; exact upd_same, upd_same, rfl⟩ (fun i σ H' _ ⟨g, a, b, wn, f0, f1, _, s3, _⟩ => SqL.of (s3 _ _ hlw)) ?_ ?_⟩
  · rintro i x σ H' hx ⟨g, a, b, wn, f0, f1, rfl, s3, hdd, hff, hg⟩
    rw [drop_get hx] at hg
    have hxf := hf x (List.mem_of_getElem? hx)
    have bad : handV x = none → ∀ H2, Same H' H2 → Q (.str "weaving") H2 := fun c H2 s => q1 (by
      rw [← hg]
      exact ownG_no ⟨x, List.mem_cons_self, c⟩) _ (s3.trans s)
    rcases hxf with rfl | ⟨bb, rfl⟩ | ⟨k, rfl⟩
    · refine ⟨_, rfl, V.non, .ty "bool", .type "NoneType", .type "bool", false, rfl, .ty "bool", dp_ty (d := .none) .non, kit_ty (by decide +kernel), _, rfl, iteF ?_⟩
      refine ⟨_, rfl, (by show 2 ≤ sizeLine; decide), fun L hL => ⟨L, _, rfl, .inl (SqL.of upd_same), rfl, rfl, _, rfl, ?_⟩⟩
      exact iteT' (by rfl) (bad rfl _ (same_new hL _))
    · refine ⟨_, rfl, V.bl bb, .ty "bool", .type "bool", .type "bool", true, rfl, .ty "bool", dp_ty (d := .bool bb) (.bl bb), kit_ty (by decide +kernel), _, rfl, iteT ?_⟩
      exact iteT (bad rfl _ (Same.refl H'))
    refine ⟨_, rfl, V.int k, .ty "bool", .type "int", .type "bool", false, rfl, .ty "bool", dp_ty (d := .int k) (.int k), kit_ty (by decide +kernel), _, rfl, iteF ?_⟩
    refine ⟨_, rfl, (by show 2 ≤ sizeLine; decide), fun L hL => ⟨L, _, rfl, .inl (SqL.of upd_same), rfl, rfl, _, rfl, ?_⟩⟩
    have sL := same_new hL (.lst [V.int 0, V.int 1])
    cases hk : handV (.int k) with
    | none =>
      refine iteT' ?_ (bad hk _ sL)
      have hk : (if k = 0 then some 0 else if k = 1 then some 1 else none : Option Nat) = none := hk
      have k0 : ¬ k = 0 := fun c => by rw [if_pos c] at hk; cases hk
      have k1 : ¬ k = 1 := fun c => by rw [if_neg k0, if_pos c] at hk; cases hk
      rw [show ([V.int 0, V.int 1] : List V) = ([0, 1] : List Int).map V.int from rfl, if_pos rfl, inV_int, decide_eq_false (by simp [k0, k1])]
      rfl
    | some h =>
    have s5 := s3.trans sL
    have hdd5 := sL _ _ hdd
    have hff5 := sL _ _ hff
    generalize upd H' L (.lst [V.int 0, V.int 1]) = H5 at s5 hdd5 hff5 ⊢
    unfold ownG at hg
    rcases hand_flat hk with ⟨rfl, ek⟩ | ⟨rfl, ek⟩
    · injection ek with ek
      subst ek
      refine iteF' (by decide +kernel) ?_
      rw [if_pos (by rfl)] at hg
      refine ⟨_, rfl, _, rfl, dn, _, _, _, rfl, rfl, SqL.of hdd5, rfl, _, _, rfl, rfl, ?_⟩
      refine ⟨_, rfl, _, rfl, dn, _, _, 0, rfl, rfl, hdd5, rfl, ?_⟩
      have s4 : Same H (upd H5 dn (.lst [V.int ((a : Nat) + 1 : Int), V.int ((b : Nat) : Int)])) := same_upd s5 hdn
      have hd4 : (upd H5 dn (.lst [V.int ((a : Nat) + 1 : Int), V.int ((b : Nat) : Int)])) dn = some (.lst [V.int ((a : Nat) + 1 : Int), V.int ((b : Nat) : Int)]) := upd_same
      have hf4 : (upd H5 dn (.lst [V.int ((a : Nat) + 1 : Int), V.int ((b : Nat) : Int)])) fn = some (.lst [oI f0, oI f1]) := by rw [upd_ne (Ne.symm ndf)]; exact hff5
      have B4 := B.mono s4
      have nxt : ∀ (v : Int), Same H (upd (upd H5 dn (.lst [V.int ((a : Nat) + 1 : Int), V.int ((b : Nat) : Int)])) fn (.lst [oI (some v), oI f1])) ∧ (upd (upd H5 dn (.lst [V.int ((a : Nat) + 1 : Int), V.int ((b : Nat) : Int)])) fn (.lst [oI (some v), oI f1])) dn = some (.lst [V.int ((a : Nat) + 1 : Int), V.int ((b : Nat) : Int)]) ∧ (upd (upd H5 dn (.lst [V.int ((a : Nat) + 1 : Int), V.int ((b : Nat) : Int)])) fn (.lst [oI (some v), oI f1])) fn = some (.lst [oI (some v), oI f1]) := fun v => ⟨same_upd s4 hfnH, by rw [upd_ne ndf]; exact hd4, upd_same⟩
      obtain ⟨ttt, ett, htt'⟩ := htt.mono (.same s4)
      obtain rfl : tt = ttt := by injection ett
      refine ⟨_, rfl, _, rfl, dn, _, _, _, rfl, rfl, SqL.of hd4, rfl, rfl, _, rfl, ?_⟩
      by_cases c1 : a = 1 ∧ wn = none
      · rw [if_pos c1] at hg
        obtain ⟨ca, rfl⟩ := c1
        refine iteT' (decide_eq_true (by rw [ca]; rfl)) ⟨_, rfl, rfl, _, rfl, iteT ?_⟩
        obtain ⟨xs1, rr, hal, hx1, hrr, gw⟩ := B4.told hW he (i := 0) (by decide)
        refine ⟨_, rfl, _, rfl, _, rfl, al, _, _, _, rfl, rfl, SqL.of hal, atI_nat (j := 0) hx1, _, rfl, _, rfl, tt, _, _, _, rfl, rfl, SqT.of htt', atI_nat (iI_at (by decide : 0 < 2) e.1), rr, _, _, _, rfl, rfl, SqL.of hrr, atI_nat gw, ?_⟩
        refine ⟨_, rfl, _, rfl, fn, _, _, 0, rfl, rfl, hf4, rfl, ?_⟩
        obtain ⟨n1, n2, n3⟩ := nxt (chO ch 0 e.1)
        exact ⟨_, (a + 1), b, some 0, some (chO ch 0 e.1), f1, rfl, n1, n2, n3, hg⟩
      rw [if_neg c1] at hg
      refine iteJ ?_ fun c r => ?_
      rotate_left
      · have c := of_decide_eq_true c
        injection c with c
        cases wn with
        | none => exact absurd ⟨by omega, rfl⟩ c1
        | some o => exact ⟨_, rfl, rfl, _, rfl, iteF r⟩
      refine ⟨_, rfl, _, rfl, dn, _, _, _, rfl, rfl, SqL.of hd4, rfl, _, _, rfl, rfl, _, rfl, ?_⟩
      by_cases c2 : 2 ≤ a ∧ (wn = some 0 ∨ 3 ≤ a)
      · rw [if_pos c2] at hg
        refine iteT' (decide_eq_true (show (a : Int) + 1 > 2 by omega)) ⟨_, rfl, _, rfl, (by cases wn <;> rfl), _, rfl, ?_⟩
        by_cases c3 : wn = some 0
        · exact iteT' (decide_eq_true (oN_int.mpr c3)) (iteT (q1 hg.symm _ s4))
        · refine iteF' (decide_eq_false fun z => c3 (oN_int.mp z)) ⟨_, rfl, _, rfl, dn, _, _, _, rfl, rfl, SqL.of hd4, rfl, _, _, rfl, rfl, _, rfl, ?_⟩
          exact iteT' (decide_eq_true (show (a : Int) + 1 > 3 by have := c2.2.resolve_left c3; omega)) (q1 hg.symm _ s4)
      rw [if_neg c2] at hg
      refine iteJ ?_ fun c r => ?_
      rotate_left
      · have c := of_decide_eq_true c
        have c : (a : Int) + 1 > 2 := c
        have c4 : ¬ wn = some 0 := fun z => c2 ⟨by omega, .inl z⟩
        have c5 : ¬ 3 ≤ a := fun z => c2 ⟨by omega, .inr z⟩
        refine ⟨_, rfl, _, rfl, (by cases wn <;> rfl), _, rfl, iteF' (decide_eq_false fun z => c4 (oN_int.mp z)) ⟨_, rfl, _, rfl, dn, _, _, _, rfl, rfl, SqL.of hd4, rfl, _, _, rfl, rfl, _, rfl, ?_⟩⟩
        exact iteF' (decide_eq_false (show ¬ (a : Int) + 1 > 3 by omega)) r
      refine ⟨_, rfl, _, rfl, dn, _, _, _, rfl, rfl, SqL.of hd4, rfl, rfl, _, rfl, ?_⟩
      by_cases c6 : a = 2
      · rw [if_pos c6] at hg
        refine iteT' (decide_eq_true (by rw [c6]; rfl)) ?_
        obtain ⟨d, hd1, dg⟩ := B4.answ hW he htt' (i := 0) (by decide)
        refine ⟨_, rfl, _, rfl, ans, _, _, _, rfl, rfl, SqL.of B4.hans, atI_nat (j := 0) hd1, _, rfl, d, _, rfl, dg, ?_⟩
        refine ⟨_, rfl, _, rfl, fn, _, _, 0, rfl, rfl, hf4, rfl, ?_⟩
        obtain ⟨n1, n2, n3⟩ := nxt (an 0 e)
        exact ⟨_, (a + 1), b, wn, some (an 0 e), f1, rfl, n1, n2, n3, hg⟩
      · rw [if_neg c6] at hg
        refine iteF' (decide_eq_false fun z => c6 ?_) ?_
        · injection z with z
          omega
        · exact ⟨_, (a + 1), b, wn, f0, f1, rfl, s4, hd4, hf4, hg⟩
    · injection ek with ek
      subst ek
      refine iteF' (by decide +kernel) ?_
      rw [if_neg (by decide), if_pos (by rfl)] at hg
      refine ⟨_, rfl, _, rfl, dn, _, _, _, rfl, rfl, SqL.of hdd5, rfl, _, _, rfl, rfl, ?_⟩
      refine ⟨_, rfl, _, rfl, dn, _, _, 1, rfl, rfl, hdd5, rfl, ?_⟩
      have s4 : Same H (upd H5 dn (.lst [V.int ((a : Nat) : Int), V.int ((b : Nat) + 1 : Int)])) := same_upd s5 hdn
      have hd4 : (upd H5 dn (.lst [V.int ((a : Nat) : Int), V.int ((b : Nat) + 1 : Int)])) dn = some (.lst [V.int ((a : Nat) : Int), V.int ((b : Nat) + 1 : Int)]) := upd_same
      have hf4 : (upd H5 dn (.lst [V.int ((a : Nat) : Int), V.int ((b : Nat) + 1 : Int)])) fn = some (.lst [oI f0, oI f1]) := by rw [upd_ne (Ne.symm ndf)]; exact hff5
      have B4 := B.mono s4
      have nxt : ∀ (v : Int), Same H (upd (upd H5 dn (.lst [V.int ((a : Nat) : Int), V.int ((b : Nat) + 1 : Int)])) fn (.lst [oI f0, oI (some v)])) ∧ (upd (upd H5 dn (.lst [V.int ((a : Nat) : Int), V.int ((b : Nat) + 1 : Int)])) fn (.lst [oI f0, oI (some v)])) dn = some (.lst [V.int ((a : Nat) : Int), V.int ((b : Nat) + 1 : Int)]) ∧ (upd (upd H5 dn (.lst [V.int ((a : Nat) : Int), V.int ((b : Nat) + 1 : Int)])) fn (.lst [oI f0, oI (some v)])) fn = some (.lst [oI f0, oI (some v)]) := fun v => ⟨same_upd s4 hfnH, by rw [upd_ne ndf]; exact hd4, upd_same⟩
      obtain ⟨ttt, ett, htt'⟩ := htt.mono (.same s4)
      obtain rfl : tt = ttt := by injection ett
      refine ⟨_, rfl, _, rfl, dn, _, _, _, rfl, rfl, SqL.of hd4, rfl, rfl, _, rfl, ?_⟩
      by_cases c1 : b = 1 ∧ wn = none
      · rw [if_pos c1] at hg
        obtain ⟨ca, rfl⟩ := c1
        refine iteT' (decide_eq_true (by rw [ca]; rfl)) ⟨_, rfl, rfl, _, rfl, iteT ?_⟩
        obtain ⟨xs1, rr, hal, hx1, hrr, gw⟩ := B4.told hW he (i := 1) (by decide)
        refine ⟨_, rfl, _, rfl, _, rfl, al, _, _, _, rfl, rfl, SqL.of hal, atI_nat (j := 1) hx1, _, rfl, _, rfl, tt, _, _, _, rfl, rfl, SqT.of htt', atI_nat (iI_at (by decide : 1 < 2) e.1), rr, _, _, _, rfl, rfl, SqL.of hrr, atI_nat gw, ?_⟩
        refine ⟨_, rfl, _, rfl, fn, _, _, 1, rfl, rfl, hf4, rfl, ?_⟩
        obtain ⟨n1, n2, n3⟩ := nxt (chO ch 1 e.1)
        exact ⟨_, a, (b + 1), some 1, f0, some (chO ch 1 e.1), rfl, n1, n2, n3, hg⟩
      rw [if_neg c1] at hg
      refine iteJ ?_ fun c r => ?_
      rotate_left
      · have c := of_decide_eq_true c
        injection c with c
        cases wn with
        | none => exact absurd ⟨by omega, rfl⟩ c1
        | some o => exact ⟨_, rfl, rfl, _, rfl, iteF r⟩
      refine ⟨_, rfl, _, rfl, dn, _, _, _, rfl, rfl, SqL.of hd4, rfl, _, _, rfl, rfl, _, rfl, ?_⟩
      by_cases c2 : 2 ≤ b ∧ (wn = some 1 ∨ 3 ≤ b)
      · rw [if_pos c2] at hg
        refine iteT' (decide_eq_true (show (b : Int) + 1 > 2 by omega)) ⟨_, rfl, _, rfl, (by cases wn <;> rfl), _, rfl, ?_⟩
        by_cases c3 : wn = some 1
        · exact iteT' (decide_eq_true (oN_int.mpr c3)) (iteT (q1 hg.symm _ s4))
        · refine iteF' (decide_eq_false fun z => c3 (oN_int.mp z)) ⟨_, rfl, _, rfl, dn, _, _, _, rfl, rfl, SqL.of hd4, rfl, _, _, rfl, rfl, _, rfl, ?_⟩
          exact iteT' (decide_eq_true (show (b : Int) + 1 > 3 by have := c2.2.resolve_left c3; omega)) (q1 hg.symm _ s4)
      rw [if_neg c2] at hg
      refine iteJ ?_ fun c r => ?_
      rotate_left
      · have c := of_decide_eq_true c
        have c : (b : Int) + 1 > 2 := c
        have c4 : ¬ wn = some 1 := fun z => c2 ⟨by omega, .inl z⟩
        have c5 : ¬ 3 ≤ b := fun z => c2 ⟨by omega, .inr z⟩
        refine ⟨_, rfl, _, rfl, (by cases wn <;> rfl), _, rfl, iteF' (decide_eq_false fun z => c4 (oN_int.mp z)) ⟨_, rfl, _, rfl, dn, _, _, _, rfl, rfl, SqL.of hd4, rfl, _, _, rfl, rfl, _, rfl, ?_⟩⟩
        exact iteF' (decide_eq_false (show ¬ (b : Int) + 1 > 3 by omega)) r
      refine ⟨_, rfl, _, rfl, dn, _, _, _, rfl, rfl, SqL.of hd4, rfl, rfl, _, rfl, ?_⟩
      by_cases c6 : b = 2
      · rw [if_pos c6] at hg
        refine iteT' (decide_eq_true (by rw [c6]; rfl)) ?_
        obtain ⟨d, hd1, dg⟩ := B4.answ hW he htt' (i := 1) (by decide)
        refine ⟨_, rfl, _, rfl, ans, _, _, _, rfl, rfl, SqL.of B4.hans, atI_nat (j := 1) hd1, _, rfl, d, _, rfl, dg, ?_⟩
        refine ⟨_, rfl, _, rfl, fn, _, _, 1, rfl, rfl, hf4, rfl, ?_⟩
        obtain ⟨n1, n2, n3⟩ := nxt (an 1 e)
        exact ⟨_, a, (b + 1), wn, f0, some (an 1 e), rfl, n1, n2, n3, hg⟩
      · rw [if_neg c6] at hg
        refine iteF' (decide_eq_false fun z => c6 ?_) ?_
        · injection z with z
          omega
        · exact ⟨_, a, (b + 1), wn, f0, f1, rfl, s4, hd4, hf4, hg⟩
  · rintro σ H' ⟨g, a, b, wn, f0, f1, rfl, s3, _, hff, hg⟩
    rw [List.drop_length] at hg
    refine ⟨_, rfl, fn, _, rfl, .inl ⟨SqL.of hff, fun u hu => ?_⟩⟩
    have s4 := same_new hu (.tup [oI f0, oI f1])
    exact q2 f0 f1 hg.symm u _ (s3.trans s4) (none_of_same s3 hu) upd_same
end
end TA

set_option Elab.async false
set_option maxRecDepth 100000
set_option maxHeartbeats 4000000
namespace TA
open PySem PySem.Spec L2 PyProof.Rows
set_option linter.unusedVariables false
/-! try: .. except A as n: .. and further clauses: where the body raises, the first clause takes it -/
def wFirst (K : PySem.W.Frag) (c : Value) (i : Nat) (ts : Addr → Value → Option Addr → TS) (D : Ends) : WX := fun cls d σ H => PySem.W.exmOne K cls c = some true ∧ ∀ a, H a = none → ts a cls d { nx := fun σ' H' => D.nx (σ'.set i none) H', rt := D.rt, bk := fun σ' H' => D.bk (σ'.set i none) H', ct := fun σ' H' => D.ct (σ'.set i none) H' } (σ.set i (some (.ref a))) H
theorem ps_try_first {X : Cx} {x n : Str} {c : Value} {i : Nat} {body suite : List Stmt} {b₀ : Stmt} {np pos pos' : Pos} {more : List ExceptHandler} {tb : WX → TS} {ts : Addr → Value → Option Addr → TS} (stk : X.stack = X.env :: X.outer) (frm : X.env.frame = some X.env.locals) (nodup : X.N.Nodup) (slot : X.N[i]? = some n) (isLoc : X.env.kindOf n = some .local) (named : Names X x c)
    (inner : ∀ (W : WX) (pn : List (Addr × Obj)) (xe : Value → Shared → Prop), Takes (X.tr pn xe) W → PassesOwn (model X.prog X.w) X.A X.env xe → PSs (X.tr pn xe) body (tb W)) (clause : ∀ (a : Addr) (oe : Obj) (cls : Value) (d : Option Addr) (pn : List (Addr × Obj)), Zc cls d oe → (∃ vs, oe.data = .fields vs) → PSs (X.suite a ((a, oe) :: pn)) (b₀ :: suite) (ts a cls d)) :
    PS X (.Try body (.ExceptHandler (some (.Name x np)) (some n) (b₀ :: suite) pos' :: more) [] [] pos) (fun D σ H => tb (wFirst X.K c i ts D) D σ H) := by
  refine ⟨fun pins s σ H D inv given => ?_⟩
  have fine := inv.ok
  have local' : Loc X.env.scope n := .inl isLoc
  refine wpAny_Try_except ?_
  have runs := (inner (wFirst X.K c i ts D) (X.pn ++ pins) (fun e s₁ => wpAny (model X.prog X.w) X.A (noteFrame e X.env) (fun _ s₂ => wpAny (model X.prog X.w) X.A (setFlight e none) (fun _ s₃ => wpAny (model X.prog X.w) X.A (handleBy e X.env (.ExceptHandler (some (.Name x np)) (some n) (b₀ :: suite) pos' :: more)) (SP X pins D) X.xe s₃) X.xe s₂) X.xe s₁) (fun u s' met => ?caught) PassesOwn.looking).run [] s σ H D (inv.toTry _) given
  case caught =>
    obtain ⟨a, B, sI, pins', σ', H', cls, d, rfl, J', nb, up, sky, na, os, ag, hb1, hyes⟩ := met
    have J : Inv X pins σ' H' sI := J'.ofTry fine
    have above : Sky B (X.env :: X.outer) a (Zc cls d) X.env.locals s'.heap := by rw [← stk]; exact sky
    show wpAny (model X.prog X.w) X.A (noteFrame (.ref a) X.env) _ _ _
    refine Sky.land Zc.steady (by rw [fine.frames, stk]) frm above fun h3 fl3 up3 => ?_
    have J3 : Inv X pins σ' H' { s' with heap := h3 } := J.landed nb fl3.1 (up.trans up3) os ag
    obtain ⟨oe3, vs3, he3, hz3, hd3⟩ := fl3.there
    have outside : a ∉ frs (X.env :: X.outer) := fun hm => by
      obtain ⟨_, o', e', hnf⟩ := fl3.2.2.1.mem hm
      rw [he3] at e'; cases e'
      exact hnf _ hd3
    have notL : a ≠ X.env.locals := fun z => outside (List.mem_filterMap.mpr ⟨X.env, List.mem_cons_self, by rw [frm, z]⟩)
    have notF : a ∉ X.fs := fun hm => by
      obtain ⟨v, hv, q⟩ := List.mem_filterMap.mp hm
      exact outside (List.mem_filterMap.mpr ⟨v, List.mem_cons_of_mem _ hv, q⟩)
    have S3 := J3.suite he3 hd3 na notL notF
    refine wpAny_handleBy_cons (codeAny_handlers_test ?_) (fun q => nomatch q)
    have looks : PySem.W.Looks (model X.prog X.w) h3 (typeOf (.ref a)) cls := fun _ _ _ _ k q => wpAny_typeOf_ref (k _ _ he3) (by rw [hz3.1]; exact q)
    have asked := PySem.W.exm_one (M := model X.prog X.w) (J3.kIn) looks hb1
    have named' : ∀ {Q E : Value → Shared → Prop}, Q c { s' with heap := h3 } → wpAny (model X.prog X.w) (X.A.mark (some (.ref a))) (eval (.Name x np) X.env) Q E { s' with heap := h3 } := fun q => by
      obtain ⟨g1, g2, m1 | ⟨m1, m2, m3⟩⟩ := named
      · exact ld_glob (X := X.suite a ((a, oe3) :: (X.pn ++ pins))) S3 g1 m1 q g2
      · exact ld_blt (X := X.suite a ((a, oe3) :: (X.pn ++ pins))) S3 g1 m1 m2 q m3 g2
    refine named' (asked.here (codeAny_handlers_suite_as ?_))
    refine HandSPX.lands_againZ fl3 fun h4 fl4 up4 => ?_
    have J4 : Inv X pins σ' H' { s' with heap := h4 } := J.landed nb fl4.1 ((up.trans up3).trans up4) os ag
    obtain ⟨oe4, vs4, he4, hz4, hd4⟩ := fl4.there
    have S4 := J4.suite he4 hd4 na notL notF
    refine store_ok (X := X.suite a ((a, oe4) :: (X.pn ++ pins))) (v := .ref a) S4 nodup slot local' rfl (fun s5 S5 => ?_) (.inr isLoc)
    refine wpAny_mono ((clause a oe4 cls d (X.pn ++ pins) hz4 ⟨_, hd4⟩).run [] s5 _ H' _ S5 (hyes a na)) (fun f s6 past => ?_) (fun _ _ z => z.elim)
    have over : ∀ {σ6 : L2.St} {H6 : Hp} {Q : Shared → Prop}, Inv (X.suite a ((a, oe4) :: (X.pn ++ pins))) [] σ6 H6 s6 → (∀ s7, Inv X pins (σ6.set i none) H6 s7 → Q s7) → wpAny (model X.prog X.w) X.A (do bindName X.env n .none; unbindBehindTheSuite X.env n pos') (fun _ s7 => Q s7) X.xe s6 := fun S6 hq => gone_ok (S6.unsuite fine) nodup slot isLoc hq
    cases f with
    | next => obtain ⟨_, _, S6, q6⟩ := past; exact over S6 fun s7 J7 => ⟨_, _, J7, q6⟩
    | brk => obtain ⟨_, _, S6, q6⟩ := past; exact over S6 fun s7 J7 => ⟨_, _, J7, q6⟩
    | cont => obtain ⟨_, _, S6, q6⟩ := past; exact over S6 fun s7 J7 => ⟨_, _, J7, q6⟩
    | ret u => obtain ⟨_, _, _, S6, r6, q6⟩ := past; exact over S6 fun s7 J7 => ⟨_, _, _, J7, r6, q6⟩
  refine wpAny_mono runs (fun f s1 past => ?_) (fun _ _ he => he)
  cases f with
  | next => obtain ⟨_, _, J', q⟩ := past; exact wpAny_execs_nil ⟨_, _, J'.ofTry fine, q⟩
  | brk => obtain ⟨_, _, J', q⟩ := past; exact ⟨_, _, J'.ofTry fine, q⟩
  | cont => obtain ⟨_, _, J', q⟩ := past; exact ⟨_, _, J'.ofTry fine, q⟩
  | ret u => obtain ⟨_, _, _, J', r, q⟩ := past; exact ⟨_, _, _, J'.ofTry fine, r, q⟩
/-- isinstance of the error that an except suite holds: which class it has is said by the reading -/
theorem call_isE2 {X : Cx} {a : Addr} {oe : Obj} {cls : Value} {d : Option Addr} {pn : List (Addr × Obj)} (hz : Zc cls d oe) (hf : ∃ vs, oe.data = .fields vs) : CallR (X.suite a ((a, oe) :: pn)) (.builtin "isinstance") (fun xs H Q => ∃ D : Addr, cls = .ref D ∧ d = none ∧ ExcC X.K D ∧ rIsE X.K D a xs H Q) := by
  intro pins s σ H xs us Q I r h
  obtain ⟨D, rfl, rfl, T, h⟩ := h
  exact call_isE T hz hf pins s σ H xs us Q I r h
theorem pss_read {X : Cx} {b : List Stmt} {T : TS} (h : ∀ (pins : List (Addr × Obj)) (s : Shared) (σ : L2.St) (H : Hp) (D : Ends), Inv X pins σ H s → T D σ H → ∃ t, PSs X b t ∧ t D σ H) : PSs X b T := ⟨fun pins s σ H D I q => by
  obtain ⟨t, p, r⟩ := h pins s σ H D I q
  exact p.run pins s σ H D I r⟩
section
variable {X : Cx} {pins : List (Addr × Obj)} {σ : L2.St} {H : Hp} {s : Shared}
/-- xs.count(y) over data -/
def rCntD (K : PySem.W.Frag) : V → List V → Hp → VK → Prop := fun x xs H Q => ∃ (p : Addr) (vs : List V) (y : V) (ds : List PyData) (d : PyData), x = .ref p ∧ xs = [y] ∧ SqL K H p vs ∧ DpAll K H vs ds ∧ Dp K H y d ∧ PyData.plainAll ds = true ∧ d.plain = true ∧ d.depth ≤ 10 ∧ Q (.int ((ds.countP fun z => PyData.eqv z d : Nat) : Int)) H
theorem mt_countD (hu : X.A.units + 64 < cLine) : MtR X "list.count" (rCntD X.K) := by
  intro pins s σ H x xs v us Q I rx rxs h
  obtain ⟨p, vs, y, ds, d, rfl, rfl, hs, hd, hy, h1, h2, h3, q⟩ := h
  cases rx
  cases rxs with
  | @cons _ u _ ur ry rn =>
    cases rn
    obtain ⟨its, rv, pl, hz⟩ := I.list hs
    obtain ⟨as, r1⟩ := Dp.readsAll I ds _ its hd rv
    obtain ⟨bs, r2⟩ := Dp.reads I d _ _ hy ry
    have := Nat.min_le_right (PyData.depthAll ds) d.depth
    exact PySem.SeqAt.count_list_data pl.isList r1 r2 h1 h2 (by omega) ⟨.int _, H, I.tok _, ⟨_, rfl⟩, q⟩
end
def cls3 (cP cI cW : Addr) : Nat → Addr
  | 0 => cP
  | 1 => cI
  | _ => cW
def word3 : Nat → Str
  | 0 => "protocol"
  | 1 => "inputs"
  | _ => "weaving"
structure SaidC (K : PySem.W.Frag) (cA cP cI cW : Addr) : Prop where
  t : ∀ j, j < 3 → ExcC K (cls3 cP cI cW j)
  e : ∀ j, j < 3 → PySem.W.exmOne K (.ref (cls3 cP cI cW j)) (.ref cA) = some true
  k : ∀ i j, i < 3 → j < 3 → PySem.W.kitOne K (.ref (cls3 cP cI cW i)) (.ref (cls3 cP cI cW j)) = some (decide (i = j))
structure SaidT (mg : Str → Option Value) (cA cP cI cW : Addr) : Prop where
  isi : mg "isinstance" = none
  a : mg "AloneError" = some (.ref cA)
  w : mg "NoWeaving" = some (.ref cW)
  i : mg "NoInputs" = some (.ref cI)
  p : mg "NoProtocol" = some (.ref cP)
structure TDef (P : Program) (w : World) (K : PySem.W.Frag) (mg : Str → Option Value) (base : Heap) (C cP cI cW : Addr) (f : Addr) (fd : FuncData) : Prop where
  G : FnOk P w K mg base (L2.CX P w) 7 f fd ["task", "boxed", "inputs", "weaving"] (spTell K C cP cI cW)
  b : Binds K fd ["task", "boxed", "inputs", "weaving"] []
  k : PySem.W.keepIn K (.ref f) = true
  m : mg "tell_boxed" = some (.ref f)
/-- what is said: the word of what is refused, or what is told -/
def spSaid (K : PySem.W.Frag) (C : Addr) : Sp := fun vs H Q _ => ∃ (v0 v1 v2 v3 : V), vs = [v0, v1, v2, v3] ∧ ∀ cP cI cW : Addr, cP ≠ cI → cP ≠ cW → cI ≠ cW →
  spTell K C cP cI cW vs H (fun v H' => Q v H') (fun c d H' => ∃ j, j < 3 ∧ c = .ref (cls3 cP cI cW j) ∧ d = none ∧ ∀ H'', Same H' H'' → Q (.str (word3 j)) H'')
theorem spTell_mono {K : PySem.W.Frag} {C cP cI cW : Addr} {vs : List V} {H : Hp} {Q Q' : VK} {E E' : XK} (hq : ∀ v H', Q v H' → Q' v H') (he : ∀ c d H', E c d H' → E' c d H') (h : spTell K C cP cI cW vs H Q E) : spTell K C cP cI cW vs H Q' E' := by
  rcases h with ⟨p, v, vi, vw, D, e, hW, hX, hO, q⟩ | ⟨p, t, D, ch, an, al, ans, e0, e1, vi, vw, e, hW, B, hI, q⟩ | ⟨p, t, D, ch, an, al, ans, e0, e1, tt, vw, e, ev, hW, B, hE, htt, hO, q⟩ | ⟨p, t, D, ch, an, al, ans, e0, e1, tt, lw, ws, e, ev, hW, B, hE, htt, hlw, hw, hn, q1, q2⟩
  · exact .inl ⟨p, v, vi, vw, D, e, hW, hX, hO, fun H' s => he _ _ _ (q H' s)⟩
  · exact .inr (.inl ⟨p, t, D, ch, an, al, ans, e0, e1, vi, vw, e, hW, B, hI, fun H' s => he _ _ _ (q H' s)⟩)
  · exact .inr (.inr (.inl ⟨p, t, D, ch, an, al, ans, e0, e1, tt, vw, e, ev, hW, B, hE, htt, hO, fun H' s => he _ _ _ (q H' s)⟩))
  · exact .inr (.inr (.inr ⟨p, t, D, ch, an, al, ans, e0, e1, tt, lw, ws, e, ev, hW, B, hE, htt, hlw, hw, hn, fun c H' s => he _ _ _ (q1 c H' s), fun c r H' s g => hq _ _ (q2 c r H' s g)⟩))
section
variable {P : Program} {w : World} {K : PySem.W.Frag} {mg : Str → Option Value} {base : Heap}
abbrev nSaid : List Str := ["_law_task", "_law_thing", "_law_inputs", "_law_weaving_here", "e", "_law_marks"]
theorem scSaid : FnScope nSaid ["_law_task", "_law_thing", "_law_inputs", "_law_weaving_here"] (defScope sSaid) := ⟨rfl, rfl, rfl, by decide +kernel, rfl, by decide +kernel, by decide +kernel⟩
theorem ok_said {f g C cA cP cI cW : Addr} {fd gd : FuncData} (F : Fun K "_law_said" "_law_said" sSaid f fd) (T : SaidT mg cA cP cI cW) (SC : SaidC K cA cP cI cW) (W : TDef P w K mg base C cP cI cW g gd) : FnOk P w K mg base CX0 8 f fd ["_law_task", "_law_thing", "_law_inputs", "_law_weaving_here"] (spSaid K C) := by
  have nPI : cP ≠ cI := fun c => by
    have h1 := SC.k 0 1 (by decide) (by decide)
    have h2 := SC.k 0 0 (by decide) (by decide)
    rw [show cls3 cP cI cW 1 = cls3 cP cI cW 0 from c.symm, h2] at h1
    cases h1
  have nPW : cP ≠ cW := fun c => by
    have h1 := SC.k 0 2 (by decide) (by decide)
    have h2 := SC.k 0 0 (by decide) (by decide)
    rw [show cls3 cP cI cW 2 = cls3 cP cI cW 0 from c.symm, h2] at h1
    cases h1
  have nIW : cI ≠ cW := fun c => by
    have h1 := SC.k 1 2 (by decide) (by decide)
    have h2 := SC.k 1 1 (by decide) (by decide)
    rw [show cls3 cP cI cW 2 = cls3 cP cI cW 1 from c.symm, h2] at h1
    cases h1
  refine F.ok scSaid (fun vs H Q E h => ?_) (fun cdv A outer s H vs Q E hr h => ?_)
  · obtain ⟨v0, v1, v2, v3, rfl, _⟩ := h
    rfl
  obtain ⟨v0, v1, v2, v3, rfl, h⟩ := h
  have h := h cP cI cW nPI nPW nIW
  have nd := scSaid.nd
  refine ⟨_, pss_one (ps_try_first (i := 4) (ts := fun a cls o Dn σ H' => σ = [some v0, some v1, some v2, some v3, some (.ref a), none] ∧ ∃ j, j < 3 ∧ cls = .ref (cls3 cP cI cW j) ∧ o = none ∧ ∀ H'', Same H' H'' → Dn.rt (.str (word3 j)) H'') rfl rfl nd rfl rfl ⟨rfl, by decide, .inl T.a⟩
      (fun W' pn xe tk _ => pss_one (ps_ret (pe_callS W.G hr rfl W.m W.k W.b (fun σ => passAt tk σ) (pa_cons (pv 0) (pa_cons (pv 1) (pa_cons (pv 2) (pa_cons (pv 3) pa_nil)))))))
      (fun a oe cls o pn hz hf => ?S)), ?_⟩
  case S =>
    refine pss_read fun pins s' σ H' Dn I h' => ?_
    obtain ⟨rfl, j, hj, rfl, rfl, h⟩ := h'
    have isi := call_isE2 (X := (cxOf CX0 P w K mg base nSaid "_law_said" (defScope sSaid) f cdv A outer s H E)) (a := a) (pn := pn) hz hf
    refine ⟨_, pss_cons (ps_set (i := 5) nd rfl (Or.inl rfl) (pe_lst (pa_cons (pe_callB isi (by rfl) T.isi boot_isinstance (pa_cons (pv 4) (pa_cons (pe_glob (v := .ref cP) rfl T.p rfl) pa_nil))) (pa_cons (pe_callB isi (by rfl) T.isi boot_isinstance (pa_cons (pv 4) (pa_cons (pe_glob (v := .ref cI) rfl T.i rfl) pa_nil))) (pa_cons (pe_callB isi (by rfl) T.isi boot_isinstance (pa_cons (pv 4) (pa_cons (pe_glob (v := .ref cW) rfl T.w rfl) pa_nil))) pa_nil)))))
      (pss_cons (ps_if (pt_cmpR op_ne (pe_bm PySem.F.plainAttrs_list PySem.F.slot_list_count PySem.F.type_list_count (mt_countD hr.units) (pv 5) (pa_cons pe_bl pa_nil)) pe_int (nomark _)) (pss_one (ps_ret pe_str)) pss_nil)
      (pss_one (ps_ret (pe_ix ix_list (pe_lst (pa_cons pe_str (pa_cons pe_str (pa_cons pe_str pa_nil)))) (pe_bm PySem.F.plainAttrs_list PySem.F.slot_list_index PySem.F.type_list_index mt_index (pv 5) (pa_cons pe_bl pa_nil)) (fun _ _ => rfl))))), ?_⟩
    have kk := fun i (hi : i < 3) => SC.k j i hj hi
    refine ⟨_, rfl, _, rfl, rfl, SC.t j hj, .ref cP, .ref cP, _, rfl, (fun u h => h), kk 0 (by decide), ?_⟩
    refine ⟨_, rfl, _, rfl, rfl, SC.t j hj, .ref cI, .ref cI, _, rfl, (fun u h => h), kk 1 (by decide), ?_⟩
    refine ⟨_, rfl, _, rfl, rfl, SC.t j hj, .ref cW, .ref cW, _, rfl, (fun u h => h), kk 2 (by decide), ?_⟩
    refine ⟨(by show 3 ≤ sizeLine; decide), fun l hl => ?_⟩
    have s1 := same_new hl (.lst [V.bl (decide (j = 0)), V.bl (decide (j = 1)), V.bl (decide (j = 2))])
    refine ⟨_, rfl, .inl ⟨rfl, _, SqL.of upd_same⟩, l, _, .bl true, [.bool (decide (j = 0)), .bool (decide (j = 1)), .bool (decide (j = 2))], .bool true, rfl, rfl, SqL.of upd_same, .cons (.bl _) (.cons (.bl _) (.cons (.bl _) .nil)), .bl true, (by simp [PyData.plainAll, PyData.plain]), (by simp [PyData.plain]), (by simp [PyData.depth]), rfl, _, rfl, ?_⟩
    refine iteF' (by obtain rfl | rfl | rfl : j = 0 ∨ j = 1 ∨ j = 2 := by omega
                     · rfl
                     · rfl
                     · rfl) ?_
    refine ⟨(by show 3 ≤ sizeLine; decide), fun L hL => ?_⟩
    have s2 := s1.trans (same_new hL (.lst [V.str "protocol", V.str "inputs", V.str "weaving"]))
    refine ⟨_, rfl, .inl ⟨rfl, _, SqL.of (same_new hL _ _ _ upd_same)⟩, l, _, .bl true, j, .bl true, rfl, rfl, SqL.of (same_new hL _ _ _ upd_same), rfl, rfl, ?_, rfl, ?_, L, _, _, _, rfl, rfl, SqL.of upd_same, atI_nat (j := j) ?_, h _ s2⟩
    · obtain rfl | rfl | rfl : j = 0 ∨ j = 1 ∨ j = 2 := by omega
      · rfl
      · rfl
      · rfl
    · intro m z' hm hz'
      obtain rfl | rfl | rfl : j = 0 ∨ j = 1 ∨ j = 2 := by omega
      · omega
      · obtain rfl : m = 0 := by omega
        cases hz'
        rfl
      · obtain rfl | rfl : m = 0 ∨ m = 1 := by omega
        · cases hz'
          rfl
        · cases hz'
          rfl
    · obtain rfl | rfl | rfl : j = 0 ∨ j = 1 ∨ j = 2 := by omega
      · rfl
      · rfl
      · rfl
  refine ⟨_, rfl, _, rfl, _, rfl, _, rfl, spTell_mono (fun v H' q => q) (fun c d H' q => ?_) h⟩
  obtain ⟨j, hj, rfl, rfl, q⟩ := q
  exact ⟨SC.e j hj, fun a na => ⟨rfl, j, hj, rfl, rfl, fun H'' s => q _ s⟩⟩
end
end TA

set_option Elab.async false
set_option maxRecDepth 100000
set_option maxHeartbeats 4000000
namespace TA
open PySem L2 PyProof.Rows
set_option linter.unusedVariables false
/-- a task of which nothing stands at a -/
def TaskV (C a : Addr) (H : Hp) (p d : Addr) (T : TD) : Prop := ∃ dx aa kvs, H p = some (.ins C dx (flds aa d)) ∧ AlAt (vw (pA a) H) (.ref aa) T.al ∧ H d = some (.dT kvs) ∧ A2 (EnAt (vw (pA a) H)) kvs T.bo
theorem TaskV.task {C a : Addr} {H : Hp} {p d : Addr} {T : TD} (h : TaskV C a H p d T) : TaskAt C H p T := by
  obtain ⟨dx, aa, kvs, h1, h2, h3, h4⟩ := h
  exact ⟨dx, aa, d, h1, h2.mono vw_kp, kvs, h3, h4.imp fun _ _ r => r.mono vw_kp⟩
theorem TaskV.dict {C a : Addr} {H : Hp} {p d : Addr} {T : TD} (h : TaskV C a H p d T) : ∃ kvs, H d = some (.dT kvs) := by
  obtain ⟨dx, aa, kvs, h1, h2, h3, h4⟩ := h
  exact ⟨kvs, h3⟩
theorem TaskV.kept {C a : Addr} {H H' : Hp} {p d : Addr} {T : TD} {zs : List V} (h : TaskV C a H p d T) (ea : H a = some (.lst zs)) (s : ∀ b o, b ≠ a → (flatO o ∨ (∃ dx f, o = .ins C dx f) ∨ b = d) → H b = some o → H' b = some o) : TaskV C a H' p d T := by
  obtain ⟨dx, aa, kvs, h1, h2, h3, h4⟩ := h
  have kp : Kp (vw (pA a) H) (vw (pA a) H') := vw_mono fun b o h f e => ⟨h, s b o (pA_ok.mp h) (.inl f) e⟩
  refine ⟨dx, aa, kvs, s _ _ (ne_of h1 ea (fun z => by cases z)) (.inr (.inl ⟨_, _, rfl⟩)) h1, h2.mono kp, s _ _ (ne_of h3 ea (fun z => by cases z)) (.inr (.inr rfl)) h3, h4.imp fun _ _ r => r.mono kp⟩
theorem TaskV.but {C a : Addr} {H H' : Hp} {p d : Addr} {T : TD} {zs : List V} (h : TaskV C a H p d T) (ea : H a = some (.lst zs)) (s : But a H H') : TaskV C a H' p d T := h.kept ea fun b o n _ e => s b o n e
theorem TaskV.same {C a : Addr} {H H' : Hp} {p d : Addr} {T : TD} {zs : List V} (h : TaskV C a H p d T) (ea : H a = some (.lst zs)) (s : Same H H') : TaskV C a H' p d T := h.but ea (.same s)
theorem NewAt.v {C a : Addr} {Hx H' : Hp} {p : Addr} {T : TD} {zs : List V} (h : NewAt C Hx H' p T) (exa : Hx a = some (.lst zs)) (ea' : H' a = some (.lst zs)) : ∃ d, Hx d = none ∧ TaskV C a H' p d T := by
  obtain ⟨dx, aa, d, kvs, h1, h2, hd, h3, h4⟩ := h
  have kp : Kp (nwx Hx p H') (vw (pA a) H') := fun b o f e => by
    obtain ⟨e1, e2, e3⟩ := nwx_some e
    exact vw_put (pA_ok.mpr fun c => by subst c; rw [e1] at exa; cases exa) e3
  refine ⟨d, hd, dx, aa, kvs, h1, h2.mono kp, h3, h4.imp fun x y r => ?_⟩
  obtain ⟨e, t, xs, e2, ht, az⟩ := r
  refine ⟨e, t, xs, e2, kp.lst ht, az.imp fun v q z => ?_⟩
  obtain ⟨t2, e3, ht2⟩ := z
  exact ⟨t2, e3, vw_put (pA_ok.mpr (ne_of ht2 ea' (fun z => by cases z))) ht2⟩
def ButS (S : Addr → Prop) (H H' : Hp) : Prop := ∀ b o, ¬ S b → H b = some o → H' b = some o
theorem ButS.trans {S : Addr → Prop} {H H1 H2 : Hp} (h : ButS S H H1) (g : ButS S H1 H2) : ButS S H H2 := fun b o n e => g b o n (h b o n e)
theorem TaskV.x {C a : Addr} {H : Hp} {p d d0 : Addr} {T : TD} (h : TaskV C a H p d T) (n : d ≠ d0) : TaskX C H p T d0 := by
  obtain ⟨dx, aa, kvs, h1, h2, h3, h4⟩ := h
  exact ⟨dx, aa, d, h1, h2.mono vw_kp, ⟨kvs, .inl h3, h4.imp fun _ _ r => r.mono vw_kp⟩, n⟩
/-- how many pairs are answered -/
def mm (n i j g : Nat) : Nat := if g < i then n else if g = i then j else 0
def updA (an : Nat → IP × List (Int × Int) → Int) (i : Nat) (e0 : IP × List (Int × Int)) (r : Int) : Nat → IP × List (Int × Int) → Int := fun g e => if g = i ∧ e = e0 then r else an g e
theorem anKV_upd_ne {an : Nat → IP × List (Int × Int) → Int} {i : Nat} {e0 : IP × List (Int × Int)} {r : Int} {g : Nat} {l : BD} (h : g ≠ i) : anKV (updA an i e0 r) g l = anKV an g l := by
  unfold anKV
  refine List.map_congr_left fun e _ => ?_
  unfold updA
  rw [if_neg (fun c => h c.1)]
theorem anKV_upd_not {an : Nat → IP × List (Int × Int) → Int} {i : Nat} {e0 : IP × List (Int × Int)} {r : Int} {g : Nat} {l : BD} (h : ∀ e ∈ l, e ≠ e0) : anKV (updA an i e0 r) g l = anKV an g l := by
  unfold anKV
  refine List.map_congr_left fun e m => ?_
  unfold updA
  rw [if_neg (fun c => h e m c.2)]
theorem take_ne {bo : BD} (s : (bo.map (·.1)).Pairwise ltN) {j : Nat} {e : IP × List (Int × Int)} (hj : bo[j]? = some e) : ∀ x ∈ bo.take j, x.1 ≠ e.1 := by
  intro x hx
  obtain ⟨k, hk⟩ := List.getElem?_of_mem hx
  have hk1 : k < j ∧ k < bo.length := by
    have := (List.getElem?_eq_some_iff.mp hk).1
    rw [List.length_take] at this
    omega
  obtain ⟨hjl, rfl⟩ := List.getElem?_eq_some_iff.mp hj
  rw [List.getElem?_take_of_lt hk1.1, List.getElem?_eq_getElem hk1.2] at hk
  injection hk with hk
  subst hk
  have := List.pairwise_iff_getElem.mp s k j (by rw [List.length_map]; exact hk1.2) (by rw [List.length_map]; exact hjl) hk1.1
  rw [List.getElem_map, List.getElem_map] at this
  exact ltN_ne this
theorem two_ints {rs : List (List Int)} (h : rs.length = 2) : rs = [rs.getD 0 [], rs.getD 1 []] := by
  match rs, h with
  | [x, y], _ => rfl
theorem getD_left {l r : List Int} {k : Nat} (h : k < l.length) : (l ++ r).getD k 0 = l.getD k 0 := by
  rw [List.getD_eq_getElem?_getD, List.getD_eq_getElem?_getD, List.getElem?_append_left h]
theorem getD_mid {l : List Int} {x : Int} : (l ++ [x]).getD l.length 0 = x := by
  rw [List.getD_eq_getElem?_getD, List.getElem?_append_right (Nat.le_refl _), Nat.sub_self]
  rfl
theorem getD_some {α : Type} {l : List α} {k : Nat} {x d : α} (h : l[k]? = some x) : l.getD k d = x := by
  rw [List.getD_eq_getElem?_getD, h]
  rfl
theorem TaskV.vx {C a : Addr} {H : Hp} {p d d0 : Addr} {T : TD} (h : TaskV C a H p d T) (hp : p ≠ a) (hd : d ≠ a) (n : d ≠ d0) : TaskX C (vw (pA a) H) p T d0 := by
  obtain ⟨dx, aa, kvs, h1, h2, h3, h4⟩ := h
  exact ⟨dx, aa, d, vw_put (pA_ok.mpr hp) h1, h2, ⟨kvs, .inl (vw_put (pA_ok.mpr hd) h3), h4⟩, n⟩
/-- a boxed protocol of its form of which nothing stands at a -/
abbrev BxV (C a : Addr) (H : Hp) (p t : Addr) (T : TD) (ch : Nat → List Int) (an : Nat → IP × List (Int × Int) → Int) (al ans d0 d1 : Addr) : Prop := BxF C (vw (pA a) H) p t T ch an al ans d0 d1
theorem But.vw {a : Addr} {H H' : Hp} (b : But a H H') : Same (vw (pA a) H) (vw (pA a) H') := fun x o e => by
  obtain ⟨h1, h2⟩ := vw_some e
  exact vw_put h1 (b _ _ (pA_ok.mp h1) h2)
theorem vw_same {p : Addr → Bool} {H : Hp} : Same (vw p H) H := fun x o e => (vw_some e).2
def spDrawn (C : Addr) : Sp := fun vs H Q _ => ∃ (a p d : Addr) (n : Int) (T : TD), vs = [.ref a, .ref p] ∧ WellAt H a n ∧ 0 ≤ n ∧ n < 110000 ∧ TaskV C a H p d T ∧ WF T ∧
  ∀ (r al ans d0 d1 : Addr) (ch : Nat → List Int) (an : Nat → IP × List (Int × Int) → Int) (H' : Hp), But a H H' → WellAt H' a (n + 300) → TaskV C a H' p d T → BxV C a H' p r T ch an al ans d0 d1 → Q (.ref r) H'
section
variable {P : Program} {w : World} {K : PySem.W.Frag} {mg : Str → Option Value} {base : Heap}
abbrev nDrawn : List Str := ["_law_state", "_law_task", "_law_told", "_law_answers", "_law_hand", "_law_pair", "_law_row", "_law_rows"]
theorem sc_drawn : FnScope nDrawn ["_law_state", "_law_task"] (defScope s__law_drawn) := ⟨rfl, rfl, rfl, by decide +kernel, rfl, by decide +kernel, by decide +kernel⟩
theorem ok_drawn {f g1 g2 C : Addr} {fd d1 d2 : FuncData} (F : Fun K "_law_drawn" "_law_drawn" s__law_drawn f fd) (T : Txt K mg) (Z : TxtC K mg C) (Dg : Def P w K mg base "_law_digit" ["_law_state", "_law_base"] 1 spDigit g1 d1)
    (Prs : MDef P w K mg base C "pairs" nPairs 1 (spPairs K C) g2 d2) : FnOk P w K mg base CX0 2 f fd ["_law_state", "_law_task"] (spDrawn C) := by
  refine F.ok sc_drawn (fun vs H Q E h => ?_) (fun cdv A outer s H vs Q E hr h => ?_)
  · obtain ⟨a, p, d, n, D, rfl, _⟩ := h
    rfl
  obtain ⟨a, p, d, n, D, rfl, hw, hn0, hn, hV, hW, q⟩ := h
  have nd := sc_drawn.nd
  have hu := hu_of hr
  refine ⟨_, (pss_cons (ps_setLc (i := 2) (own := [("_law_rows", 7)]) (g := (gName 7)) (tt := tYes) (te := (tLc (iList K (tVar 7)) (gName 6) tYes (tCall spDigit [] E0 (tCons (tVar 0) (tCons (tC (.int 4)) tNil))) [6])) rfl nd rfl rfl (sw_true rfl rfl rfl (by decide +kernel)) (pi_list (pe_fld (pv 1) rfl)) (blkOk_by (N := nDrawn) (sc := defScope s__law_drawn) (by decide +kernel)) (fun _ _ _ _ _ => (by exact (pg_name (i := 7) nd rfl (Or.inl rfl)))) (fun _ _ _ _ _ => pts_nil) (fun _ _ _ _ _ => (by exact (pe_lc (own := [("_law_row", 6)]) (g := (gName 6)) (tt := tYes) (te := (tCall spDigit [] E0 (tCons (tVar 0) (tCons (tC (.int 4)) tNil)))) rfl nd (pi_list (pv 7)) (blkOk_by (N := nDrawn)  (by kernel_rfl)) (fun _ _ _ _ _ => (by exact (pg_name (i := 6) nd rfl (Or.inl rfl)))) (fun _ _ _ _ _ => pts_nil) (fun _ _ _ _ _ => (by exact (pe_call Dg.G (hr.mono (by decide)) rfl Dg.m Dg.k Dg.b .nil pass0 (pa_cons (pv 0) (pa_cons pe_int pa_nil)))))))))
    (pss_cons (ps_set (i := 3) nd rfl (Or.inl rfl) (pe_lst (pa_cons pe_dnewT (pa_cons pe_dnewT pa_nil))))
    (pss_cons (ps_for PassesOwn.never (by rfl) (pi_range1 (by rfl) T.range (pa_cons pe_int pa_nil)) (pg_name (i := 4) nd rfl (Or.inl rfl))
      (pss_one (ps_for PassesOwn.never (by rfl) (pi_list (pe_meth0 (pv 1) Z.cl Prs.M Prs.G (hr.mono (by decide)) Prs.b .nil pass0)) (pg_name (i := 5) nd rfl (Or.inl rfl))
      (pss_one (ps_dput hu (pe_ix ix_list (pv 3) (pv 4) (fun _ _ => rfl)) (pv 5) (pe_call Dg.G (hr.mono (by decide)) rfl Dg.m Dg.k Dg.b .nil pass0 (pa_cons (pv 0) (pa_cons pe_int pa_nil))) rfl)))))
    (pss_one (ps_ret (pe_tup (pa_cons (pv 2) (pa_cons (pv 3) pa_nil)))))))), ?_⟩
  obtain ⟨dx, aa, kvs0, hp, hA, hd, hE⟩ := id hV
  obtain ⟨zw, ea⟩ := hw.lst
  obtain ⟨t, x0, x1, et, ht, hx0, hx1⟩ := id hA
  obtain rfl : aa = t := by injection et
  obtain ⟨taa, htt⟩ := vw_some ht
  have naa : aa ≠ a := pA_ok.mp taa
  refine ⟨_, rfl, p, C, dx, _, _, rfl, hp, Z.cl, Z.nA, flds_alone _ _, aa, rfl, ⟨_, SqL.of htt⟩, fun D1 hD1 => ?_⟩
  have s1 := same_new hD1 (.lst [])
  have haD1 : a ≠ D1 := hw.ne hD1
  let p1 : Addr → Bool := fun b => decide (b ≠ a ∧ b ≠ D1)
  have p1_ok : ∀ b, p1 b = true ↔ (b ≠ a ∧ b ≠ D1) := fun b => decide_eq_true_iff
  have hRows : ∀ i v, ([x0, x1] : List V)[i]? = some v → i < 2 ∧ RowsAt (vw (pA a) H) v (D.al i) := by
    intro i v hv
    match i, hv with
    | 0, hv => cases hv; exact ⟨by decide, hx0⟩
    | 1, hv => cases hv; exact ⟨by decide, hx1⟩
  refine list_turns (xs := [x0, x1]) (fun i H' => But a H H' ∧ WellAt H' a (n + 21 * (i : Int)) ∧ ∃ ys rs, H' D1 = some (.lst ys) ∧ A2 (RowAt (vw p1 H')) ys rs ∧ rs.length = i ∧ ∀ k rr, rs[k]? = some rr → rr.length = (D.al k).length ∧ ∀ x ∈ rr, okOut x) ⟨.same s1, ?_, [], [], upd_same, .nil, rfl, fun k rr e => by simp at e⟩ (fun i H' _ h => SqL.of (h.1 _ _ naa htt)) ?_ ?_
  · rw [show n + 21 * ((0 : Nat) : Int) = n by omega]
    exact hw.same s1
  · rintro i v H' hv ⟨b1, w1, ys, rs, hy, ay, hrl, hrr⟩
    obtain ⟨hi, t2, us0, rfl, ht2, hrow⟩ := hRows i v hv
    obtain ⟨nt2, ht2'⟩ := vw_some ht2
    have nt2 := pA_ok.mp nt2
    have hln := hW.n0 i hi
    have hul : us0.length = (D.al i).length := hrow.len
    refine ⟨rfl, _, rfl, t2, rfl, ⟨_, SqL.of (b1 _ _ nt2 ht2')⟩, fun D2 hD2 => ?_⟩
    have s2 := same_new hD2 (.lst [])
    have haD2 : a ≠ D2 := w1.ne hD2
    have hD12 : D1 ≠ D2 := ne_of_none hy hD2
    refine list_turns (xs := us0) (fun j H6 => But a H' H6 ∧ WellAt H6 a (n + 21 * (i : Int) + (j : Int)) ∧ ∃ rr : List Int, H6 D2 = some (.lst (rr.map V.int)) ∧ rr.length = j ∧ ∀ x ∈ rr, okOut x) ⟨.same s2, ?_, [], upd_same, rfl, fun r hr => nomatch hr⟩ (fun j H6 _ h => SqL.of (h.1 _ _ nt2 (b1 _ _ nt2 ht2'))) ?_ ?_
    · rw [show n + 21 * (i : Int) + ((0 : Nat) : Int) = n + 21 * (i : Int) by omega]
      exact w1.same s2
    · rintro j x H6 hx ⟨b6, w6, rr, hu6, hrl6, hin⟩
      have hjl : j < us0.length := (List.getElem?_eq_some_iff.mp hx).1
      refine ⟨rfl, _, rfl, a, n + 21 * (i : Int) + (j : Int), 4, rfl, .inr w6, by omega, by omega, by omega, by omega, fun r H7 r0 r1 b7 w7 => ?_⟩
      have hD27 := b7 _ _ (Ne.symm haD2) hu6
      refine ⟨_, hD27, ?_, (b6.trans b7).new hD2, ?_, rr ++ [r], ?_, by rw [List.length_append, hrl6]; rfl, fun x hx => ?_⟩
      · rw [List.length_map, hrl6]
        exact Nat.lt_of_lt_of_le (show j < 100 by omega) (by decide)
      · rw [show n + 21 * (i : Int) + ((j + 1 : Nat) : Int) = n + 21 * (i : Int) + (j : Int) + 1 by omega]
        exact w7.but haD2 But.at
      · rw [upd_same, List.map_append]
        rfl
      · rcases List.mem_append.mp hx with m | m
        · exact hin x m
        · obtain rfl := List.mem_singleton.mp m
          exact ⟨r0, by omega⟩
    · rintro H6 ⟨b6, w6, rr, hu6, hrl6, hin⟩
      have hy6 := b6 _ _ (Ne.symm haD1) hy
      refine ⟨ys, hy6, ?_, (b1.trans b6).new hD1, ?_, _, rs ++ [rr], upd_same, ?_, by rw [List.length_append, hrl]; rfl, fun k' rr' e => ?_⟩
      · rw [ay.len, hrl]
        exact Nat.lt_of_lt_of_le hi (by decide)
      · refine WellAt.up (n := n + 21 * (i : Int) + (us0.length : Int)) (w6.but haD1 But.at) ?_
        rw [hul]
        omega
      · refine A2.snoc (ay.imp fun _ _ r => r.mono (vw_mono fun b o h f e => ⟨h, ?_⟩)) ⟨D2, rfl, vw_put ((p1_ok D2).mpr ⟨Ne.symm haD2, Ne.symm hD12⟩) (by rw [upd_ne (Ne.symm hD12)]; exact hu6)⟩
        obtain ⟨z1, z2⟩ := (p1_ok b).mp h
        rw [upd_ne z2]
        exact b6 _ _ z1 e
      · by_cases c : k' < rs.length
        · rw [List.getElem?_append_left c] at e
          exact hrr k' rr' e
        · have c2 : k' = rs.length := by
            have := (List.getElem?_eq_some_iff.mp e).1
            rw [List.length_append] at this
            have e1 : ([rr] : List (List Int)).length = 1 := rfl
            omega
          subst c2
          rw [List.getElem?_append_right (Nat.le_refl _), Nat.sub_self] at e
          obtain rfl : rr = rr' := by simpa using e
          rw [hrl]
          exact ⟨by rw [hrl6, hul], hin⟩
  · rintro H5 ⟨b5, w5, ys, rs, hy, ay, hrl, hrr⟩
    replace hrl : rs.length = 2 := hrl
    let ch : Nat → List Int := fun h => rs.getD h []
    have hrs : rs = [ch 0, ch 1] := two_ints hrl
    rw [hrs] at ay
    have hch : ∀ h, h < 2 → (ch h).length = (D.al h).length ∧ ∀ x ∈ ch h, okOut x := fun h hh => by
      refine hrr h (ch h) ?_
      show rs[h]? = some (rs.getD h [])
      rw [List.getD_eq_getElem?_getD, List.getElem?_eq_getElem (show h < rs.length by omega)]
      rfl
    clear hrr
    have w5 : WellAt H5 a (n + 42) := w5.up (by show n + 21 * ((2 : Nat) : Int) ≤ n + 42; omega)
    intro d0 hd0
    have t0 := same_new hd0 (.dT [])
    intro d1 hd1
    have t1 := same_new hd1 (.dT [])
    have e0 : (upd (upd H5 d0 (.dT [])) d1 (.dT [])) d0 = some (.dT []) := t1 _ _ upd_same
    have e1 : (upd (upd H5 d0 (.dT [])) d1 (.dT [])) d1 = some (.dT []) := upd_same
    have n01 : d0 ≠ d1 := ne_of_none (upd_same : (upd H5 d0 (.dT [])) d0 = some (.dT [])) hd1
    have t01 := t0.trans t1
    generalize upd (upd H5 d0 (.dT [])) d1 (.dT []) = H6 at t1 t01 e0 e1 ⊢
    refine ⟨(by show 2 ≤ sizeLine; decide), fun L hL => ?_⟩
    have t2 := same_new hL (.lst [V.ref d0, V.ref d1])
    have eL : (upd H6 L (.lst [V.ref d0, V.ref d1])) L = some (.lst [V.ref d0, V.ref d1]) := upd_same
    have e0 := t2 _ _ e0
    have e1 := t2 _ _ e1
    have t57 := t01.trans t2
    generalize upd H6 L (.lst [V.ref d0, V.ref d1]) = H7 at t2 t57 eL e0 e1 ⊢
    have hd1' : H5 d1 = none := none_of_same t0 hd1
    have had0 : a ≠ d0 := w5.ne hd0
    have had1 : a ≠ d1 := w5.ne hd1'
    have hn0' : H d0 = none := none_of_but b5 (Ne.symm had0) hd0
    have hn1' : H d1 = none := none_of_but b5 (Ne.symm had1) hd1'
    let S : Addr → Prop := fun b => b = a ∨ b = d0 ∨ b = d1
    let dd : Nat → Addr := fun g => if g = 0 then d0 else d1
    have hS : ∀ g, g < 2 → S (dd g) := fun g hg => by
      obtain rfl | rfl : g = 0 ∨ g = 1 := by omega
      · exact .inr (.inl rfl)
      · exact .inr (.inr rfl)
    have hdn : ∀ g, g < 2 → H (dd g) = none := fun g hg => by
      obtain rfl | rfl : g = 0 ∨ g = 1 := by omega
      · exact hn0'
      · exact hn1'
    have hat : ∀ g, g < 2 → ([V.ref d0, V.ref d1] : List V)[g]? = some (V.ref (dd g)) := fun g hg => by
      obtain rfl | rfl : g = 0 ∨ g = 1 := by omega
      · rfl
      · rfl
    have hdd : ∀ g i, g < 2 → i < 2 → g ≠ i → dd g ≠ dd i := fun g i hg hi c => by
      obtain rfl | rfl : g = 0 ∨ g = 1 := by omega
      · obtain rfl : i = 1 := by omega
        exact n01
      · obtain rfl : i = 0 := by omega
        exact Ne.symm n01
    have had : ∀ g, g < 2 → a ≠ dd g := fun g hg => by
      obtain rfl | rfl : g = 0 ∨ g = 1 := by omega
      · exact had0
      · exact had1
    have nSL : ¬ S L := by
      rintro (c | c | c)
      · exact (w5.same t01).ne hL c.symm
      · subst c; rw [eL] at e0; cases e0
      · subst c; rw [eL] at e1; cases e1
    have b7 : But a H H7 := b5.trans (.same t57)
    have toBut : ∀ H', ButS S H7 H' → But a H H' := fun H' s b o nb e => s b o (by
      rintro (c | c | c)
      · exact nb c
      · subst c; rw [hn0'] at e; cases e
      · subst c; rw [hn1'] at e; cases e) (b7 _ _ nb e)
    let Iv : Nat → Nat → Hp → Prop := fun i j H' => ButS S H7 H' ∧ WellAt H' a (n + 42 + 60 * (i : Int) + (j : Int)) ∧ ∃ an : Nat → IP × List (Int × Int) → Int, (∀ g e, 0 ≤ an g e ∧ an g e < 4) ∧ ∀ g, g < 2 → H' (dd g) = some (.dT (anKV an g (D.bo.take (mm D.bo.length i j g))))
    refine ⟨2, rfl, by decide, by decide, for_range (n := 2) (fun i σ H' => ∃ g4 g5, σ = [some (.ref a), some (.ref p), some (.ref D1), some (.ref L), g4, g5, none, none] ∧ Iv i 0 H') ⟨_, _, rfl, fun b o _ e => e, ?_, fun _ _ => 0, fun g e => (by decide : (0 : Int) ≤ 0 ∧ (0 : Int) < 4), fun g hg => ?_⟩ ?_ ?_⟩
    · exact (w5.same t57).up (by omega)
    · have : mm D.bo.length 0 0 g = 0 := by
        unfold mm
        rw [if_neg (Nat.not_lt_zero _)]
        split <;> rfl
      rw [this]
      obtain rfl | rfl : g = 0 ∨ g = 1 := by omega
      · exact e0
      · exact e1
    · rintro i σ H' hi ⟨g4, g5, rfl, s7, w7, an, ha, hdd'⟩
      have ej : (0 : Int) + (i : Int) = (i : Int) := by omega
      rw [ej]
      have hV' := hV.but ea (toBut H' s7)
      obtain ⟨dx', aa', kvs', hp', _, _, _⟩ := id hV'
      refine ⟨_, rfl, p, dx', _, rfl, hp', flds_no _ _ (by decide +kernel) (by decide +kernel), p, D, rfl, hV'.task, hW, fun r xs hr0 hx => ?_⟩
      have s8 := same_new hr0 (.lst xs)
      have hr1 : (upd H' r (.lst xs)) r = some (.lst xs) := upd_same
      have hxl : xs.length = D.bo.length := by rw [hx.len, List.length_map]
      have hTup : ∀ b zs, H' b = some (.tup zs) → ¬ S b := fun b zs e => by
        rintro (c | c | c)
        · rw [c] at e; obtain ⟨z, ez⟩ := w7.lst; rw [ez] at e; cases e
        · rw [c] at e; rw [show H' d0 = some _ from hdd' 0 (by decide)] at e; cases e
        · rw [c] at e; rw [show H' d1 = some _ from hdd' 1 (by decide)] at e; cases e
      have nSr : ¬ S r := by
        rintro (c | c | c)
        · exact w7.ne hr0 c.symm
        · rw [c] at hr0; rw [show H' d0 = some _ from hdd' 0 (by decide)] at hr0; cases hr0
        · rw [c] at hr0; rw [show H' d1 = some _ from hdd' 1 (by decide)] at hr0; cases hr0
      refine ⟨r, rfl, ⟨_, SqL.of hr1⟩, for_list (xs := xs) (fun j σ H6 => ∃ g5, σ = [some (.ref a), some (.ref p), some (.ref D1), some (.ref L), some (.int (i : Int)), g5, none, none] ∧ ButS S (upd H' r (.lst xs)) H6 ∧ Iv i j H6) ⟨_, rfl, fun b o _ e => e, fun b o nb e => s8 _ _ (s7 b o nb e), w7.same s8, an, ha, fun g hg => s8 _ _ (hdd' g hg)⟩ (fun j σ H6 _ ⟨_, _, s6, _⟩ => SqL.of (s6 _ _ nSr hr1)) ?_ ?_⟩
      · clear ha hdd' an
        rintro j x σ H6 hxi ⟨g5, rfl, s6, s76, w6, an, ha, hdd'⟩
        obtain ⟨y, hy2, tt, rfl, htt2⟩ := hx.get hxi
        rw [List.getElem?_map] at hy2
        obtain ⟨e, hbe, rfl⟩ := Option.map_eq_some_iff.mp hy2
        have hj : j < D.bo.length := (List.getElem?_eq_some_iff.mp hbe).1
        have hmny := hW.many
        refine ⟨_, rfl, a, _, 4, rfl, .inr w6, by omega, by omega, by decide, by decide, fun rd H8 rd0 rd1 b8 w8 => ?_⟩
        have hL8 : H8 L = some (.lst [V.ref d0, V.ref d1]) := b8 _ _ (fun c => nSL (.inl c)) (s76 _ _ nSL eL)
        have htt8 : H8 tt = some (.tup ((kI e.1).map kV)) := b8 _ _ (fun c => hTup _ _ htt2 (.inl c)) (s6 _ _ (hTup _ _ htt2) (s8 _ _ htt2))
        have hk6 := hdd' i hi
        have emm : mm D.bo.length i j i = j := by
          unfold mm
          rw [if_neg (Nat.lt_irrefl _), if_pos rfl]
        rw [emm] at hk6
        have hk8 := b8 _ _ (Ne.symm (had i hi)) hk6
        have hvn : valV (anKV an i (D.bo.take j)) (kI e.1) = none := valV_noneP fun z hz c => by
          obtain ⟨z', hz', rfl⟩ := List.mem_map.mp hz
          exact take_ne hW.srt hbe z' hz' (kI_inj c)
        have hsz : (anKV an i (D.bo.take j)).length ≤ 60 := by
          unfold anKV
          rw [List.length_map, List.length_take]
          omega
        refine ⟨_, rfl, _, rfl, L, _, _, _, rfl, rfl, SqL.of hL8, atI_nat (hat i hi), _, rfl, dd i, _, rfl, DPut.t (k := kI e.1) hk8 htt8 (Nat.lt_of_le_of_lt hsz (by decide)), ?_⟩
        rw [putK_new _ hvn]
        have s9 : ButS S H6 (upd H8 (dd i) (.dT (anKV an i (D.bo.take j) ++ [(kI e.1, V.int rd)]))) := fun b o nb eb => by
          rw [upd_ne (fun c => nb (by rw [c]; exact hS i hi))]
          exact b8 _ _ (fun c => nb (.inl c)) eb
        refine ⟨_, rfl, s6.trans s9, s76.trans s9, ?_, updA an i e rd, fun g x => ?_, fun g hg => ?_⟩
        · rw [show n + 42 + 60 * (i : Int) + ((j + 1 : Nat) : Int) = n + 42 + 60 * (i : Int) + (j : Int) + 1 by omega]
          exact w8.but (had i hi) But.at
        · unfold updA
          split
          · exact ⟨rd0, rd1⟩
          · exact ha g x
        · by_cases c : g = i
          · subst c
            have emm' : mm D.bo.length g (j + 1) g = j + 1 := by
              unfold mm
              rw [if_neg (Nat.lt_irrefl _), if_pos rfl]
            rw [upd_same, emm', take_get hbe]
            have e1 : anKV (updA an g e rd) g (D.bo.take j ++ [e]) = anKV (updA an g e rd) g (D.bo.take j) ++ [(kI e.1, V.int (updA an g e rd g e))] := List.map_append
            rw [e1, anKV_upd_not (fun z hz c => take_ne hW.srt hbe z hz (by rw [c]))]
            have e2 : updA an g e rd g e = rd := if_pos ⟨rfl, rfl⟩
            rw [e2]
          · rw [upd_ne (hdd g i hg hi c), anKV_upd_ne c]
            have emm' : mm D.bo.length i (j + 1) g = mm D.bo.length i j g := by
              unfold mm
              rw [if_neg c, if_neg c]
            rw [emm']
            exact b8 _ _ (Ne.symm (had g hg)) (hdd' g hg)
      · clear ha hdd' an
        rintro σ H6 ⟨g5, rfl, s6, s76, w6, an, ha, hdd'⟩
        have hmny := hW.many
        refine ⟨_, _, rfl, s76, w6.up (by rw [hxl]; omega), an, ha, fun g hg => ?_⟩
        have h1 := hdd' g hg
        have emm' : mm D.bo.length i xs.length g = mm D.bo.length (i + 1) 0 g := by
          unfold mm
          rw [hxl]
          by_cases c : g < i
          · rw [if_pos c, if_pos (show g < i + 1 by omega)]
          · rw [if_neg c]
            by_cases c2 : g = i
            · rw [if_pos c2, if_pos (show g < i + 1 by omega)]
            · rw [if_neg c2, if_neg (show ¬ g < i + 1 by omega)]
              split <;> rfl
        rw [emm'] at h1
        exact h1
    · rintro σ H' ⟨g4, g5, rfl, s7, w7, an, ha, hdd'⟩
      refine ⟨_, rfl, _, rfl, (by show 2 ≤ sizeLine; decide), fun r hr => ?_⟩
      have s9 := same_new hr (.tup [V.ref D1, V.ref L])
      have hfull : ∀ g, g < 2 → (upd H' r (.tup [V.ref D1, V.ref L])) (dd g) = some (.dT (anKV an g D.bo)) := fun g hg => by
        have h1 := s9 _ _ (hdd' g hg)
        have : mm D.bo.length 2 0 g = D.bo.length := if_pos hg
        rw [this, List.take_length] at h1
        exact h1
      have bF := (toBut H' s7).trans (.same s9)
      have hVF := hV.but ea bF
      have mv : ∀ b o, b ≠ a → H5 b = some o → (upd H' r (.tup [V.ref D1, V.ref L])) b = some o := fun b o nb e => s9 _ _ (s7 _ _ (by
        rintro (c | c | c)
        · exact nb c
        · subst c; rw [hd0] at e; cases e
        · subst c; rw [hd1'] at e; cases e) (t57 _ _ e))
      have hdn0 : ∀ g, g < 2 → d ≠ dd g := fun g hg c => by
        subst c
        rw [hdn g hg] at hd
        cases hd
      have hVv : ∀ {d0 : Addr}, d ≠ d0 → TaskX C (vw (pA a) (upd H' r (.tup [V.ref D1, V.ref L]))) p D d0 := fun n => hVF.vx (ne_of hp ea (fun z => by cases z)) (ne_of hd ea (fun z => by cases z)) n
      have na : ∀ {b : Addr} {o : HO}, b ≠ a → (upd H' r (.tup [V.ref D1, V.ref L])) b = some o → (vw (pA a) (upd H' r (.tup [V.ref D1, V.ref L]))) b = some o := fun h e => vw_put (pA_ok.mpr h) e
      refine q r D1 L d0 d1 ch an _ bF (w7.up (by omega) |>.same s9) hVF ⟨na ((w7.ne hr).symm) upd_same, ⟨D1, ys, rfl, na (Ne.symm haD1) (mv _ _ (Ne.symm haD1) hy), ay.imp fun _ _ r => r.mono ?g1⟩, na (fun c => nSL (.inl c)) (s9 _ _ (s7 _ _ nSL eL)), na (Ne.symm had0) (hfull 0 (by decide)), na (Ne.symm had1) (hfull 1 (by decide)), hVv (hdn0 0 (by decide)), hVv (hdn0 1 (by decide)), fun h hh => (hch h hh).1, fun h hh => (hch h hh).2, ?g3⟩
      case g1 =>
        intro b o f e
        obtain ⟨z1, z2⟩ := vw_some e
        exact na ((p1_ok b).mp z1).1 (mv _ _ ((p1_ok b).mp z1).1 z2)
      case g3 =>
        intro h hh e he
        obtain ⟨z1, z2⟩ := ha h e
        exact ⟨z1, by omega⟩
end
end TA

set_option Elab.async false
set_option maxRecDepth 100000
set_option maxHeartbeats 4000000
namespace TA
open PySem L2 PyProof.Rows
set_option linter.unusedVariables false
def rw1 : List Int := [0, 0, 1, 1, 1]
def rw2 : List Int := [1, 0, 1, 0, 0]
/-- a flat thing that is shown shortly -/
def tinyE (x : V) : Prop := x = .non ∨ (∃ b, x = .bl b) ∨ ∃ k, x = .int k ∧ -1 ≤ k ∧ k ≤ 2
theorem tinyE.flat {x : V} (h : tinyE x) : flatE x := h.imp id (.imp id fun ⟨k, e, _⟩ => ⟨k, e⟩)
/-- what is handed in as a weaving -/
inductive WvV (H : Hp) : V → Prop
  | ok {l : Addr} {ws : List Int} : H l = some (.lst (ws.map V.int)) → ws ∈ allW → WvV H (.ref l)
  | tup {a : Addr} {xs : List V} : H a = some (.tup xs) → xs.length ≤ 7 → (∀ x ∈ xs, tinyE x) → WvV H (.ref a)
  | non : WvV H .non
  | str : WvV H (.str "01")
  | lst {a : Addr} {xs : List V} : H a = some (.lst xs) → xs.length ≤ 7 → (∀ x ∈ xs, tinyE x) → (∃ x ∈ xs, handV x = none) → WvV H (.ref a)
theorem WvV.mono {H H' : Hp} (s : Same H H') {v : V} (h : WvV H v) : WvV H' v := by
  cases h with
  | ok h m => exact .ok (s _ _ h) m
  | tup h a b => exact .tup (s _ _ h) a b
  | non => exact .non
  | str => exact .str
  | lst h a b c => exact .lst (s _ _ h) a b c
def spLWv : Sp := fun vs H Q _ => ∃ (a : Addr) (n : Int) (sp : Bool), vs = [.ref a, .bl sp] ∧ WellAt H a n ∧ 0 ≤ n ∧ n < 900000 ∧ ∀ (v : V) (H' : Hp), But a H H' → WellAt H' a (n + 5) → WvV (vw (pA a) H') v → (sp = false → ∃ l ws, v = .ref l ∧ ws ∈ allW ∧ (vw (pA a) H') l = some (.lst (ws.map V.int))) → Q v H'
theorem cut_rw : ∀ k : Nat, k < 6 → cutV (rw1.map V.int) none (some (k : Int)) = (rw1.take k).map V.int ∧ cutV (rw2.map V.int) none (some (k : Int)) = (rw2.take k).map V.int := by decide +kernel
theorem rw_all : ∀ k : Nat, k < 6 → rw1.take k ∈ allW ∧ rw2.take k ∈ allW := by decide +kernel
theorem cut_tiny : ∀ ws ∈ allW, ws.length ≤ 6 ∧ ∀ x ∈ ws, -1 ≤ x ∧ x ≤ 2 := by decide +kernel
section
variable {P : Program} {w : World} {K : PySem.W.Frag} {mg : Str → Option Value} {base : Heap}
abbrev nLW : List Str := ["_law_state", "_law_spoil", "_law_row", "_law_odd"]
theorem sc_lw : FnScope nLW ["_law_state", "_law_spoil"] (defScope sLawWeav) := ⟨rfl, rfl, rfl, by decide +kernel, rfl, by decide +kernel, by decide +kernel⟩
theorem ok_lw {f g1 : Addr} {fd d1 : FuncData} (F : Fun K "_law_weaving" "_law_weaving" sLawWeav f fd) (T : Txt K mg) (Dg : Def P w K mg base "_law_digit" ["_law_state", "_law_base"] 1 spDigit g1 d1) : FnOk P w K mg base CX0 2 f fd ["_law_state", "_law_spoil"] spLWv := by
  refine F.ok sc_lw (fun vs H Q E h => ?_) (fun cdv A outer s H vs Q E hr h => ?_)
  · obtain ⟨a, n, sp, rfl, _⟩ := h
    rfl
  obtain ⟨a, n, sp, rfl, w0, hn0, hn1, q⟩ := h
  have nd := sc_lw.nd
  refine ⟨_, (pss_cons (ps_set (i := 2) nd rfl (Or.inl rfl) (pe_lst (pa_cons pe_int (pa_cons pe_int (pa_cons pe_int (pa_cons pe_int (pa_cons pe_int pa_nil)))))))
    (pss_cons (ps_if (pt_cmpR op_eq (pe_call Dg.G (hr.mono (by decide)) rfl Dg.m Dg.k Dg.b .nil pass0 (pa_cons (pv 0) (pa_cons pe_int pa_nil))) pe_int (nomark _))
      (pss_one (ps_set (i := 2) nd rfl (Or.inl rfl) (pe_lst (pa_cons pe_int (pa_cons pe_int (pa_cons pe_int (pa_cons pe_int (pa_cons pe_int pa_nil))))))))
      pss_nil)
    (pss_cons (ps_set (i := 2) nd rfl (Or.inl rfl) (pe_slice sl_list (pv 2) po_none (po_some (pe_call Dg.G (hr.mono (by decide)) rfl Dg.m Dg.k Dg.b .nil pass0 (pa_cons (pv 0) (pa_cons pe_int pa_nil))))))
    (pss_cons (ps_if (pt_not (pt_val (pv 1)))
      (pss_one (ps_ret (pv 2)))
      pss_nil)
    (pss_cons (ps_set (i := 3) nd rfl (Or.inl rfl) (pe_lst (pa_cons (pe_callTy call_tuple_of (by rfl) T.tuple boot_tuple (pa_cons (pv 2) pa_nil)) (pa_cons (pe_op op_cat (pv 2) (pe_lst (pa_cons pe_int pa_nil))) (pa_cons (pe_op op_cat (pe_lst (pa_cons pe_bl pa_nil)) (pv 2)) (pa_cons pe_non (pa_cons (pe_lst (pa_cons pe_int (pa_cons pe_int (pa_cons pe_int pa_nil)))) (pa_cons (pe_lst (pa_cons pe_int (pa_cons pe_int (pa_cons pe_int (pa_cons pe_int pa_nil))))) (pa_cons (pe_lst (pa_cons pe_int (pa_cons pe_int (pa_cons pe_int (pa_cons pe_int (pa_cons pe_int (pa_cons pe_int pa_nil))))))) pa_nil)))))))))
    (pss_one (ps_ret (pe_ix ix_list (pe_op op_cat (pv 3) (pe_lst (pa_cons (pe_op op_cat (pv 2) (pe_lst (pa_cons (pe_un un_neg pe_int) pa_nil))) (pa_cons pe_str (pa_cons (pe_lst (pa_cons pe_non pa_nil)) pa_nil))))) (pe_call Dg.G (hr.mono (by decide)) rfl Dg.m Dg.k Dg.b .nil pass0 (pa_cons (pv 0) (pa_cons pe_int pa_nil))) (fun _ _ => rfl))))))))), ?_⟩
  refine ⟨(by show 5 ≤ sizeLine; decide), fun l0 h0 => ?_⟩
  have s0 := same_new h0 (.lst (rw1.map V.int))
  refine ⟨_, rfl, a, n, 2, rfl, .inr (w0.same s0), by omega, by omega, by decide, by decide, fun r H1 r0 r1 b1 w1 => ⟨rfl, _, rfl, ?_⟩⟩
  have b01 : But a H H1 := (But.same s0).trans b1
  have e1 : H1 l0 = some (.lst (rw1.map V.int)) := b1 _ _ (Ne.symm (w0.ne h0)) upd_same
  refine join2 (fun σ Hc => ∃ lr R, σ = [some (.ref a), some (.bl sp), some (.ref lr), none] ∧ But a H Hc ∧ WellAt Hc a (n + 1) ∧ lr ≠ a ∧ Hc lr = some (.lst (R.map V.int)) ∧ (R = rw1 ∨ R = rw2)) ⟨l0, rw1, rfl, b01, w1, Ne.symm (w0.ne h0), e1, .inl rfl⟩ ?_ ?_
  rotate_left
  · intro _ k
    refine ⟨(by show 5 ≤ sizeLine; decide), fun l1 h1 => k _ _ ⟨l1, rw2, rfl, b01.trans (.same (same_new h1 _)), w1.same (same_new h1 _), Ne.symm (w1.ne h1), upd_same, .inr rfl⟩⟩
  rintro σ Hc ⟨lr, R, rfl, bc, wc, nlr, elr, hR⟩
  refine ⟨_, rfl, _, rfl, a, n + 1, 6, rfl, .inr wc, by omega, by omega, by decide, by decide, fun r2 H2 r20 r21 b2 w2 => ?_⟩
  obtain ⟨k, rfl⟩ : ∃ k : Nat, r2 = (k : Int) := ⟨r2.toNat, by omega⟩
  have hk : k < 6 := by omega
  refine ⟨_, rfl, lr, _, rfl, SqL.of (b2 _ _ nlr elr), fun lw hw => ?_⟩
  obtain ⟨ws, ecut, hws⟩ : ∃ ws, cutV (R.map V.int) none (some (k : Int)) = ws.map V.int ∧ ws ∈ allW := by
    rcases hR with rfl | rfl
    · exact ⟨_, (cut_rw k hk).1, (rw_all k hk).1⟩
    · exact ⟨_, (cut_rw k hk).2, (rw_all k hk).2⟩
  rw [ecut]
  have b := bc.trans b2
  have w := w2
  have t1 := same_new hw (.lst (ws.map V.int))
  have nlw : lw ≠ a := Ne.symm (w.ne hw)
  have elw : (upd H2 lw (.lst (ws.map V.int))) lw = some (.lst (ws.map V.int)) := upd_same
  have b := b.trans (.same t1)
  have w := w.same t1
  generalize upd H2 lw (.lst (ws.map V.int)) = G1 at t1 elw  b w ⊢
  clear t1
  cases sp with
  | false => exact ⟨_, rfl, false, rfl, iteT ⟨_, rfl, q _ _ b (w.up (by omega)) (.ok (vw_put (pA_ok.mpr nlw) elw) hws) fun _ => ⟨lw, ws, rfl, hws, vw_put (pA_ok.mpr nlw) elw⟩⟩⟩
  | true =>
    refine ⟨_, rfl, true, rfl, iteF ?_⟩
    obtain ⟨wl, wt⟩ := cut_tiny ws hws
    have wtV : ∀ x ∈ ws.map V.int, tinyE x := fun x hx => by
      obtain ⟨y, hy, rfl⟩ := List.mem_map.mp hx
      exact .inr (.inr ⟨y, rfl, wt y hy⟩)
    have wll : (ws.map V.int).length ≤ 6 := by rw [List.length_map]; exact wl
    have szl : ∀ m : Nat, m ≤ 100 → m ≤ sizeLine := fun m h => Nat.le_trans h (by decide)
    refine ⟨_, rfl, lw, _, rfl, .inl ⟨SqL.of elw, fun p1 h1 => ?_⟩⟩
    have t2 := same_new h1 (.tup (ws.map V.int))
    have np1 : p1 ≠ a := Ne.symm (w.ne h1)
    have ep1 : (upd G1 p1 (.tup (ws.map V.int))) p1 = some (.tup (ws.map V.int)) := upd_same
    have elw := t2 _ _ elw
    have b := b.trans (.same t2)
    have w := w.same t2
    generalize upd G1 p1 (.tup (ws.map V.int)) = G2 at t2 ep1 elw b w ⊢
    clear t2
    refine ⟨_, rfl, szl _ (by decide), fun u2 g2 => ?_⟩
    have t3 := same_new g2 (.lst [V.int 2])
    have nu2 : u2 ≠ a := Ne.symm (w.ne g2)
    have eu2 : (upd G2 u2 (.lst [V.int 2])) u2 = some (.lst [V.int 2]) := upd_same
    have elw := t3 _ _ elw
    have ep1 := t3 _ _ ep1
    have b := b.trans (.same t3)
    have w := w.same t3
    generalize upd G2 u2 (.lst [V.int 2]) = G3 at t3 eu2 elw ep1 b w ⊢
    clear t3
    refine ⟨lw, u2, _, _, rfl, rfl, elw, eu2, szl _ (by show _ + 1 ≤ 100; omega), fun p2 h2 => ?_⟩
    have t4 := same_new h2 (.lst (ws.map V.int ++ [V.int 2]))
    have np2 : p2 ≠ a := Ne.symm (w.ne h2)
    have ep2 : (upd G3 p2 (.lst (ws.map V.int ++ [V.int 2]))) p2 = some (.lst (ws.map V.int ++ [V.int 2])) := upd_same
    have elw := t4 _ _ elw
    have ep1 := t4 _ _ ep1
    have eu2 := t4 _ _ eu2
    have b := b.trans (.same t4)
    have w := w.same t4
    generalize upd G3 p2 (.lst (ws.map V.int ++ [V.int 2])) = G4 at t4 ep2 elw ep1 eu2 b w ⊢
    clear t4
    refine ⟨szl _ (by decide), fun u3 g3 => ?_⟩
    have t5 := same_new g3 (.lst [V.bl true])
    have nu3 : u3 ≠ a := Ne.symm (w.ne g3)
    have eu3 : (upd G4 u3 (.lst [V.bl true])) u3 = some (.lst [V.bl true]) := upd_same
    have elw := t5 _ _ elw
    have ep1 := t5 _ _ ep1
    have eu2 := t5 _ _ eu2
    have ep2 := t5 _ _ ep2
    have b := b.trans (.same t5)
    have w := w.same t5
    generalize upd G4 u3 (.lst [V.bl true]) = G5 at t5 eu3 elw ep1 eu2 ep2 b w ⊢
    clear t5
    refine ⟨_, rfl, u3, lw, _, _, rfl, rfl, eu3, elw, szl _ (by show 1 + _ ≤ 100; omega), fun p3 h3 => ?_⟩
    have t6 := same_new h3 (.lst ([V.bl true] ++ ws.map V.int))
    have np3 : p3 ≠ a := Ne.symm (w.ne h3)
    have ep3 : (upd G5 p3 (.lst ([V.bl true] ++ ws.map V.int))) p3 = some (.lst ([V.bl true] ++ ws.map V.int)) := upd_same
    have elw := t6 _ _ elw
    have ep1 := t6 _ _ ep1
    have eu2 := t6 _ _ eu2
    have ep2 := t6 _ _ ep2
    have eu3 := t6 _ _ eu3
    have b := b.trans (.same t6)
    have w := w.same t6
    generalize upd G5 p3 (.lst ([V.bl true] ++ ws.map V.int)) = G6 at t6 ep3 elw ep1 eu2 ep2 eu3 b w ⊢
    clear t6
    refine ⟨szl _ (by decide), fun p5 hp5 => ?_⟩
    have t7 := same_new hp5 (.lst [V.int 0, V.int 0, V.int 0])
    have np5 : p5 ≠ a := Ne.symm (w.ne hp5)
    have ep5 : (upd G6 p5 (.lst [V.int 0, V.int 0, V.int 0])) p5 = some (.lst [V.int 0, V.int 0, V.int 0]) := upd_same
    have elw := t7 _ _ elw
    have ep1 := t7 _ _ ep1
    have eu2 := t7 _ _ eu2
    have ep2 := t7 _ _ ep2
    have eu3 := t7 _ _ eu3
    have ep3 := t7 _ _ ep3
    have b := b.trans (.same t7)
    have w := w.same t7
    generalize upd G6 p5 (.lst [V.int 0, V.int 0, V.int 0]) = G7 at t7 ep5 elw ep1 eu2 ep2 eu3 ep3 b w ⊢
    clear t7
    refine ⟨szl _ (by decide), fun p6 hp6 => ?_⟩
    have t8 := same_new hp6 (.lst [V.int 1, V.int 0, V.int 1, V.int 1])
    have np6 : p6 ≠ a := Ne.symm (w.ne hp6)
    have ep6 : (upd G7 p6 (.lst [V.int 1, V.int 0, V.int 1, V.int 1])) p6 = some (.lst [V.int 1, V.int 0, V.int 1, V.int 1]) := upd_same
    have elw := t8 _ _ elw
    have ep1 := t8 _ _ ep1
    have eu2 := t8 _ _ eu2
    have ep2 := t8 _ _ ep2
    have eu3 := t8 _ _ eu3
    have ep3 := t8 _ _ ep3
    have ep5 := t8 _ _ ep5
    have b := b.trans (.same t8)
    have w := w.same t8
    generalize upd G7 p6 (.lst [V.int 1, V.int 0, V.int 1, V.int 1]) = G8 at t8 ep6 elw ep1 eu2 ep2 eu3 ep3 ep5 b w ⊢
    clear t8
    refine ⟨szl _ (by decide), fun p7 hp7 => ?_⟩
    have t9 := same_new hp7 (.lst [V.int 0, V.int 1, V.int 0, V.int 1, V.int 1, V.int 1])
    have np7 : p7 ≠ a := Ne.symm (w.ne hp7)
    have ep7 : (upd G8 p7 (.lst [V.int 0, V.int 1, V.int 0, V.int 1, V.int 1, V.int 1])) p7 = some (.lst [V.int 0, V.int 1, V.int 0, V.int 1, V.int 1, V.int 1]) := upd_same
    have elw := t9 _ _ elw
    have ep1 := t9 _ _ ep1
    have eu2 := t9 _ _ eu2
    have ep2 := t9 _ _ ep2
    have eu3 := t9 _ _ eu3
    have ep3 := t9 _ _ ep3
    have ep5 := t9 _ _ ep5
    have ep6 := t9 _ _ ep6
    have b := b.trans (.same t9)
    have w := w.same t9
    generalize upd G8 p7 (.lst [V.int 0, V.int 1, V.int 0, V.int 1, V.int 1, V.int 1]) = G9 at t9 ep7 elw ep1 eu2 ep2 eu3 ep3 ep5 ep6 b w ⊢
    clear t9
    refine ⟨szl _ (by show 7 ≤ 100; decide), fun L hL => ?_⟩
    have t10 := same_new hL (.lst [V.ref p1, V.ref p2, V.ref p3, V.non, V.ref p5, V.ref p6, V.ref p7])
    have nL : L ≠ a := Ne.symm (w.ne hL)
    have eL : (upd G9 L (.lst [V.ref p1, V.ref p2, V.ref p3, V.non, V.ref p5, V.ref p6, V.ref p7])) L = some (.lst [V.ref p1, V.ref p2, V.ref p3, V.non, V.ref p5, V.ref p6, V.ref p7]) := upd_same
    have elw := t10 _ _ elw
    have ep1 := t10 _ _ ep1
    have eu2 := t10 _ _ eu2
    have ep2 := t10 _ _ ep2
    have eu3 := t10 _ _ eu3
    have ep3 := t10 _ _ ep3
    have ep5 := t10 _ _ ep5
    have ep6 := t10 _ _ ep6
    have ep7 := t10 _ _ ep7
    have b := b.trans (.same t10)
    have w := w.same t10
    generalize upd G9 L (.lst [V.ref p1, V.ref p2, V.ref p3, V.non, V.ref p5, V.ref p6, V.ref p7]) = G10 at t10 eL elw ep1 eu2 ep2 eu3 ep3 ep5 ep6 ep7 b w ⊢
    clear t10
    refine ⟨_, rfl, _, rfl, _, rfl, szl _ (by decide), fun u8 g8 => ?_⟩
    have t11 := same_new g8 (.lst [V.int (-1)])
    have nu8 : u8 ≠ a := Ne.symm (w.ne g8)
    have eu8 : (upd G10 u8 (.lst [V.int (-1)])) u8 = some (.lst [V.int (-1)]) := upd_same
    have elw := t11 _ _ elw
    have ep1 := t11 _ _ ep1
    have eu2 := t11 _ _ eu2
    have ep2 := t11 _ _ ep2
    have eu3 := t11 _ _ eu3
    have ep3 := t11 _ _ ep3
    have ep5 := t11 _ _ ep5
    have ep6 := t11 _ _ ep6
    have ep7 := t11 _ _ ep7
    have eL := t11 _ _ eL
    have b := b.trans (.same t11)
    have w := w.same t11
    generalize upd G10 u8 (.lst [V.int (-1)]) = G11 at t11 eu8 elw ep1 eu2 ep2 eu3 ep3 ep5 ep6 ep7 eL b w ⊢
    clear t11
    refine ⟨lw, u8, _, _, rfl, rfl, elw, eu8, szl _ (by show _ + 1 ≤ 100; omega), fun p8 h8 => ?_⟩
    have t12 := same_new h8 (.lst (ws.map V.int ++ [V.int (-1)]))
    have np8 : p8 ≠ a := Ne.symm (w.ne h8)
    have ep8 : (upd G11 p8 (.lst (ws.map V.int ++ [V.int (-1)]))) p8 = some (.lst (ws.map V.int ++ [V.int (-1)])) := upd_same
    have elw := t12 _ _ elw
    have ep1 := t12 _ _ ep1
    have eu2 := t12 _ _ eu2
    have ep2 := t12 _ _ ep2
    have eu3 := t12 _ _ eu3
    have ep3 := t12 _ _ ep3
    have ep5 := t12 _ _ ep5
    have ep6 := t12 _ _ ep6
    have ep7 := t12 _ _ ep7
    have eL := t12 _ _ eL
    have eu8 := t12 _ _ eu8
    have b := b.trans (.same t12)
    have w := w.same t12
    generalize upd G11 p8 (.lst (ws.map V.int ++ [V.int (-1)])) = G12 at t12 ep8 elw ep1 eu2 ep2 eu3 ep3 ep5 ep6 ep7 eL eu8 b w ⊢
    clear t12
    refine ⟨szl _ (by decide), fun p9 h9 => ?_⟩
    have t13 := same_new h9 (.lst [V.non])
    have np9 : p9 ≠ a := Ne.symm (w.ne h9)
    have ep9 : (upd G12 p9 (.lst [V.non])) p9 = some (.lst [V.non]) := upd_same
    have elw := t13 _ _ elw
    have ep1 := t13 _ _ ep1
    have eu2 := t13 _ _ eu2
    have ep2 := t13 _ _ ep2
    have eu3 := t13 _ _ eu3
    have ep3 := t13 _ _ ep3
    have ep5 := t13 _ _ ep5
    have ep6 := t13 _ _ ep6
    have ep7 := t13 _ _ ep7
    have eL := t13 _ _ eL
    have eu8 := t13 _ _ eu8
    have ep8 := t13 _ _ ep8
    have b := b.trans (.same t13)
    have w := w.same t13
    generalize upd G12 p9 (.lst [V.non]) = G13 at t13 ep9 elw ep1 eu2 ep2 eu3 ep3 ep5 ep6 ep7 eL eu8 ep8 b w ⊢
    clear t13
    refine ⟨szl _ (by show 3 ≤ 100; decide), fun M hM => ?_⟩
    have t14 := same_new hM (.lst [V.ref p8, V.str "01", V.ref p9])
    have nM : M ≠ a := Ne.symm (w.ne hM)
    have eM : (upd G13 M (.lst [V.ref p8, V.str "01", V.ref p9])) M = some (.lst [V.ref p8, V.str "01", V.ref p9]) := upd_same
    have elw := t14 _ _ elw
    have ep1 := t14 _ _ ep1
    have eu2 := t14 _ _ eu2
    have ep2 := t14 _ _ ep2
    have eu3 := t14 _ _ eu3
    have ep3 := t14 _ _ ep3
    have ep5 := t14 _ _ ep5
    have ep6 := t14 _ _ ep6
    have ep7 := t14 _ _ ep7
    have eL := t14 _ _ eL
    have eu8 := t14 _ _ eu8
    have ep8 := t14 _ _ ep8
    have ep9 := t14 _ _ ep9
    have b := b.trans (.same t14)
    have w := w.same t14
    generalize upd G13 M (.lst [V.ref p8, V.str "01", V.ref p9]) = G14 at t14 eM elw ep1 eu2 ep2 eu3 ep3 ep5 ep6 ep7 eL eu8 ep8 ep9 b w ⊢
    clear t14
    refine ⟨L, M, _, _, rfl, rfl, eL, eM, szl _ (by show 7 + 3 ≤ 100; decide), fun Z hZ => ?_⟩
    have t15 := same_new hZ (.lst ([V.ref p1, V.ref p2, V.ref p3, V.non, V.ref p5, V.ref p6, V.ref p7] ++ [V.ref p8, V.str "01", V.ref p9]))
    have nZ : Z ≠ a := Ne.symm (w.ne hZ)
    have eZ : (upd G14 Z (.lst ([V.ref p1, V.ref p2, V.ref p3, V.non, V.ref p5, V.ref p6, V.ref p7] ++ [V.ref p8, V.str "01", V.ref p9]))) Z = some (.lst ([V.ref p1, V.ref p2, V.ref p3, V.non, V.ref p5, V.ref p6, V.ref p7] ++ [V.ref p8, V.str "01", V.ref p9])) := upd_same
    have elw := t15 _ _ elw
    have ep1 := t15 _ _ ep1
    have eu2 := t15 _ _ eu2
    have ep2 := t15 _ _ ep2
    have eu3 := t15 _ _ eu3
    have ep3 := t15 _ _ ep3
    have ep5 := t15 _ _ ep5
    have ep6 := t15 _ _ ep6
    have ep7 := t15 _ _ ep7
    have eL := t15 _ _ eL
    have eu8 := t15 _ _ eu8
    have ep8 := t15 _ _ ep8
    have ep9 := t15 _ _ ep9
    have eM := t15 _ _ eM
    have b := b.trans (.same t15)
    have w := w.same t15
    generalize upd G14 Z (.lst ([V.ref p1, V.ref p2, V.ref p3, V.non, V.ref p5, V.ref p6, V.ref p7] ++ [V.ref p8, V.str "01", V.ref p9])) = G15 at t15 eZ elw ep1 eu2 ep2 eu3 ep3 ep5 ep6 ep7 eL eu8 ep8 ep9 eM b w ⊢
    clear t15
    refine ⟨_, rfl, a, _, 10, rfl, .inr w, by omega, by omega, by decide, by decide, fun r3 H9 r30 r31 b9 w9 => ?_⟩
    obtain ⟨j, rfl⟩ : ∃ j : Nat, r3 = (j : Int) := ⟨r3.toNat, by omega⟩
    have hj : j < 10 := by omega
    have bf := b.trans b9
    have in2 : ∀ x ∈ [V.int 2], tinyE x := fun x hx => by
      obtain rfl := List.mem_singleton.mp hx
      exact .inr (.inr ⟨2, rfl, by decide, by decide⟩)
    have inm : ∀ x ∈ [V.int (-1)], tinyE x := fun x hx => by
      obtain rfl := List.mem_singleton.mp hx
      exact .inr (.inr ⟨-1, rfl, by decide, by decide⟩)
    have inb : ∀ x ∈ [V.bl true], tinyE x := fun x hx => by
      obtain rfl := List.mem_singleton.mp hx
      exact .inr (.inl ⟨true, rfl⟩)
    have app : ∀ {xs ys : List V}, (∀ x ∈ xs, tinyE x) → (∀ x ∈ ys, tinyE x) → ∀ x ∈ xs ++ ys, tinyE x := fun h g x hx => (List.mem_append.mp hx).elim (h x) (g x)
    have at9 : ∀ {b : Addr} {o : HO}, b ≠ a → G15 b = some o → vw (pA a) H9 b = some o := fun n e => vw_put (pA_ok.mpr n) (b9 _ _ n e)
    obtain ⟨v, hv, hWv⟩ : ∃ v, ([V.ref p1, V.ref p2, V.ref p3, V.non, V.ref p5, V.ref p6, V.ref p7, V.ref p8, V.str "01", V.ref p9] : List V)[j]? = some v ∧ WvV (vw (pA a) H9) v := by
      obtain rfl | rfl | rfl | rfl | rfl | rfl | rfl | rfl | rfl | rfl : j = 0 ∨ j = 1 ∨ j = 2 ∨ j = 3 ∨ j = 4 ∨ j = 5 ∨ j = 6 ∨ j = 7 ∨ j = 8 ∨ j = 9 := by omega
      · exact ⟨_, rfl, .tup (at9 np1 ep1) (by omega) wtV⟩
      · exact ⟨_, rfl, .lst (at9 np2 ep2) (by rw [List.length_append]; show _ + 1 ≤ 7; omega) (app wtV in2) ⟨_, List.mem_append_right _ List.mem_cons_self, rfl⟩⟩
      · exact ⟨_, rfl, .lst (at9 np3 ep3) (by rw [List.length_append]; show 1 + _ ≤ 7; omega) (app inb wtV) ⟨_, List.mem_append_left _ List.mem_cons_self, rfl⟩⟩
      · exact ⟨_, rfl, .non⟩
      · exact ⟨_, rfl, .ok (ws := [0, 0, 0]) (at9 np5 ep5) (by decide)⟩
      · exact ⟨_, rfl, .ok (ws := [1, 0, 1, 1]) (at9 np6 ep6) (by decide)⟩
      · exact ⟨_, rfl, .ok (ws := [0, 1, 0, 1, 1, 1]) (at9 np7 ep7) (by decide)⟩
      · exact ⟨_, rfl, .lst (at9 np8 ep8) (by rw [List.length_append]; show _ + 1 ≤ 7; omega) (app wtV inm) ⟨_, List.mem_append_right _ List.mem_cons_self, rfl⟩⟩
      · exact ⟨_, rfl, .str⟩
      · exact ⟨_, rfl, .lst (at9 np9 ep9) (by decide) (fun x hx => by
        obtain rfl := List.mem_singleton.mp hx
        exact .inl rfl) ⟨_, List.mem_cons_self, rfl⟩⟩
    refine ⟨Z, _, _, _, rfl, rfl, SqL.of (b9 _ _ nZ eZ), atI_nat hv, q _ _ bf (w9.up (by omega)) hWv fun c => nomatch c⟩
end
end TA

set_option Elab.async false
set_option maxRecDepth 100000
set_option maxHeartbeats 4000000
namespace TA
open PySem L2 PyProof.Rows
set_option linter.unusedVariables false
/-- data that may be shown shortly, without a dict -/
structure Small (d : PyData) : Prop where
  nd : d.hasDict = false
  s : d.showable = true
  l : d.leavesShort 8 = true
  w : d.weight ≤ 200
  d : d.depth ≤ 4
/-- what is handed in as inputs that are none -/
inductive OIv (K : PySem.W.Frag) (H : Hp) (T : TD) : V → Prop
  | data {v : V} {d : PyData} : Dp K H v d → inB (T.al 0).length (T.al 1).length d = false → Small d → OIv K H T v
  | abs {v : V} {xy : Int × Int} : TpAt H v xy → hasK T.bo xy = false → Small (pairD xy) → OIv K H T v
theorem OIv.mono {K : PySem.W.Frag} {H H' : Hp} (s : Same H H') {T : TD} {v : V} (h : OIv K H T v) : OIv K H' T v := by
  cases h with
  | data h a b => exact .data (dp_mono s _ _ h) a b
  | abs h a b => exact .abs (h.mono (.same s)) a b
theorem OIv.odd {K : PySem.W.Frag} {H : Hp} {T : TD} {v : V} (h : OIv K H T v) : OddI K H T v := by
  cases h with
  | data h a b => exact .inl ⟨_, h, a⟩
  | abs h a b => exact .inr ⟨_, h, a⟩
theorem small_of {d : PyData} (h : (!d.hasDict && d.showable && d.leavesShort 8 && decide (d.weight ≤ 200) && decide (d.depth ≤ 4)) = true) : Small d := by
  simp only [Bool.and_eq_true, Bool.not_eq_true', decide_eq_true_eq] at h
  exact ⟨h.1.1.1.1, h.1.1.1.2, h.1.1.2, h.1.2, h.2⟩
def oddD (a b : Nat) : List PyData := [.list [.int (a : Int), .int (b : Int)], .tuple [.int (a : Int), .int (b : Int), .int 0], .tuple [.int (a : Int)], .none, .int 0, .str "00", .tuple [.none, .int 0], .tuple [.bool false, .int (b : Int)], .tuple [.int (a : Int), .str "0"]]
theorem odd_small' : ((List.range 20).all fun a => (List.range 20).all fun b => (oddD a b).all fun d => (!d.hasDict && d.showable && d.leavesShort 8 && decide (d.weight ≤ 200) && decide (d.depth ≤ 4))) = true := by decide +kernel
theorem odd_small {a b : Nat} (ha : a < 20) (hb : b < 20) {d : PyData} (h : d ∈ oddD a b) : Small d :=
  small_of (List.all_eq_true.mp (List.all_eq_true.mp (List.all_eq_true.mp odd_small' a (List.mem_range.mpr ha)) b (List.mem_range.mpr hb)) d h)
def someP : List (Int × Int) := [(0, 1), (1, 0), (2, 0), (0, 2), (1, 2), (2, 1), (9, 0), (0, -1)]
theorem some_small : ∀ xy ∈ someP, Small (pairD xy) := fun xy h => small_of ((List.all_eq_true.mp (show (someP.all fun xy => (!(pairD xy).hasDict && (pairD xy).showable && (pairD xy).leavesShort 8 && decide ((pairD xy).weight ≤ 200) && decide ((pairD xy).depth ≤ 4))) = true by decide +kernel)) xy h)
theorem odd_inB {n0 n1 a b : Nat} {d : PyData} (h : d ∈ oddD a b) : inB n0 n1 d = false := by
  unfold oddD at h
  simp only [List.mem_cons, List.not_mem_nil, or_false] at h
  rcases h with rfl | rfl | rfl | rfl | rfl | rfl | rfl | rfl | rfl
  · rfl
  · rfl
  · rfl
  · rfl
  · rfl
  · rfl
  · rfl
  · rfl
  · show (within _ _ _ && false) = false
    rw [Bool.and_false]
def spOI (K : PySem.W.Frag) (C : Addr) : Sp := fun vs H Q _ => ∃ (a p d tt : Addr) (n : Int) (T : TD) (e : IP × List (Int × Int)), vs = [.ref a, .ref p, .ref tt] ∧ WellAt H a n ∧ 0 ≤ n ∧ n < 900000 ∧ TaskV C a H p d T ∧ WF T ∧ e ∈ T.bo ∧ TpAt H (.ref tt) (iI e.1) ∧ e.1.1 < 20 ∧ e.1.2 < 20 ∧
  ∀ (v : V) (H' : Hp), But a H H' → WellAt H' a (n + 1) → OIv K (vw (pA a) H') T v → Q v H'
section
variable {P : Program} {w : World} {K : PySem.W.Frag} {mg : Str → Option Value} {base : Heap}
abbrev nOI : List Str := ["_law_state", "_law_task", "_law_pair", "_law_some", "_law_absent", "_law_odd", "_law_one"]
theorem sc_oi : FnScope nOI ["_law_state", "_law_task", "_law_pair"] (defScope s__law_odd_inputs) := ⟨rfl, rfl, rfl, by decide +kernel, rfl, by decide +kernel, by decide +kernel⟩
theorem ok_oi {f g1 C : Addr} {fd d1 : FuncData} (F : Fun K "_law_odd_inputs" "_law_odd_inputs" s__law_odd_inputs f fd) (T : Txt K mg) (Z : TxtC K mg C) (Dg : Def P w K mg base "_law_digit" ["_law_state", "_law_base"] 1 spDigit g1 d1) : FnOk P w K mg base CX0 2 f fd ["_law_state", "_law_task", "_law_pair"] (spOI K C) := by
  refine F.ok sc_oi (fun vs H Q E h => ?_) (fun cdv A outer s H vs Q E hr h => ?_)
  · obtain ⟨a, p, d, tt, n, D, e, rfl, _⟩ := h
    rfl
  obtain ⟨a, p, d, tt, n, D, e, rfl, w, hn0, hn1, hV, hW, he, htt, he0, he1, q⟩ := h
  have nd := sc_oi.nd
  have hu := hu_of hr
  refine ⟨_, (pss_cons (ps_set (i := 3) nd rfl (Or.inl rfl) (pe_lst (pa_cons (pe_tup (pa_cons pe_int (pa_cons pe_int pa_nil))) (pa_cons (pe_tup (pa_cons pe_int (pa_cons pe_int pa_nil))) (pa_cons (pe_tup (pa_cons pe_int (pa_cons pe_int pa_nil))) (pa_cons (pe_tup (pa_cons pe_int (pa_cons pe_int pa_nil))) (pa_cons (pe_tup (pa_cons pe_int (pa_cons pe_int pa_nil))) (pa_cons (pe_tup (pa_cons pe_int (pa_cons pe_int pa_nil))) (pa_cons (pe_tup (pa_cons pe_int (pa_cons pe_int pa_nil))) (pa_cons (pe_tup (pa_cons pe_int (pa_cons (pe_un un_neg pe_int) pa_nil))) pa_nil))))))))))
    (pss_cons (ps_setLc (i := 4) (own := [("_law_one", 6)]) (g := (gName 6)) (tt := (tTest (tDNotIn (tVar 6) (tFld K (tVar 1) "both")))) (te := (tVar 6)) rfl nd rfl rfl (sw_true rfl rfl rfl (by decide +kernel)) (pi_list (pv 3)) (blkOk_by (N := nOI) (sc := defScope s__law_odd_inputs) (by decide +kernel)) (fun _ _ _ _ _ => (by exact (pg_name (i := 6) nd rfl (Or.inl rfl)))) (fun _ _ _ _ _ => pts_one (by exact (pt_cmp (pc_dnotin hu (pv 6) (pe_fld (pv 1) rfl))))) (fun _ _ _ _ _ => (by exact (pv 6))))
    (pss_cons (ps_set (i := 5) nd rfl (Or.inl rfl) (pe_lst (pa_cons (pe_callTy call_list_of (by rfl) T.list boot_list (pa_cons (pv 2) pa_nil)) (pa_cons (pe_op op_catT (pv 2) (pe_tup (pa_cons pe_int pa_nil))) (pa_cons (pe_slice sl_tup (pv 2) po_none (po_some pe_int)) (pa_cons pe_non (pa_cons pe_int (pa_cons pe_str (pa_cons (pe_tup (pa_cons pe_non (pa_cons pe_int pa_nil))) (pa_cons (pe_tup (pa_cons pe_bl (pa_cons (pe_ix ix_tup (pv 2) pe_int (fun _ _ => rfl)) pa_nil))) (pa_cons (pe_tup (pa_cons (pe_ix ix_tup (pv 2) pe_int (fun _ _ => rfl)) (pa_cons pe_str pa_nil))) pa_nil)))))))))))
    (pss_one (ps_ret (pe_ix ix_list (pe_op op_cat (pv 5) (pv 4)) (pe_call Dg.G (hr.mono (by decide)) rfl Dg.m Dg.k Dg.b .nil pass0 (pa_cons (pv 0) (pa_cons (pe_callB call_len_seq (by rfl) T.len PySem.boot_len (pa_cons (pe_op op_cat (pv 5) (pv 4)) pa_nil)) pa_nil))) (fun _ _ => rfl))))))), ?_⟩
  obtain ⟨ttt, ett, ett2⟩ := id htt
  obtain rfl : tt = ttt := by injection ett
  have s : Same H H := Same.refl H
  obtain ⟨zA, ezA⟩ := w.lst
  have szl : ∀ m : Nat, m ≤ 100 → m ≤ sizeLine := fun m h => Nat.le_trans h (by decide)
  have ntt : tt ≠ a := by obtain ⟨z, ez⟩ := w.lst; exact ne_of ett2 ez (fun z => by cases z)
  refine ⟨szl _ (by decide), fun q0 h0 => ?_⟩
  have t1 := same_new h0 (.tup [V.int 0, V.int 1])
  have nq0 : q0 ≠ a := Ne.symm (w.ne h0)
  have eq0 : (upd H q0 (.tup [V.int 0, V.int 1])) q0 = some (.tup [V.int 0, V.int 1]) := upd_same
  have ett2 := t1 _ _ ett2
  have s := s.trans t1
  have w := w.same t1
  generalize upd H q0 (.tup [V.int 0, V.int 1]) = G1 at t1 eq0 ett2 s w ⊢
  clear t1
  refine ⟨szl _ (by decide), fun q1 h1 => ?_⟩
  have t2 := same_new h1 (.tup [V.int 1, V.int 0])
  have nq1 : q1 ≠ a := Ne.symm (w.ne h1)
  have eq1 : (upd G1 q1 (.tup [V.int 1, V.int 0])) q1 = some (.tup [V.int 1, V.int 0]) := upd_same
  have ett2 := t2 _ _ ett2
  have eq0 := t2 _ _ eq0
  have s := s.trans t2
  have w := w.same t2
  generalize upd G1 q1 (.tup [V.int 1, V.int 0]) = G2 at t2 eq1 ett2 eq0 s w ⊢
  clear t2
  refine ⟨szl _ (by decide), fun q2 h2 => ?_⟩
  have t3 := same_new h2 (.tup [V.int 2, V.int 0])
  have nq2 : q2 ≠ a := Ne.symm (w.ne h2)
  have eq2 : (upd G2 q2 (.tup [V.int 2, V.int 0])) q2 = some (.tup [V.int 2, V.int 0]) := upd_same
  have ett2 := t3 _ _ ett2
  have eq0 := t3 _ _ eq0
  have eq1 := t3 _ _ eq1
  have s := s.trans t3
  have w := w.same t3
  generalize upd G2 q2 (.tup [V.int 2, V.int 0]) = G3 at t3 eq2 ett2 eq0 eq1 s w ⊢
  clear t3
  refine ⟨szl _ (by decide), fun q3 h3 => ?_⟩
  have t4 := same_new h3 (.tup [V.int 0, V.int 2])
  have nq3 : q3 ≠ a := Ne.symm (w.ne h3)
  have eq3 : (upd G3 q3 (.tup [V.int 0, V.int 2])) q3 = some (.tup [V.int 0, V.int 2]) := upd_same
  have ett2 := t4 _ _ ett2
  have eq0 := t4 _ _ eq0
  have eq1 := t4 _ _ eq1
  have eq2 := t4 _ _ eq2
  have s := s.trans t4
  have w := w.same t4
  generalize upd G3 q3 (.tup [V.int 0, V.int 2]) = G4 at t4 eq3 ett2 eq0 eq1 eq2 s w ⊢
  clear t4
  refine ⟨szl _ (by decide), fun q4 h4 => ?_⟩
  have t5 := same_new h4 (.tup [V.int 1, V.int 2])
  have nq4 : q4 ≠ a := Ne.symm (w.ne h4)
  have eq4 : (upd G4 q4 (.tup [V.int 1, V.int 2])) q4 = some (.tup [V.int 1, V.int 2]) := upd_same
  have ett2 := t5 _ _ ett2
  have eq0 := t5 _ _ eq0
  have eq1 := t5 _ _ eq1
  have eq2 := t5 _ _ eq2
  have eq3 := t5 _ _ eq3
  have s := s.trans t5
  have w := w.same t5
  generalize upd G4 q4 (.tup [V.int 1, V.int 2]) = G5 at t5 eq4 ett2 eq0 eq1 eq2 eq3 s w ⊢
  clear t5
  refine ⟨szl _ (by decide), fun q5 h5 => ?_⟩
  have t6 := same_new h5 (.tup [V.int 2, V.int 1])
  have nq5 : q5 ≠ a := Ne.symm (w.ne h5)
  have eq5 : (upd G5 q5 (.tup [V.int 2, V.int 1])) q5 = some (.tup [V.int 2, V.int 1]) := upd_same
  have ett2 := t6 _ _ ett2
  have eq0 := t6 _ _ eq0
  have eq1 := t6 _ _ eq1
  have eq2 := t6 _ _ eq2
  have eq3 := t6 _ _ eq3
  have eq4 := t6 _ _ eq4
  have s := s.trans t6
  have w := w.same t6
  generalize upd G5 q5 (.tup [V.int 2, V.int 1]) = G6 at t6 eq5 ett2 eq0 eq1 eq2 eq3 eq4 s w ⊢
  clear t6
  refine ⟨szl _ (by decide), fun q6 h6 => ?_⟩
  have t7 := same_new h6 (.tup [V.int 9, V.int 0])
  have nq6 : q6 ≠ a := Ne.symm (w.ne h6)
  have eq6 : (upd G6 q6 (.tup [V.int 9, V.int 0])) q6 = some (.tup [V.int 9, V.int 0]) := upd_same
  have ett2 := t7 _ _ ett2
  have eq0 := t7 _ _ eq0
  have eq1 := t7 _ _ eq1
  have eq2 := t7 _ _ eq2
  have eq3 := t7 _ _ eq3
  have eq4 := t7 _ _ eq4
  have eq5 := t7 _ _ eq5
  have s := s.trans t7
  have w := w.same t7
  generalize upd G6 q6 (.tup [V.int 9, V.int 0]) = G7 at t7 eq6 ett2 eq0 eq1 eq2 eq3 eq4 eq5 s w ⊢
  clear t7
  refine ⟨_, rfl, szl _ (by decide), fun q7 h7 => ?_⟩
  have t8 := same_new h7 (.tup [V.int 0, V.int (-1)])
  have nq7 : q7 ≠ a := Ne.symm (w.ne h7)
  have eq7 : (upd G7 q7 (.tup [V.int 0, V.int (-1)])) q7 = some (.tup [V.int 0, V.int (-1)]) := upd_same
  have ett2 := t8 _ _ ett2
  have eq0 := t8 _ _ eq0
  have eq1 := t8 _ _ eq1
  have eq2 := t8 _ _ eq2
  have eq3 := t8 _ _ eq3
  have eq4 := t8 _ _ eq4
  have eq5 := t8 _ _ eq5
  have eq6 := t8 _ _ eq6
  have s := s.trans t8
  have w := w.same t8
  generalize upd G7 q7 (.tup [V.int 0, V.int (-1)]) = G8 at t8 eq7 ett2 eq0 eq1 eq2 eq3 eq4 eq5 eq6 s w ⊢
  clear t8
  refine ⟨szl _ (by show 8 ≤ 100; decide), fun S hS => ?_⟩
  have t9 := same_new hS (.lst [V.ref q0, V.ref q1, V.ref q2, V.ref q3, V.ref q4, V.ref q5, V.ref q6, V.ref q7])
  have nS : S ≠ a := Ne.symm (w.ne hS)
  have eS : (upd G8 S (.lst [V.ref q0, V.ref q1, V.ref q2, V.ref q3, V.ref q4, V.ref q5, V.ref q6, V.ref q7])) S = some (.lst [V.ref q0, V.ref q1, V.ref q2, V.ref q3, V.ref q4, V.ref q5, V.ref q6, V.ref q7]) := upd_same
  have ett2 := t9 _ _ ett2
  have eq0 := t9 _ _ eq0
  have eq1 := t9 _ _ eq1
  have eq2 := t9 _ _ eq2
  have eq3 := t9 _ _ eq3
  have eq4 := t9 _ _ eq4
  have eq5 := t9 _ _ eq5
  have eq6 := t9 _ _ eq6
  have eq7 := t9 _ _ eq7
  have s := s.trans t9
  have w := w.same t9
  generalize upd G8 S (.lst [V.ref q0, V.ref q1, V.ref q2, V.ref q3, V.ref q4, V.ref q5, V.ref q6, V.ref q7]) = G9 at t9 eS ett2 eq0 eq1 eq2 eq3 eq4 eq5 eq6 eq7 s w ⊢
  clear t9
  have hsome : A2 (TpAt G9) [V.ref q0, V.ref q1, V.ref q2, V.ref q3, V.ref q4, V.ref q5, V.ref q6, V.ref q7] someP := .cons ⟨q0, rfl, eq0⟩ (.cons ⟨q1, rfl, eq1⟩ (.cons ⟨q2, rfl, eq2⟩ (.cons ⟨q3, rfl, eq3⟩ (.cons ⟨q4, rfl, eq4⟩ (.cons ⟨q5, rfl, eq5⟩ (.cons ⟨q6, rfl, eq6⟩ (.cons ⟨q7, rfl, eq7⟩ (.nil))))))))
  generalize [V.ref q0, V.ref q1, V.ref q2, V.ref q3, V.ref q4, V.ref q5, V.ref q6, V.ref q7] = qs at eS hsome ⊢
  have hql : qs.length = 8 := hsome.len
  clear nq0 eq0 nq1 eq1 nq2 eq2 nq3 eq3 nq4 eq4 nq5 eq5 nq6 eq6 nq7 eq7
  obtain ⟨z0, ez0⟩ := w.lst
  refine ⟨_, rfl, S, rfl, ⟨_, SqL.of eS⟩, fun B hB => ?_⟩
  refine list_turns (xs := qs) (fun i H' => Same G9 H' ∧ ∃ zs, H' B = some (.lst zs) ∧ zs.length ≤ i ∧ ∀ z ∈ zs, ∃ xy, TpAt G9 z xy ∧ hasK D.bo xy = false ∧ Small (pairD xy)) ⟨same_new hB _, [], upd_same, Nat.le_refl 0, fun z hz => nomatch hz⟩ (fun i H' _ h => SqL.of (h.1 _ _ eS)) ?_ ?_
  · rintro i z H' hz ⟨s1, zs, hzs, hzl, hzz⟩
    have hi : i < 8 := by
      have := (List.getElem?_eq_some_iff.mp hz).1
      omega
    obtain ⟨xy, hxy, hat⟩ := hsome.get hz
    have htp := hat
    obtain ⟨tq, rfl, htq⟩ := hat
    obtain ⟨dx, aa, kvs, hp, hA, hd, hE⟩ := hV.same ezA (s.trans s1)
    refine ⟨rfl, _, rfl, _, rfl, p, C, dx, _, _, rfl, hp, Z.cl, Z.nB, flds_both _ _, d, _, rfl, .inr ⟨kvs, k2 xy, tq, .inl hd, rfl, s1 _ _ htq, rfl⟩, ?_⟩
    rw [some_hasK (hE.imp fun _ _ r => r.mono vw_kp)]
    cases c : hasK D.bo xy with
    | true => exact ⟨_, rfl, iteF ⟨s1, zs, hzs, by omega, hzz⟩⟩
    | false =>
      refine ⟨_, rfl, iteT ⟨_, rfl, zs, hzs, Nat.lt_of_lt_of_le (show zs.length < 100 by omega) (by decide), same_upd s1 hB, zs ++ [.ref tq], upd_same, by rw [List.length_append]; show _ + 1 ≤ _; omega, fun y hy => ?_⟩⟩
      rcases List.mem_append.mp hy with m | m
      · exact hzz y m
      · obtain rfl := List.mem_singleton.mp m
        exact ⟨xy, htp, c, some_small xy (List.mem_of_getElem? hxy)⟩
  rintro H1 ⟨s1, zs, eB, hzl, hzz⟩
  have hzl : zs.length ≤ 8 := by omega
  have nB : B ≠ a := Ne.symm (w.ne hB)
  have ett2 := s1 _ _ ett2
  have eS := s1 _ _ eS
  have w := w.same s1
  have hzz : ∀ z ∈ zs, ∃ xy, TpAt H1 z xy ∧ hasK D.bo xy = false ∧ Small (pairD xy) := fun z hz => by
    obtain ⟨xy, h1, h2⟩ := hzz z hz
    exact ⟨xy, h1.mono (.same s1), h2⟩
  have s := s.trans s1
  have sZ : Same H1 H1 := Same.refl H1
  refine ⟨_, rfl, tt, _, rfl, .inr (SqT.of ett2), fun p0 h0 => ?_⟩
  have t10 := same_new h0 (.lst [V.int (iI e.1).1, V.int (iI e.1).2])
  have np0 : p0 ≠ a := Ne.symm (w.ne h0)
  have ep0 : (upd H1 p0 (.lst [V.int (iI e.1).1, V.int (iI e.1).2])) p0 = some (.lst [V.int (iI e.1).1, V.int (iI e.1).2]) := upd_same
  have ett2 := t10 _ _ ett2
  have eB := t10 _ _ eB
  have s := s.trans t10
  have sZ := sZ.trans t10
  have w := w.same t10
  generalize upd H1 p0 (.lst [V.int (iI e.1).1, V.int (iI e.1).2]) = G10 at t10 ep0 ett2 eB s sZ w ⊢
  clear t10
  refine ⟨_, rfl, szl _ (by decide), fun u1 g1 => ?_⟩
  have t11 := same_new g1 (.tup [V.int 0])
  have nu1 : u1 ≠ a := Ne.symm (w.ne g1)
  have eu1 : (upd G10 u1 (.tup [V.int 0])) u1 = some (.tup [V.int 0]) := upd_same
  have ett2 := t11 _ _ ett2
  have eB := t11 _ _ eB
  have ep0 := t11 _ _ ep0
  have s := s.trans t11
  have sZ := sZ.trans t11
  have w := w.same t11
  generalize upd G10 u1 (.tup [V.int 0]) = G11 at t11 eu1 ett2 eB ep0 s sZ w ⊢
  clear t11
  refine ⟨tt, u1, _, _, rfl, rfl, SqT.of ett2, SqT.of eu1, (fun c => nomatch c), szl _ (by show 2 + 1 ≤ 100; decide), (fun c => nomatch c), fun _ p1 h1 => ?_⟩
  have t12 := same_new h1 (.tup ([V.int (iI e.1).1, V.int (iI e.1).2] ++ [V.int 0]))
  have np1 : p1 ≠ a := Ne.symm (w.ne h1)
  have ep1 : (upd G11 p1 (.tup ([V.int (iI e.1).1, V.int (iI e.1).2] ++ [V.int 0]))) p1 = some (.tup ([V.int (iI e.1).1, V.int (iI e.1).2] ++ [V.int 0])) := upd_same
  have ett2 := t12 _ _ ett2
  have eB := t12 _ _ eB
  have ep0 := t12 _ _ ep0
  have eu1 := t12 _ _ eu1
  have s := s.trans t12
  have sZ := sZ.trans t12
  have w := w.same t12
  generalize upd G11 p1 (.tup ([V.int (iI e.1).1, V.int (iI e.1).2] ++ [V.int 0])) = G12 at t12 ep1 ett2 eB ep0 eu1 s sZ w ⊢
  clear t12
  refine ⟨_, rfl, _, rfl, tt, _, rfl, SqT.of ett2, (by show ¬ (HT.sIx 2 0 none = 0 ∧ HT.sIx 2 2 (some 1) = 2); decide +kernel), fun p2 h2 => ?_⟩
  have t13 := same_new h2 (.tup (cutV [V.int (iI e.1).1, V.int (iI e.1).2] none (some 1)))
  have np2 : p2 ≠ a := Ne.symm (w.ne h2)
  have ep2 : (upd G12 p2 (.tup (cutV [V.int (iI e.1).1, V.int (iI e.1).2] none (some 1)))) p2 = some (.tup (cutV [V.int (iI e.1).1, V.int (iI e.1).2] none (some 1))) := upd_same
  have ett2 := t13 _ _ ett2
  have eB := t13 _ _ eB
  have ep0 := t13 _ _ ep0
  have eu1 := t13 _ _ eu1
  have ep1 := t13 _ _ ep1
  have s := s.trans t13
  have sZ := sZ.trans t13
  have w := w.same t13
  generalize upd G12 p2 (.tup (cutV [V.int (iI e.1).1, V.int (iI e.1).2] none (some 1))) = G13 at t13 ep2 ett2 eB ep0 eu1 ep1 s sZ w ⊢
  clear t13
  refine ⟨szl _ (by decide), fun p6 h6 => ?_⟩
  have t14 := same_new h6 (.tup [V.non, V.int 0])
  have np6 : p6 ≠ a := Ne.symm (w.ne h6)
  have ep6 : (upd G13 p6 (.tup [V.non, V.int 0])) p6 = some (.tup [V.non, V.int 0]) := upd_same
  have ett2 := t14 _ _ ett2
  have eB := t14 _ _ eB
  have ep0 := t14 _ _ ep0
  have eu1 := t14 _ _ eu1
  have ep1 := t14 _ _ ep1
  have ep2 := t14 _ _ ep2
  have s := s.trans t14
  have sZ := sZ.trans t14
  have w := w.same t14
  generalize upd G13 p6 (.tup [V.non, V.int 0]) = G14 at t14 ep6 ett2 eB ep0 eu1 ep1 ep2 s sZ w ⊢
  clear t14
  refine ⟨_, rfl, tt, _, _, _, rfl, rfl, SqT.of ett2, atI_nat (j := 1) (by rfl), szl _ (by show 2 ≤ 100; decide), fun p7 h7 => ?_⟩
  have t15 := same_new h7 (.tup [V.bl false, V.int (iI e.1).2])
  have np7 : p7 ≠ a := Ne.symm (w.ne h7)
  have ep7 : (upd G14 p7 (.tup [V.bl false, V.int (iI e.1).2])) p7 = some (.tup [V.bl false, V.int (iI e.1).2]) := upd_same
  have ett2 := t15 _ _ ett2
  have eB := t15 _ _ eB
  have ep0 := t15 _ _ ep0
  have eu1 := t15 _ _ eu1
  have ep1 := t15 _ _ ep1
  have ep2 := t15 _ _ ep2
  have ep6 := t15 _ _ ep6
  have s := s.trans t15
  have sZ := sZ.trans t15
  have w := w.same t15
  generalize upd G14 p7 (.tup [V.bl false, V.int (iI e.1).2]) = G15 at t15 ep7 ett2 eB ep0 eu1 ep1 ep2 ep6 s sZ w ⊢
  clear t15
  refine ⟨_, rfl, tt, _, _, _, rfl, rfl, SqT.of ett2, atI_nat (j := 0) (by rfl), szl _ (by show 2 ≤ 100; decide), fun p8 h8 => ?_⟩
  have t16 := same_new h8 (.tup [V.int (iI e.1).1, V.str "0"])
  have np8 : p8 ≠ a := Ne.symm (w.ne h8)
  have ep8 : (upd G15 p8 (.tup [V.int (iI e.1).1, V.str "0"])) p8 = some (.tup [V.int (iI e.1).1, V.str "0"]) := upd_same
  have ett2 := t16 _ _ ett2
  have eB := t16 _ _ eB
  have ep0 := t16 _ _ ep0
  have eu1 := t16 _ _ eu1
  have ep1 := t16 _ _ ep1
  have ep2 := t16 _ _ ep2
  have ep6 := t16 _ _ ep6
  have ep7 := t16 _ _ ep7
  have s := s.trans t16
  have sZ := sZ.trans t16
  have w := w.same t16
  generalize upd G15 p8 (.tup [V.int (iI e.1).1, V.str "0"]) = G16 at t16 ep8 ett2 eB ep0 eu1 ep1 ep2 ep6 ep7 s sZ w ⊢
  clear t16
  refine ⟨szl _ (by show 9 ≤ 100; decide), fun L hL => ?_⟩
  have t17 := same_new hL (.lst [V.ref p0, V.ref p1, V.ref p2, V.non, V.int 0, V.str "00", V.ref p6, V.ref p7, V.ref p8])
  have nL : L ≠ a := Ne.symm (w.ne hL)
  have eL : (upd G16 L (.lst [V.ref p0, V.ref p1, V.ref p2, V.non, V.int 0, V.str "00", V.ref p6, V.ref p7, V.ref p8])) L = some (.lst [V.ref p0, V.ref p1, V.ref p2, V.non, V.int 0, V.str "00", V.ref p6, V.ref p7, V.ref p8]) := upd_same
  have ett2 := t17 _ _ ett2
  have eB := t17 _ _ eB
  have ep0 := t17 _ _ ep0
  have eu1 := t17 _ _ eu1
  have ep1 := t17 _ _ ep1
  have ep2 := t17 _ _ ep2
  have ep6 := t17 _ _ ep6
  have ep7 := t17 _ _ ep7
  have ep8 := t17 _ _ ep8
  have s := s.trans t17
  have sZ := sZ.trans t17
  have w := w.same t17
  generalize upd G16 L (.lst [V.ref p0, V.ref p1, V.ref p2, V.non, V.int 0, V.str "00", V.ref p6, V.ref p7, V.ref p8]) = G17 at t17 eL ett2 eB ep0 eu1 ep1 ep2 ep6 ep7 ep8 s sZ w ⊢
  clear t17
  refine ⟨_, rfl, _, rfl, L, B, _, _, rfl, rfl, eL, eB, szl _ (by show 9 + _ ≤ 100; omega), fun Y hY => ?_⟩
  have t18 := same_new hY (.lst ([V.ref p0, V.ref p1, V.ref p2, V.non, V.int 0, V.str "00", V.ref p6, V.ref p7, V.ref p8] ++ zs))
  have nY : Y ≠ a := Ne.symm (w.ne hY)
  have eY : (upd G17 Y (.lst ([V.ref p0, V.ref p1, V.ref p2, V.non, V.int 0, V.str "00", V.ref p6, V.ref p7, V.ref p8] ++ zs))) Y = some (.lst ([V.ref p0, V.ref p1, V.ref p2, V.non, V.int 0, V.str "00", V.ref p6, V.ref p7, V.ref p8] ++ zs)) := upd_same
  have ett2 := t18 _ _ ett2
  have eB := t18 _ _ eB
  have ep0 := t18 _ _ ep0
  have eu1 := t18 _ _ eu1
  have ep1 := t18 _ _ ep1
  have ep2 := t18 _ _ ep2
  have ep6 := t18 _ _ ep6
  have ep7 := t18 _ _ ep7
  have ep8 := t18 _ _ ep8
  have eL := t18 _ _ eL
  have s := s.trans t18
  have sZ := sZ.trans t18
  have w := w.same t18
  generalize upd G17 Y (.lst ([V.ref p0, V.ref p1, V.ref p2, V.non, V.int 0, V.str "00", V.ref p6, V.ref p7, V.ref p8] ++ zs)) = G18 at t18 eY ett2 eB ep0 eu1 ep1 ep2 ep6 ep7 ep8 eL s sZ w ⊢
  clear t18
  refine ⟨_, rfl, _, rfl, _, rfl, L, B, _, _, rfl, rfl, eL, eB, szl _ (by show 9 + _ ≤ 100; omega), fun X hX => ?_⟩
  have t19 := same_new hX (.lst ([V.ref p0, V.ref p1, V.ref p2, V.non, V.int 0, V.str "00", V.ref p6, V.ref p7, V.ref p8] ++ zs))
  have nX : X ≠ a := Ne.symm (w.ne hX)
  have eX : (upd G18 X (.lst ([V.ref p0, V.ref p1, V.ref p2, V.non, V.int 0, V.str "00", V.ref p6, V.ref p7, V.ref p8] ++ zs))) X = some (.lst ([V.ref p0, V.ref p1, V.ref p2, V.non, V.int 0, V.str "00", V.ref p6, V.ref p7, V.ref p8] ++ zs)) := upd_same
  have ett2 := t19 _ _ ett2
  have eB := t19 _ _ eB
  have ep0 := t19 _ _ ep0
  have eu1 := t19 _ _ eu1
  have ep1 := t19 _ _ ep1
  have ep2 := t19 _ _ ep2
  have ep6 := t19 _ _ ep6
  have ep7 := t19 _ _ ep7
  have ep8 := t19 _ _ ep8
  have eL := t19 _ _ eL
  have eY := t19 _ _ eY
  have s := s.trans t19
  have sZ := sZ.trans t19
  have w := w.same t19
  generalize upd G18 X (.lst ([V.ref p0, V.ref p1, V.ref p2, V.non, V.int 0, V.str "00", V.ref p6, V.ref p7, V.ref p8] ++ zs)) = G19 at t19 eX ett2 eB ep0 eu1 ep1 ep2 ep6 ep7 ep8 eL eY s sZ w ⊢
  clear t19
  refine ⟨X, _, rfl, .inl (SqL.of eX), a, _, _, rfl, .inr w, by omega, by omega, ?_, ?_, fun r3 H9 r30 r31 b9 w9 => ?_⟩
  · rw [List.length_append]; show (0 : Int) < ((9 + _ : Nat) : Int); omega
  · rw [List.length_append]; show ((9 + zs.length : Nat) : Int) < 1000; omega
  obtain ⟨j, rfl⟩ : ∃ j : Nat, r3 = (j : Int) := ⟨r3.toNat, by omega⟩
  have hj : j < ([V.ref p0, V.ref p1, V.ref p2, V.non, V.int 0, V.str "00", V.ref p6, V.ref p7, V.ref p8] ++ zs).length := by omega
  obtain ⟨v, hv⟩ : ∃ v, ([V.ref p0, V.ref p1, V.ref p2, V.non, V.int 0, V.str "00", V.ref p6, V.ref p7, V.ref p8] ++ zs)[j]? = some v := ⟨_, List.getElem?_eq_getElem hj⟩
  have at9 : ∀ {b : Addr} {o : HO}, b ≠ a → G19 b = some o → vw (pA a) H9 b = some o := fun n e => vw_put (pA_ok.mpr n) (b9 _ _ n e)
  have dat : ∀ {v : V} {d : PyData}, Dp K (vw (pA a) H9) v d → d ∈ oddD e.1.1 e.1.2 → OIv K (vw (pA a) H9) D v := fun h m => .data h (odd_inB m) (odd_small he0 he1 m)
  refine ⟨Y, _, _, _, rfl, rfl, SqL.of (b9 _ _ nY eY), atI_nat hv, q _ _ ((But.same s).trans b9) (w9.up (by omega)) ?_⟩
  rcases List.mem_append.mp (List.mem_of_getElem? hv) with m | m
  · simp only [List.mem_cons, List.not_mem_nil, or_false] at m
    rcases m with rfl | rfl | rfl | rfl | rfl | rfl | rfl | rfl | rfl
    · exact dat (.lst (SqL.of (at9 np0 ep0)) (.cons (.int _) (.cons (.int _) .nil))) (List.mem_of_getElem? (i := 0) rfl)
    · exact dat (.tup (SqT.of (at9 np1 ep1)) (.cons (.int _) (.cons (.int _) (.cons (.int _) .nil)))) (List.mem_of_getElem? (i := 1) rfl)
    · exact dat (.tup (SqT.of (at9 np2 ep2)) (.cons (.int _) .nil)) (List.mem_of_getElem? (i := 2) rfl)
    · exact dat .non (List.mem_of_getElem? (i := 3) rfl)
    · exact dat (.int 0) (List.mem_of_getElem? (i := 4) rfl)
    · exact dat (.str "00") (List.mem_of_getElem? (i := 5) rfl)
    · exact dat (.tup (SqT.of (at9 np6 ep6)) (.cons .non (.cons (.int _) .nil))) (List.mem_of_getElem? (i := 6) rfl)
    · exact dat (.tup (SqT.of (at9 np7 ep7)) (.cons (.bl _) (.cons (.int _) .nil))) (List.mem_of_getElem? (i := 7) rfl)
    · exact dat (.tup (SqT.of (at9 np8 ep8)) (.cons (.int _) (.cons (.str _) .nil))) (List.mem_of_getElem? (i := 8) rfl)
  · obtain ⟨xy, htp, hno, hsm⟩ := hzz v m
    obtain ⟨tq, rfl, htq⟩ := htp
    exact .abs ⟨tq, rfl, at9 (by obtain ⟨z, ez⟩ := w.lst; exact ne_of (sZ _ _ htq) ez (fun z => by cases z)) (sZ _ _ htq)⟩ hno hsm
end
end TA

set_option Elab.async false
set_option maxRecDepth 100000
set_option maxHeartbeats 4000000
namespace TA
open PySem PySem.Spec L2 PyProof.Rows LamX
set_option linter.unusedVariables false
/-- what a def keeps where no repr is under way around it -/
structure Quiet (P : Program) (w : World) (K : PySem.W.Frag) (mg : Str → Option Value) (base : Heap) (k : Nat) (f : Addr) (fd : FuncData) (ps : List Str) (sp : Sp) : Prop where
  len : ∀ vs H Q E, sp vs H Q E → vs.length = ps.length
  run : ∀ (A : Around) (outer : List Env) (s : Shared) (H : Hp) (args : Args) (us : List Value) (vs : List V) (Q : VK) (E : XK), A.guards = some [] → Room k A → Env0 P w K mg base A outer s H → BindsTo s fd args (ps.zip us) → Vals vs us → sp vs H Q E →
    codeAny (model P w) A (.call (.ref f) args) (CR CX0 outer P w H s Q E) s
section
variable {P : Program} {w : World} {K : PySem.W.Frag} {mg : Str → Option Value} {base : Heap}
theorem quiet_of {x qual : Str} {st : Stmt} {f : Addr} {fd : FuncData} {N ps : List Str} {k : Nat} {sp : Sp} (F : Fun K x qual st f fd) (S : FnScope N ps (defScope st)) (len : ∀ vs H Q E, sp vs H Q E → vs.length = ps.length)
    (body : ∀ (cdv : Value) (A : Around) (outer : List Env) (s : Shared) (H : Hp) (vs : List V) (Q : VK) (E : XK), A.guards = some [] → Room k (A.deeper (envOfC qual (defScope st) s.heap.objs.size f cdv)) → sp vs H Q E →
      ∃ t, PSs (cxOf CX0 P w K mg base N qual (defScope st) f cdv A outer s H E).nox (defBody st) t ∧ t { nx := fun _ H' => Q .non H', rt := Q } (L2.start N vs) H) : Quiet P w K mg base (k + 1) f fd ps sp := by
  obtain ⟨oc, od, kV, doc, pm, an, cdv, ct, osl, rfl, lk, hcd⟩ := F.ex
  refine ⟨len, fun A outer s H args us vs Q E hg hr e0 hb hv hs => ?_⟩
  refine run_ofS (N := N) (ps := ps) lk hcd S hr e0 hb hv (len _ _ _ _ hs) fun hr2 => ?_
  obtain ⟨t, p, q⟩ := body cdv A outer s H vs Q E hg hr2 hs
  exact ⟨t, p.nox, q⟩
end
/-! the law called, nothing under way, no table of code -/
section
variable {P : Program} {w : World} {K : PySem.W.Frag} {mg mb : Str → Option Value}
def atCall (K : PySem.W.Frag) (a : Addr) (ob : Obj) (xs : List V) : Hp := fun b => if b = a then (if (K.lookup a).isSome then none else some (.frz ob (.lst xs))) else none
theorem atCall_a {a : Addr} {ob : Obj} {xs : List V} : atCall K a ob xs a = if (K.lookup a).isSome then none else some (.frz ob (.lst xs)) := if_pos rfl
theorem atCall_no {a b : Addr} {ob : Obj} {xs : List V} (m : b ≠ a) : atCall K a ob xs b = none := if_neg m
theorem quiet_end0 {k : Nat} {fa a : Addr} {fd : FuncData} {x : Str} {sp : Sp} {s : Shared} {vs : List Value} {ns : List Int}
    (KX : K.In s.heap) (gl : s.heap.Ns mainGlobals mg) (bn : s.heap.Ns builtinsNs mb) (bb : ∀ x : Str, x ≠ "__name__" → mb x = bootBuiltins x) (nl : s.heap.NoLimit) (gs : s.gens = #[])
    (sc : s.heap.get? a = some { cls := .type "list", data := .seq vs.toArray }) (hi : IntsAre vs ns) (hz : ns.length ≤ sizeLine) (hr : Room k callerA)
    (F : ∀ base : Heap, K.In base → base.Ns mainGlobals mg → Quiet P w K mg base k fa fd [x] sp) (bd : ∀ (s : Shared) (u : Value), BindsTo s fd ⟨[u], []⟩ [(x, u)])
    (hsp : ∀ H : Hp, SqL K H a (ns.map V.int) → sp [.ref a] H (fun v _ => v = .bl true) fun _ _ _ => False) :
    codeAny (model P w) callerA (.call (.ref fa) ⟨[.ref a], []⟩) (fun r s' => r = .ok (.ret (.bool true)) ∧ OldK s.heap s'.heap ∧ s'.os = s.os ∧ AllBare s'.gens) s := by
  have rv := vals_ints hi
  have ln := hi.length
  obtain ⟨H, Ha, Ho⟩ : ∃ H : Hp, (H a = if (K.lookup a).isSome then none else some (.frz { cls := .type "list", data := .seq vs.toArray } (.lst (ns.map V.int)))) ∧ ∀ b, b ≠ a → H b = none := ⟨_, atCall_a, fun b m => atCall_no m⟩
  have seen : SqL K H a (ns.map V.int) := by
    cases e : K.lookup a with
    | none =>
      rw [e] at Ha
      exact .inl (.inr ⟨_, Ha⟩)
    | some o =>
      have q := KX a o e
      rw [sc] at q
      cases q
      exact .inr ⟨_, vs.toArray, _, e, rfl, rfl, rfl, by rw [List.size_toArray, ln]; exact hz, by simpa using rv⟩
  have ok : HOk P w H s.heap := fun b u e => by
    by_cases h2 : b = a
    · subst h2
      rw [Ha] at e
      cases q : (K.lookup b).isSome with
      | true => simp [q] at e
      | false =>
        simp [q] at e
        subst e
        exact ⟨sc, by rw [List.length_map]; exact hz, vs, _, rv, sc⟩
    · rw [Ho b h2] at e
      cases e
  have keepO : ∀ {b : Addr} {o : Obj}, s.heap.get? b = some o → (∀ xs n, o.data ≠ .seq xs n) → (hidT s.heap H).get? b = some o := fun {b o} e n1 =>
    hidT_get e (Ho b fun z => by rw [z, sc] at e; cases e; exact n1 _ _ rfl)
  have keepN : ∀ {b : Addr} {m : Str → Option Value}, s.heap.Ns b m → (hidT s.heap H).Ns b m := fun {b m} h => by
    obtain ⟨o, es, ep, e, d, r⟩ := h
    exact ⟨o, es, ep, keepO e (fun xs n z => by rw [d] at z; cases z), d, r⟩
  have keepK : K.In (hidT s.heap H) := fun b o e => hidT_get (KX b o e) (by
    by_cases h2 : b = a
    · subst h2
      rw [Ha, e]
      rfl
    · exact Ho b h2)
  have e0 : Env0 P w K mg (hidT s.heap H) callerA [] s H := by
    refine ⟨rfl, ⟨keepK, keepN gl, ⟨mb, keepN bn, bb⟩, ?_⟩, fun b o e => of_hidT e, Nat.le_of_eq (hidT_size _ _), trivial, fun b hb => absurd (show b ∈ ([] : List Addr) from hb) (by simp), ok, .of_eq gs⟩
    obtain ⟨mc, h1, h2⟩ := nl
    exact ⟨mc, keepN h1, h2⟩
  refine codeAny_mono ((F _ keepK (keepN gl)).run callerA [] s H ⟨[.ref a], []⟩ [.ref a] [.ref a] (fun v _ => v = .bl true) (fun _ _ _ => False) rfl hr e0 (bd s (.ref a)) (.cons rfl .nil) (hsp H seen)) fun r s' h => ?_
  match r, h with
  | .error _, h => exact False.elim h
  | .ok (.ret u), h =>
    obtain ⟨v, H', os, bare, un, ok', rr, q⟩ := h
    have ev : v = .bl true := q
    subst ev
    obtain rfl : u = Value.bool true := rr
    refine ⟨rfl, OldK.of_keep fun b o e => ?_, os, bare⟩
    cases g : H b with
    | none => exact un.keep b o e g (fun z => absurd (show b ∈ ([] : List Addr) from z) (by simp)) (by simp)
    | some u =>
      by_cases h2 : b = a
      · subst h2
        have fz : ∃ ob xs, u = .frz ob (.lst xs) := by
          rw [Ha] at g
          cases q2 : (K.lookup b).isSome with
          | true => simp [q2] at g
          | false =>
            simp [q2] at g
            exact ⟨_, _, g.symm⟩
        obtain ⟨ob, xs, rfl⟩ := fz
        obtain ⟨g1, _⟩ := ok b _ g
        obtain ⟨g2, _⟩ := ok' b _ (un.frzs b ob _ g)
        rw [e] at g1
        cases g1
        exact g2
      · rw [Ho b h2] at g
        cases g
end
/-! how much is shown -/
structure Tiny (d : PyData) (w n : Nat) : Prop where
  s : d.showable = true
  l : d.leavesShort 8 = true
  w : d.weight ≤ w
  d : d.depth ≤ n
theorem Tiny.up {d : PyData} {w w' n n' : Nat} (t : Tiny d w n) (h : w ≤ w') (h2 : n ≤ n') : Tiny d w' n' := ⟨t.s, t.l, Nat.le_trans t.w h, Nat.le_trans t.d h2⟩
theorem tiny_all {w n : Nat} : ∀ {ds : List PyData}, (∀ d ∈ ds, Tiny d w n) → PyData.showableAll ds = true ∧ PyData.leavesShortAll 8 ds = true ∧ PyData.weightAll ds ≤ (w + 1) * ds.length ∧ PyData.depthAll ds ≤ n
  | [], _ => ⟨by rw [PyData.showableAll], by rw [PyData.leavesShortAll], by rw [PyData.weightAll]; exact Nat.zero_le _, by rw [PyData.depthAll]; exact Nat.zero_le _⟩
  | d :: ds, q => by
    obtain ⟨a, b, c, e⟩ := tiny_all (ds := ds) fun x hx => q x (List.mem_cons_of_mem _ hx)
    have t := q d List.mem_cons_self
    refine ⟨by rw [PyData.showableAll, t.s, a]; rfl, by rw [PyData.leavesShortAll, t.l, b]; rfl, ?_, ?_⟩
    · rw [PyData.weightAll, List.length_cons, Nat.mul_succ]
      have := t.w
      omega
    · rw [PyData.depthAll]
      exact Nat.max_le.mpr ⟨t.d, e⟩
theorem tiny_list {w n m : Nat} {ds : List PyData} (q : ∀ d ∈ ds, Tiny d w n) (hm : ds.length ≤ m) : Tiny (.list ds) ((w + 1) * m) (n + 1) := by
  obtain ⟨a, b, c, e⟩ := tiny_all q
  refine ⟨by rw [PyData.showable]; exact a, by rw [PyData.leavesShort]; exact b, ?_, by rw [PyData.depth]; omega⟩
  rw [PyData.weight]
  exact Nat.le_trans c (Nat.mul_le_mul_left _ hm)
theorem tiny_tuple {w n m : Nat} {ds : List PyData} (q : ∀ d ∈ ds, Tiny d w n) (hm : ds.length ≤ m) : Tiny (.tuple ds) ((w + 1) * m) (n + 1) := by
  obtain ⟨a, b, c, e⟩ := tiny_all q
  refine ⟨by rw [PyData.showable]; exact a, by rw [PyData.leavesShort]; exact b, ?_, by rw [PyData.depth]; omega⟩
  rw [PyData.weight]
  exact Nat.le_trans c (Nat.mul_le_mul_left _ hm)
theorem tiny_dict {a b n m : Nat} {kvs : List (PyData × PyData)} (q : ∀ e ∈ kvs, Tiny e.1 a n ∧ Tiny e.2 b n) (hm : kvs.length ≤ m) : Tiny (.dict kvs) ((a + b + 2) * m) (n + 1) := by
  have all : ∀ kvs : List (PyData × PyData), (∀ e ∈ kvs, Tiny e.1 a n ∧ Tiny e.2 b n) → PyData.showableKv kvs = true ∧ PyData.leavesShortKv 8 kvs = true ∧ PyData.weightKv kvs ≤ (a + b + 2) * kvs.length ∧ PyData.depthKv kvs ≤ n := fun kvs q => by
    induction kvs with
    | nil => exact ⟨by rw [PyData.showableKv], by rw [PyData.leavesShortKv], by rw [PyData.weightKv]; exact Nat.zero_le _, by rw [PyData.depthKv]; exact Nat.zero_le _⟩
    | cons e r ih =>
      obtain ⟨x, y⟩ := e
      obtain ⟨h1, h2, h3, h4⟩ := ih fun z hz => q z (List.mem_cons_of_mem _ hz)
      obtain ⟨t1, t2⟩ := q (x, y) List.mem_cons_self
      refine ⟨by rw [PyData.showableKv, t1.s, t2.s, h1]; rfl, by rw [PyData.leavesShortKv, t1.l, t2.l, h2]; rfl, ?_, ?_⟩
      · rw [PyData.weightKv, List.length_cons, Nat.mul_succ]
        have h5 : x.weight ≤ a := t1.w
        have h6 : y.weight ≤ b := t2.w
        omega
      · rw [PyData.depthKv]
        exact Nat.max_le.mpr ⟨Nat.max_le.mpr ⟨t1.d, t2.d⟩, h4⟩
  obtain ⟨h1, h2, h3, h4⟩ := all kvs q
  refine ⟨by rw [PyData.showable]; exact h1, by rw [PyData.leavesShort]; exact h2, ?_, by rw [PyData.depth]; omega⟩
  rw [PyData.weight]
  exact Nat.le_trans h3 (Nat.mul_le_mul_left _ hm)
theorem tiny_int {i : Int} (h : okOut i) : Tiny (.int i) 6 1 := by
  obtain ⟨a, b⟩ := h
  obtain ⟨k, rfl⟩ : ∃ k : Nat, i = (k : Int) := ⟨i.toNat, by omega⟩
  have hk : k < 64 := by omega
  have all : ∀ k : Nat, k < 64 → (PyData.int (k : Int)).showable = true ∧ (PyData.int (k : Int)).leavesShort 8 = true ∧ (PyData.int (k : Int)).weight ≤ 6 := by decide +kernel
  obtain ⟨h1, h2, h3⟩ := all k hk
  exact ⟨h1, h2, h3, by rw [PyData.depth]; exact Nat.zero_le _⟩
theorem tiny_none : Tiny .none 6 1 := ⟨by rw [PyData.showable], by rw [PyData.leavesShort], by rw [PyData.weight]; decide, by rw [PyData.depth]; decide⟩
theorem tiny_shown {d : PyData} {w n : Nat} (t : Tiny d w n) (h : w ≤ 1500000) : d.shown.length ≤ sizeLine := by
  have := PyData.shown_le 8 (by decide) d t.l
  have := t.w
  rw [sizeLine_eq]
  omega
theorem tiny_row {row : List Int} {m : Nat} (h : ∀ x ∈ row, okOut x) (hm : row.length ≤ m) : Tiny (rowD row) (7 * m) 2 := tiny_list (fun d hd => by
  obtain ⟨x, hx, rfl⟩ := List.mem_map.mp hd
  exact tiny_int (h x hx)) (by rw [List.length_map]; exact hm)
theorem tiny_pair {p : Int × Int} (h1 : okOut p.1) (h2 : okOut p.2) : Tiny (pairD p) 14 2 := tiny_tuple (w := 6) (n := 1) (m := 2) (fun d hd => by
  rcases List.mem_cons.mp hd with rfl | hd
  · exact tiny_int h1
  · obtain rfl := List.mem_singleton.mp hd
    exact tiny_int h2) (Nat.le_refl _)
theorem nd_int (i : Int) : (PyData.int i).hasDict = false := by rw [PyData.hasDict]
/-! what may be shown of a value -/
def ShX (K : PySem.W.Frag) (H : Hp) (w n : Nat) (v : V) : Prop := ∃ d, DX K H v d ∧ Tiny d w n
theorem ShX.up {K : PySem.W.Frag} {H : Hp} {w w' n n' : Nat} {v : V} (h : ShX K H w n v) (h1 : w ≤ w') (h2 : n ≤ n') : ShX K H w' n' v := let ⟨d, a, t⟩ := h; ⟨d, a, t.up h1 h2⟩
theorem shx_int {K : PySem.W.Frag} {H : Hp} {i : Int} (h : okOut i) : ShX K H 6 1 (.int i) := ⟨.int i, .flat (.int i) (nd_int i), tiny_int h⟩
theorem tiny_m1 : Tiny (.int (-1)) 6 1 := ⟨by decide +kernel, by decide +kernel, by decide +kernel, by rw [PyData.depth]; exact Nat.zero_le _⟩
theorem tiny_bool (b : Bool) : Tiny (.bool b) 8 1 := by
  have h : (PyData.bool b).showable = true ∧ (PyData.bool b).leavesShort 8 = true ∧ (PyData.bool b).weight ≤ 8 := by
    cases b
    · decide +kernel
    · decide +kernel
  exact ⟨h.1, h.2.1, h.2.2, by rw [PyData.depth]; exact Nat.zero_le _⟩
theorem shx_non {K : PySem.W.Frag} {H : Hp} : ShX K H 6 1 .non := ⟨.none, .flat .non (by rw [PyData.hasDict]), tiny_none⟩
theorem shx_bl {K : PySem.W.Frag} {H : Hp} (b : Bool) : ShX K H 8 1 (.bl b) := ⟨.bool b, .flat (.bl b) (by rw [PyData.hasDict]), tiny_bool b⟩
theorem tiny_01 : Tiny (.str "01") 60 1 := ⟨by decide +kernel, by decide +kernel, by decide +kernel, by rw [PyData.depth]; exact Nat.zero_le _⟩
theorem shx_e {K : PySem.W.Frag} {H : Hp} {x : V} (h : tinyE x) : ShX K H 8 1 x := by
  rcases h with rfl | ⟨b, rfl⟩ | ⟨k, rfl, h1, h2⟩
  · exact shx_non.up (by decide) (by decide)
  · exact shx_bl b
  · by_cases c : k = -1
    · subst c
      exact ⟨.int (-1), .flat (.int _) (nd_int _), tiny_m1.up (by decide) (by decide)⟩
    · exact (shx_int ⟨by omega, by omega⟩).up (by decide) (by decide)
theorem shx_all {K : PySem.W.Frag} {H : Hp} {w n : Nat} : ∀ {xs : List V}, (∀ x ∈ xs, ShX K H w n x) → ∃ ds, DXs K H xs ds ∧ ds.length = xs.length ∧ ∀ d ∈ ds, Tiny d w n
  | [], _ => ⟨[], .nil, rfl, fun d h => nomatch h⟩
  | x :: xs, h => by
    obtain ⟨ds, a, b, c⟩ := shx_all (xs := xs) fun y hy => h y (List.mem_cons_of_mem _ hy)
    obtain ⟨d, e, t⟩ := h x List.mem_cons_self
    refine ⟨d :: ds, .cons e a, by rw [List.length_cons, List.length_cons, b], fun z hz => ?_⟩
    rcases List.mem_cons.mp hz with rfl | hz
    · exact t
    · exact c z hz
theorem shx_lst {K : PySem.W.Frag} {H : Hp} {w n m : Nat} {a : Addr} {xs : List V} (e : H a = some (.lst xs)) (h : ∀ x ∈ xs, ShX K H w n x) (hm : xs.length ≤ m) : ShX K H ((w + 1) * m) (n + 1) (.ref a) := by
  obtain ⟨ds, a, b, c⟩ := shx_all h
  exact ⟨.list ds, .lst (SqL.of e) a, tiny_list c (by rw [b]; exact hm)⟩
theorem shx_tup {K : PySem.W.Frag} {H : Hp} {w n m : Nat} {a : Addr} {xs : List V} (e : H a = some (.tup xs)) (h : ∀ x ∈ xs, ShX K H w n x) (hm : xs.length ≤ m) : ShX K H ((w + 1) * m) (n + 1) (.ref a) := by
  obtain ⟨ds, a, b, c⟩ := shx_all h
  exact ⟨.tuple ds, .tup (SqT.of e) a, tiny_tuple c (by rw [b]; exact hm)⟩
theorem shx_row {K : PySem.W.Frag} {H : Hp} {m : Nat} {a : Addr} {row : List Int} (e : H a = some (.lst (row.map V.int))) (h : ∀ x ∈ row, okOut x) (hm : row.length ≤ m) : ShX K H (7 * m) 2 (.ref a) :=
  shx_lst e (fun x hx => by
    obtain ⟨y, hy, rfl⟩ := List.mem_map.mp hx
    exact shx_int (h y hy)) (by rw [List.length_map]; exact hm)
/-- a dict of answers -/
def AnsL (kvs : List (List Key × V)) : Prop := kvs.length ≤ 60 ∧ ∀ kv ∈ kvs, smallK kv.1 ∧ ∃ i, kv.2 = .int i ∧ okOut i
theorem shx_dic {K : PySem.W.Frag} {H : Hp} {a : Addr} {kvs : List (List Key × V)} (e : H a = some (.dT kvs)) (h : AnsL kvs) : ShX K H 1320 3 (.ref a) := by
  have g : ∀ {kvs : List (List Key × V)}, (∀ kv ∈ kvs, smallK kv.1 ∧ ∃ i, kv.2 = .int i ∧ okOut i) → ∃ es : List (PyData × PyData), DXs K H (kvs.map (·.2)) (es.map (·.2)) ∧ es.map (·.1) = kvs.map (fun kv => keyD kv.1) ∧ es.length = kvs.length ∧ ∀ x ∈ es, Tiny x.1 14 2 ∧ Tiny x.2 6 2 := fun {kvs} h => by
    induction kvs with
    | nil => exact ⟨[], .nil, rfl, rfl, fun x hx => nomatch hx⟩
    | cons kv kvs ih =>
      obtain ⟨es, a, b, c, t⟩ := ih fun y hy => h y (List.mem_cons_of_mem _ hy)
      obtain ⟨⟨x, y, hx, hy, ek⟩, i, ev, hi⟩ := h kv List.mem_cons_self
      refine ⟨(keyD kv.1, .int i) :: es, ?_, by rw [List.map_cons, List.map_cons, b], by rw [List.length_cons, List.length_cons, c], fun z hz => ?_⟩
      · rw [List.map_cons, List.map_cons, ev]
        exact .cons (.flat (.int i) (nd_int i)) a
      · rcases List.mem_cons.mp hz with rfl | hz
        · refine ⟨?_, (tiny_int hi).up (by decide) (by decide)⟩
          rw [ek]
          exact tiny_pair (p := ((x : Int), (y : Int))) ⟨by omega, by show (x : Int) ≤ 63; omega⟩ ⟨by omega, by show (y : Int) ≤ 63; omega⟩
        · exact t z hz
  obtain ⟨es, a1, b, c, t⟩ := g h.2
  refine ⟨.dict es, .dic e rfl a1 b rfl, (tiny_dict (a := 14) (b := 6) (n := 2) (m := 60) t (by rw [c]; exact h.1)).up (by decide) (by decide)⟩
theorem ansL {T : TD} (W : WF T) (h3 : ∀ h, h < 2 → (T.al h).length ≤ 3) {an : Nat → IP × List (Int × Int) → Int} {h : Nat} (ho : ∀ e ∈ T.bo, okOut (an h e)) : AnsL (anKV an h T.bo) := by
  refine ⟨by unfold anKV; rw [List.length_map]; exact W.many, fun kv hkv => ?_⟩
  obtain ⟨e, he, rfl⟩ := List.mem_map.mp hkv
  have rg := W.rng e he
  have q0 := h3 0 (by decide)
  have q1 := h3 1 (by decide)
  exact ⟨⟨e.1.1, e.1.2, by omega, by omega, rfl⟩, an h e, rfl, ho e he⟩
theorem AnsL.drop {kvs : List (List Key × V)} (h : AnsL kvs) (k : List Key) : AnsL (dropK kvs k) := by
  refine ⟨Nat.le_trans (List.length_filter_le _ _) h.1, fun kv hkv => h.2 kv (List.mem_filter.mp hkv).1⟩
theorem drop_less {kvs : List (List Key × V)} {k : List Key} (h : ∃ kv ∈ kvs, kv.1 = k) : (dropK kvs k).length < kvs.length := by
  obtain ⟨kv, h1, h2⟩ := h
  exact List.length_filter_lt_length_iff_exists.mpr ⟨kv, h1, by rw [h2]; simp⟩
theorem cut_tail (row : List Int) (h : 1 ≤ row.length) : cutV (row.map V.int) (some 1) none = row.tail.map V.int := by
  match row, h with
  | x :: r, _ =>
    unfold cutV
    have e0 : HT.sIx ((x :: r).map V.int).length 0 (some 1) = 1 := by
      rw [show (1 : Int) = ((1 : Nat) : Int) from rfl, HT.sIx_nat, List.length_map, List.length_cons]
      omega
    rw [e0, HT.sIx_none, List.length_map, List.length_cons]
    show (r.map V.int).take (r.length + 1 - 1) = r.map V.int
    rw [Nat.add_sub_cancel]
    exact List.take_of_length_le (by rw [List.length_map]; exact Nat.le_refl _)
end TA

set_option Elab.async false
set_option maxRecDepth 100000
set_option maxHeartbeats 4000000
namespace TA
open PySem L2 PyProof.Rows
set_option linter.unusedVariables false
def spOF (K : PySem.W.Frag) (C : Addr) : Sp := fun vs H Q _ => ∃ (a p t : Addr) (n : Int) (T : TD) (ch : Nat → List Int) (an : Nat → IP × List (Int × Int) → Int) (al ans d0 d1 : Addr), vs = [.ref a, .ref t] ∧ WellAt H a n ∧ 0 ≤ n ∧ n < 900000 ∧ WF T ∧ (∀ h, h < 2 → (T.al h).length ≤ 3) ∧ BxV C a H p t T ch an al ans d0 d1 ∧
  ∀ (v : V) (H' : Hp), But a H H' → WellAt H' a (n + 1) → OddF K C (vw (pA a) H') p T v → ShX K (vw (pA a) H') 20000 10 v → Q v H'
theorem small_rowD {row : List Int} (h : row.length ≤ 1000) : small (rowD row) := fun ds e => by
  cases e
  rw [List.length_map]
  exact h
theorem rowB_len {row : List Int} {m : Nat} (h : row.length ≠ m) : rowB (rowD row) m = false := by
  show (decide ((row.map PyData.int).length = m) && _) = false
  rw [List.length_map, decide_eq_false h]
  rfl
section
variable {P : Program} {w : World} {K : PySem.W.Frag} {mg : Str → Option Value} {base : Heap}
abbrev nOF : List Str := ["_law_state", "_law_thing", "_law_told", "_law_answers", "_law_fewer", "_law_odd"]
theorem sc_of : FnScope nOF ["_law_state", "_law_thing"] (defScope s__law_odd_form) := ⟨rfl, rfl, rfl, by decide +kernel, rfl, by decide +kernel, by decide +kernel⟩
theorem ok_of {f g1 C : Addr} {fd d1 : FuncData} (F : Fun K "_law_odd_form" "_law_odd_form" s__law_odd_form f fd) (T : Txt K mg) (T2 : Txt2 K mg) (Dg : Def P w K mg base "_law_digit" ["_law_state", "_law_base"] 1 spDigit g1 d1) : FnOk P w K mg base CX0 3 f fd ["_law_state", "_law_thing"] (spOF K C) := by
  refine F.ok sc_of (fun vs H Q E h => ?_) (fun cdv A outer s H vs Q E hr h => ?_)
  · obtain ⟨a, p, t, n, D, ch, an, al, ans, d0, d1, rfl, _⟩ := h
    rfl
  obtain ⟨a, p, t, n, D, ch, an, al, ans, d0, d1, rfl, w, hn0, hn1, hW, h3, BV, q⟩ := h
  have nd := sc_of.nd
  have hu1 := hu_of hr
  have hu2 : (A.deeper (envOfC "_law_odd_form" (defScope s__law_odd_form) s.heap.objs.size f cdv)).units + 2 < cLine := by have := hr.un; omega
  refine ⟨_, (pss_cons (ps_asg (pv 1) (pg_tup (by rfl) (pgs_cons (pg_name (i := 2) nd rfl (Or.inl rfl)) (pgs_cons (pg_name (i := 3) nd rfl (Or.inl rfl)) pgs_nil))))
    (pss_cons (ps_set (i := 4) nd rfl (Or.inl rfl) (pe_callTy (call_dict_dT hu2) (by rfl) T2.dict boot_dict (pa_cons (pe_ix ix_list (pv 3) pe_int (fun _ _ => rfl)) pa_nil)))
    (pss_cons (ps_expr (pe_bm PySem.F.plainAttrs_dict PySem.F.slot_dict_pop PySem.F.type_dict_pop (mt_pop1T hu1) (pv 4) (pa_cons (pe_ix ix_list (pe_callB (cr_sortedDT (d := 2) (B := 64) (by decide) rfl) (by rfl) T2.sorted (by decide +kernel) (pa_cons (pv 4) pa_nil)) pe_int (fun _ _ => rfl)) pa_nil)))
    (pss_cons (ps_set (i := 5) nd rfl (Or.inl rfl) (pe_lst (pa_cons (pe_lst (pa_cons (pv 2) (pa_cons (pv 3) pa_nil))) (pa_cons (pe_tup (pa_cons (pv 2) pa_nil)) (pa_cons pe_non (pa_cons (pe_tup (pa_cons (pv 3) (pa_cons (pv 2) pa_nil))) (pa_cons (pe_tup (pa_cons (pe_lst (pa_cons (pe_ix ix_list (pv 2) pe_int (fun _ _ => rfl)) pa_nil)) (pa_cons (pv 3) pa_nil))) (pa_cons (pe_tup (pa_cons (pv 2) (pa_cons (pe_slice sl_list (pv 3) po_none (po_some pe_int)) pa_nil))) pa_nil))))))))
    (pss_cons (ps_set (i := 5) nd rfl (Or.inl rfl) (pe_op op_cat (pv 5) (pe_lst (pa_cons (pe_tup (pa_cons (pe_lst (pa_cons (pe_op op_cat (pe_ix ix_list (pv 2) pe_int (fun _ _ => rfl)) (pe_lst (pa_cons pe_int pa_nil))) (pa_cons (pe_ix ix_list (pv 2) pe_int (fun _ _ => rfl)) pa_nil))) (pa_cons (pv 3) pa_nil))) (pa_cons (pe_tup (pa_cons (pe_lst (pa_cons (pe_op op_cat (pe_lst (pa_cons pe_bl pa_nil)) (pe_slice sl_list (pe_ix ix_list (pv 2) pe_int (fun _ _ => rfl)) (po_some pe_int) po_none)) (pa_cons (pe_ix ix_list (pv 2) pe_int (fun _ _ => rfl)) pa_nil))) (pa_cons (pv 3) pa_nil))) pa_nil)))))
    (pss_cons (ps_set (i := 5) nd rfl (Or.inl rfl) (pe_op op_cat (pv 5) (pe_lst (pa_cons (pe_tup (pa_cons (pv 2) (pa_cons (pe_lst (pa_cons (pe_ix ix_list (pv 3) pe_int (fun _ _ => rfl)) (pa_cons (pv 4) pa_nil))) pa_nil))) (pa_cons (pe_tup (pa_cons (pv 2) (pa_cons (pe_lst (pa_cons (pe_ix ix_list (pv 3) pe_int (fun _ _ => rfl)) (pa_cons pe_non pa_nil))) pa_nil))) (pa_cons (pe_tup (pa_cons (pe_lst (pa_cons (pe_ix ix_list (pv 2) pe_int (fun _ _ => rfl)) (pa_cons (pe_slice sl_list (pe_ix ix_list (pv 2) pe_int (fun _ _ => rfl)) (po_some pe_int) po_none) pa_nil))) (pa_cons (pv 3) pa_nil))) pa_nil))))))
    (pss_one (ps_ret (pe_ix ix_list (pv 5) (pe_call Dg.G (hr.mono (by decide)) rfl Dg.m Dg.k Dg.b .nil pass0 (pa_cons (pv 0) (pa_cons pe_int pa_nil))) (fun _ _ => rfl)))))))))), ?_⟩
  have s : Same H H := Same.refl H
  have szl : ∀ m : Nat, m ≤ 100 → m ≤ sizeLine := fun m h => Nat.le_trans h (by decide)
  have B := BxF.mono (vw_same (p := pA a)) BV
  obtain ⟨ta, xs0, ea, hal, ar⟩ := id BV.hal
  obtain rfl : al = ta := by injection ea
  obtain ⟨x0, x1, rfl, r0, er0, r1, er1⟩ : ∃ x0 x1, xs0 = [x0, x1] ∧ ∃ r0, (x0 = .ref r0 ∧ (vw (pA a) H) r0 = some (.lst ((ch 0).map V.int))) ∧ ∃ r1, x1 = .ref r1 ∧ (vw (pA a) H) r1 = some (.lst ((ch 1).map V.int)) := by
    cases ar with
    | cons z0 ar =>
    cases ar with
    | cons z1 ar =>
    cases ar
    obtain ⟨r0, e0, h0⟩ := z0
    obtain ⟨r1, e1, h1⟩ := z1
    exact ⟨_, _, rfl, r0, ⟨e0, h0⟩, r1, e1, h1⟩
  obtain ⟨rfl, hr0⟩ := er0
  obtain ⟨rfl, hr1⟩ := er1
  obtain ⟨chal, hal⟩ := vw_some hal
  obtain ⟨chr0, hr0⟩ := vw_some hr0
  obtain ⟨chr1, hr1⟩ := vw_some hr1
  obtain ⟨chht, hht⟩ := vw_some BV.ht
  obtain ⟨chans, hans⟩ := vw_some BV.hans
  obtain ⟨chd0, hd0⟩ := vw_some BV.h0
  obtain ⟨chd1, hd1⟩ := vw_some BV.h1
  have nt := pA_ok.mp chht
  have hl0 : 1 ≤ (ch 0).length := by rw [BV.len 0 (by decide)]; exact (hW.n0 0 (by decide)).1
  have hl1 : 1 ≤ (ch 1).length := by rw [BV.len 1 (by decide)]; exact (hW.n0 1 (by decide)).1
  have hm0 : (ch 0).length ≤ 3 := by rw [BV.len 0 (by decide)]; exact h3 0 (by decide)
  have hm1 : (ch 1).length ≤ 3 := by rw [BV.len 1 (by decide)]; exact h3 1 (by decide)
  have hA0 : 1 ≤ (D.al 0).length := (hW.n0 0 (by decide)).1
  have hA1 : 1 ≤ (D.al 1).length := (hW.n0 1 (by decide)).1
  refine ⟨_, rfl, t, _, rfl, SqT.of hht, rfl, _, _, rfl, _, _, rfl, rfl, ?_⟩
  refine ⟨_, rfl, ans, _, _, _, rfl, rfl, SqL.of hans, atI_nat (j := 1) rfl, d1, _, rfl, .inl hd1, fun kv hkv => ((ansL hW h3 (BV.outa 1 (by decide))).2 kv hkv).1, fun fw hfw => ?_⟩
  have sf := same_new hfw (.dT (anKV an 1 D.bo))
  have nfw : fw ≠ a := Ne.symm (w.ne hfw)
  have efw : (upd H fw (.dT (anKV an 1 D.bo))) fw = some (.dT (anKV an 1 D.bo)) := upd_same
  have bol : 1 ≤ D.bo.length := by
    obtain ⟨e, he, _⟩ := hW.com0 0 (by have := (hW.n0 0 (by decide)).1; omega)
    exact List.length_pos_of_mem he
  refine ⟨_, rfl, .inr (.inr (.inl ⟨rfl, .inr ⟨_, efw⟩⟩)), ?_⟩
  refine ⟨_, rfl, fw, anKV an 1 D.bo, D.bo.map (fun e => [((e.1.1 : Nat) : Int), ((e.1.2 : Nat) : Int)]), rfl, .inl efw, ?_, ?_, ?_, fun L r h1 h2 h4 hr5 => ?_⟩
  · unfold anKV
    rw [List.map_map, List.map_map]
    rfl
  · rw [List.length_map]
    have := hW.many
    omega
  · intro ns hns
    obtain ⟨e, he, rfl⟩ := List.mem_map.mp hns
    have := hW.rng e he
    have := (hW.n0 0 (by decide)).2
    have := (hW.n0 1 (by decide)).2
    refine ⟨rfl, fun m hm => ?_⟩
    rcases List.mem_cons.mp hm with rfl | hm
    · omega
    · obtain rfl := List.mem_singleton.mp hm
      omega
  obtain ⟨x, L', rfl⟩ : ∃ x L', L = x :: L' := by
    cases L with
    | nil =>
      have := h1.length_eq
      rw [List.map_nil, List.length_nil, List.length_map] at this
      omega
    | cons x L' => exact ⟨x, L', rfl⟩
  obtain ⟨e, he, ex⟩ := List.mem_map.mp (h1.mem_iff.mp (List.mem_map.mpr ⟨x, List.mem_cons_self, rfl⟩))
  have hx : (upd H fw (.dT (anKV an 1 D.bo))) x.1 = some (.tup ((kI e.1).map kV)) := by
    rw [h4 x List.mem_cons_self, ← ex]
    rfl
  refine ⟨r, _, _, _, rfl, rfl, SqL.of upd_same, atI_nat (j := 0) (by rfl), ?_⟩
  have sr := same_new hr5 (.lst ((x :: L').map fun q => V.ref q.1))
  refine ⟨fw, anKV an 1 D.bo, kI e.1, x.1, _, rfl, rfl, sr _ _ efw, sr _ _ hx, anKV_at hW.srt an 1 e he, ?_⟩
  have w := (w.same (sf.trans sr)).but (Ne.symm nfw) (But.at (a := fw) (o := .dT (dropK (anKV an 1 D.bo) (kI e.1))))
  have s : Same H (upd (upd (upd H fw (.dT (anKV an 1 D.bo))) r (.lst ((x :: L').map fun q => V.ref q.1))) fw (.dT (dropK (anKV an 1 D.bo) (kI e.1)))) := same_upd (sf.trans sr) hfw
  have efw : (upd (upd (upd H fw (.dT (anKV an 1 D.bo))) r (.lst ((x :: L').map fun q => V.ref q.1))) fw (.dT (dropK (anKV an 1 D.bo) (kI e.1)))) fw = some (.dT (dropK (anKV an 1 D.bo) (kI e.1))) := upd_same
  have hal := s _ _ hal
  have hr0 := s _ _ hr0
  have hr1 := s _ _ hr1
  have hht := s _ _ hht
  have hans := s _ _ hans
  have hd0 := s _ _ hd0
  have hd1 := s _ _ hd1
  generalize upd (upd (upd H fw (.dT (anKV an 1 D.bo))) r (.lst ((x :: L').map fun q => V.ref q.1))) fw (.dT (dropK (anKV an 1 D.bo) (kI e.1))) = G0 at w s efw hal hr0 hr1 hht hans hd0 hd1 ⊢
  have hless : (dropK (anKV an 1 D.bo) (kI e.1)).length ≠ D.bo.length := by
    have h1 := drop_less (kvs := anKV an 1 D.bo) (k := kI e.1) ⟨_, List.mem_map.mpr ⟨e, he, rfl⟩, rfl⟩
    have h2 : (anKV an 1 D.bo).length = D.bo.length := List.length_map _
    omega
  clear sr hx ex h1 h2 h4 hr5 sf hfw
  refine ⟨_, rfl, _, rfl, szl _ (by show 2 ≤ 100; decide), fun f0 hf0 => ?_⟩
  have t1 := same_new hf0 (.lst [V.ref al, V.ref ans])
  have nf0 : f0 ≠ a := Ne.symm (w.ne hf0)
  have ef0 : (upd G0 f0 (.lst [V.ref al, V.ref ans])) f0 = some (.lst [V.ref al, V.ref ans]) := upd_same
  have hal := t1 _ _ hal
  have hr0 := t1 _ _ hr0
  have hr1 := t1 _ _ hr1
  have hht := t1 _ _ hht
  have hans := t1 _ _ hans
  have hd0 := t1 _ _ hd0
  have hd1 := t1 _ _ hd1
  have efw := t1 _ _ efw
  have s := s.trans t1
  have w := w.same t1
  generalize upd G0 f0 (.lst [V.ref al, V.ref ans]) = G1 at t1 ef0 hal hr0 hr1 hht hans hd0 hd1 efw s w ⊢
  clear t1
  refine ⟨_, rfl, szl _ (by show 1 ≤ 100; decide), fun f1 hf1 => ?_⟩
  have t2 := same_new hf1 (.tup [V.ref al])
  have nf1 : f1 ≠ a := Ne.symm (w.ne hf1)
  have ef1 : (upd G1 f1 (.tup [V.ref al])) f1 = some (.tup [V.ref al]) := upd_same
  have hal := t2 _ _ hal
  have hr0 := t2 _ _ hr0
  have hr1 := t2 _ _ hr1
  have hht := t2 _ _ hht
  have hans := t2 _ _ hans
  have hd0 := t2 _ _ hd0
  have hd1 := t2 _ _ hd1
  have efw := t2 _ _ efw
  have ef0 := t2 _ _ ef0
  have s := s.trans t2
  have w := w.same t2
  generalize upd G1 f1 (.tup [V.ref al]) = G2 at t2 ef1 hal hr0 hr1 hht hans hd0 hd1 efw ef0 s w ⊢
  clear t2
  refine ⟨_, rfl, _, rfl, szl _ (by show 2 ≤ 100; decide), fun f3 hf3 => ?_⟩
  have t3 := same_new hf3 (.tup [V.ref ans, V.ref al])
  have nf3 : f3 ≠ a := Ne.symm (w.ne hf3)
  have ef3 : (upd G2 f3 (.tup [V.ref ans, V.ref al])) f3 = some (.tup [V.ref ans, V.ref al]) := upd_same
  have hal := t3 _ _ hal
  have hr0 := t3 _ _ hr0
  have hr1 := t3 _ _ hr1
  have hht := t3 _ _ hht
  have hans := t3 _ _ hans
  have hd0 := t3 _ _ hd0
  have hd1 := t3 _ _ hd1
  have efw := t3 _ _ efw
  have ef0 := t3 _ _ ef0
  have ef1 := t3 _ _ ef1
  have s := s.trans t3
  have w := w.same t3
  generalize upd G2 f3 (.tup [V.ref ans, V.ref al]) = G3 at t3 ef3 hal hr0 hr1 hht hans hd0 hd1 efw ef0 ef1 s w ⊢
  clear t3
  refine ⟨_, rfl, al, _, _, _, rfl, rfl, SqL.of hal, atI_nat (j := 0) rfl, szl _ (by show 1 ≤ 100; decide), fun x4 hx4 => ?_⟩
  have t4 := same_new hx4 (.lst [V.ref r0])
  have nx4 : x4 ≠ a := Ne.symm (w.ne hx4)
  have ex4 : (upd G3 x4 (.lst [V.ref r0])) x4 = some (.lst [V.ref r0]) := upd_same
  have hal := t4 _ _ hal
  have hr0 := t4 _ _ hr0
  have hr1 := t4 _ _ hr1
  have hht := t4 _ _ hht
  have hans := t4 _ _ hans
  have hd0 := t4 _ _ hd0
  have hd1 := t4 _ _ hd1
  have efw := t4 _ _ efw
  have ef0 := t4 _ _ ef0
  have ef1 := t4 _ _ ef1
  have ef3 := t4 _ _ ef3
  have s := s.trans t4
  have w := w.same t4
  generalize upd G3 x4 (.lst [V.ref r0]) = G4 at t4 ex4 hal hr0 hr1 hht hans hd0 hd1 efw ef0 ef1 ef3 s w ⊢
  clear t4
  refine ⟨_, rfl, szl _ (by show 2 ≤ 100; decide), fun f4 hf4 => ?_⟩
  have t5 := same_new hf4 (.tup [V.ref x4, V.ref ans])
  have nf4 : f4 ≠ a := Ne.symm (w.ne hf4)
  have ef4 : (upd G4 f4 (.tup [V.ref x4, V.ref ans])) f4 = some (.tup [V.ref x4, V.ref ans]) := upd_same
  have hal := t5 _ _ hal
  have hr0 := t5 _ _ hr0
  have hr1 := t5 _ _ hr1
  have hht := t5 _ _ hht
  have hans := t5 _ _ hans
  have hd0 := t5 _ _ hd0
  have hd1 := t5 _ _ hd1
  have efw := t5 _ _ efw
  have ef0 := t5 _ _ ef0
  have ef1 := t5 _ _ ef1
  have ef3 := t5 _ _ ef3
  have ex4 := t5 _ _ ex4
  have s := s.trans t5
  have w := w.same t5
  generalize upd G4 f4 (.tup [V.ref x4, V.ref ans]) = G5 at t5 ef4 hal hr0 hr1 hht hans hd0 hd1 efw ef0 ef1 ef3 ex4 s w ⊢
  clear t5
  refine ⟨_, rfl, _, rfl, _, rfl, ans, _, rfl, SqL.of hans, fun x5 hx5 => ?_⟩
  rw [show cutV [V.ref d0, V.ref d1] none (some 1) = [V.ref d0] from rfl]
  have t6 := same_new hx5 (.lst [V.ref d0])
  have nx5 : x5 ≠ a := Ne.symm (w.ne hx5)
  have ex5 : (upd G5 x5 (.lst [V.ref d0])) x5 = some (.lst [V.ref d0]) := upd_same
  have hal := t6 _ _ hal
  have hr0 := t6 _ _ hr0
  have hr1 := t6 _ _ hr1
  have hht := t6 _ _ hht
  have hans := t6 _ _ hans
  have hd0 := t6 _ _ hd0
  have hd1 := t6 _ _ hd1
  have efw := t6 _ _ efw
  have ef0 := t6 _ _ ef0
  have ef1 := t6 _ _ ef1
  have ef3 := t6 _ _ ef3
  have ex4 := t6 _ _ ex4
  have ef4 := t6 _ _ ef4
  have s := s.trans t6
  have w := w.same t6
  generalize upd G5 x5 (.lst [V.ref d0]) = G6 at t6 ex5 hal hr0 hr1 hht hans hd0 hd1 efw ef0 ef1 ef3 ex4 ef4 s w ⊢
  clear t6
  refine ⟨szl _ (by show 2 ≤ 100; decide), fun f5 hf5 => ?_⟩
  have t7 := same_new hf5 (.tup [V.ref al, V.ref x5])
  have nf5 : f5 ≠ a := Ne.symm (w.ne hf5)
  have ef5 : (upd G6 f5 (.tup [V.ref al, V.ref x5])) f5 = some (.tup [V.ref al, V.ref x5]) := upd_same
  have hal := t7 _ _ hal
  have hr0 := t7 _ _ hr0
  have hr1 := t7 _ _ hr1
  have hht := t7 _ _ hht
  have hans := t7 _ _ hans
  have hd0 := t7 _ _ hd0
  have hd1 := t7 _ _ hd1
  have efw := t7 _ _ efw
  have ef0 := t7 _ _ ef0
  have ef1 := t7 _ _ ef1
  have ef3 := t7 _ _ ef3
  have ex4 := t7 _ _ ex4
  have ef4 := t7 _ _ ef4
  have ex5 := t7 _ _ ex5
  have s := s.trans t7
  have w := w.same t7
  generalize upd G6 f5 (.tup [V.ref al, V.ref x5]) = G7 at t7 ef5 hal hr0 hr1 hht hans hd0 hd1 efw ef0 ef1 ef3 ex4 ef4 ex5 s w ⊢
  clear t7
  refine ⟨szl _ (by show 6 ≤ 100; decide), fun O1 hO1 => ?_⟩
  have t8 := same_new hO1 (.lst [V.ref f0, V.ref f1, V.non, V.ref f3, V.ref f4, V.ref f5])
  have nO1 : O1 ≠ a := Ne.symm (w.ne hO1)
  have eO1 : (upd G7 O1 (.lst [V.ref f0, V.ref f1, V.non, V.ref f3, V.ref f4, V.ref f5])) O1 = some (.lst [V.ref f0, V.ref f1, V.non, V.ref f3, V.ref f4, V.ref f5]) := upd_same
  have hal := t8 _ _ hal
  have hr0 := t8 _ _ hr0
  have hr1 := t8 _ _ hr1
  have hht := t8 _ _ hht
  have hans := t8 _ _ hans
  have hd0 := t8 _ _ hd0
  have hd1 := t8 _ _ hd1
  have efw := t8 _ _ efw
  have ef0 := t8 _ _ ef0
  have ef1 := t8 _ _ ef1
  have ef3 := t8 _ _ ef3
  have ex4 := t8 _ _ ex4
  have ef4 := t8 _ _ ef4
  have ex5 := t8 _ _ ex5
  have ef5 := t8 _ _ ef5
  have s := s.trans t8
  have w := w.same t8
  generalize upd G7 O1 (.lst [V.ref f0, V.ref f1, V.non, V.ref f3, V.ref f4, V.ref f5]) = G8 at t8 eO1 hal hr0 hr1 hht hans hd0 hd1 efw ef0 ef1 ef3 ex4 ef4 ex5 ef5 s w ⊢
  clear t8
  refine ⟨_, rfl, _, rfl, al, _, _, _, rfl, rfl, SqL.of hal, atI_nat (j := 0) rfl, szl _ (by show 1 ≤ 100; decide), fun u6 hu6 => ?_⟩
  have t9 := same_new hu6 (.lst [V.int 0])
  have nu6 : u6 ≠ a := Ne.symm (w.ne hu6)
  have eu6 : (upd G8 u6 (.lst [V.int 0])) u6 = some (.lst [V.int 0]) := upd_same
  have hal := t9 _ _ hal
  have hr0 := t9 _ _ hr0
  have hr1 := t9 _ _ hr1
  have hht := t9 _ _ hht
  have hans := t9 _ _ hans
  have hd0 := t9 _ _ hd0
  have hd1 := t9 _ _ hd1
  have efw := t9 _ _ efw
  have ef0 := t9 _ _ ef0
  have ef1 := t9 _ _ ef1
  have ef3 := t9 _ _ ef3
  have ex4 := t9 _ _ ex4
  have ef4 := t9 _ _ ef4
  have ex5 := t9 _ _ ex5
  have ef5 := t9 _ _ ef5
  have eO1 := t9 _ _ eO1
  have s := s.trans t9
  have w := w.same t9
  generalize upd G8 u6 (.lst [V.int 0]) = G9 at t9 eu6 hal hr0 hr1 hht hans hd0 hd1 efw ef0 ef1 ef3 ex4 ef4 ex5 ef5 eO1 s w ⊢
  clear t9
  refine ⟨r0, u6, _, _, rfl, rfl, hr0, eu6, szl _ (by rw [List.length_map]; show _ + 1 ≤ 100; omega), fun y6 hy6 => ?_⟩
  have t10 := same_new hy6 (.lst ((ch 0).map V.int ++ [V.int 0]))
  have ny6 : y6 ≠ a := Ne.symm (w.ne hy6)
  have ey6 : (upd G9 y6 (.lst ((ch 0).map V.int ++ [V.int 0]))) y6 = some (.lst ((ch 0).map V.int ++ [V.int 0])) := upd_same
  have hal := t10 _ _ hal
  have hr0 := t10 _ _ hr0
  have hr1 := t10 _ _ hr1
  have hht := t10 _ _ hht
  have hans := t10 _ _ hans
  have hd0 := t10 _ _ hd0
  have hd1 := t10 _ _ hd1
  have efw := t10 _ _ efw
  have ef0 := t10 _ _ ef0
  have ef1 := t10 _ _ ef1
  have ef3 := t10 _ _ ef3
  have ex4 := t10 _ _ ex4
  have ef4 := t10 _ _ ef4
  have ex5 := t10 _ _ ex5
  have ef5 := t10 _ _ ef5
  have eO1 := t10 _ _ eO1
  have eu6 := t10 _ _ eu6
  have s := s.trans t10
  have w := w.same t10
  generalize upd G9 y6 (.lst ((ch 0).map V.int ++ [V.int 0])) = G10 at t10 ey6 hal hr0 hr1 hht hans hd0 hd1 efw ef0 ef1 ef3 ex4 ef4 ex5 ef5 eO1 eu6 s w ⊢
  clear t10
  refine ⟨_, rfl, al, _, _, _, rfl, rfl, SqL.of hal, atI_nat (j := 1) rfl, szl _ (by show 2 ≤ 100; decide), fun x6 hx6 => ?_⟩
  have t11 := same_new hx6 (.lst [V.ref y6, V.ref r1])
  have nx6 : x6 ≠ a := Ne.symm (w.ne hx6)
  have ex6 : (upd G10 x6 (.lst [V.ref y6, V.ref r1])) x6 = some (.lst [V.ref y6, V.ref r1]) := upd_same
  have hal := t11 _ _ hal
  have hr0 := t11 _ _ hr0
  have hr1 := t11 _ _ hr1
  have hht := t11 _ _ hht
  have hans := t11 _ _ hans
  have hd0 := t11 _ _ hd0
  have hd1 := t11 _ _ hd1
  have efw := t11 _ _ efw
  have ef0 := t11 _ _ ef0
  have ef1 := t11 _ _ ef1
  have ef3 := t11 _ _ ef3
  have ex4 := t11 _ _ ex4
  have ef4 := t11 _ _ ef4
  have ex5 := t11 _ _ ex5
  have ef5 := t11 _ _ ef5
  have eO1 := t11 _ _ eO1
  have eu6 := t11 _ _ eu6
  have ey6 := t11 _ _ ey6
  have s := s.trans t11
  have w := w.same t11
  generalize upd G10 x6 (.lst [V.ref y6, V.ref r1]) = G11 at t11 ex6 hal hr0 hr1 hht hans hd0 hd1 efw ef0 ef1 ef3 ex4 ef4 ex5 ef5 eO1 eu6 ey6 s w ⊢
  clear t11
  refine ⟨_, rfl, szl _ (by show 2 ≤ 100; decide), fun f6 hf6 => ?_⟩
  have t12 := same_new hf6 (.tup [V.ref x6, V.ref ans])
  have nf6 : f6 ≠ a := Ne.symm (w.ne hf6)
  have ef6 : (upd G11 f6 (.tup [V.ref x6, V.ref ans])) f6 = some (.tup [V.ref x6, V.ref ans]) := upd_same
  have hal := t12 _ _ hal
  have hr0 := t12 _ _ hr0
  have hr1 := t12 _ _ hr1
  have hht := t12 _ _ hht
  have hans := t12 _ _ hans
  have hd0 := t12 _ _ hd0
  have hd1 := t12 _ _ hd1
  have efw := t12 _ _ efw
  have ef0 := t12 _ _ ef0
  have ef1 := t12 _ _ ef1
  have ef3 := t12 _ _ ef3
  have ex4 := t12 _ _ ex4
  have ef4 := t12 _ _ ef4
  have ex5 := t12 _ _ ex5
  have ef5 := t12 _ _ ef5
  have eO1 := t12 _ _ eO1
  have eu6 := t12 _ _ eu6
  have ey6 := t12 _ _ ey6
  have ex6 := t12 _ _ ex6
  have s := s.trans t12
  have w := w.same t12
  generalize upd G11 f6 (.tup [V.ref x6, V.ref ans]) = G12 at t12 ef6 hal hr0 hr1 hht hans hd0 hd1 efw ef0 ef1 ef3 ex4 ef4 ex5 ef5 eO1 eu6 ey6 ex6 s w ⊢
  clear t12
  refine ⟨szl _ (by show 1 ≤ 100; decide), fun u7 hu7 => ?_⟩
  have t13 := same_new hu7 (.lst [V.bl true])
  have nu7 : u7 ≠ a := Ne.symm (w.ne hu7)
  have eu7 : (upd G12 u7 (.lst [V.bl true])) u7 = some (.lst [V.bl true]) := upd_same
  have hal := t13 _ _ hal
  have hr0 := t13 _ _ hr0
  have hr1 := t13 _ _ hr1
  have hht := t13 _ _ hht
  have hans := t13 _ _ hans
  have hd0 := t13 _ _ hd0
  have hd1 := t13 _ _ hd1
  have efw := t13 _ _ efw
  have ef0 := t13 _ _ ef0
  have ef1 := t13 _ _ ef1
  have ef3 := t13 _ _ ef3
  have ex4 := t13 _ _ ex4
  have ef4 := t13 _ _ ef4
  have ex5 := t13 _ _ ex5
  have ef5 := t13 _ _ ef5
  have eO1 := t13 _ _ eO1
  have eu6 := t13 _ _ eu6
  have ey6 := t13 _ _ ey6
  have ex6 := t13 _ _ ex6
  have ef6 := t13 _ _ ef6
  have s := s.trans t13
  have w := w.same t13
  generalize upd G12 u7 (.lst [V.bl true]) = G13 at t13 eu7 hal hr0 hr1 hht hans hd0 hd1 efw ef0 ef1 ef3 ex4 ef4 ex5 ef5 eO1 eu6 ey6 ex6 ef6 s w ⊢
  clear t13
  refine ⟨_, rfl, al, _, _, _, rfl, rfl, SqL.of hal, atI_nat (j := 0) rfl, _, rfl, r0, _, rfl, SqL.of hr0, fun c7 hc7 => ?_⟩
  rw [cut_tail (ch 0) hl0]
  have t14 := same_new hc7 (.lst ((ch 0).tail.map V.int))
  have nc7 : c7 ≠ a := Ne.symm (w.ne hc7)
  have ec7 : (upd G13 c7 (.lst ((ch 0).tail.map V.int))) c7 = some (.lst ((ch 0).tail.map V.int)) := upd_same
  have hal := t14 _ _ hal
  have hr0 := t14 _ _ hr0
  have hr1 := t14 _ _ hr1
  have hht := t14 _ _ hht
  have hans := t14 _ _ hans
  have hd0 := t14 _ _ hd0
  have hd1 := t14 _ _ hd1
  have efw := t14 _ _ efw
  have ef0 := t14 _ _ ef0
  have ef1 := t14 _ _ ef1
  have ef3 := t14 _ _ ef3
  have ex4 := t14 _ _ ex4
  have ef4 := t14 _ _ ef4
  have ex5 := t14 _ _ ex5
  have ef5 := t14 _ _ ef5
  have eO1 := t14 _ _ eO1
  have eu6 := t14 _ _ eu6
  have ey6 := t14 _ _ ey6
  have ex6 := t14 _ _ ex6
  have ef6 := t14 _ _ ef6
  have eu7 := t14 _ _ eu7
  have s := s.trans t14
  have w := w.same t14
  generalize upd G13 c7 (.lst ((ch 0).tail.map V.int)) = G14 at t14 ec7 hal hr0 hr1 hht hans hd0 hd1 efw ef0 ef1 ef3 ex4 ef4 ex5 ef5 eO1 eu6 ey6 ex6 ef6 eu7 s w ⊢
  clear t14
  refine ⟨u7, c7, _, _, rfl, rfl, eu7, ec7, szl _ (by rw [List.length_map, List.length_tail]; show 1 + _ ≤ 100; omega), fun y7 hy7 => ?_⟩
  have t15 := same_new hy7 (.lst ([V.bl true] ++ (ch 0).tail.map V.int))
  have ny7 : y7 ≠ a := Ne.symm (w.ne hy7)
  have ey7 : (upd G14 y7 (.lst ([V.bl true] ++ (ch 0).tail.map V.int))) y7 = some (.lst ([V.bl true] ++ (ch 0).tail.map V.int)) := upd_same
  have hal := t15 _ _ hal
  have hr0 := t15 _ _ hr0
  have hr1 := t15 _ _ hr1
  have hht := t15 _ _ hht
  have hans := t15 _ _ hans
  have hd0 := t15 _ _ hd0
  have hd1 := t15 _ _ hd1
  have efw := t15 _ _ efw
  have ef0 := t15 _ _ ef0
  have ef1 := t15 _ _ ef1
  have ef3 := t15 _ _ ef3
  have ex4 := t15 _ _ ex4
  have ef4 := t15 _ _ ef4
  have ex5 := t15 _ _ ex5
  have ef5 := t15 _ _ ef5
  have eO1 := t15 _ _ eO1
  have eu6 := t15 _ _ eu6
  have ey6 := t15 _ _ ey6
  have ex6 := t15 _ _ ex6
  have ef6 := t15 _ _ ef6
  have eu7 := t15 _ _ eu7
  have ec7 := t15 _ _ ec7
  have s := s.trans t15
  have w := w.same t15
  generalize upd G14 y7 (.lst ([V.bl true] ++ (ch 0).tail.map V.int)) = G15 at t15 ey7 hal hr0 hr1 hht hans hd0 hd1 efw ef0 ef1 ef3 ex4 ef4 ex5 ef5 eO1 eu6 ey6 ex6 ef6 eu7 ec7 s w ⊢
  clear t15
  refine ⟨_, rfl, al, _, _, _, rfl, rfl, SqL.of hal, atI_nat (j := 1) rfl, szl _ (by show 2 ≤ 100; decide), fun x7 hx7 => ?_⟩
  have t16 := same_new hx7 (.lst [V.ref y7, V.ref r1])
  have nx7 : x7 ≠ a := Ne.symm (w.ne hx7)
  have ex7 : (upd G15 x7 (.lst [V.ref y7, V.ref r1])) x7 = some (.lst [V.ref y7, V.ref r1]) := upd_same
  have hal := t16 _ _ hal
  have hr0 := t16 _ _ hr0
  have hr1 := t16 _ _ hr1
  have hht := t16 _ _ hht
  have hans := t16 _ _ hans
  have hd0 := t16 _ _ hd0
  have hd1 := t16 _ _ hd1
  have efw := t16 _ _ efw
  have ef0 := t16 _ _ ef0
  have ef1 := t16 _ _ ef1
  have ef3 := t16 _ _ ef3
  have ex4 := t16 _ _ ex4
  have ef4 := t16 _ _ ef4
  have ex5 := t16 _ _ ex5
  have ef5 := t16 _ _ ef5
  have eO1 := t16 _ _ eO1
  have eu6 := t16 _ _ eu6
  have ey6 := t16 _ _ ey6
  have ex6 := t16 _ _ ex6
  have ef6 := t16 _ _ ef6
  have eu7 := t16 _ _ eu7
  have ec7 := t16 _ _ ec7
  have ey7 := t16 _ _ ey7
  have s := s.trans t16
  have w := w.same t16
  generalize upd G15 x7 (.lst [V.ref y7, V.ref r1]) = G16 at t16 ex7 hal hr0 hr1 hht hans hd0 hd1 efw ef0 ef1 ef3 ex4 ef4 ex5 ef5 eO1 eu6 ey6 ex6 ef6 eu7 ec7 ey7 s w ⊢
  clear t16
  refine ⟨_, rfl, szl _ (by show 2 ≤ 100; decide), fun f7 hf7 => ?_⟩
  have t17 := same_new hf7 (.tup [V.ref x7, V.ref ans])
  have nf7 : f7 ≠ a := Ne.symm (w.ne hf7)
  have ef7 : (upd G16 f7 (.tup [V.ref x7, V.ref ans])) f7 = some (.tup [V.ref x7, V.ref ans]) := upd_same
  have hal := t17 _ _ hal
  have hr0 := t17 _ _ hr0
  have hr1 := t17 _ _ hr1
  have hht := t17 _ _ hht
  have hans := t17 _ _ hans
  have hd0 := t17 _ _ hd0
  have hd1 := t17 _ _ hd1
  have efw := t17 _ _ efw
  have ef0 := t17 _ _ ef0
  have ef1 := t17 _ _ ef1
  have ef3 := t17 _ _ ef3
  have ex4 := t17 _ _ ex4
  have ef4 := t17 _ _ ef4
  have ex5 := t17 _ _ ex5
  have ef5 := t17 _ _ ef5
  have eO1 := t17 _ _ eO1
  have eu6 := t17 _ _ eu6
  have ey6 := t17 _ _ ey6
  have ex6 := t17 _ _ ex6
  have ef6 := t17 _ _ ef6
  have eu7 := t17 _ _ eu7
  have ec7 := t17 _ _ ec7
  have ey7 := t17 _ _ ey7
  have ex7 := t17 _ _ ex7
  have s := s.trans t17
  have w := w.same t17
  generalize upd G16 f7 (.tup [V.ref x7, V.ref ans]) = G17 at t17 ef7 hal hr0 hr1 hht hans hd0 hd1 efw ef0 ef1 ef3 ex4 ef4 ex5 ef5 eO1 eu6 ey6 ex6 ef6 eu7 ec7 ey7 ex7 s w ⊢
  clear t17
  refine ⟨szl _ (by show 2 ≤ 100; decide), fun M1 hM1 => ?_⟩
  have t18 := same_new hM1 (.lst [V.ref f6, V.ref f7])
  have nM1 : M1 ≠ a := Ne.symm (w.ne hM1)
  have eM1 : (upd G17 M1 (.lst [V.ref f6, V.ref f7])) M1 = some (.lst [V.ref f6, V.ref f7]) := upd_same
  have hal := t18 _ _ hal
  have hr0 := t18 _ _ hr0
  have hr1 := t18 _ _ hr1
  have hht := t18 _ _ hht
  have hans := t18 _ _ hans
  have hd0 := t18 _ _ hd0
  have hd1 := t18 _ _ hd1
  have efw := t18 _ _ efw
  have ef0 := t18 _ _ ef0
  have ef1 := t18 _ _ ef1
  have ef3 := t18 _ _ ef3
  have ex4 := t18 _ _ ex4
  have ef4 := t18 _ _ ef4
  have ex5 := t18 _ _ ex5
  have ef5 := t18 _ _ ef5
  have eO1 := t18 _ _ eO1
  have eu6 := t18 _ _ eu6
  have ey6 := t18 _ _ ey6
  have ex6 := t18 _ _ ex6
  have ef6 := t18 _ _ ef6
  have eu7 := t18 _ _ eu7
  have ec7 := t18 _ _ ec7
  have ey7 := t18 _ _ ey7
  have ex7 := t18 _ _ ex7
  have ef7 := t18 _ _ ef7
  have s := s.trans t18
  have w := w.same t18
  generalize upd G17 M1 (.lst [V.ref f6, V.ref f7]) = G18 at t18 eM1 hal hr0 hr1 hht hans hd0 hd1 efw ef0 ef1 ef3 ex4 ef4 ex5 ef5 eO1 eu6 ey6 ex6 ef6 eu7 ec7 ey7 ex7 ef7 s w ⊢
  clear t18
  refine ⟨O1, M1, _, _, rfl, rfl, eO1, eM1, szl _ (by show 6 + 2 ≤ 100; decide), fun O2 hO2 => ?_⟩
  have t19 := same_new hO2 (.lst ([V.ref f0, V.ref f1, V.non, V.ref f3, V.ref f4, V.ref f5] ++ [V.ref f6, V.ref f7]))
  have nO2 : O2 ≠ a := Ne.symm (w.ne hO2)
  have eO2 : (upd G18 O2 (.lst ([V.ref f0, V.ref f1, V.non, V.ref f3, V.ref f4, V.ref f5] ++ [V.ref f6, V.ref f7]))) O2 = some (.lst ([V.ref f0, V.ref f1, V.non, V.ref f3, V.ref f4, V.ref f5] ++ [V.ref f6, V.ref f7])) := upd_same
  have hal := t19 _ _ hal
  have hr0 := t19 _ _ hr0
  have hr1 := t19 _ _ hr1
  have hht := t19 _ _ hht
  have hans := t19 _ _ hans
  have hd0 := t19 _ _ hd0
  have hd1 := t19 _ _ hd1
  have efw := t19 _ _ efw
  have ef0 := t19 _ _ ef0
  have ef1 := t19 _ _ ef1
  have ef3 := t19 _ _ ef3
  have ex4 := t19 _ _ ex4
  have ef4 := t19 _ _ ef4
  have ex5 := t19 _ _ ex5
  have ef5 := t19 _ _ ef5
  have eO1 := t19 _ _ eO1
  have eu6 := t19 _ _ eu6
  have ey6 := t19 _ _ ey6
  have ex6 := t19 _ _ ex6
  have ef6 := t19 _ _ ef6
  have eu7 := t19 _ _ eu7
  have ec7 := t19 _ _ ec7
  have ey7 := t19 _ _ ey7
  have ex7 := t19 _ _ ex7
  have ef7 := t19 _ _ ef7
  have eM1 := t19 _ _ eM1
  have s := s.trans t19
  have w := w.same t19
  generalize upd G18 O2 (.lst ([V.ref f0, V.ref f1, V.non, V.ref f3, V.ref f4, V.ref f5] ++ [V.ref f6, V.ref f7])) = G19 at t19 eO2 hal hr0 hr1 hht hans hd0 hd1 efw ef0 ef1 ef3 ex4 ef4 ex5 ef5 eO1 eu6 ey6 ex6 ef6 eu7 ec7 ey7 ex7 ef7 eM1 s w ⊢
  clear t19
  refine ⟨_, rfl, _, rfl, _, rfl, ans, _, _, _, rfl, rfl, SqL.of hans, atI_nat (j := 0) rfl, _, rfl, szl _ (by show 2 ≤ 100; decide), fun x8 hx8 => ?_⟩
  have t20 := same_new hx8 (.lst [V.ref d0, V.ref fw])
  have nx8 : x8 ≠ a := Ne.symm (w.ne hx8)
  have ex8 : (upd G19 x8 (.lst [V.ref d0, V.ref fw])) x8 = some (.lst [V.ref d0, V.ref fw]) := upd_same
  have hal := t20 _ _ hal
  have hr0 := t20 _ _ hr0
  have hr1 := t20 _ _ hr1
  have hht := t20 _ _ hht
  have hans := t20 _ _ hans
  have hd0 := t20 _ _ hd0
  have hd1 := t20 _ _ hd1
  have efw := t20 _ _ efw
  have ef0 := t20 _ _ ef0
  have ef1 := t20 _ _ ef1
  have ef3 := t20 _ _ ef3
  have ex4 := t20 _ _ ex4
  have ef4 := t20 _ _ ef4
  have ex5 := t20 _ _ ex5
  have ef5 := t20 _ _ ef5
  have eO1 := t20 _ _ eO1
  have eu6 := t20 _ _ eu6
  have ey6 := t20 _ _ ey6
  have ex6 := t20 _ _ ex6
  have ef6 := t20 _ _ ef6
  have eu7 := t20 _ _ eu7
  have ec7 := t20 _ _ ec7
  have ey7 := t20 _ _ ey7
  have ex7 := t20 _ _ ex7
  have ef7 := t20 _ _ ef7
  have eM1 := t20 _ _ eM1
  have eO2 := t20 _ _ eO2
  have s := s.trans t20
  have w := w.same t20
  generalize upd G19 x8 (.lst [V.ref d0, V.ref fw]) = G20 at t20 ex8 hal hr0 hr1 hht hans hd0 hd1 efw ef0 ef1 ef3 ex4 ef4 ex5 ef5 eO1 eu6 ey6 ex6 ef6 eu7 ec7 ey7 ex7 ef7 eM1 eO2 s w ⊢
  clear t20
  refine ⟨szl _ (by show 2 ≤ 100; decide), fun f8 hf8 => ?_⟩
  have t21 := same_new hf8 (.tup [V.ref al, V.ref x8])
  have nf8 : f8 ≠ a := Ne.symm (w.ne hf8)
  have ef8 : (upd G20 f8 (.tup [V.ref al, V.ref x8])) f8 = some (.tup [V.ref al, V.ref x8]) := upd_same
  have hal := t21 _ _ hal
  have hr0 := t21 _ _ hr0
  have hr1 := t21 _ _ hr1
  have hht := t21 _ _ hht
  have hans := t21 _ _ hans
  have hd0 := t21 _ _ hd0
  have hd1 := t21 _ _ hd1
  have efw := t21 _ _ efw
  have ef0 := t21 _ _ ef0
  have ef1 := t21 _ _ ef1
  have ef3 := t21 _ _ ef3
  have ex4 := t21 _ _ ex4
  have ef4 := t21 _ _ ef4
  have ex5 := t21 _ _ ex5
  have ef5 := t21 _ _ ef5
  have eO1 := t21 _ _ eO1
  have eu6 := t21 _ _ eu6
  have ey6 := t21 _ _ ey6
  have ex6 := t21 _ _ ex6
  have ef6 := t21 _ _ ef6
  have eu7 := t21 _ _ eu7
  have ec7 := t21 _ _ ec7
  have ey7 := t21 _ _ ey7
  have ex7 := t21 _ _ ex7
  have ef7 := t21 _ _ ef7
  have eM1 := t21 _ _ eM1
  have eO2 := t21 _ _ eO2
  have ex8 := t21 _ _ ex8
  have s := s.trans t21
  have w := w.same t21
  generalize upd G20 f8 (.tup [V.ref al, V.ref x8]) = G21 at t21 ef8 hal hr0 hr1 hht hans hd0 hd1 efw ef0 ef1 ef3 ex4 ef4 ex5 ef5 eO1 eu6 ey6 ex6 ef6 eu7 ec7 ey7 ex7 ef7 eM1 eO2 ex8 s w ⊢
  clear t21
  refine ⟨_, rfl, _, rfl, ans, _, _, _, rfl, rfl, SqL.of hans, atI_nat (j := 0) rfl, szl _ (by show 2 ≤ 100; decide), fun x9 hx9 => ?_⟩
  have t22 := same_new hx9 (.lst [V.ref d0, V.non])
  have nx9 : x9 ≠ a := Ne.symm (w.ne hx9)
  have ex9 : (upd G21 x9 (.lst [V.ref d0, V.non])) x9 = some (.lst [V.ref d0, V.non]) := upd_same
  have hal := t22 _ _ hal
  have hr0 := t22 _ _ hr0
  have hr1 := t22 _ _ hr1
  have hht := t22 _ _ hht
  have hans := t22 _ _ hans
  have hd0 := t22 _ _ hd0
  have hd1 := t22 _ _ hd1
  have efw := t22 _ _ efw
  have ef0 := t22 _ _ ef0
  have ef1 := t22 _ _ ef1
  have ef3 := t22 _ _ ef3
  have ex4 := t22 _ _ ex4
  have ef4 := t22 _ _ ef4
  have ex5 := t22 _ _ ex5
  have ef5 := t22 _ _ ef5
  have eO1 := t22 _ _ eO1
  have eu6 := t22 _ _ eu6
  have ey6 := t22 _ _ ey6
  have ex6 := t22 _ _ ex6
  have ef6 := t22 _ _ ef6
  have eu7 := t22 _ _ eu7
  have ec7 := t22 _ _ ec7
  have ey7 := t22 _ _ ey7
  have ex7 := t22 _ _ ex7
  have ef7 := t22 _ _ ef7
  have eM1 := t22 _ _ eM1
  have eO2 := t22 _ _ eO2
  have ex8 := t22 _ _ ex8
  have ef8 := t22 _ _ ef8
  have s := s.trans t22
  have w := w.same t22
  generalize upd G21 x9 (.lst [V.ref d0, V.non]) = G22 at t22 ex9 hal hr0 hr1 hht hans hd0 hd1 efw ef0 ef1 ef3 ex4 ef4 ex5 ef5 eO1 eu6 ey6 ex6 ef6 eu7 ec7 ey7 ex7 ef7 eM1 eO2 ex8 ef8 s w ⊢
  clear t22
  refine ⟨szl _ (by show 2 ≤ 100; decide), fun f9 hf9 => ?_⟩
  have t23 := same_new hf9 (.tup [V.ref al, V.ref x9])
  have nf9 : f9 ≠ a := Ne.symm (w.ne hf9)
  have ef9 : (upd G22 f9 (.tup [V.ref al, V.ref x9])) f9 = some (.tup [V.ref al, V.ref x9]) := upd_same
  have hal := t23 _ _ hal
  have hr0 := t23 _ _ hr0
  have hr1 := t23 _ _ hr1
  have hht := t23 _ _ hht
  have hans := t23 _ _ hans
  have hd0 := t23 _ _ hd0
  have hd1 := t23 _ _ hd1
  have efw := t23 _ _ efw
  have ef0 := t23 _ _ ef0
  have ef1 := t23 _ _ ef1
  have ef3 := t23 _ _ ef3
  have ex4 := t23 _ _ ex4
  have ef4 := t23 _ _ ef4
  have ex5 := t23 _ _ ex5
  have ef5 := t23 _ _ ef5
  have eO1 := t23 _ _ eO1
  have eu6 := t23 _ _ eu6
  have ey6 := t23 _ _ ey6
  have ex6 := t23 _ _ ex6
  have ef6 := t23 _ _ ef6
  have eu7 := t23 _ _ eu7
  have ec7 := t23 _ _ ec7
  have ey7 := t23 _ _ ey7
  have ex7 := t23 _ _ ex7
  have ef7 := t23 _ _ ef7
  have eM1 := t23 _ _ eM1
  have eO2 := t23 _ _ eO2
  have ex8 := t23 _ _ ex8
  have ef8 := t23 _ _ ef8
  have ex9 := t23 _ _ ex9
  have s := s.trans t23
  have w := w.same t23
  generalize upd G22 f9 (.tup [V.ref al, V.ref x9]) = G23 at t23 ef9 hal hr0 hr1 hht hans hd0 hd1 efw ef0 ef1 ef3 ex4 ef4 ex5 ef5 eO1 eu6 ey6 ex6 ef6 eu7 ec7 ey7 ex7 ef7 eM1 eO2 ex8 ef8 ex9 s w ⊢
  clear t23
  refine ⟨_, rfl, al, _, _, _, rfl, rfl, SqL.of hal, atI_nat (j := 0) rfl, _, rfl, al, _, _, _, rfl, rfl, SqL.of hal, atI_nat (j := 1) rfl, _, rfl, r1, _, rfl, SqL.of hr1, fun c10 hc10 => ?_⟩
  rw [cut_tail (ch 1) hl1]
  have t24 := same_new hc10 (.lst ((ch 1).tail.map V.int))
  have nc10 : c10 ≠ a := Ne.symm (w.ne hc10)
  have ec10 : (upd G23 c10 (.lst ((ch 1).tail.map V.int))) c10 = some (.lst ((ch 1).tail.map V.int)) := upd_same
  have hal := t24 _ _ hal
  have hr0 := t24 _ _ hr0
  have hr1 := t24 _ _ hr1
  have hht := t24 _ _ hht
  have hans := t24 _ _ hans
  have hd0 := t24 _ _ hd0
  have hd1 := t24 _ _ hd1
  have efw := t24 _ _ efw
  have ef0 := t24 _ _ ef0
  have ef1 := t24 _ _ ef1
  have ef3 := t24 _ _ ef3
  have ex4 := t24 _ _ ex4
  have ef4 := t24 _ _ ef4
  have ex5 := t24 _ _ ex5
  have ef5 := t24 _ _ ef5
  have eO1 := t24 _ _ eO1
  have eu6 := t24 _ _ eu6
  have ey6 := t24 _ _ ey6
  have ex6 := t24 _ _ ex6
  have ef6 := t24 _ _ ef6
  have eu7 := t24 _ _ eu7
  have ec7 := t24 _ _ ec7
  have ey7 := t24 _ _ ey7
  have ex7 := t24 _ _ ex7
  have ef7 := t24 _ _ ef7
  have eM1 := t24 _ _ eM1
  have eO2 := t24 _ _ eO2
  have ex8 := t24 _ _ ex8
  have ef8 := t24 _ _ ef8
  have ex9 := t24 _ _ ex9
  have ef9 := t24 _ _ ef9
  have s := s.trans t24
  have w := w.same t24
  generalize upd G23 c10 (.lst ((ch 1).tail.map V.int)) = G24 at t24 ec10 hal hr0 hr1 hht hans hd0 hd1 efw ef0 ef1 ef3 ex4 ef4 ex5 ef5 eO1 eu6 ey6 ex6 ef6 eu7 ec7 ey7 ex7 ef7 eM1 eO2 ex8 ef8 ex9 ef9 s w ⊢
  clear t24
  refine ⟨szl _ (by show 2 ≤ 100; decide), fun x10 hx10 => ?_⟩
  have t25 := same_new hx10 (.lst [V.ref r0, V.ref c10])
  have nx10 : x10 ≠ a := Ne.symm (w.ne hx10)
  have ex10 : (upd G24 x10 (.lst [V.ref r0, V.ref c10])) x10 = some (.lst [V.ref r0, V.ref c10]) := upd_same
  have hal := t25 _ _ hal
  have hr0 := t25 _ _ hr0
  have hr1 := t25 _ _ hr1
  have hht := t25 _ _ hht
  have hans := t25 _ _ hans
  have hd0 := t25 _ _ hd0
  have hd1 := t25 _ _ hd1
  have efw := t25 _ _ efw
  have ef0 := t25 _ _ ef0
  have ef1 := t25 _ _ ef1
  have ef3 := t25 _ _ ef3
  have ex4 := t25 _ _ ex4
  have ef4 := t25 _ _ ef4
  have ex5 := t25 _ _ ex5
  have ef5 := t25 _ _ ef5
  have eO1 := t25 _ _ eO1
  have eu6 := t25 _ _ eu6
  have ey6 := t25 _ _ ey6
  have ex6 := t25 _ _ ex6
  have ef6 := t25 _ _ ef6
  have eu7 := t25 _ _ eu7
  have ec7 := t25 _ _ ec7
  have ey7 := t25 _ _ ey7
  have ex7 := t25 _ _ ex7
  have ef7 := t25 _ _ ef7
  have eM1 := t25 _ _ eM1
  have eO2 := t25 _ _ eO2
  have ex8 := t25 _ _ ex8
  have ef8 := t25 _ _ ef8
  have ex9 := t25 _ _ ex9
  have ef9 := t25 _ _ ef9
  have ec10 := t25 _ _ ec10
  have s := s.trans t25
  have w := w.same t25
  generalize upd G24 x10 (.lst [V.ref r0, V.ref c10]) = G25 at t25 ex10 hal hr0 hr1 hht hans hd0 hd1 efw ef0 ef1 ef3 ex4 ef4 ex5 ef5 eO1 eu6 ey6 ex6 ef6 eu7 ec7 ey7 ex7 ef7 eM1 eO2 ex8 ef8 ex9 ef9 ec10 s w ⊢
  clear t25
  refine ⟨_, rfl, szl _ (by show 2 ≤ 100; decide), fun f10 hf10 => ?_⟩
  have t26 := same_new hf10 (.tup [V.ref x10, V.ref ans])
  have nf10 : f10 ≠ a := Ne.symm (w.ne hf10)
  have ef10 : (upd G25 f10 (.tup [V.ref x10, V.ref ans])) f10 = some (.tup [V.ref x10, V.ref ans]) := upd_same
  have hal := t26 _ _ hal
  have hr0 := t26 _ _ hr0
  have hr1 := t26 _ _ hr1
  have hht := t26 _ _ hht
  have hans := t26 _ _ hans
  have hd0 := t26 _ _ hd0
  have hd1 := t26 _ _ hd1
  have efw := t26 _ _ efw
  have ef0 := t26 _ _ ef0
  have ef1 := t26 _ _ ef1
  have ef3 := t26 _ _ ef3
  have ex4 := t26 _ _ ex4
  have ef4 := t26 _ _ ef4
  have ex5 := t26 _ _ ex5
  have ef5 := t26 _ _ ef5
  have eO1 := t26 _ _ eO1
  have eu6 := t26 _ _ eu6
  have ey6 := t26 _ _ ey6
  have ex6 := t26 _ _ ex6
  have ef6 := t26 _ _ ef6
  have eu7 := t26 _ _ eu7
  have ec7 := t26 _ _ ec7
  have ey7 := t26 _ _ ey7
  have ex7 := t26 _ _ ex7
  have ef7 := t26 _ _ ef7
  have eM1 := t26 _ _ eM1
  have eO2 := t26 _ _ eO2
  have ex8 := t26 _ _ ex8
  have ef8 := t26 _ _ ef8
  have ex9 := t26 _ _ ex9
  have ef9 := t26 _ _ ef9
  have ec10 := t26 _ _ ec10
  have ex10 := t26 _ _ ex10
  have s := s.trans t26
  have w := w.same t26
  generalize upd G25 f10 (.tup [V.ref x10, V.ref ans]) = G26 at t26 ef10 hal hr0 hr1 hht hans hd0 hd1 efw ef0 ef1 ef3 ex4 ef4 ex5 ef5 eO1 eu6 ey6 ex6 ef6 eu7 ec7 ey7 ex7 ef7 eM1 eO2 ex8 ef8 ex9 ef9 ec10 ex10 s w ⊢
  clear t26
  refine ⟨szl _ (by show 3 ≤ 100; decide), fun M2 hM2 => ?_⟩
  have t27 := same_new hM2 (.lst [V.ref f8, V.ref f9, V.ref f10])
  have nM2 : M2 ≠ a := Ne.symm (w.ne hM2)
  have eM2 : (upd G26 M2 (.lst [V.ref f8, V.ref f9, V.ref f10])) M2 = some (.lst [V.ref f8, V.ref f9, V.ref f10]) := upd_same
  have hal := t27 _ _ hal
  have hr0 := t27 _ _ hr0
  have hr1 := t27 _ _ hr1
  have hht := t27 _ _ hht
  have hans := t27 _ _ hans
  have hd0 := t27 _ _ hd0
  have hd1 := t27 _ _ hd1
  have efw := t27 _ _ efw
  have ef0 := t27 _ _ ef0
  have ef1 := t27 _ _ ef1
  have ef3 := t27 _ _ ef3
  have ex4 := t27 _ _ ex4
  have ef4 := t27 _ _ ef4
  have ex5 := t27 _ _ ex5
  have ef5 := t27 _ _ ef5
  have eO1 := t27 _ _ eO1
  have eu6 := t27 _ _ eu6
  have ey6 := t27 _ _ ey6
  have ex6 := t27 _ _ ex6
  have ef6 := t27 _ _ ef6
  have eu7 := t27 _ _ eu7
  have ec7 := t27 _ _ ec7
  have ey7 := t27 _ _ ey7
  have ex7 := t27 _ _ ex7
  have ef7 := t27 _ _ ef7
  have eM1 := t27 _ _ eM1
  have eO2 := t27 _ _ eO2
  have ex8 := t27 _ _ ex8
  have ef8 := t27 _ _ ef8
  have ex9 := t27 _ _ ex9
  have ef9 := t27 _ _ ef9
  have ec10 := t27 _ _ ec10
  have ex10 := t27 _ _ ex10
  have ef10 := t27 _ _ ef10
  have s := s.trans t27
  have w := w.same t27
  generalize upd G26 M2 (.lst [V.ref f8, V.ref f9, V.ref f10]) = G27 at t27 eM2 hal hr0 hr1 hht hans hd0 hd1 efw ef0 ef1 ef3 ex4 ef4 ex5 ef5 eO1 eu6 ey6 ex6 ef6 eu7 ec7 ey7 ex7 ef7 eM1 eO2 ex8 ef8 ex9 ef9 ec10 ex10 ef10 s w ⊢
  clear t27
  refine ⟨O2, M2, _, _, rfl, rfl, eO2, eM2, szl _ (by show 8 + 3 ≤ 100; decide), fun O3 hO3 => ?_⟩
  have t28 := same_new hO3 (.lst ([V.ref f0, V.ref f1, V.non, V.ref f3, V.ref f4, V.ref f5] ++ [V.ref f6, V.ref f7] ++ [V.ref f8, V.ref f9, V.ref f10]))
  have nO3 : O3 ≠ a := Ne.symm (w.ne hO3)
  have eO3 : (upd G27 O3 (.lst ([V.ref f0, V.ref f1, V.non, V.ref f3, V.ref f4, V.ref f5] ++ [V.ref f6, V.ref f7] ++ [V.ref f8, V.ref f9, V.ref f10]))) O3 = some (.lst ([V.ref f0, V.ref f1, V.non, V.ref f3, V.ref f4, V.ref f5] ++ [V.ref f6, V.ref f7] ++ [V.ref f8, V.ref f9, V.ref f10])) := upd_same
  have hal := t28 _ _ hal
  have hr0 := t28 _ _ hr0
  have hr1 := t28 _ _ hr1
  have hht := t28 _ _ hht
  have hans := t28 _ _ hans
  have hd0 := t28 _ _ hd0
  have hd1 := t28 _ _ hd1
  have efw := t28 _ _ efw
  have ef0 := t28 _ _ ef0
  have ef1 := t28 _ _ ef1
  have ef3 := t28 _ _ ef3
  have ex4 := t28 _ _ ex4
  have ef4 := t28 _ _ ef4
  have ex5 := t28 _ _ ex5
  have ef5 := t28 _ _ ef5
  have eO1 := t28 _ _ eO1
  have eu6 := t28 _ _ eu6
  have ey6 := t28 _ _ ey6
  have ex6 := t28 _ _ ex6
  have ef6 := t28 _ _ ef6
  have eu7 := t28 _ _ eu7
  have ec7 := t28 _ _ ec7
  have ey7 := t28 _ _ ey7
  have ex7 := t28 _ _ ex7
  have ef7 := t28 _ _ ef7
  have eM1 := t28 _ _ eM1
  have eO2 := t28 _ _ eO2
  have ex8 := t28 _ _ ex8
  have ef8 := t28 _ _ ef8
  have ex9 := t28 _ _ ex9
  have ef9 := t28 _ _ ef9
  have ec10 := t28 _ _ ec10
  have ex10 := t28 _ _ ex10
  have ef10 := t28 _ _ ef10
  have eM2 := t28 _ _ eM2
  have s := s.trans t28
  have w := w.same t28
  generalize upd G27 O3 (.lst ([V.ref f0, V.ref f1, V.non, V.ref f3, V.ref f4, V.ref f5] ++ [V.ref f6, V.ref f7] ++ [V.ref f8, V.ref f9, V.ref f10])) = G28 at t28 eO3 hal hr0 hr1 hht hans hd0 hd1 efw ef0 ef1 ef3 ex4 ef4 ex5 ef5 eO1 eu6 ey6 ex6 ef6 eu7 ec7 ey7 ex7 ef7 eM1 eO2 ex8 ef8 ex9 ef9 ec10 ex10 ef10 eM2 s w ⊢
  clear t28
  refine ⟨_, rfl, _, rfl, a, _, 11, rfl, .inr w, by omega, by omega, by decide, by decide, fun r3 H9 r30 r31 b9 w9 => ?_⟩
  obtain ⟨j, rfl⟩ : ∃ j : Nat, r3 = (j : Int) := ⟨r3.toNat, by omega⟩
  have hj : j < 11 := by omega
  have at9 : ∀ {b : Addr} {o : HO}, b ≠ a → G28 b = some o → vw (pA a) H9 b = some o := fun n e => vw_put (pA_ok.mpr n) (b9 _ _ n e)
  have bf : But a H H9 := (But.same s).trans b9
  have B9 : BxV C a H9 p t D ch an al ans d0 d1 := BxF.mono bf.vw BV
  have gC : GoodC (vw (pA a) H9) D al ch := ⟨B9.hal, B9.len, B9.outc⟩
  have sr0 : ShX K (vw (pA a) H9) 28 2 (.ref r0) := shx_row (m := 4) (at9 (pA_ok.mp chr0) hr0) (BV.outc 0 (by decide)) (by omega)
  have sr1 : ShX K (vw (pA a) H9) 28 2 (.ref r1) := shx_row (m := 4) (at9 (pA_ok.mp chr1) hr1) (BV.outc 1 (by decide)) (by omega)
  have two : ∀ {P : V → Prop} {x y : V}, P x → P y → ∀ z ∈ [x, y], P z := fun h g z hz => by
    rcases List.mem_cons.mp hz with rfl | hz
    · exact h
    · obtain rfl := List.mem_singleton.mp hz
      exact g
  have one : ∀ {P : V → Prop} {x : V}, P x → ∀ z ∈ [x], P z := fun h z hz => by
    obtain rfl := List.mem_singleton.mp hz
    exact h
  have sal : ShX K (vw (pA a) H9) 58 3 (.ref al) := shx_lst (at9 (pA_ok.mp chal) hal) (two sr0 sr1) (Nat.le_refl 2)
  have sd0 : ShX K (vw (pA a) H9) 1320 3 (.ref d0) := shx_dic (at9 (pA_ok.mp chd0) hd0) (ansL hW h3 (BV.outa 0 (by decide)))
  have sd1 : ShX K (vw (pA a) H9) 1320 3 (.ref d1) := shx_dic (at9 (pA_ok.mp chd1) hd1) (ansL hW h3 (BV.outa 1 (by decide)))
  have sfw : ShX K (vw (pA a) H9) 1320 3 (.ref fw) := shx_dic (at9 nfw efw) ((ansL hW h3 (BV.outa 1 (by decide))).drop _)
  have sans : ShX K (vw (pA a) H9) 2642 4 (.ref ans) := shx_lst (at9 (pA_ok.mp chans) hans) (two sd0 sd1) (Nat.le_refl 2)
  have pr : ∀ {f x y : Addr}, f ≠ a → G28 f = some (.tup [.ref x, .ref y]) → ShX K (vw (pA a) H9) 4000 6 (.ref x) → ShX K (vw (pA a) H9) 4000 6 (.ref y) → ShX K (vw (pA a) H9) 20000 10 (.ref f) := fun n e h g => (shx_tup (at9 n e) (two h g) (Nat.le_refl 2)).up (by decide) (by decide)
  have l2 : ∀ {f : Addr} {x y : V}, f ≠ a → G28 f = some (.lst [x, y]) → ShX K (vw (pA a) H9) 1400 5 x → ShX K (vw (pA a) H9) 1400 5 y → ShX K (vw (pA a) H9) 4000 6 (.ref f) := fun n e h g => (shx_lst (at9 n e) (two h g) (Nat.le_refl 2)).up (by decide) (by decide)
  have l1 : ∀ {f : Addr} {x : V}, f ≠ a → G28 f = some (.lst [x]) → ShX K (vw (pA a) H9) 1400 5 x → ShX K (vw (pA a) H9) 4000 6 (.ref f) := fun n e h => (shx_lst (at9 n e) (one h) (Nat.le_refl 1)).up (by decide) (by decide)
  have sal' := sal.up (show 58 ≤ 4000 by decide) (show 3 ≤ 6 by decide)
  have sans' := sans.up (show 2642 ≤ 4000 by decide) (show 4 ≤ 6 by decide)
  have sr0' := sr0.up (show 28 ≤ 1400 by decide) (show 2 ≤ 5 by decide)
  have sr1' := sr1.up (show 28 ≤ 1400 by decide) (show 2 ≤ 5 by decide)
  have sd0' := sd0.up (show 1320 ≤ 1400 by decide) (show 3 ≤ 5 by decide)
  have sfw' := sfw.up (show 1320 ≤ 1400 by decide) (show 3 ≤ 5 by decide)
  have rows : ∀ {r : Addr} {row : List Int}, r ≠ a → G28 r = some (.lst (row.map V.int)) → Dp K (vw (pA a) H9) (.ref r) (rowD row) := fun {r row} n e => .lst (SqL.of (at9 n e)) (dp_ints row)
  have ts : ∀ {row : List Int}, row.tail.length ≤ row.length := fun {row} => by rw [List.length_tail]; omega
  obtain ⟨v, hv, hO, hS⟩ : ∃ v, ([V.ref f0, V.ref f1, V.non, V.ref f3, V.ref f4, V.ref f5] ++ [V.ref f6, V.ref f7] ++ [V.ref f8, V.ref f9, V.ref f10])[j]? = some v ∧ OddF K C (vw (pA a) H9) p D v ∧ ShX K (vw (pA a) H9) 20000 10 v := by
    obtain rfl | rfl | rfl | rfl | rfl | rfl | rfl | rfl | rfl | rfl | rfl : j = 0 ∨ j = 1 ∨ j = 2 ∨ j = 3 ∨ j = 4 ∨ j = 5 ∨ j = 6 ∨ j = 7 ∨ j = 8 ∨ j = 9 ∨ j = 10 := by omega
    · exact ⟨_, rfl, .lst (at9 nf0 ef0), (shx_lst (at9 nf0 ef0) (two sal' sans') (Nat.le_refl 2)).up (by decide) (by decide)⟩
    · exact ⟨_, rfl, .one (at9 nf1 ef1), (shx_tup (at9 nf1 ef1) (one sal') (Nat.le_refl 1)).up (by decide) (by decide)⟩
    · exact ⟨_, rfl, .non, shx_non.up (by decide) (by decide)⟩
    · exact ⟨_, rfl, .cho (at9 nf3 ef3) (.inr ⟨ans, d0, d1, _, _, rfl, B9.hans, B9.h0, B9.h1⟩), pr nf3 ef3 sans' sal'⟩
    · exact ⟨_, rfl, .cho (at9 nf4 ef4) (.inl ⟨.list [rowD (ch 0)], .lst (SqL.of (at9 nx4 ex4)) (.cons (rows (pA_ok.mp chr0) hr0) .nil), (fun ds e z hz => by
        cases e
        obtain rfl := List.mem_singleton.mp hz
        exact small_rowD (by omega)), rfl⟩), pr nf4 ef4 (l1 nx4 ex4 sr0') sans'⟩
    · exact ⟨_, rfl, .few (at9 nf5 ef5) gC (at9 nx5 ex5), pr nf5 ef5 sal' (l1 nx5 ex5 sd0')⟩
    · exact ⟨_, rfl, .cho (at9 nf6 ef6) (.inl ⟨.list [rowD (ch 0 ++ [0]), rowD (ch 1)], .lst (SqL.of (at9 nx6 ex6)) (.cons (rows ny6 (by rw [ey6, List.map_append]; rfl)) (.cons (rows (pA_ok.mp chr1) hr1) .nil)), (fun ds e z hz => by
        cases e
        rcases List.mem_cons.mp hz with rfl | hz
        · exact small_rowD (by rw [List.length_append]; show _ + 1 ≤ 1000; omega)
        · obtain rfl := List.mem_singleton.mp hz
          exact small_rowD (by omega)), (by
        show (rowB (rowD (ch 0 ++ [0])) _ && _) = false
        rw [rowB_len (by rw [List.length_append, BV.len 0 (by decide)]; show _ + 1 ≠ _; omega)]
        rfl)⟩), pr nf6 ef6 (l2 nx6 ex6 ((shx_row (m := 5) (row := ch 0 ++ [0]) (at9 ny6 (by rw [ey6, List.map_append]; rfl)) (fun z hz => by
        rcases List.mem_append.mp hz with m | m
        · exact BV.outc 0 (by decide) z m
        · obtain rfl := List.mem_singleton.mp m
          exact ⟨Int.le_refl 0, by decide⟩) (by rw [List.length_append]; show _ + 1 ≤ 5; omega)).up (by decide) (by decide)) sr1') sans'⟩
    · exact ⟨_, rfl, .cho (at9 nf7 ef7) (.inl ⟨.list [.list (.bool true :: (ch 0).tail.map .int), rowD (ch 1)], .lst (SqL.of (at9 nx7 ex7)) (.cons (.lst (SqL.of (at9 ny7 ey7)) (.cons (.bl true) (dp_ints _))) (.cons (rows (pA_ok.mp chr1) hr1) .nil)), (fun ds e z hz => by
        cases e
        rcases List.mem_cons.mp hz with rfl | hz
        · intro ds e
          cases e
          rw [List.length_cons, List.length_map, List.length_tail]
          omega
        · obtain rfl := List.mem_singleton.mp hz
          exact small_rowD (by omega)), (by
        show ((decide _ && (false && _)) && _) = false
        rw [Bool.false_and, Bool.and_false]
        rfl)⟩), pr nf7 ef7 (l2 nx7 ex7 ((shx_lst (w := 8) (n := 1) (m := 5) (at9 ny7 ey7) (fun z hz => by
        rcases List.mem_append.mp hz with m | m
        · obtain rfl := List.mem_singleton.mp m
          exact shx_bl true
        · obtain ⟨y, hy, rfl⟩ := List.mem_map.mp m
          exact (shx_int (BV.outc 0 (by decide) y (List.mem_of_mem_tail hy))).up (by decide) (by decide)) (by rw [List.length_append, List.length_map, List.length_tail]; show 1 + _ ≤ 5; omega)).up (by decide) (by decide)) sr1') sans'⟩
    · exact ⟨_, rfl, .ans (at9 nf8 ef8) gC (at9 nx8 ex8) B9.h0 B9.x0 (B9.outa 0 (by decide)) (.inr ⟨fw, _, rfl, at9 nfw efw, hless⟩), pr nf8 ef8 sal' (l2 nx8 ex8 sd0' sfw')⟩
    · exact ⟨_, rfl, .ans (at9 nf9 ef9) gC (at9 nx9 ex9) B9.h0 B9.x0 (B9.outa 0 (by decide)) (.inl rfl), pr nf9 ef9 sal' (l2 nx9 ex9 sd0' (shx_non.up (by decide) (by decide)))⟩
    · exact ⟨_, rfl, .cho (at9 nf10 ef10) (.inl ⟨.list [rowD (ch 0), rowD (ch 1).tail], .lst (SqL.of (at9 nx10 ex10)) (.cons (rows (pA_ok.mp chr0) hr0) (.cons (rows nc10 ec10) .nil)), (fun ds e z hz => by
        cases e
        rcases List.mem_cons.mp hz with rfl | hz
        · exact small_rowD (by omega)
        · obtain rfl := List.mem_singleton.mp hz
          exact small_rowD (by rw [List.length_tail]; omega)), (by
        show (_ && rowB (rowD (ch 1).tail) _) = false
        rw [rowB_len (row := (ch 1).tail) (m := (D.al 1).length) (by rw [List.length_tail, BV.len 1 (by decide)]; omega), Bool.and_false])⟩), pr nf10 ef10 (l2 nx10 ex10 sr0' ((shx_row (m := 5) (at9 nc10 ec10) (fun z hz => BV.outc 1 (by decide) z (List.mem_of_mem_tail hz)) (by rw [List.length_tail]; omega)).up (by decide) (by decide))) sans'⟩
  refine ⟨O3, _, _, _, rfl, rfl, SqL.of (b9 _ _ nO3 eO3), atI_nat hv, q _ _ bf (w9.up (by omega)) hO hS⟩
end
end TA

set_option Elab.async false
set_option maxRecDepth 100000
set_option maxHeartbeats 4000000
namespace TA
open PySem L2 PyProof.Rows
set_option linter.unusedVariables false
mutual
theorem dx_mono {K : PySem.W.Frag} {H H' : Hp} (s : Same H H') : ∀ {v : V} {d : PyData}, DX K H v d → DX K H' v d
  | _, _, .flat h n => .flat (dp_mono s _ _ h) n
  | _, _, .lst h g => .lst (s.seq h) (dxs_mono s g)
  | _, _, .tup h g => .tup (seqT_mono s h) (dxs_mono s g)
  | _, _, .dic h e g a b => .dic (s _ _ h) e (dxs_mono s g) a b
theorem dxs_mono {K : PySem.W.Frag} {H H' : Hp} (s : Same H H') : ∀ {v : List V} {d : List PyData}, DXs K H v d → DXs K H' v d
  | _, _, .nil => .nil
  | _, _, .cons a b => .cons (dx_mono s a) (dxs_mono s b)
end
theorem ShX.mono {K : PySem.W.Frag} {H H' : Hp} (s : Same H H') {w n : Nat} {v : V} (h : ShX K H w n v) : ShX K H' w n v := let ⟨d, a, t⟩ := h; ⟨d, dx_mono s a, t⟩
theorem Small.shx {K : PySem.W.Frag} {H : Hp} {v : V} {d : PyData} (s : Small d) (h : Dp K H v d) : ShX K H 20000 10 v := ⟨d, .flat h s.nd, ⟨s.s, s.l, Nat.le_trans s.w (by decide), Nat.le_trans s.d (by decide)⟩⟩
theorem OIv.shx {K : PySem.W.Frag} {H : Hp} {T : TD} {v : V} (h : OIv K H T v) : ShX K H 20000 10 v := by
  cases h with
  | data h a b => exact b.shx h
  | abs h a b => exact b.shx h.dp
theorem WvV.shx {K : PySem.W.Frag} {H : Hp} {v : V} (h : WvV H v) : ShX K H 20000 10 v := by
  cases h with
  | ok h m =>
    obtain ⟨wl, wt⟩ := cut_tiny _ m
    exact (shx_lst (w := 8) (n := 1) (m := 6) h (fun x hx => by
      obtain ⟨y, hy, rfl⟩ := List.mem_map.mp hx
      exact shx_e (.inr (.inr ⟨y, rfl, wt y hy⟩))) (by rw [List.length_map]; exact wl)).up (by decide) (by decide)
  | tup h a b => exact (shx_tup h (fun x hx => shx_e (b x hx)) a).up (by decide) (by decide)
  | non => exact shx_non.up (by decide) (by decide)
  | str => exact ⟨.str "01", .flat (.str _) (by rw [PyData.hasDict]), tiny_01.up (by decide) (by decide)⟩
  | lst h a b c => exact (shx_lst h (fun x hx => shx_e (b x hx)) a).up (by decide) (by decide)
theorem small_pairI {a b : Nat} (ha : a < 20) (hb : b < 20) : Small (pairD ((a : Int), (b : Int))) := by
  have all : ((List.range 20).all fun a => (List.range 20).all fun b => (!(pairD ((a : Int), (b : Int))).hasDict && (pairD ((a : Int), (b : Int))).showable && (pairD ((a : Int), (b : Int))).leavesShort 8 && decide ((pairD ((a : Int), (b : Int))).weight ≤ 200) && decide ((pairD ((a : Int), (b : Int))).depth ≤ 4))) = true := by decide +kernel
  exact small_of (List.all_eq_true.mp (List.all_eq_true.mp all a (List.mem_range.mpr ha)) b (List.mem_range.mpr hb))
theorem BxF.shx {K : PySem.W.Frag} {C : Addr} {H : Hp} {p t : Addr} {T : TD} {ch an al ans d0 d1} (B : BxF C H p t T ch an al ans d0 d1) (hW : WF T) (h3 : ∀ h, h < 2 → (T.al h).length ≤ 3) : ShX K H 20000 10 (.ref t) := by
  obtain ⟨ta, xs0, ea, hal, ar⟩ := id B.hal
  obtain rfl : al = ta := by injection ea
  have two : ∀ {P : V → Prop} {x y : V}, P x → P y → ∀ z ∈ [x, y], P z := fun h g z hz => by
    rcases List.mem_cons.mp hz with rfl | hz
    · exact h
    · obtain rfl := List.mem_singleton.mp hz
      exact g
  have l0 := B.len 0 (by decide)
  have l1 := B.len 1 (by decide)
  have m0 := h3 0 (by decide)
  have m1 := h3 1 (by decide)
  have sal : ShX K H 4000 6 (.ref al) := by
    cases ar with
    | cons z0 ar =>
    cases ar with
    | cons z1 ar =>
    cases ar
    obtain ⟨r0, rfl, e0⟩ := z0
    obtain ⟨r1, rfl, e1⟩ := z1
    exact (shx_lst hal (two (shx_row (m := 4) e0 (B.outc 0 (by decide)) (by omega)) (shx_row (m := 4) e1 (B.outc 1 (by decide)) (by omega))) (Nat.le_refl 2)).up (by decide) (by decide)
  have sans : ShX K H 4000 6 (.ref ans) := (shx_lst B.hans (two (shx_dic B.h0 (ansL hW h3 (B.outa 0 (by decide)))) (shx_dic B.h1 (ansL hW h3 (B.outa 1 (by decide))))) (Nat.le_refl 2)).up (by decide) (by decide)
  exact (shx_tup B.ht (two sal sans) (Nat.le_refl 2)).up (by decide) (by decide)
/-! what is due, and what is said -/
def DueW (st : Addr) (H : Hp) (v9 v10 : V) (ch : Nat → List Int) (an : Nat → IP × List (Int × Int) → Int) (e : IP × List (Int × Int)) : Prop :=
  (v10 = .str "weaving" ∧ (OddW (vw (pA st) H) v9 ∨ ∃ lw ws, v9 = .ref lw ∧ ws ∈ allW ∧ wbB ws = false ∧ (vw (pA st) H) lw = some (.lst (ws.map V.int)))) ∨
  ∃ u lw ws, v10 = .ref u ∧ v9 = .ref lw ∧ ws ∈ allW ∧ wbB ws = true ∧ (vw (pA st) H) lw = some (.lst (ws.map V.int)) ∧ (vw (pA st) H) u = some (.tup [oI (tellO ch an ws e 0), oI (tellO ch an ws e 1)])
theorem DueW.but {st : Addr} {H H' : Hp} (b : But st H H') {v9 v10 : V} {ch an e} (h : DueW st H v9 v10 ch an e) : DueW st H' v9 v10 ch an e := by
  rcases h with ⟨h1, h2 | ⟨lw, ws, a1, a2, a3, a4⟩⟩ | ⟨u, lw, ws, a1, a2, a3, a4, a5, a6⟩
  · exact .inl ⟨h1, .inl (h2.mono b.vw)⟩
  · exact .inl ⟨h1, .inr ⟨lw, ws, a1, a2, a3, b.vw _ _ a4⟩⟩
  · exact .inr ⟨u, lw, ws, a1, a2, a3, a4, b.vw _ _ a5, b.vw _ _ a6⟩
theorem WvV.odd {H : Hp} {v : V} (h : WvV H v) : OddW H v ∨ ∃ lw ws, v = .ref lw ∧ ws ∈ allW ∧ H lw = some (.lst (ws.map V.int)) := by
  cases h with
  | ok h m => exact .inr ⟨_, _, rfl, m, h⟩
  | tup h a b => exact .inl (.tup h)
  | non => exact .inl .non
  | str => exact .inl .str
  | lst h a b c => exact .inl (.lst h (by omega) (fun x hx => (b x hx).flat) c)
theorem own_of {C st p t : Addr} {H : Hp} {T : TD} {ch an al ans d0 d1} {tt : Addr} {v : V} {e : IP × List (Int × Int)} {Q : VK} {E : XK} {zs : List V} (es : H st = some (.lst zs)) (hW : WF T) (B : BxF C H p t T ch an al ans d0 d1) (he : e ∈ T.bo) (htt : TpAt H (.ref tt) (iI e.1)) (hv : WvV (vw (pA st) H) v)
    (q : ∀ v10 H', Same H H' → DueW st H' v v10 ch an e → Q v10 H') : spOwn C [.ref al, .ref ans, .ref tt, v] H Q E := by
  refine ⟨p, t, T, ch, an, al, ans, d0, d1, tt, v, e, rfl, hW, B, he, htt, ?_⟩
  have vwS : ∀ {H'}, Same H H' → Same (vw (pA st) H) (vw (pA st) H') := fun s => (But.same s).vw
  rcases hv.odd with h | ⟨lw, ws, rfl, m, hl⟩
  · have dq : ∀ H', Same H H' → Q (.str "weaving") H' := fun H' s => q _ _ s (.inl ⟨rfl, .inl (h.mono (vwS s))⟩)
    cases h with
    | tup h => exact .inl ⟨.inl ⟨_, _, rfl, (vw_some h).2⟩, dq⟩
    | non => exact .inl ⟨.inr (.inl rfl), dq⟩
    | str => exact .inl ⟨.inr (.inr ⟨_, rfl⟩), dq⟩
    | lst h a b c =>
      refine .inr ⟨_, _, rfl, (vw_some h).2, a, b, fun _ => dq, fun f0 f1 hf => ?_⟩
      rw [ownO, ownG_no c] at hf
      cases hf
  · obtain ⟨o1, o2⟩ := allW_ok ws m
    have ot := own_tell (fun h => chO ch h e.1) (fun h => an h e) m
    refine .inr ⟨lw, _, rfl, (vw_some hl).2, by rw [List.length_map]; omega, fun x hx => ?_, fun hn H' s => ?_, fun f0 f1 hf u H' s hu hu' => ?_⟩
    · obtain ⟨k, _, rfl⟩ := List.mem_map.mp hx
      exact .inr (.inr ⟨k, rfl⟩)
    · rw [ot] at hn
      cases c : wbB ws with
      | true => rw [c, if_pos rfl] at hn; cases hn
      | false => exact q _ _ s (.inl ⟨rfl, .inr ⟨lw, ws, rfl, m, c, vwS s _ _ hl⟩⟩)
    · rw [ot] at hf
      cases c : wbB ws with
      | false => rw [c, if_neg Bool.false_ne_true] at hf; cases hf
      | true =>
        rw [c, if_pos rfl] at hf
        injection hf with hf
        injection hf with e0 e1
        subst e0
        subst e1
        exact q _ _ s (.inr ⟨u, lw, ws, rfl, rfl, m, c, vwS s _ _ hl, vw_put (pA_ok.mpr fun c => by subst c; rw [es] at hu; cases hu) hu'⟩)
/-- how things stand ahead of the question -/
def StI (K : PySem.W.Frag) (st : Addr) (H : Hp) (T : TD) (v8 v9 v10 : V) (ch : Nat → List Int) (an : Nat → IP × List (Int × Int) → Int) (e : IP × List (Int × Int)) : Prop :=
  (OIv K (vw (pA st) H) T v8 ∧ v10 = .str "inputs") ∨ ∃ tt, v8 = .ref tt ∧ TpAt (vw (pA st) H) (.ref tt) (iI e.1) ∧ DueW st H v9 v10 ch an e
theorem StI.but {K : PySem.W.Frag} {st : Addr} {H H' : Hp} (b : But st H H') {T : TD} {v8 v9 v10 : V} {ch an e} (h : StI K st H T v8 v9 v10 ch an e) : StI K st H' T v8 v9 v10 ch an e :=
  h.imp (fun ⟨h1, h2⟩ => ⟨h1.mono b.vw, h2⟩) fun ⟨tt, h1, h2, h3⟩ => ⟨tt, h1, h2.mono (.same b.vw), h3.but b⟩
def StT (K : PySem.W.Frag) (C st : Addr) (H : Hp) (p t : Addr) (T : TD) (ch : Nat → List Int) (an : Nat → IP × List (Int × Int) → Int) (al ans d0 d1 : Addr) (e : IP × List (Int × Int)) (v7 v8 v9 v10 : V) : Prop :=
  (OddF K C (vw (pA st) H) p T v7 ∧ v10 = .str "protocol") ∨ (v7 = .ref t ∧ BxV C st H p t T ch an al ans d0 d1 ∧ StI K st H T v8 v9 v10 ch an e)
def oID : Option Int → PyData
  | none => .none
  | some i => .int i
theorem oI_dp {K : PySem.W.Frag} {H : Hp} (o : Option Int) : Dp K H (oI o) (oID o) := by
  cases o with
  | none => exact .non
  | some i => exact .int i
theorem tup_oI {K : PySem.W.Frag} {H : Hp} {r : Addr} {f0 f1 : Option Int} (h : H r = some (.tup [oI f0, oI f1])) : Dp K H (.ref r) (.tuple [oID f0, oID f1]) := .tup (SqT.of h) (.cons (oI_dp f0) (.cons (oI_dp f1) .nil))
theorem ok_oID (o : Option Int) : Ok 1 (oID o) := by
  cases o with
  | none => exact ok_non
  | some i => exact ok_int i
theorem ok_tup_oID (f0 f1 : Option Int) : Ok 2 (.tuple [oID f0, oID f1]) := ok_tuple fun d hd => by
  rcases List.mem_cons.mp hd with rfl | hd
  · exact ok_oID _
  · obtain rfl := List.mem_singleton.mp hd
    exact ok_oID _
theorem ok_w3 (j : Nat) (hj : j < 3) : Ok 2 (.str (word3 j)) := by
  obtain rfl | rfl | rfl : j = 0 ∨ j = 1 ∨ j = 2 := by omega
  · exact ⟨by unfold PyData.canLay0; decide +kernel, by simp [PyData.depth]⟩
  · exact ⟨by unfold PyData.canLay0; decide +kernel, by simp [PyData.depth]⟩
  · exact ⟨by unfold PyData.canLay0; decide +kernel, by simp [PyData.depth]⟩
theorem eqv_selfD {n : Nat} {d : PyData} (h : Ok n d) (e : n ≤ 64) : PyData.eqv d d = true := SeqAt.eqv_refl d (SeqAt.canLay_of_shaped (h.shaped e))
theorem said_of {K : PySem.W.Frag} {C st p t dt : Addr} {H : Hp} {T : TD} {ch an al ans d0 d1} {e : IP × List (Int × Int)} {v7 v8 v9 v10 : V} {Q : VK} {E : XK} (hW : WF T) (hV : TaskV C st H p dt T) (he : e ∈ T.bo) (h : StT K C st H p t T ch an al ans d0 d1 e v7 v8 v9 v10)
    (q : ∀ v H' d, Same H H' → Dp K H' v d → Dp K H' v10 d → Ok 2 d → Q v H') : spSaid K C [.ref p, v7, v8, v9] H Q E := by
  refine ⟨_, _, _, _, rfl, fun cP cI cW _ _ _ => ?_⟩
  have word : ∀ {H' : Hp} (j : Nat), j < 3 → v10 = .str (word3 j) → Same H H' → ∀ H'', Same H' H'' → Q (.str (word3 j)) H'' := fun {H'} j hj ev s H'' s' => q _ _ (.str (word3 j)) (s.trans s') (.str _) (ev ▸ .str _) (ok_w3 j hj)
  rcases h with ⟨hO, ev⟩ | ⟨rfl, BV, h⟩
  · exact .inl ⟨p, v7, v8, v9, T, rfl, hW, hV.task.r, hO.mono vw_same, fun H' s => ⟨0, by decide, rfl, rfl, word 0 (by decide) ev s⟩⟩
  have B := BxF.mono (vw_same (p := pA st)) BV
  rcases h with ⟨hI, ev⟩ | ⟨tt, rfl, htt, hD⟩
  · exact .inr (.inl ⟨p, t, T, ch, an, al, ans, d0, d1, v8, v9, rfl, hW, B, (hI.mono vw_same).odd, fun H' s => ⟨1, by decide, rfl, rfl, word 1 (by decide) ev s⟩⟩)
  have htt := htt.mono (.same vw_same)
  rcases hD with ⟨ev, hw | ⟨lw, ws, rfl, m, c, hl⟩⟩ | ⟨u, lw, ws, rfl, rfl, m, c, hl, hu⟩
  · exact .inr (.inr (.inl ⟨p, t, T, ch, an, al, ans, d0, d1, tt, v9, e, rfl, hW, B, he, htt, hw.mono vw_same, fun H' s => ⟨2, by decide, rfl, rfl, word 2 (by decide) ev s⟩⟩))
  · obtain ⟨o1, o2⟩ := allW_ok ws m
    refine .inr (.inr (.inr ⟨p, t, T, ch, an, al, ans, d0, d1, tt, lw, ws, e, rfl, hW, B, he, htt, (vw_some hl).2, o1, by omega, fun _ H' s => ⟨2, by decide, rfl, rfl, word 2 (by decide) ev s⟩, fun c' => ?_⟩))
    rw [c] at c'
    cases c'
  · obtain ⟨o1, o2⟩ := allW_ok ws m
    refine .inr (.inr (.inr ⟨p, t, T, ch, an, al, ans, d0, d1, tt, lw, ws, e, rfl, hW, B, he, htt, (vw_some hl).2, o1, by omega, fun c' => ?_, fun _ r H' s hr => ?_⟩))
    · rw [c] at c'
      cases c'
    · exact q _ _ _ s (tup_oI hr) (tup_oI (s _ _ (vw_some hu).2)) (ok_tup_oID _ _)
end TA

set_option Elab.async false
set_option maxRecDepth 100000
set_option maxHeartbeats 4000000
namespace TA
open PySem L2 PyProof.Rows
set_option linter.unusedVariables false
structure KDef (P : Program) (w : World) (K : PySem.W.Frag) (mg : Str → Option Value) (base : Heap) (C : Addr) (x : Str) (ps : List Str) (k : Nat) (sp : Sp) (f : Addr) (fd : FuncData) : Prop where
  G : FnOk P w K mg base CX0 k f fd ps sp
  b : Binds K fd ps []
  M : Mk K C f
  m : mg x = some (.ref C)
def spLaw (K : PySem.W.Frag) : Sp := fun vs H Q _ => ∃ (a : Addr) (ns : List Int), vs = [.ref a] ∧ SqL K H a (ns.map V.int) ∧ ns.length ≤ 63 ∧ ∀ H', Q (.bl true) H'
theorem But.fresh {a : Addr} {H H1 H' : Hp} (s : Same H H1) (n : H a = none) (b : But a H1 H') : Same H H' := fun x o e => b x o (ne_of_none e n) (s _ _ e)
theorem sorted_tp {H : Hp} {T : TD} (hW : WF T) {L : List (Addr × List Int)} (h1 : (L.map (·.2)).Perm (T.bo.map fun e => [((e.1.1 : Nat) : Int), ((e.1.2 : Nat) : Int)])) (h2 : L.Pairwise (fun q r => TS.code 64 q.2 ≤ TS.code 64 r.2)) (h3 : ∀ x ∈ L, H x.1 = some (.tup (x.2.map V.int))) : A2 (TpAt H) (L.map fun q => V.ref q.1) (T.bo.map fun e => iI e.1) := by
  have e := keys_sorted hW h1 h2
  clear h1 h2 hW
  generalize T.bo = bo at e
  induction L generalizing bo with
  | nil =>
    cases bo with
    | nil => exact .nil
    | cons _ _ => cases e
  | cons x L ih =>
    cases bo with
    | nil => cases e
    | cons b bo =>
      rw [List.map_cons, List.map_cons] at e
      injection e with e1 e2
      refine .cons ⟨x.1, rfl, ?_⟩ (ih (fun y hy => h3 y (List.mem_cons_of_mem _ hy)) bo e2)
      rw [h3 x List.mem_cons_self, e1]
      rfl
theorem kept_ok {d7 d8 d9 : PyData} (t7 : Tiny d7 20000 10) (t8 : Tiny d8 20000 10) (t9 : Tiny d9 20000 10) : (PyData.tuple [d7, d8, d9]).showable = true ∧ (PyData.tuple [d7, d8, d9]).depth ≤ 40 ∧ (PyData.tuple [d7, d8, d9]).shown.length ≤ sizeLine := by
  have t : Tiny (.tuple [d7, d8, d9]) ((20000 + 1) * 3) 11 := tiny_tuple (fun d hd => by
    rcases List.mem_cons.mp hd with rfl | hd
    · exact t7
    rcases List.mem_cons.mp hd with rfl | hd
    · exact t8
    · obtain rfl := List.mem_singleton.mp hd
      exact t9) (Nat.le_refl 3)
  exact ⟨t.s, Nat.le_trans t.d (by decide), tiny_shown t (by decide)⟩
section
variable {P : Program} {w : World} {K : PySem.W.Frag} {mg : Str → Option Value} {base : Heap}
abbrev nLaw : List Str := ["_law_script", "_law_k", "_law_state", "_law_spoil", "_law_alone", "_law_both", "_law_task", "_law_thing", "_law_inputs", "_law_weaving_here", "_law_due", "_law_kept"]
theorem sc_law : FnScope nLaw ["_law_script"] (defScope sLaw) := ⟨rfl, rfl, rfl, by decide +kernel, rfl, by decide +kernel, by decide +kernel⟩
theorem ok_law {f g1 g2 g3 g4 g5 g6 g7 g8 g9 g10 C : Addr} {fd d1 d2 d3 d4 d5 d6 d7 d8 d9 d10 : FuncData} (F : Fun K "law" "law" sLaw f fd) (T : Txt K mg) (T2 : Txt2 K mg) (Z : TxtC K mg C) (RP : mg "repr" = none) (Ca : Def P w K mg base "_law_cell_at" ["_law_script", "_law_k"] 1 (spCell K) g1 d1)
    (Dg : Def P w K mg base "_law_digit" ["_law_state", "_law_base"] 1 spDigit g2 d2) (Pa : Def P w K mg base "_law_parts" ["_law_state", "_law_most"] 3 spParts g3 d3) (Tk : KDef P w K mg base C "Task" ["self", "alone", "both"] 7 (spInit K C) g4 d4) (Dr_ : Def P w K mg base "_law_drawn" ["_law_state", "_law_task"] 2 (spDrawn C) g5 d5)
    (LW : Def P w K mg base "_law_weaving" ["_law_state", "_law_spoil"] 2 spLWv g6 d6) (Ow : Def P w K mg base "_law_own" ["_law_told", "_law_answers", "_law_inputs", "_law_weaving_here"] 1 (spOwn C) g7 d7) (OI : Def P w K mg base "_law_odd_inputs" ["_law_state", "_law_task", "_law_pair"] 2 (spOI K C) g8 d8)
    (OF : Def P w K mg base "_law_odd_form" ["_law_state", "_law_thing"] 3 (spOF K C) g9 d9) (Sa : Def P w K mg base "_law_said" ["_law_task", "_law_thing", "_law_inputs", "_law_weaving_here"] 8 (spSaid K C) g10 d10) : Quiet P w K mg base 10 f fd ["_law_script"] (spLaw K) := by
  refine quiet_of F sc_law (fun vs H Q E h => ?_) (fun cdv A outer s H vs Q E hgu hr h => ?_)
  · obtain ⟨a, ns, rfl, _⟩ := h
    rfl
  obtain ⟨a, ns, rfl, hS, h63, q⟩ := h
  have nd := sc_law.nd
  have hu := hu_of hr
  have hu65 := hu65_of hr
  refine ⟨_, (pss_cons (ps_for PassesOwn.never (by rfl) (pi_range1 (by rfl) T.range (pa_cons (pe_callB (call_max2 rfl) (by rfl) T2.max (by decide +kernel) (pa_cons pe_int (pa_cons (pe_callB (call_min2 rfl) (by rfl) T.min (by decide +kernel) (pa_cons pe_int (pa_cons (pe_callB call_len_seq (by rfl) T.len PySem.boot_len (pa_cons (pv 0) pa_nil)) pa_nil))) pa_nil))) pa_nil)) (pg_name (i := 1) nd rfl (Or.inl rfl))
      (pss_cons (ps_set (i := 2) nd rfl (Or.inl rfl) (pe_lst (pa_cons (pe_op op_add (pe_call Ca.G (hr.mono (by decide)) rfl Ca.m Ca.k Ca.b .nil pass0 (pa_cons (pv 0) (pa_cons (pv 1) pa_nil))) (pe_op op_mul pe_int (pv 1))) pa_nil)))
    (pss_cons (ps_set (i := 3) nd rfl (Or.inl rfl) (pe_call Dg.G (hr.mono (by decide)) rfl Dg.m Dg.k Dg.b .nil pass0 (pa_cons (pv 2) (pa_cons pe_int pa_nil))))
    (pss_cons (ps_asg (pe_call Pa.G (hr.mono (by decide)) rfl Pa.m Pa.k Pa.b .nil pass0 (pa_cons (pv 2) (pa_cons pe_int pa_nil))) (pg_tup (by rfl) (pgs_cons (pg_name (i := 4) nd rfl (Or.inl rfl)) (pgs_cons (pg_name (i := 5) nd rfl (Or.inl rfl)) pgs_nil))))
    (pss_cons (ps_set (i := 6) nd rfl (Or.inl rfl) (pe_make Tk.M Tk.G (hr.mono (by decide)) (by rfl) Tk.m Tk.b .nil pass0 (pa_cons (pv 4) (pa_cons (pv 5) pa_nil))))
    (pss_cons (ps_set (i := 7) nd rfl (Or.inl rfl) (pe_call Dr_.G (hr.mono (by decide)) rfl Dr_.m Dr_.k Dr_.b .nil pass0 (pa_cons (pv 2) (pa_cons (pv 6) pa_nil))))
    (pss_cons (ps_set (i := 8) nd rfl (Or.inl rfl) (pe_ix ix_list (pe_callB (cr_sortedDT (d := 2) (B := 64) (by decide) rfl) (by rfl) T2.sorted (by decide +kernel) (pa_cons (pv 5) pa_nil)) (pe_call Dg.G (hr.mono (by decide)) rfl Dg.m Dg.k Dg.b .nil pass0 (pa_cons (pv 2) (pa_cons (pe_callB call_len_dT (by rfl) T.len PySem.boot_len (pa_cons (pv 5) pa_nil)) pa_nil))) (fun _ _ => rfl)))
    (pss_cons (ps_set (i := 9) nd rfl (Or.inl rfl) (pe_call LW.G (hr.mono (by decide)) rfl LW.m LW.k LW.b .nil pass0 (pa_cons (pv 2) (pa_cons (pe_cmpR op_eq (pe_op op_fdiv (pv 3) pe_int) pe_int (nomark _)) pa_nil))))
    (pss_cons (ps_set (i := 10) nd rfl (Or.inl rfl) (pe_call Ow.G (hr.mono (by decide)) rfl Ow.m Ow.k Ow.b .nil pass0 (pa_cons (pe_ix ix_tup (pv 7) pe_int (fun _ _ => rfl)) (pa_cons (pe_ix ix_tup (pv 7) pe_int (fun _ _ => rfl)) (pa_cons (pv 8) (pa_cons (pv 9) pa_nil))))))
    (pss_cons (ps_if (pt_cmpR op_eq (pe_op op_mod (pe_op op_fdiv (pv 3) pe_int) pe_int) pe_int (nomark _))
      (pss_cons (ps_set (i := 8) nd rfl (Or.inl rfl) (pe_call OI.G (hr.mono (by decide)) rfl OI.m OI.k OI.b .nil pass0 (pa_cons (pv 2) (pa_cons (pv 6) (pa_cons (pv 8) pa_nil)))))
    (pss_one (ps_set (i := 10) nd rfl (Or.inl rfl) pe_str)))
      pss_nil)
    (pss_cons (ps_if (pt_cmpR op_eq (pe_op op_mod (pv 3) pe_int) pe_int (nomark _))
      (pss_cons (ps_set (i := 7) nd rfl (Or.inl rfl) (pe_call OF.G (hr.mono (by decide)) rfl OF.m OF.k OF.b .nil pass0 (pa_cons (pv 2) (pa_cons (pv 7) pa_nil))))
    (pss_one (ps_set (i := 10) nd rfl (Or.inl rfl) pe_str)))
      pss_nil)
    (pss_cons (ps_set (i := 11) nd rfl (Or.inl rfl) (pe_callB (call_reprX hgu (Nat.lt_of_succ_lt hu65)) (by rfl) RP (by decide +kernel) (pa_cons (pe_tup (pa_cons (pv 7) (pa_cons (pv 8) (pa_cons (pv 9) pa_nil)))) pa_nil)))
    (pss_one (ps_if (PW.pt (pw_or (pt_cmpR (op_neD hr.units) (pe_call Sa.G (hr.mono (by decide)) rfl Sa.m Sa.k Sa.b .nil pass0 (pa_cons (pv 6) (pa_cons (pv 7) (pa_cons (pv 8) (pa_cons (pv 9) pa_nil))))) (pv 10) (nomark _)) (pw_or1 (pt_cmpR op_ne (pe_callB (call_reprX hgu (Nat.lt_of_succ_lt hu65)) (by rfl) RP (by decide +kernel) (pa_cons (pe_tup (pa_cons (pv 7) (pa_cons (pv 8) (pa_cons (pv 9) pa_nil)))) pa_nil)) (pv 11) (nomark _)))))
      (pss_one (ps_ret pe_bl))
      pss_nil))))))))))))))
    (pss_one (ps_ret pe_bl))), ?_⟩
  refine ⟨_, rfl, a, _, rfl, .inl hS, _, _, rfl, _, _, rfl, ?_⟩
  have hkk : ∀ j : Int, 1 ≤ (if (if j < 12 then j else 12) > 1 then (if j < 12 then j else 12) else 1) ∧ (if (if j < 12 then j else 12) > 1 then (if j < 12 then j else 12) else 1) ≤ 12 := fun j => by
    split <;> split <;> omega
  have hkk := hkk (((ns.map V.int).length : Nat) : Int)
  generalize (if (if (((ns.map V.int).length : Nat) : Int) < 12 then (((ns.map V.int).length : Nat) : Int) else 12) > 1 then (if (((ns.map V.int).length : Nat) : Int) < 12 then (((ns.map V.int).length : Nat) : Int) else 12) else 1) = kk at hkk ⊢
  refine ⟨kk, rfl, by omega, by omega, for_range (n := kk.toNat) (fun i σ Hc => ∃ g1 g2 g3 g4 g5 g6 g7 g8 g9 g10 g11, σ = [some (.ref a), g1, g2, g3, g4, g5, g6, g7, g8, g9, g10, g11] ∧ Same H Hc) ⟨_, _, _, _, _, _, _, _, _, _, _, rfl, Same.refl H⟩ ?_ ?_⟩
  rotate_left
  · rintro σ Hc ⟨_, _, _, _, _, _, _, _, _, _, _, rfl, sc⟩
    exact q Hc
  rintro i σ Hc hi ⟨k1, k2, k3, k4, k5, k6, k7, k8, k9, k10, k11, rfl, sc⟩
  refine ⟨_, rfl, _, rfl, a, ns, _, rfl, sc.seq hS, by omega, by omega, fun c => ?_⟩
  refine ⟨_, rfl, _, _, rfl, rfl, .inl ⟨by decide, by decide⟩, _, _, rfl, rfl, (by show 1 ≤ sizeLine; decide), fun st hst => ?_⟩
  have s2 := same_new hst (.lst [V.int (c + 61 * (0 + (i : Int)))])
  refine ⟨_, rfl, st, 0, 8, rfl, .inl ⟨_, upd_same⟩, by decide, by decide, by decide, by decide, fun sp H2 sp0 sp1 b2 w2 => ?_⟩
  have s12 : Same Hc H2 := b2.fresh s2 hst
  refine ⟨_, rfl, st, _, 3, rfl, .inr w2, by decide, by decide, by decide, by decide, fun r al d D H3 b3 rn aln dn hr3 hal3 hbo3 w3 hW h3' _ => ?_⟩
  have h3 : ∀ h, h < 2 → (D.al h).length ≤ 3 := fun h hh => by have := h3' h hh; omega
  have s13 : Same Hc H3 := b3.fresh s12 hst
  obtain ⟨z3, ea3⟩ := w3.lst
  refine ⟨r, _, rfl, SqT.of hr3, rfl, _, _, rfl, _, _, rfl, rfl, ?_⟩
  refine ⟨_, rfl, _, rfl, ?_⟩
  have hB3 : BoAt H3 d D.bo := by
    obtain ⟨kvs, h1, h2⟩ := hbo3
    exact ⟨kvs, h1, h2.imp fun _ _ r => r.mono vw_kp⟩
  intro x dx nx ndx nex
  have s4 : Same H3 (upd (upd H3 dx (.own x)) x (.ins C dx [])) := fun b o e => by
    rw [upd_ne (ne_of_none e nx), upd_ne (ne_of_none e ndx)]
    exact e
  refine ⟨x, dx, al, d, D, rfl, upd_same, (hal3.mono vw_kp).mono (.same s4), hB3.mono s4, hW, fun H5 b5 hnew => ⟨rfl, ?_⟩⟩
  have s5 : Same H3 H5 := fun b o e => b5 _ _ (ne_of_none e nx) (s4 _ _ e)
  have w5 := w3.same s5
  obtain ⟨d2, hd2, hV5⟩ := hnew.v (s4 _ _ ea3) (s5 _ _ ea3)
  have ea5 := s5 _ _ ea3
  have nds : d ≠ st := by
    obtain ⟨kvs, h1, h2⟩ := hbo3
    exact ne_of h1 ea3 (fun z => by cases z)
  -- drawn
  refine ⟨_, rfl, _, rfl, st, x, d2, _, D, rfl, w5, by decide, by decide, hV5, hW, fun t tal ans e0 e1 ch an H6 b6 w6 hV6 B6 => ?_⟩
  obtain ⟨z6, ea6⟩ := w6.lst
  have b36 : But st H3 H6 := (But.same s5).trans b6
  obtain ⟨kvs, hd3, hE3⟩ := hbo3
  have hd6 := b36 _ _ nds hd3
  have hE6 : A2 (EnAt H6) kvs D.bo := hE3.imp fun _ _ r => r.mono ((vwA_but b36).trans vw_kp)
  have bol : 1 ≤ D.bo.length := by
    obtain ⟨e, he, _⟩ := hW.com0 0 (by have := (hW.n0 0 (by decide)).1; omega)
    exact List.length_pos_of_mem he
  have bom := hW.many
  refine ⟨_, rfl, d, kvs, D.bo.map (fun e => [((e.1.1 : Nat) : Int), ((e.1.2 : Nat) : Int)]), rfl, .inl hd6, ?_, ?_, ?_, fun L rr h1 h2 h4 hrr => ?_⟩
  · rw [keys_of hE6, List.map_map, List.map_map]
    rfl
  · rw [List.length_map]
    omega
  · intro ns hns
    obtain ⟨e, he, rfl⟩ := List.mem_map.mp hns
    have := hW.rng e he
    have := (hW.n0 0 (by decide)).2
    have := (hW.n0 1 (by decide)).2
    refine ⟨rfl, fun m hm => ?_⟩
    rcases List.mem_cons.mp hm with rfl | hm
    · omega
    · obtain rfl := List.mem_singleton.mp hm
      omega
  have aS := sorted_tp hW h1 h2 h4
  have s7 := same_new hrr (.lst (L.map fun q => V.ref q.1))
  have err : (upd H6 rr (.lst (L.map fun q => V.ref q.1))) rr = some (.lst (L.map fun q => V.ref q.1)) := upd_same
  have nrr : rr ≠ st := Ne.symm (w6.ne hrr)
  have aS7 := aS.imp fun _ _ r => TpAt.mono (.same s7) r
  have w7 := w6.same s7
  generalize upd H6 rr (.lst (L.map fun q => V.ref q.1)) = H7 at s7 err aS7 w7 ⊢
  have hkl : kvs.length = D.bo.length := hE6.len
  refine ⟨_, rfl, _, rfl, d, kvs, rfl, s7 _ _ hd6, st, _, _, rfl, .inr w7, by omega, by omega, by omega, by omega, fun jr H8 jr0 jr1 b8 w8 => ?_⟩
  obtain ⟨j, rfl⟩ : ∃ j : Nat, jr = (j : Int) := ⟨jr.toNat, by omega⟩
  have hlen : (L.map fun q => V.ref q.1).length = D.bo.length := by rw [aS7.len, List.length_map]
  generalize (L.map fun q => V.ref q.1) = ys at err aS7 hlen
  have hj : j < ys.length := by omega
  obtain ⟨y, hy, tt, ev, htt⟩ := aS7.get (List.getElem?_eq_getElem hj)
  rw [List.getElem?_map] at hy
  obtain ⟨e, hbe, rfl⟩ := Option.map_eq_some_iff.mp hy
  have he := List.mem_of_getElem? hbe
  have rg := hW.rng e he
  have m0 := h3 0 (by decide)
  have m1 := h3 1 (by decide)
  have g0 : ys[j]? = some (.ref tt) := by rw [← ev]; exact List.getElem?_eq_getElem hj
  refine ⟨rr, _, _, _, rfl, rfl, SqL.of (b8 _ _ nrr err), atI_nat g0, ?_⟩
  obtain ⟨z7, ea7⟩ := w7.lst
  have ntt : tt ≠ st := ne_of htt ea7 (fun z => by cases z)
  have b68 : But st H6 H8 := (But.same s7).trans b8
  have htt8 := b8 _ _ ntt htt
  have B8 := BxF.mono b68.vw B6
  have hV8 := hV6.but ea6 b68
  have s18 : Same Hc H8 := (b36.trans b68).fresh s13 hst
  clear aS7 err aS h1 h2 h4 hrr s7 w7 b8 ev g0 hy hbe hkl hE6 hd6 hE3 hd3 b36 B6 hV6 ea6 w6 b6 hd2 hV5 ea5 w5 s5 b5 hnew s4 nex ndx nx hB3 hal3 hr3 aln dn rn w3 b3 ea3 b2 w2 s12 s2 nds nrr hlen hj
  refine ⟨_, rfl, _, rfl, _, _, rfl, rfl, ⟨by decide, by decide⟩, rfl, st, _, _, rfl, w8, by omega, by omega, fun v9 H9 b9 w9 hWv _ => ?_⟩
  obtain ⟨z8, ea8⟩ := w8.lst
  have B9 := BxF.mono b9.vw B8
  have hV9 := hV8.but ea8 b9
  have htt9 := b9 _ _ ntt htt8
  have s19 : Same Hc H9 := fun b o e => b9 b o (ne_of_none e hst) (s18 b o e)
  obtain ⟨z9, ea9⟩ := w9.lst
  clear b68 B8 hV8 htt8 s18 ea8 b9 w8 htt
  have n9 : 0 ≤ (0 : Int) + 1 := by decide
  have ht9 := (vw_some B9.ht).2
  refine ⟨_, rfl, t, _, _, _, rfl, rfl, SqT.of ht9, atI_nat (j := 0) rfl, _, rfl, t, _, _, _, rfl, rfl, SqT.of ht9, atI_nat (j := 1) rfl, _, rfl, _, rfl, ?_⟩
  unfold tNil
  refine own_of ea9 hW (BxF.mono vw_same B9) he ⟨tt, rfl, htt9⟩ hWv fun v10 H10 s10 hDue => ?_
  have b10 : But st H9 H10 := .same s10
  have w10 := w9.same s10
  refine ⟨_, rfl, _, _, rfl, rfl, ⟨by decide, by decide⟩, _, _, rfl, rfl, (by show (0 : Int) < 2; decide), rfl, _, rfl, ?_⟩
  refine join2 (fun σ Hn => ∃ v8 v10, σ = [some (.ref a), some (.int (0 + (i : Int))), some (.ref st), some (.int sp), some (.ref al), some (.ref d), some (.ref x), some (.ref t), some v8, some v9, some v10, k11] ∧ But st H9 Hn ∧ WellAt Hn st 1500 ∧ StI K st Hn D v8 v9 v10 ch an e ∧ ShX K (vw (pA st) Hn) 20000 10 v8) ⟨_, _, rfl, b10, w10.up (by omega), .inr ⟨tt, rfl, ⟨tt, rfl, vw_put (pA_ok.mpr ntt) (s10 _ _ htt9)⟩, hDue⟩, (small_pairI (by omega) (by omega)).shx (TpAt.dp (p := iI e.1) ⟨tt, rfl, vw_put (pA_ok.mpr ntt) (s10 _ _ htt9)⟩)⟩ ?_ ?_
  rotate_left
  · intro _ k
    refine ⟨_, rfl, _, rfl, _, rfl, st, x, d2, tt, _, D, e, rfl, w10, by omega, by omega, hV9.but ea9 b10, hW, he, ⟨tt, rfl, s10 _ _ htt9⟩, by omega, by omega, fun v8 H11 b11 w11 hO => k _ _ ⟨v8, _, rfl, b10.trans b11, w11.up (by omega), .inl ⟨hO, rfl⟩, hO.shx⟩⟩
  clear hDue b10 w10 s10
  rintro σ H11 ⟨v8, v10, rfl, b11, w11, hI, sh8⟩
  refine ⟨_, rfl, _, _, rfl, rfl, (by show (0 : Int) < 2; decide), rfl, _, rfl, ?_⟩
  refine join2 (fun σ Hn => ∃ v7 v10, σ = [some (.ref a), some (.int (0 + (i : Int))), some (.ref st), some (.int sp), some (.ref al), some (.ref d), some (.ref x), some v7, some v8, some v9, some v10, k11] ∧ But st H9 Hn ∧ (∃ zs, Hn st = some (.lst zs)) ∧ StT K C st Hn x t D ch an tal ans e0 e1 e v7 v8 v9 v10 ∧ ShX K (vw (pA st) Hn) 20000 10 v7 ∧ ShX K (vw (pA st) Hn) 20000 10 v8) ⟨_, _, rfl, b11, w11.lst, .inr ⟨rfl, BxF.mono b11.vw B9, hI⟩, (BxF.mono b11.vw B9).shx hW h3, sh8⟩ ?_ ?_
  rotate_left
  · intro _ k
    refine ⟨_, rfl, _, rfl, st, x, t, _, D, ch, an, tal, ans, e0, e1, rfl, w11, by omega, by omega, hW, h3, BxF.mono b11.vw B9, fun v7 H12 b12 w12 hO hS => k _ _ ⟨v7, _, rfl, b11.trans b12, w12.lst, .inl ⟨hO, rfl⟩, hS, sh8.mono b12.vw⟩⟩
  clear hI b11 w11 sh8
  rintro σ H12 ⟨v7, v10, rfl, b12, ⟨z12, ea12⟩, hT, sh7, sh8⟩
  have hV12 := hV9.but ea9 b12
  obtain ⟨d7, x7, t7⟩ := sh7.mono vw_same
  obtain ⟨d8, x8, t8⟩ := sh8.mono vw_same
  obtain ⟨d9, x9, t9⟩ := ((hWv.mono b12.vw).shx (K := K)).mono vw_same
  obtain ⟨o1, o2, o3⟩ := kept_ok t7 t8 t9
  have s112 : Same Hc H12 := fun b o e => b12 b o (ne_of_none e hst) (s19 b o e)
  refine ⟨_, rfl, _, rfl, _, rfl, (by show 3 ≤ sizeLine; decide), fun kt hkt => ?_⟩
  have u1 := same_new hkt (.tup [v7, v8, v9])
  refine ⟨kt, _, [d7, d8, d9], rfl, SqT.of upd_same, .cons (dx_mono u1 x7) (.cons (dx_mono u1 x8) (.cons (dx_mono u1 x9) .nil)), o1, o2, o3, ?_⟩
  have hT13 : StT K C st (upd H12 kt (.tup [v7, v8, v9])) x t D ch an tal ans e0 e1 e v7 v8 v9 v10 := by
    have bv := (But.same (a := st) u1)
    rcases hT with ⟨hO, ev⟩ | ⟨ev, BV, hI⟩
    · exact .inl ⟨hO.mono bv.vw, ev⟩
    · exact .inr ⟨ev, BxF.mono bv.vw BV, hI.but bv⟩
  refine ⟨_, rfl, _, rfl, _, rfl, _, rfl, ?_⟩
  dsimp only
  refine said_of hW (hV12.but ea12 (.same u1)) he hT13 fun v H14 dd s14 hv h10 ok => ?_
  refine ⟨_, rfl, dd, dd, hv, h10, ok.shaped (by decide), ok.shaped (by decide), _, rfl, ?_⟩
  rw [eqv_selfD ok (by decide)]
  refine iteF ?_
  have u14 := u1.trans s14
  refine ⟨_, rfl, _, rfl, _, rfl, (by show 3 ≤ sizeLine; decide), fun kt2 hkt2 => ?_⟩
  have u15 := u14.trans (same_new hkt2 (.tup [v7, v8, v9]))
  refine ⟨kt2, _, [d7, d8, d9], rfl, SqT.of upd_same, .cons (dx_mono u15 x7) (.cons (dx_mono u15 x8) (.cons (dx_mono u15 x9) .nil)), o1, o2, o3, ?_⟩
  refine ⟨_, rfl, rfl, _, rfl, iteF' (by simp) ?_⟩
  exact ⟨_, _, _, _, _, _, _, _, _, _, _, rfl, sc.trans (s112.trans u15)⟩
end
end TA

set_option Elab.async false
set_option maxRecDepth 100000
set_option maxHeartbeats 4000000
set_option linter.unusedVariables false
namespace TA
open PySem PySem.Spec L2 PyProof.Rows LamX
def excB (K : PySem.W.Frag) (D : Addr) : Bool :=
  decide (PySem.W.findIn K (.ref D) "__getattribute__" = some (some (.builtin "BaseException.__getattribute__"))) && (decide (PySem.W.findIn K (.ref D) "__getattr__" = some none) && (decide (PySem.W.subIn K (.ref D) (.type "BaseException") = some true) &&
  (PySem.W.hasDictIn K D && (decide (PySem.W.findIn K (.ref D) "__class__" = some (some (.builtin "object.__class__"))) && (decide (PySem.W.specialIn K (.builtin "object.__class__") "__get__" = some (some (.builtin "getset_descriptor.__get__"))) &&
  (decide (PySem.W.takesIn K (.builtin "object.__class__") = some true) && decide (PySem.W.mroIn K D (.type "object") = some true)))))))
theorem excB_ok {K : PySem.W.Frag} {D : Addr} (h : excB K D = true) : ExcC K D := by
  obtain ⟨a, h⟩ := Bool.and_eq_true_iff.mp h
  obtain ⟨b, h⟩ := Bool.and_eq_true_iff.mp h
  obtain ⟨c, h⟩ := Bool.and_eq_true_iff.mp h
  obtain ⟨d, h⟩ := Bool.and_eq_true_iff.mp h
  obtain ⟨e, h⟩ := Bool.and_eq_true_iff.mp h
  obtain ⟨f, h⟩ := Bool.and_eq_true_iff.mp h
  obtain ⟨g, h⟩ := Bool.and_eq_true_iff.mp h
  exact ⟨of_decide_eq_true a, of_decide_eq_true b, of_decide_eq_true c, d, of_decide_eq_true e, of_decide_eq_true f, of_decide_eq_true g, of_decide_eq_true h⟩
def raiseB (K : PySem.W.Frag) (C : Addr) : Bool := decide (PySem.W.subIn K (.ref C) (.type "BaseException") = some true) && decide (PySem.W.typeIn K (.ref C) = some (.type "type"))
theorem raiseB_ok {K : PySem.W.Frag} {mg : Str → Option Value} {n : Str} {C : Addr} (h : raiseB K C = true) (m : mg n = some (.ref C)) (x : PySem.W.excIn K C [.type "ValueError", .type "Exception", .type "BaseException", .type "object"] "ValueError.__new__" = true) (k : PySem.W.keepIn K (.ref C) = true) : RaiseC K mg n C := by
  obtain ⟨a, b⟩ := Bool.and_eq_true_iff.mp h
  exact ⟨m, x, k, of_decide_eq_true a, of_decide_eq_true b⟩
def saidB (K : PySem.W.Frag) (cA cP cI cW : Addr) : Bool := (List.range 3).all fun j => excB K (cls3 cP cI cW j) && (decide (PySem.W.exmOne K (.ref (cls3 cP cI cW j)) (.ref cA) = some true) && (List.range 3).all fun i => decide (PySem.W.kitOne K (.ref (cls3 cP cI cW j)) (.ref (cls3 cP cI cW i)) = some (decide (j = i))))
theorem saidB_ok {K : PySem.W.Frag} {cA cP cI cW : Addr} (h : saidB K cA cP cI cW = true) : SaidC K cA cP cI cW := by
  have all := fun j (hj : j < 3) => Bool.and_eq_true_iff.mp (List.all_eq_true.mp h j (List.mem_range.mpr hj))
  refine ⟨fun j hj => excB_ok (all j hj).1, fun j hj => of_decide_eq_true (Bool.and_eq_true_iff.mp (all j hj).2).1, fun j i hj hi => ?_⟩
  exact of_decide_eq_true (List.all_eq_true.mp (Bool.and_eq_true_iff.mp (all j hj).2).2 i (List.mem_range.mpr hi))
theorem all_mk {l : PySem.W.OpenLaw} {w : World} {K : PySem.W.Frag} {h : Heap} {mg : Str → Option Value} {fa f1 f2 f3 f4 f5 f6 f7 f8 f9 f10 f11 f12 f13 f14 f15 f16 f17 f18 f19 f20 f21 f22 f23 f24 f25 f26 f27 f28 f29 f30 f31 f32 f33 hA0 cA cW cI cP C y1 y2 y3 : Addr} (X : K.In h) (G : h.Ns mainGlobals mg) (hfa : mg "law" = some (.ref fa))
    {od1 an1 od2 an2 od3 an3 od4 an4 od5 an5 od6 an6 od7 an7 od8 an8 od9 an9 od10 an10 od11 an11 od12 an12 od13 an13 od14 an14 od15 an15 od16 an16 od17 an17 od18 an18 od19 an19 od20 an20 od21 an21 od22 an22 od23 an23 od24 an24 od25 an25 od26 an26 od27 an27 od28 an28 od29 an29 od30 an30 od31 an31 od32 an32 od33 an33 odH0 : Option Addr} {sl1 sl2 sl3 sl4 sl5 sl6 sl7 sl8 sl9 sl10 sl11 sl12 sl13 sl14 sl15 sl16 sl17 sl18 sl19 sl20 sl21 sl22 sl23 sl24 sl25 sl26 sl27 sl28 sl29 sl30 sl31 sl32 sl33 slH0 : Array (Option Value)} {oc1 kV1 dc1 pm1 cd1 ct1 oc2 kV2 dc2 pm2 cd2 ct2 oc3 kV3 dc3 pm3 cd3 ct3 oc4 kV4 dc4 pm4 cd4 ct4 oc5 kV5 dc5 pm5 cd5 ct5 oc6 kV6 dc6 pm6 cd6 ct6 oc7 kV7 dc7 pm7 cd7 ct7 oc8 kV8 dc8 pm8 cd8 ct8 oc9 kV9 dc9 pm9 cd9 ct9 oc10 kV10 dc10 pm10 cd10 ct10 oc11 kV11 dc11 pm11 cd11 ct11 oc12 kV12 dc12 pm12 cd12 ct12 oc13 kV13 dc13 pm13 cd13 ct13 oc14 kV14 dc14 pm14 cd14 ct14 oc15 kV15 dc15 pm15 cd15 ct15 oc16 kV16 dc16 pm16 cd16 ct16 oc17 kV17 dc17 pm17 cd17 ct17 oc18 kV18 dc18 pm18 cd18 ct18 oc19 kV19 dc19 pm19 cd19 ct19 oc20 kV20 dc20 pm20 cd20 ct20 oc21 kV21 dc21 pm21 cd21 ct21 oc22 kV22 dc22 pm22 cd22 ct22 oc23 kV23 dc23 pm23 cd23 ct23 oc24 kV24 dc24 pm24 cd24 ct24 oc25 kV25 dc25 pm25 cd25 ct25 oc26 kV26 dc26 pm26 cd26 ct26 oc27 kV27 dc27 pm27 cd27 ct27 oc28 kV28 dc28 pm28 cd28 ct28 oc29 kV29 dc29 pm29 cd29 ct29 oc30 kV30 dc30 pm30 cd30 ct30 oc31 kV31 dc31 pm31 cd31 ct31 oc32 kV32 dc32 pm32 cd32 ct32 oc33 kV33 dc33 pm33 cd33 ct33 : Value} {tI0 tI1 tI2 tT0_0 tT0_1 : Tok} {nH0 : Nat}
    {yod1 yan1 yod2 yan2 yod3 yan3 : Option Addr} {ysl1 ysl2 ysl3 : Array (Option Value)} {yoc1 ykV1 ydc1 ypm1 ycd1 yct1 yoc2 ykV2 ydc2 ypm2 ycd2 yct2 yoc3 ykV3 ydc3 ypm3 ycd3 yct3 : Value}
    (aC : PySem.W.nsIn K mainGlobals "Task" = some (some (.ref C)))
    (ya1 : PySem.W.findIn K (.ref C) "__init__" = some (some (.ref y1))) (yi1 : PySem.W.isFn K (.ref y1) = true) (yl1 : K.lookup y1 = some ⟨yoc1, yod1, .func (PySem.W.fnOf "__init__" "Task.__init__" (defArgs s_init) (defBody s_init) (defScope s_init) .none ykV1 ydc1 ypm1 yan1 ycd1 yct1), ysl1⟩) (yc1 : PySem.W.codeIn K ycd1 "Task.__init__" = true) (yk1 : PySem.W.keepIn K (.ref y1) = true)
    (ya2 : PySem.W.findIn K (.ref C) "inputs" = some (some (.ref y2))) (yi2 : PySem.W.isFn K (.ref y2) = true) (yl2 : K.lookup y2 = some ⟨yoc2, yod2, .func (PySem.W.fnOf "inputs" "Task.inputs" (defArgs s_inputs) (defBody s_inputs) (defScope s_inputs) .none ykV2 ydc2 ypm2 yan2 ycd2 yct2), ysl2⟩) (yc2 : PySem.W.codeIn K ycd2 "Task.inputs" = true) (yk2 : PySem.W.keepIn K (.ref y2) = true)
    (ya3 : PySem.W.findIn K (.ref C) "pairs" = some (some (.ref y3))) (yi3 : PySem.W.isFn K (.ref y3) = true) (yl3 : K.lookup y3 = some ⟨yoc3, yod3, .func (PySem.W.fnOf "pairs" "Task.pairs" (defArgs s_pairs) (defBody s_pairs) (defScope s_pairs) .none ykV3 ydc3 ypm3 yan3 ycd3 yct3), ysl3⟩) (yc3 : PySem.W.codeIn K ycd3 "Task.pairs" = true) (yk3 : PySem.W.keepIn K (.ref y3) = true)
    (pg : PySem.W.plainGet K C Str.empty = true) (hd : PySem.W.hasDictIn K C = true) (po : PySem.W.plainOver K C = true) (sa : PySem.W.findIn K (.ref C) "__setattr__" = some (some (.builtin "object.__setattr__"))) (mkC : PySem.W.makesIn K C = true) (kC : PySem.W.keepIn K (.ref C) = true) (nA : PySem.W.findIn K (.ref C) "alone" = some none) (nB : PySem.W.findIn K (.ref C) "both" = some none)
    (a1 : PySem.W.nsIn K mainGlobals "is_whole" = some (some (.ref f1))) (l1 : K.lookup f1 = some ⟨oc1, od1, .func (PySem.W.fnOf "is_whole" "is_whole" (defArgs sWhole) (defBody sWhole) (defScope sWhole) .none kV1 dc1 pm1 an1 cd1 ct1), sl1⟩) (c1 : PySem.W.codeIn K cd1 "is_whole" = true) (k1 : PySem.W.keepIn K (.ref f1) = true)
    (a2 : PySem.W.nsIn K mainGlobals "is_whole_within" = some (some (.ref f2))) (l2 : K.lookup f2 = some ⟨oc2, od2, .func (PySem.W.fnOf "is_whole_within" "is_whole_within" (defArgs sWithin) (defBody sWithin) (defScope sWithin) .none kV2 dc2 pm2 an2 cd2 ct2), sl2⟩) (c2 : PySem.W.codeIn K cd2 "is_whole_within" = true) (k2 : PySem.W.keepIn K (.ref f2) = true)
    (a3 : PySem.W.nsIn K mainGlobals "is_hand" = some (some (.ref f3))) (l3 : K.lookup f3 = some ⟨oc3, od3, .func (PySem.W.fnOf "is_hand" "is_hand" (defArgs sHand) (defBody sHand) (defScope sHand) .none kV3 dc3 pm3 an3 cd3 ct3), sl3⟩) (c3 : PySem.W.codeIn K cd3 "is_hand" = true) (k3 : PySem.W.keepIn K (.ref f3) = true)
    (a4 : PySem.W.nsIn K mainGlobals "is_rising" = some (some (.ref f4))) (l4 : K.lookup f4 = some ⟨oc4, od4, .func (PySem.W.fnOf "is_rising" "is_rising" (defArgs s_is_rising) (defBody s_is_rising) (defScope s_is_rising) .none kV4 dc4 pm4 an4 cd4 ct4), sl4⟩) (c4 : PySem.W.codeIn K cd4 "is_rising" = true) (k4 : PySem.W.keepIn K (.ref f4) = true)
    (a5 : PySem.W.nsIn K mainGlobals "is_output" = some (some (.ref f5))) (l5 : K.lookup f5 = some ⟨oc5, od5, .func (PySem.W.fnOf "is_output" "is_output" (defArgs s_is_output) (defBody s_is_output) (defScope s_is_output) .none kV5 dc5 pm5 an5 cd5 ct5), sl5⟩) (c5 : PySem.W.codeIn K cd5 "is_output" = true) (k5 : PySem.W.keepIn K (.ref f5) = true)
    (a6 : PySem.W.nsIn K mainGlobals "is_outputs" = some (some (.ref f6))) (l6 : K.lookup f6 = some ⟨oc6, od6, .func (PySem.W.fnOf "is_outputs" "is_outputs" (defArgs s_is_outputs) (defBody s_is_outputs) (defScope s_is_outputs) .none kV6 dc6 pm6 an6 cd6 ct6), sl6⟩) (c6 : PySem.W.codeIn K cd6 "is_outputs" = true) (k6 : PySem.W.keepIn K (.ref f6) = true)
    (a7 : PySem.W.nsIn K mainGlobals "is_rows" = some (some (.ref f7))) (l7 : K.lookup f7 = some ⟨oc7, od7, .func (PySem.W.fnOf "is_rows" "is_rows" (defArgs s_is_rows) (defBody s_is_rows) (defScope s_is_rows) .none kV7 dc7 pm7 an7 cd7 ct7), sl7⟩) (c7 : PySem.W.codeIn K cd7 "is_rows" = true) (k7 : PySem.W.keepIn K (.ref f7) = true)
    (a8 : PySem.W.nsIn K mainGlobals "is_alone" = some (some (.ref f8))) (l8 : K.lookup f8 = some ⟨oc8, od8, .func (PySem.W.fnOf "is_alone" "is_alone" (defArgs s_is_alone) (defBody s_is_alone) (defScope s_is_alone) .none kV8 dc8 pm8 an8 cd8 ct8), sl8⟩) (c8 : PySem.W.codeIn K cd8 "is_alone" = true) (k8 : PySem.W.keepIn K (.ref f8) = true)
    (a9 : PySem.W.nsIn K mainGlobals "is_output_pair" = some (some (.ref f9))) (l9 : K.lookup f9 = some ⟨oc9, od9, .func (PySem.W.fnOf "is_output_pair" "is_output_pair" (defArgs s_is_output_pair) (defBody s_is_output_pair) (defScope s_is_output_pair) .none kV9 dc9 pm9 an9 cd9 ct9), sl9⟩) (c9 : PySem.W.codeIn K cd9 "is_output_pair" = true) (k9 : PySem.W.keepIn K (.ref f9) = true)
    (a10 : PySem.W.nsIn K mainGlobals "is_let" = some (some (.ref f10))) (l10 : K.lookup f10 = some ⟨oc10, od10, .func (PySem.W.fnOf "is_let" "is_let" (defArgs s_is_let) (defBody s_is_let) (defScope s_is_let) .none kV10 dc10 pm10 an10 cd10 ct10), sl10⟩) (c10 : PySem.W.codeIn K cd10 "is_let" = true) (k10 : PySem.W.keepIn K (.ref f10) = true)
    (a11 : PySem.W.nsIn K mainGlobals "is_input_pair" = some (some (.ref f11))) (l11 : K.lookup f11 = some ⟨oc11, od11, .func (PySem.W.fnOf "is_input_pair" "is_input_pair" (defArgs s_is_input_pair) (defBody s_is_input_pair) (defScope s_is_input_pair) .none kV11 dc11 pm11 an11 cd11 ct11), sl11⟩) (c11 : PySem.W.codeIn K cd11 "is_input_pair" = true) (k11 : PySem.W.keepIn K (.ref f11) = true)
    (a12 : PySem.W.nsIn K mainGlobals "each_comes" = some (some (.ref f12))) (l12 : K.lookup f12 = some ⟨oc12, od12, .func (PySem.W.fnOf "each_comes" "each_comes" (defArgs s_each_comes) (defBody s_each_comes) (defScope s_each_comes) .none kV12 dc12 pm12 an12 cd12 ct12), sl12⟩) (c12 : PySem.W.codeIn K cd12 "each_comes" = true) (k12 : PySem.W.keepIn K (.ref f12) = true)
    (a13 : PySem.W.nsIn K mainGlobals "is_both" = some (some (.ref f13))) (l13 : K.lookup f13 = some ⟨oc13, od13, .func (PySem.W.fnOf "is_both" "is_both" (defArgs s_is_both) (defBody s_is_both) (defScope s_is_both) .none kV13 dc13 pm13 an13 cd13 ct13), sl13⟩) (c13 : PySem.W.codeIn K cd13 "is_both" = true) (k13 : PySem.W.keepIn K (.ref f13) = true)
    (a14 : PySem.W.nsIn K mainGlobals "is_pair" = some (some (.ref f14))) (l14 : K.lookup f14 = some ⟨oc14, od14, .func (PySem.W.fnOf "is_pair" "is_pair" (defArgs s_is_pair) (defBody s_is_pair) (defScope s_is_pair) .none kV14 dc14 pm14 an14 cd14 ct14), sl14⟩) (c14 : PySem.W.codeIn K cd14 "is_pair" = true) (k14 : PySem.W.keepIn K (.ref f14) = true)
    (a15 : PySem.W.nsIn K mainGlobals "is_row" = some (some (.ref f15))) (l15 : K.lookup f15 = some ⟨oc15, od15, .func (PySem.W.fnOf "is_row" "is_row" (defArgs s_is_row) (defBody s_is_row) (defScope s_is_row) .none kV15 dc15 pm15 an15 cd15 ct15), sl15⟩) (c15 : PySem.W.codeIn K cd15 "is_row" = true) (k15 : PySem.W.keepIn K (.ref f15) = true)
    (a16 : PySem.W.nsIn K mainGlobals "is_chosen" = some (some (.ref f16))) (l16 : K.lookup f16 = some ⟨oc16, od16, .func (PySem.W.fnOf "is_chosen" "is_chosen" (defArgs s_is_chosen) (defBody s_is_chosen) (defScope s_is_chosen) .none kV16 dc16 pm16 an16 cd16 ct16), sl16⟩) (c16 : PySem.W.codeIn K cd16 "is_chosen" = true) (k16 : PySem.W.keepIn K (.ref f16) = true)
    (a17 : PySem.W.nsIn K mainGlobals "is_answers" = some (some (.ref f17))) (l17 : K.lookup f17 = some ⟨oc17, od17, .func (PySem.W.fnOf "is_answers" "is_answers" (defArgs s_is_answers) (defBody s_is_answers) (defScope s_is_answers) .none kV17 dc17 pm17 an17 cd17 ct17), sl17⟩) (c17 : PySem.W.codeIn K cd17 "is_answers" = true) (k17 : PySem.W.keepIn K (.ref f17) = true)
    (a18 : PySem.W.nsIn K mainGlobals "is_boxed" = some (some (.ref f18))) (l18 : K.lookup f18 = some ⟨oc18, od18, .func (PySem.W.fnOf "is_boxed" "is_boxed" (defArgs s_is_boxed) (defBody s_is_boxed) (defScope s_is_boxed) .none kV18 dc18 pm18 an18 cd18 ct18), sl18⟩) (c18 : PySem.W.codeIn K cd18 "is_boxed" = true) (k18 : PySem.W.keepIn K (.ref f18) = true)
    (a19 : PySem.W.nsIn K mainGlobals "winner" = some (some (.ref f19))) (l19 : K.lookup f19 = some ⟨oc19, od19, .func (PySem.W.fnOf "winner" "winner" (defArgs s_winner) (defBody s_winner) (defScope s_winner) .none kV19 dc19 pm19 an19 cd19 ct19), sl19⟩) (c19 : PySem.W.codeIn K cd19 "winner" = true) (k19 : PySem.W.keepIn K (.ref f19) = true)
    (a20 : PySem.W.nsIn K mainGlobals "is_boxed_weaving" = some (some (.ref f20))) (l20 : K.lookup f20 = some ⟨oc20, od20, .func (PySem.W.fnOf "is_boxed_weaving" "is_boxed_weaving" (defArgs s_is_boxed_weaving) (defBody s_is_boxed_weaving) (defScope s_is_boxed_weaving) .none kV20 dc20 pm20 an20 cd20 ct20), sl20⟩) (c20 : PySem.W.codeIn K cd20 "is_boxed_weaving" = true) (k20 : PySem.W.keepIn K (.ref f20) = true)
    (a21 : PySem.W.nsIn K mainGlobals "tell_boxed" = some (some (.ref f21))) (l21 : K.lookup f21 = some ⟨oc21, od21, .func (PySem.W.fnOf "tell_boxed" "tell_boxed" (defArgs s_tell_boxed) (defBody s_tell_boxed) (defScope s_tell_boxed) .none kV21 dc21 pm21 an21 cd21 ct21), sl21⟩) (c21 : PySem.W.codeIn K cd21 "tell_boxed" = true) (k21 : PySem.W.keepIn K (.ref f21) = true)
    (a22 : PySem.W.nsIn K mainGlobals "_law_cell_at" = some (some (.ref f22))) (l22 : K.lookup f22 = some ⟨oc22, od22, .func (PySem.W.fnOf "_law_cell_at" "_law_cell_at" (defArgs sCell) (defBody sCell) (defScope sCell) .none kV22 dc22 pm22 an22 cd22 ct22), sl22⟩) (c22 : PySem.W.codeIn K cd22 "_law_cell_at" = true) (k22 : PySem.W.keepIn K (.ref f22) = true)
    (a23 : PySem.W.nsIn K mainGlobals "_law_digit" = some (some (.ref f23))) (l23 : K.lookup f23 = some ⟨oc23, od23, .func (PySem.W.fnOf "_law_digit" "_law_digit" (defArgs s__law_digit) (defBody s__law_digit) (defScope s__law_digit) .none kV23 dc23 pm23 an23 cd23 ct23), sl23⟩) (c23 : PySem.W.codeIn K cd23 "_law_digit" = true) (k23 : PySem.W.keepIn K (.ref f23) = true)
    (a24 : PySem.W.nsIn K mainGlobals "_law_few" = some (some (.ref f24))) (l24 : K.lookup f24 = some ⟨oc24, od24, .func (PySem.W.fnOf "_law_few" "_law_few" (defArgs s__law_few) (defBody s__law_few) (defScope s__law_few) .none kV24 dc24 pm24 an24 cd24 ct24), sl24⟩) (c24 : PySem.W.codeIn K cd24 "_law_few" = true) (k24 : PySem.W.keepIn K (.ref f24) = true)
    (a25 : PySem.W.nsIn K mainGlobals "_law_outs" = some (some (.ref f25))) (l25 : K.lookup f25 = some ⟨oc25, od25, .func (PySem.W.fnOf "_law_outs" "_law_outs" (defArgs s__law_outs) (defBody s__law_outs) (defScope s__law_outs) .none kV25 dc25 pm25 an25 cd25 ct25), sl25⟩) (c25 : PySem.W.codeIn K cd25 "_law_outs" = true) (k25 : PySem.W.keepIn K (.ref f25) = true)
    (a26 : PySem.W.nsIn K mainGlobals "_law_parts" = some (some (.ref f26))) (l26 : K.lookup f26 = some ⟨oc26, od26, .func (PySem.W.fnOf "_law_parts" "_law_parts" (defArgs s__law_parts) (defBody s__law_parts) (defScope s__law_parts) .none kV26 dc26 pm26 an26 cd26 ct26), sl26⟩) (c26 : PySem.W.codeIn K cd26 "_law_parts" = true) (k26 : PySem.W.keepIn K (.ref f26) = true)
    (a27 : PySem.W.nsIn K mainGlobals "_law_own" = some (some (.ref f27))) (l27 : K.lookup f27 = some ⟨oc27, od27, .func (PySem.W.fnOf "_law_own" "_law_own" (defArgs s__law_own) (defBody s__law_own) (defScope s__law_own) .none kV27 dc27 pm27 an27 cd27 ct27), sl27⟩) (c27 : PySem.W.codeIn K cd27 "_law_own" = true) (k27 : PySem.W.keepIn K (.ref f27) = true)
    (a28 : PySem.W.nsIn K mainGlobals "_law_drawn" = some (some (.ref f28))) (l28 : K.lookup f28 = some ⟨oc28, od28, .func (PySem.W.fnOf "_law_drawn" "_law_drawn" (defArgs s__law_drawn) (defBody s__law_drawn) (defScope s__law_drawn) .none kV28 dc28 pm28 an28 cd28 ct28), sl28⟩) (c28 : PySem.W.codeIn K cd28 "_law_drawn" = true) (k28 : PySem.W.keepIn K (.ref f28) = true)
    (a29 : PySem.W.nsIn K mainGlobals "_law_odd_form" = some (some (.ref f29))) (l29 : K.lookup f29 = some ⟨oc29, od29, .func (PySem.W.fnOf "_law_odd_form" "_law_odd_form" (defArgs s__law_odd_form) (defBody s__law_odd_form) (defScope s__law_odd_form) .none kV29 dc29 pm29 an29 cd29 ct29), sl29⟩) (c29 : PySem.W.codeIn K cd29 "_law_odd_form" = true) (k29 : PySem.W.keepIn K (.ref f29) = true)
    (a30 : PySem.W.nsIn K mainGlobals "_law_odd_inputs" = some (some (.ref f30))) (l30 : K.lookup f30 = some ⟨oc30, od30, .func (PySem.W.fnOf "_law_odd_inputs" "_law_odd_inputs" (defArgs s__law_odd_inputs) (defBody s__law_odd_inputs) (defScope s__law_odd_inputs) .none kV30 dc30 pm30 an30 cd30 ct30), sl30⟩) (c30 : PySem.W.codeIn K cd30 "_law_odd_inputs" = true) (k30 : PySem.W.keepIn K (.ref f30) = true)
    (a31 : PySem.W.nsIn K mainGlobals "_law_weaving" = some (some (.ref f31))) (l31 : K.lookup f31 = some ⟨oc31, od31, .func (PySem.W.fnOf "_law_weaving" "_law_weaving" (defArgs sLawWeav) (defBody sLawWeav) (defScope sLawWeav) .none kV31 dc31 pm31 an31 cd31 ct31), sl31⟩) (c31 : PySem.W.codeIn K cd31 "_law_weaving" = true) (k31 : PySem.W.keepIn K (.ref f31) = true)
    (a32 : PySem.W.nsIn K mainGlobals "_law_said" = some (some (.ref f32))) (l32 : K.lookup f32 = some ⟨oc32, od32, .func (PySem.W.fnOf "_law_said" "_law_said" (defArgs sSaid) (defBody sSaid) (defScope sSaid) .none kV32 dc32 pm32 an32 cd32 ct32), sl32⟩) (c32 : PySem.W.codeIn K cd32 "_law_said" = true) (k32 : PySem.W.keepIn K (.ref f32) = true)
    (a33 : PySem.W.nsIn K mainGlobals "law" = some (some (.ref f33))) (l33 : K.lookup f33 = some ⟨oc33, od33, .func (PySem.W.fnOf "law" "law" (defArgs sLaw) (defBody sLaw) (defScope sLaw) .none kV33 dc33 pm33 an33 cd33 ct33), sl33⟩) (c33 : PySem.W.codeIn K cd33 "law" = true) (k33 : PySem.W.keepIn K (.ref f33) = true)
    (z0 : PySem.W.nsIn K mainGlobals "isinstance" = some none)
    (z1 : PySem.W.nsIn K mainGlobals "int" = some none)
    (z2 : PySem.W.nsIn K mainGlobals "bool" = some none)
    (z3 : PySem.W.nsIn K mainGlobals "len" = some none)
    (z4 : PySem.W.nsIn K mainGlobals "range" = some none)
    (z5 : PySem.W.nsIn K mainGlobals "list" = some none)
    (z6 : PySem.W.nsIn K mainGlobals "tuple" = some none)
    (z7 : PySem.W.nsIn K mainGlobals "all" = some none)
    (z8 : PySem.W.nsIn K mainGlobals "sum" = some none)
    (z9 : PySem.W.nsIn K mainGlobals "min" = some none)
    (z10 : PySem.W.nsIn K mainGlobals "sorted" = some none)
    (z11 : PySem.W.nsIn K mainGlobals "set" = some none)
    (z12 : PySem.W.nsIn K mainGlobals "max" = some none)
    (z13 : PySem.W.nsIn K mainGlobals "zip" = some none)
    (z14 : PySem.W.nsIn K mainGlobals "dict" = some none)
    (z15 : PySem.W.nsIn K mainGlobals "abs" = some none)
    (z16 : PySem.W.nsIn K mainGlobals "repr" = some none)
    (i0 : PySem.W.nsIn K mainGlobals "MOST_OUTPUT" = some (some (.int 63 tI0)))
    (i1 : PySem.W.nsIn K mainGlobals "STEPS_TO_BOX" = some (some (.int 2 tI1)))
    (i2 : PySem.W.nsIn K mainGlobals "STEPS_OF_LOSER" = some (some (.int 3 tI2)))
    (t0 : PySem.W.nsIn K mainGlobals "HANDS" = some (some (.ref hA0))) (u0 : K.lookup hA0 = some ⟨.type "tuple", odH0, .seq (Array.mk [.int 0 tT0_0, .int 1 tT0_1]) nH0, slH0⟩)
    (n0 : PySem.W.nsIn K mainGlobals "AloneError" = some (some (.ref cA)))
    (n1 : PySem.W.nsIn K mainGlobals "NoWeaving" = some (some (.ref cW)))
    (n2 : PySem.W.nsIn K mainGlobals "NoInputs" = some (some (.ref cI)))
    (n3 : PySem.W.nsIn K mainGlobals "NoProtocol" = some (some (.ref cP)))
    (q_cP : PySem.W.excIn K cP [.type "ValueError", .type "Exception", .type "BaseException", .type "object"] "ValueError.__new__" = true) (kk_cP : PySem.W.keepIn K (.ref cP) = true) (r_cP : raiseB K cP = true)
    (q_cI : PySem.W.excIn K cI [.type "ValueError", .type "Exception", .type "BaseException", .type "object"] "ValueError.__new__" = true) (kk_cI : PySem.W.keepIn K (.ref cI) = true) (r_cI : raiseB K cI = true)
    (q_cW : PySem.W.excIn K cW [.type "ValueError", .type "Exception", .type "BaseException", .type "object"] "ValueError.__new__" = true) (kk_cW : PySem.W.keepIn K (.ref cW) = true) (r_cW : raiseB K cW = true)
    (xs0 : saidB K cA cP cI cW = true)
    : ∃ fd : FuncData, (∀ (s : Shared) (v : Value), BindsTo s fd ⟨[v], []⟩ [("_law_script", v)]) ∧ ∀ base : Heap, K.In base → base.Ns mainGlobals mg → Quiet l.prog w K mg base 10 fa fd ["_law_script"] (spLaw K) := by
  have e := hfa.symm.trans (PySem.W.mg_of X G a33)
  cases e
  have F1 := fun_mk (st := sWhole) l1 c1 k1
  have b1 := F1.binds (ps := ["thing"]) fun _ _ _ _ _ _ us hl => match us, hl with | [_], _ => rfl
  have F2 := fun_mk (st := sWithin) l2 c2 k2
  have b2 := F2.binds (ps := ["thing", "least", "most"]) fun _ _ _ _ _ _ us hl => match us, hl with | [_, _, _], _ => rfl
  have F3 := fun_mk (st := sHand) l3 c3 k3
  have b3 := F3.binds (ps := ["thing"]) fun _ _ _ _ _ _ us hl => match us, hl with | [_], _ => rfl
  have F4 := fun_mk (st := s_is_rising) l4 c4 k4
  have b4 := F4.binds (ps := ["things"]) fun _ _ _ _ _ _ us hl => match us, hl with | [_], _ => rfl
  have F5 := fun_mk (st := s_is_output) l5 c5 k5
  have b5 := F5.binds (ps := ["thing"]) fun _ _ _ _ _ _ us hl => match us, hl with | [_], _ => rfl
  have F6 := fun_mk (st := s_is_outputs) l6 c6 k6
  have b6 := F6.binds (ps := ["thing"]) fun _ _ _ _ _ _ us hl => match us, hl with | [_], _ => rfl
  have F7 := fun_mk (st := s_is_rows) l7 c7 k7
  have b7 := F7.binds (ps := ["thing"]) fun _ _ _ _ _ _ us hl => match us, hl with | [_], _ => rfl
  have F8 := fun_mk (st := s_is_alone) l8 c8 k8
  have b8 := F8.binds (ps := ["thing"]) fun _ _ _ _ _ _ us hl => match us, hl with | [_], _ => rfl
  have F9 := fun_mk (st := s_is_output_pair) l9 c9 k9
  have b9 := F9.binds (ps := ["thing"]) fun _ _ _ _ _ _ us hl => match us, hl with | [_], _ => rfl
  have F10 := fun_mk (st := s_is_let) l10 c10 k10
  have b10 := F10.binds (ps := ["thing"]) fun _ _ _ _ _ _ us hl => match us, hl with | [_], _ => rfl
  have F11 := fun_mk (st := s_is_input_pair) l11 c11 k11
  have b11 := F11.binds (ps := ["thing", "alone"]) fun _ _ _ _ _ _ us hl => match us, hl with | [_, _], _ => rfl
  have F12 := fun_mk (st := s_each_comes) l12 c12 k12
  have b12 := F12.binds (ps := ["both", "alone", "hand"]) fun _ _ _ _ _ _ us hl => match us, hl with | [_, _, _], _ => rfl
  have F13 := fun_mk (st := s_is_both) l13 c13 k13
  have b13 := F13.binds (ps := ["thing", "alone"]) fun _ _ _ _ _ _ us hl => match us, hl with | [_, _], _ => rfl
  have F14 := fun_mk (st := s_is_pair) l14 c14 k14
  have b14 := F14.binds (ps := ["task", "thing"]) fun _ _ _ _ _ _ us hl => match us, hl with | [_, _], _ => rfl
  have F15 := fun_mk (st := s_is_row) l15 c15 k15
  have b15 := F15.binds (ps := ["thing", "many"]) fun _ _ _ _ _ _ us hl => match us, hl with | [_, _], _ => rfl
  have F16 := fun_mk (st := s_is_chosen) l16 c16 k16
  have b16 := F16.binds (ps := ["task", "thing"]) fun _ _ _ _ _ _ us hl => match us, hl with | [_, _], _ => rfl
  have F17 := fun_mk (st := s_is_answers) l17 c17 k17
  have b17 := F17.binds (ps := ["task", "thing"]) fun _ _ _ _ _ _ us hl => match us, hl with | [_, _], _ => rfl
  have F18 := fun_mk (st := s_is_boxed) l18 c18 k18
  have b18 := F18.binds (ps := ["task", "thing"]) fun _ _ _ _ _ _ us hl => match us, hl with | [_, _], _ => rfl
  have F19 := fun_mk (st := s_winner) l19 c19 k19
  have b19 := F19.binds (ps := ["weaving"]) fun _ _ _ _ _ _ us hl => match us, hl with | [_], _ => rfl
  have F20 := fun_mk (st := s_is_boxed_weaving) l20 c20 k20
  have b20 := F20.binds (ps := ["thing"]) fun _ _ _ _ _ _ us hl => match us, hl with | [_], _ => rfl
  have F21 := fun_mk (st := s_tell_boxed) l21 c21 k21
  have b21 := F21.binds (ps := ["task", "boxed", "inputs", "weaving"]) fun _ _ _ _ _ _ us hl => match us, hl with | [_, _, _, _], _ => rfl
  have F22 := fun_mk (st := sCell) l22 c22 k22
  have b22 := F22.binds (ps := ["_law_script", "_law_k"]) fun _ _ _ _ _ _ us hl => match us, hl with | [_, _], _ => rfl
  have F23 := fun_mk (st := s__law_digit) l23 c23 k23
  have b23 := F23.binds (ps := ["_law_state", "_law_base"]) fun _ _ _ _ _ _ us hl => match us, hl with | [_, _], _ => rfl
  have F24 := fun_mk (st := s__law_few) l24 c24 k24
  have b24 := F24.binds (ps := ["_law_state", "_law_great", "_law_most"]) fun _ _ _ _ _ _ us hl => match us, hl with | [_, _, _], _ => rfl
  have F25 := fun_mk (st := s__law_outs) l25 c25 k25
  have b25 := F25.binds (ps := ["_law_state", "_law_great"]) fun _ _ _ _ _ _ us hl => match us, hl with | [_, _], _ => rfl
  have F26 := fun_mk (st := s__law_parts) l26 c26 k26
  have b26 := F26.binds (ps := ["_law_state", "_law_most"]) fun _ _ _ _ _ _ us hl => match us, hl with | [_, _], _ => rfl
  have F27 := fun_mk (st := s__law_own) l27 c27 k27
  have b27 := F27.binds (ps := ["_law_told", "_law_answers", "_law_inputs", "_law_weaving_here"]) fun _ _ _ _ _ _ us hl => match us, hl with | [_, _, _, _], _ => rfl
  have F28 := fun_mk (st := s__law_drawn) l28 c28 k28
  have b28 := F28.binds (ps := ["_law_state", "_law_task"]) fun _ _ _ _ _ _ us hl => match us, hl with | [_, _], _ => rfl
  have F29 := fun_mk (st := s__law_odd_form) l29 c29 k29
  have b29 := F29.binds (ps := ["_law_state", "_law_thing"]) fun _ _ _ _ _ _ us hl => match us, hl with | [_, _], _ => rfl
  have F30 := fun_mk (st := s__law_odd_inputs) l30 c30 k30
  have b30 := F30.binds (ps := ["_law_state", "_law_task", "_law_pair"]) fun _ _ _ _ _ _ us hl => match us, hl with | [_, _, _], _ => rfl
  have F31 := fun_mk (st := sLawWeav) l31 c31 k31
  have b31 := F31.binds (ps := ["_law_state", "_law_spoil"]) fun _ _ _ _ _ _ us hl => match us, hl with | [_, _], _ => rfl
  have F32 := fun_mk (st := sSaid) l32 c32 k32
  have b32 := F32.binds (ps := ["_law_task", "_law_thing", "_law_inputs", "_law_weaving_here"]) fun _ _ _ _ _ _ us hl => match us, hl with | [_, _, _, _], _ => rfl
  have F33 := fun_mk (st := sLaw) l33 c33 k33
  have Zc : TxtC K mg C := ⟨⟨pg, hd, po, sa⟩, nA, nB, PySem.W.mg_of X G aC⟩
  have Y1 := fun_mk (st := s_init) yl1 yc1 yk1
  have yb1 := Y1.binds (ps := ["self", "alone", "both"]) fun _ _ _ _ _ _ us hl => match us, hl with | [_, _, _], _ => rfl
  have Y2 := fun_mk (st := s_inputs) yl2 yc2 yk2
  have yb2 := Y2.binds (ps := ["self", "hand"]) fun _ _ _ _ _ _ us hl => match us, hl with | [_, _], _ => rfl
  have Y3 := fun_mk (st := s_pairs) yl3 yc3 yk3
  have yb3 := Y3.binds (ps := ["self"]) fun _ _ _ _ _ _ us hl => match us, hl with | [_], _ => rfl
  have m := fun {n : Str} {v : Value} (e : PySem.W.nsIn K mainGlobals n = some (some v)) => PySem.W.mg_of X G e
  have mz := fun {n : Str} (e : PySem.W.nsIn K mainGlobals n = some none) => PySem.W.mg_none_of X G e
  have T : Txt K mg := ⟨mz z0, mz z1, mz z2, mz z3, mz z4, mz z5, mz z6, mz z7, mz z8, mz z9⟩
  have T2 : Txt2 K mg := ⟨mz z10, mz z11, mz z12, mz z13, mz z14⟩
  have U : TxtH K mg := ⟨_, m t0, fun H => .inr ⟨_, _, _, u0, rfl, rfl, (by show 2 ≤ sizeLine; decide), .cons ⟨_, rfl⟩ (.cons ⟨_, rfl⟩ .nil)⟩⟩
  have TB : TxtB K mg := ⟨⟨_, m i1⟩, ⟨_, m i2⟩⟩
  have R1 := raiseB_ok (mg := mg) r_cP (m n3) q_cP kk_cP
  have R2 := raiseB_ok (mg := mg) r_cI (m n2) q_cI kk_cI
  have R3 := raiseB_ok (mg := mg) r_cW (m n1) q_cW kk_cW
  have TS : SaidT mg cA cP cI cW := ⟨mz z0, m n0, m n1, m n2, m n3⟩
  refine ⟨PySem.W.fnOf "law" "law" (defArgs sLaw) (defBody sLaw) (defScope sLaw) .none kV33 dc33 pm33 an33 cd33 ct33, fun s v => .of_eq rfl, fun base _ _ => ?_⟩
  have e1 : Def l.prog w K mg base "is_whole" ["thing"] 1 (spWholeG K) f1 _ := ⟨ok_wholeG F1 T, b1, k1, m a1⟩
  have e2 : Def l.prog w K mg base "is_whole_within" ["thing", "least", "most"] 2 (spWithinG K) f2 _ := ⟨ok_withinG F2 e1, b2, k2, m a2⟩
  have e3 : Def l.prog w K mg base "is_hand" ["thing"] 3 (spHandG K) f3 _ := ⟨ok_handG F3 e2, b3, k3, m a3⟩
  have eRI : Def l.prog w K mg base "is_rising" ["things"] 1 (spRisI K) f4 _ := ⟨ok_risI F4 T, b4, k4, m a4⟩
  have eRP : Def l.prog w K mg base "is_rising" ["things"] 1 (spRisP K) f4 _ := ⟨ok_risP F4 T, b4, k4, m a4⟩
  have e5 : Def l.prog w K mg base "is_output" ["thing"] 3 (spOut K) f5 _ := ⟨ok_out F5 (m i0) e2, b5, k5, m a5⟩
  have e6 : Def l.prog w K mg base "is_outputs" ["thing"] 4 (spOuts K) f6 _ := ⟨ok_outs F6 T e5 eRI, b6, k6, m a6⟩
  have e7 : Def l.prog w K mg base "is_rows" ["thing"] 5 (spRows K) f7 _ := ⟨ok_rows F7 T e6, b7, k7, m a7⟩
  have e8 : Def l.prog w K mg base "is_alone" ["thing"] 6 (spAlone K) f8 _ := ⟨ok_alone F8 T e7, b8, k8, m a8⟩
  have e9 : Def l.prog w K mg base "is_output_pair" ["thing"] 4 (spPairB K) f9 _ := ⟨ok_outpair F9 T e5, b9, k9, m a9⟩
  have e10 : Def l.prog w K mg base "is_let" ["thing"] 5 (spLetB K) f10 _ := ⟨ok_let F10 T e9 eRP, b10, k10, m a10⟩
  have e11 : Def l.prog w K mg base "is_input_pair" ["thing", "alone"] 3 (spInp K) f11 _ := ⟨ok_inp F11 T U e2, b11, k11, m a11⟩
  have e12 : Def l.prog w K mg base "each_comes" ["both", "alone", "hand"] 1 (spEach K) f12 _ := ⟨ok_each F12 T T2, b12, k12, m a12⟩
  have e13 : Def l.prog w K mg base "is_both" ["thing", "alone"] 6 (spBoth K) f13 _ := ⟨ok_both F13 T T2 U e11 e10 e12, b13, k13, m a13⟩
  have tk : KDef l.prog w K mg base C "Task" ["self", "alone", "both"] 7 (spInit K C) y1 _ := ⟨ok_init Y1 T T2 Zc e8 e13, yb1, ⟨mkC, ya1, yi1, kC⟩, Zc.mg⟩
  have inp : MDef l.prog w K mg base C "inputs" nInputs 4 (spInputs K C) y2 _ := ⟨ok_inputs Y2 T Zc e3, yb2, ⟨ya2, yi2, yk2⟩⟩
  have prs : MDef l.prog w K mg base C "pairs" nPairs 1 (spPairs K C) y3 _ := ⟨ok_pairs Y3 T2 Zc, yb3, ⟨ya3, yi3, yk3⟩⟩
  have e14 : Def l.prog w K mg base "is_pair" ["task", "thing"] 4 (spPairX K C) f14 _ := ⟨ok_ispairX F14 T Zc e11, b14, k14, m a14⟩
  have e15 : Def l.prog w K mg base "is_row" ["thing", "many"] 4 (spRowX K) f15 _ := ⟨ok_rowX F15 T e5, b15, k15, m a15⟩
  have e16 : Def l.prog w K mg base "is_chosen" ["task", "thing"] 5 (spChosenX K C) f16 _ := ⟨ok_chosenX F16 T U Zc e15 inp, b16, k16, m a16⟩
  have e17 : Def l.prog w K mg base "is_answers" ["task", "thing"] 5 (spIsAnsX K C) f17 _ := ⟨ok_isansX F17 T T2 Zc e14 e5, b17, k17, m a17⟩
  have e18 : Def l.prog w K mg base "is_boxed" ["task", "thing"] 6 (spIsBoxedX K C) f18 _ := ⟨ok_isboxedX F18 T Zc e16 e17, b18, k18, m a18⟩
  have e19 : Def l.prog w K mg base "winner" ["weaving"] 1 spWin f19 _ := ⟨ok_win F19 T TB, b19, k19, m a19⟩
  have e20 : Def l.prog w K mg base "is_boxed_weaving" ["thing"] 4 spBWX f20 _ := ⟨ok_bwX F20 T T2 U TB e3 e19, b20, k20, m a20⟩
  have eT : TDef l.prog w K mg base C cP cI cW f21 _ := ⟨ok_tell F21 T U TB R1 R2 R3 e18 e14 e20 e19, b21, k21, m a21⟩
  have e22 : Def l.prog w K mg base "_law_cell_at" ["_law_script", "_law_k"] 1 (spCell K) f22 _ := ⟨ok_cell F22 T, b22, k22, m a22⟩
  have e23 : Def l.prog w K mg base "_law_digit" ["_law_state", "_law_base"] 1 spDigit f23 _ := ⟨ok_digit F23 T, b23, k23, m a23⟩
  have e24 : Def l.prog w K mg base "_law_few" ["_law_state", "_law_great", "_law_most"] 2 spFew f24 _ := ⟨ok_few F24 T T2 e23, b24, k24, m a24⟩
  have e25 : Def l.prog w K mg base "_law_outs" ["_law_state", "_law_great"] 2 spOuts2 f25 _ := ⟨ok_outs2 F25 T T2 e23, b25, k25, m a25⟩
  have e26 : Def l.prog w K mg base "_law_parts" ["_law_state", "_law_most"] 3 spParts f26 _ := ⟨ok_parts F26 T T2 e23 e24 e25, b26, k26, m a26⟩
  have e27 : Def l.prog w K mg base "_law_own" ["_law_told", "_law_answers", "_law_inputs", "_law_weaving_here"] 1 (spOwn C) f27 _ := ⟨ok_own F27 T, b27, k27, m a27⟩
  have e28 : Def l.prog w K mg base "_law_drawn" ["_law_state", "_law_task"] 2 (spDrawn C) f28 _ := ⟨ok_drawn F28 T Zc e23 prs, b28, k28, m a28⟩
  have e29 : Def l.prog w K mg base "_law_odd_form" ["_law_state", "_law_thing"] 3 (spOF K C) f29 _ := ⟨ok_of F29 T T2 e23, b29, k29, m a29⟩
  have e30 : Def l.prog w K mg base "_law_odd_inputs" ["_law_state", "_law_task", "_law_pair"] 2 (spOI K C) f30 _ := ⟨ok_oi F30 T Zc e23, b30, k30, m a30⟩
  have e31 : Def l.prog w K mg base "_law_weaving" ["_law_state", "_law_spoil"] 2 spLWv f31 _ := ⟨ok_lw F31 T e23, b31, k31, m a31⟩
  have e32 : Def l.prog w K mg base "_law_said" ["_law_task", "_law_thing", "_law_inputs", "_law_weaving_here"] 8 (spSaid K C) f32 _ := ⟨ok_said F32 TS (saidB_ok xs0) eT, b32, k32, m a32⟩
  exact ok_law F33 T T2 Zc (mz z16) e22 e23 e26 tk e28 e31 e27 e30 e29 e32
theorem walk {l : PySem.W.OpenLaw} {q : Program} {loose : List Str} {XP : (Str → Option Value) → Heap → Prop} {YP : World → Heap → Prop} {d : DefRec} {K : Params → PySem.W.Frag} (hn : l.most = some 63) (hdf : d.params.defaults = [])
    (hY : ∀ (w : World) (h : Heap), YP w h → (K w.params).In h)
    (F : ∀ (w : World) (mg : Str → Option Value) (fa : Addr) (h : Heap), (K w.params).In h → h.Ns mainGlobals mg → mg d.name = some (.ref fa) →
      ∃ fd : FuncData, (∀ (s : Shared) (u : Value), BindsTo s fd ⟨[u], []⟩ [("_law_script", u)]) ∧ ∀ base : Heap, (K w.params).In base → base.Ns mainGlobals mg → Quiet l.prog w (K w.params) mg base 10 fa fd ["_law_script"] (spLaw (K w.params))) :
    PySem.W.WalkO q loose XP YP l.row.toRowW d [] (fun f vs => PySem.call f vs) := by
  refine Att.attach_callB hn hdf fun w s₀ s mg mb fa o pm cd doc a vs ns G Y ho hd hcd hmg hobj hints hlen hbits hg => ?_
  have KX := hY w _ Y
  obtain ⟨fd, hb, hF⟩ := F w mg fa _ KX G.T.g hmg
  exact quiet_end0 KX G.T.g G.T.b G.T.builtins G.T.nolimit hg hobj hints (Nat.le_trans hlen (by decide)) ⟨rfl, by decide, by decide⟩ hF hb fun H hS => ⟨a, ns, rfl, hS, hlen, fun _ => rfl⟩
end TA
open PySem PySem.W PyProof.Rows
set_option maxRecDepth 100000 in
set_option maxHeartbeats 0 in
theorem PySem.Challenge.cw_twoalone_k87_boxed_telling_refused_holds : PySem.Challenge.rw_twoalone_k87_boxed_telling_refused.Holds := by
  w_on; o_law; k_head; (case hw => w_witness2)
  k_fill
  refine TA.walk (l := PySem.Challenge.rw_twoalone_k87_boxed_telling_refused) rfl rfl (fun w h Y => PySem.W.kIn_of Y) ?F
  case F =>
    intro w mg fa h KX G hmg
    refine' TA.all_mk KX G hmg ?aC ?ya1 ?yi1 ?yl1 ?yc1 ?yk1 ?ya2 ?yi2 ?yl2 ?yc2 ?yk2 ?ya3 ?yi3 ?yl3 ?yc3 ?yk3 ?pg ?hd ?po ?sa ?mkC ?kC ?nA ?nB ?a1 ?l1 ?c1 ?k1 ?a2 ?l2 ?c2 ?k2 ?a3 ?l3 ?c3 ?k3 ?a4 ?l4 ?c4 ?k4 ?a5 ?l5 ?c5 ?k5 ?a6 ?l6 ?c6 ?k6 ?a7 ?l7 ?c7 ?k7 ?a8 ?l8 ?c8 ?k8 ?a9 ?l9 ?c9 ?k9 ?a10 ?l10 ?c10 ?k10 ?a11 ?l11 ?c11 ?k11 ?a12 ?l12 ?c12 ?k12 ?a13 ?l13 ?c13 ?k13 ?a14 ?l14 ?c14 ?k14 ?a15 ?l15 ?c15 ?k15 ?a16 ?l16 ?c16 ?k16 ?a17 ?l17 ?c17 ?k17 ?a18 ?l18 ?c18 ?k18 ?a19 ?l19 ?c19 ?k19 ?a20 ?l20 ?c20 ?k20 ?a21 ?l21 ?c21 ?k21 ?a22 ?l22 ?c22 ?k22 ?a23 ?l23 ?c23 ?k23 ?a24 ?l24 ?c24 ?k24 ?a25 ?l25 ?c25 ?k25 ?a26 ?l26 ?c26 ?k26 ?a27 ?l27 ?c27 ?k27 ?a28 ?l28 ?c28 ?k28 ?a29 ?l29 ?c29 ?k29 ?a30 ?l30 ?c30 ?k30 ?a31 ?l31 ?c31 ?k31 ?a32 ?l32 ?c32 ?k32 ?a33 ?l33 ?c33 ?k33 ?z0 ?z1 ?z2 ?z3 ?z4 ?z5 ?z6 ?z7 ?z8 ?z9 ?z10 ?z11 ?z12 ?z13 ?z14 ?z15 ?z16 ?i0 ?i1 ?i2 ?t0 ?u0 ?n0 ?n1 ?n2 ?n3 ?q_cP ?kk_cP ?r_cP ?q_cI ?kk_cI ?r_cI ?q_cW ?kk_cW ?r_cW ?xs0
    (case aC => k_is); (case ya1 => k_is); (case yi1 => k_is); (case yl1 => k_is); (case yc1 => k_is); (case yk1 => k_is); (case ya2 => k_is); (case yi2 => k_is); (case yl2 => k_is); (case yc2 => k_is); (case yk2 => k_is); (case ya3 => k_is); (case yi3 => k_is); (case yl3 => k_is); (case yc3 => k_is); (case yk3 => k_is); (case pg => k_is); (case hd => k_is); (case po => k_is); (case sa => k_is); (case mkC => k_is); (case kC => k_is); (case nA => k_is); (case nB => k_is)
    (case a1 => k_is); (case l1 => k_is); (case c1 => k_is); (case k1 => k_is); (case a2 => k_is); (case l2 => k_is); (case c2 => k_is); (case k2 => k_is); (case a3 => k_is); (case l3 => k_is); (case c3 => k_is); (case k3 => k_is); (case a4 => k_is); (case l4 => k_is); (case c4 => k_is); (case k4 => k_is); (case a5 => k_is); (case l5 => k_is); (case c5 => k_is); (case k5 => k_is); (case a6 => k_is); (case l6 => k_is); (case c6 => k_is); (case k6 => k_is); (case a7 => k_is); (case l7 => k_is); (case c7 => k_is); (case k7 => k_is); (case a8 => k_is); (case l8 => k_is); (case c8 => k_is); (case k8 => k_is); (case a9 => k_is); (case l9 => k_is); (case c9 => k_is); (case k9 => k_is); (case a10 => k_is); (case l10 => k_is); (case c10 => k_is); (case k10 => k_is); (case a11 => k_is); (case l11 => k_is); (case c11 => k_is); (case k11 => k_is); (case a12 => k_is); (case l12 => k_is); (case c12 => k_is); (case k12 => k_is); (case a13 => k_is); (case l13 => k_is); (case c13 => k_is); (case k13 => k_is); (case a14 => k_is); (case l14 => k_is); (case c14 => k_is); (case k14 => k_is); (case a15 => k_is); (case l15 => k_is); (case c15 => k_is); (case k15 => k_is); (case a16 => k_is); (case l16 => k_is); (case c16 => k_is); (case k16 => k_is); (case a17 => k_is); (case l17 => k_is); (case c17 => k_is); (case k17 => k_is); (case a18 => k_is); (case l18 => k_is); (case c18 => k_is); (case k18 => k_is); (case a19 => k_is); (case l19 => k_is); (case c19 => k_is); (case k19 => k_is); (case a20 => k_is); (case l20 => k_is); (case c20 => k_is); (case k20 => k_is); (case a21 => k_is); (case l21 => k_is); (case c21 => k_is); (case k21 => k_is); (case a22 => k_is); (case l22 => k_is); (case c22 => k_is); (case k22 => k_is); (case a23 => k_is); (case l23 => k_is); (case c23 => k_is); (case k23 => k_is); (case a24 => k_is); (case l24 => k_is); (case c24 => k_is); (case k24 => k_is); (case a25 => k_is); (case l25 => k_is); (case c25 => k_is); (case k25 => k_is); (case a26 => k_is); (case l26 => k_is); (case c26 => k_is); (case k26 => k_is); (case a27 => k_is); (case l27 => k_is); (case c27 => k_is); (case k27 => k_is); (case a28 => k_is); (case l28 => k_is); (case c28 => k_is); (case k28 => k_is); (case a29 => k_is); (case l29 => k_is); (case c29 => k_is); (case k29 => k_is); (case a30 => k_is); (case l30 => k_is); (case c30 => k_is); (case k30 => k_is); (case a31 => k_is); (case l31 => k_is); (case c31 => k_is); (case k31 => k_is); (case a32 => k_is); (case l32 => k_is); (case c32 => k_is); (case k32 => k_is); (case a33 => k_is); (case l33 => k_is); (case c33 => k_is); (case k33 => k_is); (case z0 => k_is); (case z1 => k_is); (case z2 => k_is); (case z3 => k_is); (case z4 => k_is); (case z5 => k_is); (case z6 => k_is); (case z7 => k_is); (case z8 => k_is); (case z9 => k_is); (case z10 => k_is); (case z11 => k_is); (case z12 => k_is); (case z13 => k_is); (case z14 => k_is); (case z15 => k_is); (case z16 => k_is); (case i0 => k_is); (case i1 => k_is); (case i2 => k_is); (case t0 => k_is); (case u0 => k_is); (case n0 => k_is); (case n1 => k_is); (case n2 => k_is); (case n3 => k_is); (case q_cP => k_exc); (case kk_cP => k_is); (case r_cP => kernel_rfl); (case q_cI => k_exc); (case kk_cI => k_is); (case r_cI => kernel_rfl); (case q_cW => k_exc); (case kk_cW => k_is); (case r_cW => kernel_rfl); (case xs0 => kernel_rfl)
