import PyProof.Rows.All
import Wide.All
import OpenK.AllK
import Wide.FinOn
import HandS.ForMost
import HandS.IsInst
import HandS.DictTup
import HandS.Conv
import HandS.TupSets
import HandS.Walk
import HandS.SetBool
import HandS.DictComp
import HandS.Strs
import HandS.SetFor
import KE.KDictCopyH
import KE.KDictDisplayH
import PyProof.ReprRoads
import PyProof.CallFns
import PyProof.ReprLen
import KE.DataFind
import HandS.Lambda
import HandS.EndTab
import KE.KDictOf
import PyProof.DictMoreH
import PyProof.DictFindH
import PyProof.P3Eq
import HandS.TupLen
import HandS.Wide
import HandS.Defaults
import HandS.ExcIs
import HandS.ForExc
import HandS.More
import HandS.Deep
import HandS.EndBits
import KE.KNestM
import PySem.Challenge.RW_twoalone_k32_what_cannot_be_told
set_option Elab.async false
set_option maxRecDepth 100000
set_option maxHeartbeats 4000000
namespace L2
open PySem PySem.Spec PyProof.Rows
set_option linter.unusedVariables false
/-! dicts with tuple keys: their items walked, their keys sorted -/
section
variable {X : Cx} {pins : List (Addr × Obj)} {σ : St} {H : Hp} {s : Shared} {d : Addr} {o : Obj}
/-- a locked dict of tuple keys as it lies: its entries, the keys' tuples, the values -/
theorem Inv.entriesT {kvs : List (List Key × V)} (I : Inv X pins σ H s) (locked : H d = some (.frz o (.dT kvs))) :
    (d == sysModules) = false ∧ ∃ (es : Array DictEntry) (ep : Nat), o.data = .dict es ep ∧ DT.Raw s.heap d es ep ∧ es.size = kvs.length ∧
      ∀ (i : Nat) (k : List Key) (v : V), kvs[i]? = some (k, v) → ∃ (hi : i < es.size) (q : Addr), es[i].key = .ref q ∧ H q = some (.tup (k.map kV)) ∧ RelV v es[i].val := by
  obtain ⟨there, _, notSys, xs, pairs, o', es, ep, found, exact', data, rows, _⟩ := I.hok d _ locked
  rw [there] at found
  cases found
  have sizes : es.size = kvs.length := (size_of_entries rows).trans (Paired.length pairs).symm
  refine ⟨notSys, es, ep, data, ⟨o, there, exact', data⟩, sizes, fun i k v e => ?_⟩
  obtain ⟨b, hb, e1, e2, e3⟩ := paired_get pairs e
  have hi : i < es.size := by rw [sizes]; exact (List.getElem?_eq_some_iff.mp e).1
  have q := entry_at rows i
  rw [hb, Array.getElem?_eq_getElem hi] at q
  have q' : es[i] = entryOfKey (tupleKind (mixKind X.prog X.w)) b := Option.some.inj q
  exact ⟨hi, b.2.1, by rw [q']; rfl, e2, by rw [q']; exact e3⟩
end
/-- the items of the locked dict at d: each a new pair of the key's own tuple and the value -/
def Itit (d : Addr) (o : Obj) (kvs : List (List Key × V)) : It :=
  ⟨fun i H => H d = some (.frz o (.dT kvs)) ∧ i < kvs.length,
   fun i H x H' => ∃ (T q : Addr) (k : List Key) (v : V), kvs[i]? = some (k, v) ∧ H q = some (.tup (k.map kV)) ∧ x = .ref T ∧ H T = none ∧ H' = upd H T (.tup [.ref q, v]),
   fun i H => H d = some (.frz o (.dT kvs)) ∧ kvs.length ≤ i⟩
theorem turn_itemsT {P : Program} {w : World} {K : PySem.W.Frag} {d : Addr} {o : Obj} {es : Array DictEntry} {ep : Nat} {kvs : List (List Key × V)} {elts : List Expr} {kk : Nat} {tpos : Pos} (it : Addr) (hod : o.data = .dict es ep) :
    Turn P w K (.Tuple elts kk tpos) (Itit d o kvs) [it] it (fun i h => ∃ ok ov, IsItemIter h it d i kvs.length ep ok ov) where
  mem := by simp
  obj := fun i h ⟨ok, ov, e⟩ b hb => by
    rw [List.mem_singleton.mp hb]
    exact ⟨_, e, fun v z => nomatch z⟩
  keep := fun i h h' ⟨ok, ov, e⟩ k => ⟨ok, ov, k it (by simp) _ e⟩
  item := by
    rintro X rfl rfl rfl hc i pins s σ H E I hf ⟨ok, ov, he⟩ ⟨hd, hi⟩
    obtain ⟨_, es', ep', hdt, raw, hsz, ent⟩ := I.entriesT hd
    obtain ⟨rfl, rfl⟩ := dict_ep hod hdt
    obtain ⟨⟨k, v⟩, hkv⟩ : ∃ p, kvs[i]? = some p := ⟨kvs[i], List.getElem?_eq_getElem hi⟩
    obtain ⟨hi', q, hkey, hq, rv⟩ := ent i k v hkv
    rw [← hsz] at he
    have hlt : it < s.heap.objs.size := Heap.lt_size he
    refine DT.nextI he raw hi' fun h' out laid grown kept => ?_
    refine ⟨_, rfl, wpAny_letOwnedTupleGo_items (s := { s with heap := h' }) out fun h'' he' sb => ?_⟩
    have laid2 : h''.get? s.heap.objs.size = some { cls := .type "tuple", data := .seq #[es'[i].key, es'[i].val] } := (sb.2 _ (Nat.ne_of_gt hlt)).trans laid
    have pair : ObjOk X.prog X.w (upd H s.heap.objs.size (.tup [.ref q, v])) h'' s.heap.objs.size (.tup [.ref q, v]) :=
      ⟨by show 2 ≤ sizeLine; decide, [es'[i].key, es'[i].val], .cons hkey (.cons rv .nil), ⟨_, laid2, rfl, _, rfl⟩⟩
    have I1 : Inv X pins σ (upd H s.heap.objs.size (.tup [.ref q, v])) { s with heap := h'' } :=
      I.turnedNew (t' := s.toks) (ch := [it]) (fun b ob hb e => (sb.2 b (fun z => hb (List.mem_singleton.mpr z))).trans (kept b ob (fun z => hb (List.mem_singleton.mpr z)) e)) hf (Nat.le_refl _) pair
    refine ⟨.ref s.heap.objs.size, _, I1, rfl, ⟨_, q, k, v, hkv, hq, rfl, I.hok.fresh (Nat.le_refl _), rfl⟩, ⟨es'[i].key, es'[i].val, by rw [← hsz]; exact he'⟩, fun b hb => ?_⟩
    rw [List.mem_singleton.mp hb, upd_ne (Nat.ne_of_lt hlt)]
    exact (hf it (by simp)).1
  done := by
    rintro X rfl rfl rfl hc i pins s σ H E I hf ⟨ok, ov, he⟩ ⟨hd, hi⟩
    obtain ⟨f0, f1, f2, f3, f4, f5⟩ := hf it (by simp)
    obtain ⟨_, es', ep', hdt, raw, hsz, ent⟩ := I.entriesT hd
    obtain ⟨rfl, rfl⟩ := dict_ep hod hdt
    rw [← hsz] at he
    exact DT.endI (I.ok.hd hc) he raw (by omega) fun h' eb => ⟨rfl, I.turned (t' := s.toks) (fun b ob hb e => eb b ob hb e) f0 f1 f3 f4 f5⟩
  self := fun A i s Q E ⟨_, _, e⟩ h => PySem.W.kcp_self e h
/-- for a, b in e.items(): e a locked dict of tuple keys -/
def iItemsT (td : TE) : TI := fun σ H R => td σ H fun x H1 => ∃ d o kvs, x = .ref d ∧ H1 d = some (.frz o (.dT kvs)) ∧ R (Itit d o kvs) H1
theorem pi_itemsT {X : Cx} {e : Expr} {td : TE} {apos cpos : Pos} {elts : List Expr} {kk : Nat} {tpos : Pos} (he : PE X e td) (hbase : attributeBase e "items" X.env (eval e X.env) = eval e X.env := by rfl) (hline : (apos.endLine == cpos.line) = true := by rfl) :
    PI X (.Tuple elts kk tpos) (.Call (.Attribute e "items" apos) [] [] cpos) (iItemsT td) := by
  refine ⟨fun pins s σ H R I h => ?_⟩
  refine wpAny_Call_method (T := "dict") (id := "dict.items") hbase rfl hline F.plainAttrs_dict F.slot_dict_items F.type_dict_items (thn (he.run pins s σ H _ I h) fun u s1 ⟨x, H1, I1, rx, d, o, kvs, ex, hd, q⟩ => ?_)
  subst ex
  obtain rfl : u = Value.ref d := rx
  obtain ⟨notSys, es, ep, hdt, raw, hsz, ent⟩ := I1.entriesT hd
  refine ⟨raw.typeIs, fun b z => ?_, ?_⟩
  · cases z
    obtain ⟨ob, h1, h2, h3⟩ := raw
    exact ⟨ob, h1, h2.2.1⟩
  have I2 : Inv X pins σ H1 { s1 with heap := s1.heap.push { cls := .type "dict_items", data := .fields #[.ref d] } } := I1.kept (t' := s1.toks) fun b ob q => Heap.get?_push_of_some _ q
  have walk : wpAny (model X.prog X.w) X.A (pyIter (.ref s1.heap.objs.size)) (PIE X pins σ (.Tuple elts kk tpos) R) X.xe { s1 with heap := s1.heap.push { cls := .type "dict_items", data := .fields #[.ref d] } } := by
    refine DT.iterI (d := d) ⟨_, Heap.get?_push_size _ rfl, rfl, rfl⟩ (raw.push _) (pi_one (tk := s1.toks) I2 _ (turn_itemsT _ hdt) ⟨.none, .none, ?_⟩ q)
    rw [← hsz]
    exact Heap.get?_push_size _ rfl
  show wpAny _ _ (callWith cpos (.builtin "dict.items") [.ref d] [] []) _ X.xe s1
  exact method_meetsIn F.slot_dict_items F.entry_dict_items rfl (PySem.evalArgs_none ⟨rfl, raw.typeIs, F.args_dict_items_1 _, _, DT.meetsItems (es := es) (ep := ep) notSys, raw, walk⟩)
end L2

set_option Elab.async false
set_option maxRecDepth 100000
set_option maxHeartbeats 4000000
namespace L2
open PySem PySem.Spec PyProof.Rows
set_option linter.unusedVariables false
/-! one core for comprehensions that gather into any thing: what is laid first, and what a turn adds, are parameters -/
section
variable {X : Cx}
/-- the walk of a comprehension that gathers at D: o0 is what stands there first; add says what one turn does to it -/
def tGather (o0 : Addr → HO) (wi : TI) (g : TG) (tt : TT) (add : Addr → St → Hp → (Hp → Prop) → Prop) (vs : List Nat) : TE := fun σ H Q =>
  wi σ H fun J H1 => ∀ D, H1 D = none → ∃ W : Nat → Nat → Hp → Prop, (∃ m, W 0 m (upd H1 D (o0 D))) ∧ ∀ i m H, W i m H →
    (J.stop i H ∧ Q (.ref D) H) ∨
    (J.go i H ∧ ∃ Nx : Hp → Prop, (∀ H', Nx H' → ∃ m', m' < m ∧ W (i + 1) m' H') ∧
      ∀ x H', J.yld i H x H' → g x (wipe σ vs) H' fun σ2 H2 => wipe σ2 vs = wipe σ vs ∧ tt σ2 H2 fun b H3 => if b = true then add D σ2 H3 Nx else Nx H3)
/-- one turn as the machine does it: the next thing, the target, the tests, then Body or the way back -/
def TurnIs (P : Program) (w : World) (A : Around) (target iter : Expr) (ifs : List Expr) (it : Value) (env : Env) (R : Result → Shared → Prop) (Body : (Shared → Prop) → Shared → Prop) (back : Shared → Prop) (s : Shared) : Prop :=
  wpAny (model P w) A (pyNext it) (fun r s₁ => match r with
    | none => R (.ok .next) s₁
    | some v => wpAny (model P w) A (letOwnedTupleGo target it v) (fun _ s₁' =>
        wpAny (model P w) A (assign target env v) (fun _ s₂ =>
          wpAny (model P w) A (forIn ifs true fun c r => if r = true then do let ok ← isTrue c env (eval c env); pure (ForInStep.yield ok) else pure (ForInStep.yield r))
            (fun ok s₃ => if ok = true then Body back s₃ else back s₃) (notedBy (model P w) A env fun e s' => R (.error e) s') s₂)
          (notedBy (model P w) A env fun e s' => R (.error e) s') s₁')
        (notedBy (model P w) A env fun e s' => R (.error e) s') s₁)
    (notedBy (model P w) A env fun e s' => R (.error e) s') s
variable {pins : List (Addr × Obj)} {s : Shared} {σ : L2.St} {H : Hp} {Q : VK} {node tg iter : Expr} {ifs : List Expr} {scope : Scope} {own : List (PySem.Str × Nat)} {pos' : Pos} {wi : TI} {g : TG} {tt : TT}
  {add : Addr → L2.St → Hp → (Hp → Prop) → Prop} {o0 : Addr → HO} {ob : Obj} {mk : Sem Value} {use : Option (Value → Sem Unit)} {Qf : Value → Shared → Prop} {Body : Value → Env → (Result → Shared → Prop) → (Shared → Prop) → Shared → Prop}
theorem gather_core (hc : X.calm = true) (hN : X.N.Nodup) (I : Inv X pins σ H s) (hi : PI X tg iter wi) (ok : BlkOk X.N X.env.scope scope own) (hcl : clausesOf node = [⟨tg, iter, ifs, 0⟩])
    (hmk : ∀ (A : Around) (E : Value → Shared → Prop) (s : Shared) (Q : Value → Shared → Prop), Q (.ref s.heap.objs.size) { s with heap := s.heap.push ob } → wpAny (model X.prog X.w) A mk Q E s)
    (hob : ∀ (h : Heap) (H : Hp), sysModules < h.objs.size → ObjOk X.prog X.w H (h.push ob) h.objs.size (o0 h.objs.size))
    (hloop : ∀ (it : Value) (D : Addr) (env : Env) (R : Result → Shared → Prop) (I : Nat → Shared → Prop), (∀ n s, I n s → TurnIs X.prog X.w X.A tg iter ifs it env R (Body (.ref D) env R) (fun s' => ∃ m, m < n ∧ I m s') s) →
      ∀ n s, I n s → codeAny (model X.prog X.w) X.A (.compLoop node 0 it (.ref D) env) R s)
    (hstart : ∀ (it acc : Value) (env : Env) (R : Result → Shared → Prop) (s : Shared), codeAny (model X.prog X.w) X.A (.compLoop node 0 it acc env) R s →
      wpAny (model X.prog X.w) X.A (pyIter it) (fun it' s' => codeAny (model X.prog X.w) X.A (.compLoop node 0 it' acc env) R s') (notedBy (model X.prog X.w) X.A env fun x s' => R (.error x) s') s →
      codeAny (model X.prog X.w) X.A (.compStart node 0 it acc env) R s)
    (hg : ∀ (s : Shared) (H : Hp) (C : Addr) (cl : List (PySem.Str × Addr)) (fp : List Addr), PG (X.blk s H scope (compEnvC scope cl C X.env) fp) tg g)
    (ht : ∀ (s : Shared) (H : Hp) (C : Addr) (cl : List (PySem.Str × Addr)) (fp : List Addr), PTs (X.blk s H scope (compEnvC scope cl C X.env) fp) ifs tt)
    (hadd : ∀ (s : Shared) (H : Hp) (C : Addr) (cl : List (PySem.Str × Addr)) (fp : List Addr) (D : Addr) (R : Result → Shared → Prop) (Nx : Hp → Prop) (back : Shared → Prop) (pins' : List (Addr × Obj)) (σ2 : L2.St) (H3 : Hp) (s3 : Shared),
      Inv (X.blk s H scope (compEnvC scope cl C X.env) fp) pins' σ2 H3 s3 → add D σ2 H3 Nx → (∀ s' H', Inv (X.blk s H scope (compEnvC scope cl C X.env) fp) pins' σ2 H' s' → Nx H' → back s') → Body (.ref D) (compEnvC scope cl C X.env) R back s3)
    (hs : ∀ x, foldedSetIterable iter X.env x = pure x) (h : tGather o0 wi g tt add (own.map (·.2)) σ H Q)
    (hRR : ∀ D C s' m H', Inv X pins σ H' s' → Q (.ref D) H' → s'.heap.Ns C m → FpOk X pins H' C → compPost (model X.prog X.w) X.A X.xe use Qf (.ref D) C (.ok .next) s') :
    wpAny (model X.prog X.w) X.A (comprehension node scope X.env pos' mk false (eval iter X.env) use) Qf X.xe s := by
  have free : ∀ y ∈ scope.names, y.2 = .free → ∃ c, X.env.cells.lookup y.1 = some c := fun y hy e => (ok.free y hy e).elim (fun k => I.ok.has _ (.inl k)) (fun k => I.ok.has _ (.inr k))
  refine wpAny_comprehension_free (use := use) hcl hs (closure_ok free) ok.kind (fun y hy e => by rw [ok.uniq y hy, e]) (thn (hi.run pins s σ H _ I h) fun xv s1 hx => thn hx fun itv s2 h2 => ?_)
  obtain ⟨it, fp, tn, J, H2, e, I2, T, st2, f2, q⟩ := h2
  subst e
  refine hmk _ _ _ _ (newEnv_comp ?_)
  obtain ⟨W, ⟨m0, w0⟩, turn⟩ := q s2.heap.objs.size (I2.hok.fresh (Nat.le_refl _))
  have I3 : Inv X pins σ (upd H2 s2.heap.objs.size (o0 s2.heap.objs.size)) ({ s2 with heap := s2.heap.push ob } : Shared) :=
    I2.laid (t' := s2.toks) (fun b o e => Heap.get?_push_of_some _ e) (Nat.le_refl _) (hob _ _ I2.big)
  have f3 : ∀ b ∈ fp, FpOk X pins (upd H2 s2.heap.objs.size (o0 s2.heap.objs.size)) b ∧ b < (s2.heap.push ob).objs.size := fun b hb => by
    obtain ⟨o, e, _⟩ := T.obj _ _ st2 b hb
    have lt := Heap.lt_size e
    exact ⟨⟨by rw [upd_ne (Nat.ne_of_lt lt)]; exact (f2 b hb).1, (f2 b hb).2⟩, by rw [Heap.size_push]; exact Nat.lt_succ_of_lt lt⟩
  have st3 : tn 0 (s2.heap.push ob) := T.keep _ _ _ st2 fun b _ o e => Heap.get?_push_of_some _ e
  generalize hD : s2.heap.objs.size = D at I3 w0 turn f3 ⊢
  generalize hs3 : ({ s2 with heap := s2.heap.push ob } : Shared) = s3 at I3 ⊢
  have h3 : s3.heap = s2.heap.push ob := by rw [← hs3]
  rw [← h3] at f3 st3
  generalize upd H2 D (o0 D) = H3 at I3 w0 f3
  have I4 := block_start I3 ok hN f3
  have pg := hg s3 H3 s3.heap.objs.size (cellsFrom (s3.heap.objs.size + 1) scope.names (cloFrom X.env.cells scope.names [])) fp
  have pt := ht s3 H3 s3.heap.objs.size (cellsFrom (s3.heap.objs.size + 1) scope.names (cloFrom X.env.cells scope.names [])) fp
  have pa := hadd s3 H3 s3.heap.objs.size (cellsFrom (s3.heap.objs.size + 1) scope.names (cloFrom X.env.cells scope.names [])) fp
  show codeAny _ _ (.compStart node 0 (.ref it) (.ref D) (compEnvC scope (cellsFrom (s3.heap.objs.size + 1) scope.names (cloFrom X.env.cells scope.names [])) s3.heap.objs.size X.env)) (compPost (model X.prog X.w) X.A X.xe use Qf (.ref D) s3.heap.objs.size) { s3 with heap := pushCells (s3.heap.push { cls := .type "dict", data := .dict #[] }) scope.names }
  generalize hce : compEnvC scope (cellsFrom (s3.heap.objs.size + 1) scope.names (cloFrom X.env.cells scope.names [])) s3.heap.objs.size X.env = ce at I4 pg pt pa ⊢
  have cL : ce.locals = s3.heap.objs.size := by subst hce; rfl
  generalize hs4 : ({ s3 with heap := pushCells (s3.heap.push { cls := .type "dict", data := .dict #[] }) scope.names } : Shared) = s4 at I4 ⊢
  have st4 : tn 0 s4.heap := T.keep _ _ _ st3 fun b _ o e => by rw [← hs4]; exact pushCells_keeps _ _ _ _ (Heap.get?_push_of_some _ e)
  have still : ∀ {σ' : L2.St} {H' : Hp} {s' : Shared}, Inv (X.blk s3 H3 scope ce fp) [] σ' H' s' → (∀ b ∈ fp, H' b = none) → ∀ b ∈ fp, FpOk (X.blk s3 H3 scope ce fp) [] H' b := fun I' hn b hb =>
    ⟨hn b hb, (I'.ok.exf b hb).1, I'.ok.exfs b hb, .inl hb, fun x c e => (I'.ok.exf b hb).2 x c e, fun p hp => absurd (show p ∈ ([] : List (Addr × Obj)) ++ [] from hp) (by simp)⟩
  have loop := hloop (.ref it) D ce (compPost (model X.prog X.w) X.A X.xe use Qf (.ref D) s3.heap.objs.size)
    (fun n s' => ∃ i H', Inv (X.blk s3 H3 scope ce fp) [] (wipe σ (own.map (·.2))) H' s' ∧ tn i s'.heap ∧ (∀ b ∈ fp, H' b = none) ∧ W i n H') ?_ m0 s4 ⟨0, H3, I4, st4, fun b hb => (f3 b hb).1.1, w0⟩
  · exact hstart _ _ _ _ _ loop (T.self X.A 0 _ _ _ st4 loop)
  rintro n s5 ⟨i, H5, I5, st5, n5, w5⟩
  rcases turn i n H5 w5 with ⟨stop, qq⟩ | ⟨go, Nx, hNx, step⟩
  · refine thnF (T.done (X.blk s3 H3 scope ce fp) rfl rfl rfl hc i [] s5 _ H5 (fun _ _ => False) I5 (still I5 n5) st5 stop) fun r s6 ⟨hr, I6⟩ => ?_
    subst hr
    have I7 : Inv X pins σ H5 s6 := I3.call' (ch := fp) I6.os I6.base I6.hok I6.bare fun b hb => ⟨(f3 b hb).1.2.2.2.1, (f3 b hb).1.2.1, (f3 b hb).1.2.2.2.2.1, (f3 b hb).1.2.2.2.2.2⟩
    have nC : H5 s3.heap.objs.size = none := by
      have z : H5 ce.locals = none := I6.free
      rwa [cL] at z
    obtain ⟨m, hn, _⟩ := I6.loc
    have hn : s6.heap.Ns ce.locals m := hn
    rw [cL] at hn
    exact hRR D s3.heap.objs.size s6 m H5 I7 qq hn (I3.fpOk (Nat.le_refl _) nC)
  · refine thnF (T.item (X.blk s3 H3 scope ce fp) rfl rfl rfl hc i [] s5 _ H5 (fun _ _ => False) I5 (still I5 n5) st5 go) fun r s6 ⟨u, hr, h6⟩ => ?_
    subst hr
    refine thnF h6 fun _ s7 ⟨x, H7, I7, r7, y7, st7, n7⟩ => ?_
    refine thnF (pg.run _ s7 _ H7 x u _ (I7.pinned (still I7 n7) (T.obj _ _ st7)) r7 (step x H7 y7)) fun _ s8 ⟨σ8, H8, I8, hw8, q8⟩ => ?_
    refine thnF (pt.run _ s8 σ8 H8 _ I8 q8) fun b s9 ⟨H9, I9, q9⟩ => ?_
    have again : ∀ (s' : Shared) (H' : Hp), Inv (X.blk s3 H3 scope ce fp) ([] ++ pinsAt fp s7.heap) σ8 H' s' → Nx H' → ∃ m, m < n ∧ ∃ i H', Inv (X.blk s3 H3 scope ce fp) [] (wipe σ (own.map (·.2))) H' s' ∧ tn i s'.heap ∧ (∀ b ∈ fp, H' b = none) ∧ W i m H' := fun s' H' I' nx => by
      obtain ⟨m', hm, w'⟩ := hNx H' nx
      have stands : ∀ b ∈ fp, ∀ o, s7.heap.get? b = some o → s'.heap.get? b = some o ∧ H' b = none := fun b hb o e =>
        let z := I'.pin (b, o) (List.mem_append_right _ (List.mem_append_right _ (mem_pinsAt hb e)))
        ⟨z.1, z.2.1⟩
      refine ⟨m', hm, i + 1, H', (I'.unpinned (pins := [])).weak (by rw [← hw8, wipe_length]) (fun j v e => ?_), T.keep _ _ _ st7 fun b hb o e => (stands b hb o e).1, fun b hb => ?_, w'⟩
      · rw [← hw8] at e
        exact (wipe_some e).1
      · obtain ⟨o, e, _⟩ := T.obj _ _ st7 b hb
        exact (stands b hb o e).2
    cases b with
    | false => exact again s9 H9 I9 q9
    | true => exact pa D _ Nx _ _ σ8 H9 s9 I9 q9 again
end
end L2

set_option Elab.async false
set_option maxRecDepth 100000
set_option maxHeartbeats 4000000
namespace L2
open PySem PySem.Spec PyProof.Rows PpSet
set_option linter.unusedVariables false
/-! the core taken twice: sets of ints, dicts with tuple keys; len of a set -/
/-- a set as it is made -/
abbrev bareSet (w : World) : Obj := { cls := .type "set", dict := none, data := .set #[] 0 (.fresh 0 0 (!w.params.followText "set-order")) }
section
variable {X : Cx}
/-- a turn of {e for ..}, e an int -/
def addI (w : World) (te : TE) : Addr → L2.St → Hp → (Hp → Prop) → Prop := fun D σ H Nx => te σ H fun y H1 => ∃ (k : Int) (S : Int → Bool) (n : Nat), y = .int k ∧ H1 D = some (SetO w D S n) ∧ n + 1 < scanBound ∧
  Nx (upd H1 D (SetO w D (fun j => S j || decide (j = k)) (if S k = true then n else n + 1)))
theorem pe_scI {elt tg iter : Expr} {ifs : List Expr} {scope : Scope} {own : List (PySem.Str × Nat)} {pos : Pos} {wi : TI} {g : TG} {tt : TT} {te : TE} (hc : X.calm = true) (hN : X.N.Nodup) (hi : PI X tg iter wi) (ok : BlkOk X.N X.env.scope scope own)
    (hg : ∀ (s : Shared) (H : Hp) (C : Addr) (cl : List (PySem.Str × Addr)) (fp : List Addr), PG (X.blk s H scope (compEnvC scope cl C X.env) fp) tg g)
    (ht : ∀ (s : Shared) (H : Hp) (C : Addr) (cl : List (PySem.Str × Addr)) (fp : List Addr), PTs (X.blk s H scope (compEnvC scope cl C X.env) fp) ifs tt)
    (he : ∀ (s : Shared) (H : Hp) (C : Addr) (cl : List (PySem.Str × Addr)) (fp : List Addr), PE (X.blk s H scope (compEnvC scope cl C X.env) fp) elt te)
    (hs : ∀ x, foldedSetIterable iter X.env x = pure x := by intro _; rfl) :
    PE X (.SetComp elt [⟨tg, iter, ifs, 0⟩] scope pos) (tGather (fun D => SetO X.w D (fun _ => false) 0) wi g tt (addI X.w te) (own.map (·.2))) := by
  refine ⟨fun pins s σ H Q I h => ?_⟩
  rw [eval_SetComp]
  refine gather_core (ob := bareSet X.w) (mk := newSet (.type "set")) (o0 := fun D => SetO X.w D (fun _ => false) 0) (add := addI X.w te)
    (Body := fun acc env R back s => wpAny (model X.prog X.w) X.A (eval elt env) (fun x s4 => wpAny (model X.prog X.w) X.A (call (.builtin "set.add") [acc, x]) (fun _ s5 => back s5) (notedBy (model X.prog X.w) X.A env fun e s' => R (.error e) s') s4)
      (notedBy (model X.prog X.w) X.A env fun e s' => R (.error e) s') s)
    hc hN I hi ok rfl (fun A E s Q q => newSet_ok q) (fun h H hb => setO_new (setR_fresh X.w)) (fun it D env R I turn n s => compLoopS_any I turn n) (fun it acc env R s a b => codeAny_compStart_set a b) hg ht ?_ hs h ?_
  · intro s H C cl fp D R Nx back pins' σ2 H3 s3 I3 q3 k
    refine thnF ((he s H C cl fp).run _ s3 σ2 H3 _ I3 q3) fun z s4 ⟨yv, H4, I4, r4, n, S, m, ey, hD, room, nx⟩ => ?_
    subst ey
    obtain ⟨tk, rfl⟩ := r4
    refine setR_add (setO_get (X := X.blk s H scope (compEnvC scope cl C X.env) fp) I4 hD) room fun h' sb new => k _ _ (I4.write (e := D) (t' := s4.toks + 1) (by rw [hD]; trivial) (.inl rfl) (fun b u hb hu => (sb.2 b hb).trans hu) ?_ (setO_new new)) nx
    have ⟨o, _, _, _, ho, _⟩ := new
    exact ⟨o, ho⟩
  · intro D C s' m H' I' q hn ⟨f0, f1, f2, f3, f4, f5⟩
    exact ⟨m, hn, fun h'' sb => ⟨.ref D, H', I'.turned (t' := s'.toks) (fun b o hb e => (sb.2 b hb).trans e) f0 f1 f3 f4 f5, rfl, q⟩⟩
/-- len of such a set -/
def rLenSI (w : World) : List V → Hp → VK → Prop := fun xs H Q => ∃ (a : Addr) (S : Int → Bool) (n : Nat), xs = [.ref a] ∧ H a = some (SetO w a S n) ∧ Q (.int (n : Int)) H
theorem call_len_SI : CallR X (.builtin "len") (rLenSI X.w) := by
  intro pins s σ H vs us Q I r h
  obtain ⟨a, S, n, rfl, ha, q⟩ := h
  rw [Vals.ref1 r]
  obtain ⟨o, es, ep, t, ho, hex, hd, _, _, _, small, fits, hn, _⟩ := setO_get I ha
  have lim : es.size < 2 ^ 62 := Nat.lt_trans small (by unfold scanBound; decide)
  refine call_len_set ho hex hd fits (by omega) ⟨.int n, H, (I.tok _).tok _, ⟨_, by rw [hn]⟩, q⟩
/-- a turn of {k: e for ..}, k a tuple of ints and texts -/
def addT (tk tv : TE) : Addr → L2.St → Hp → (Hp → Prop) → Prop := fun D σ H Nx => tk σ H fun y H1 => tv σ H1 fun z H2 => ∃ (kvs : List (List Key × V)) (k : List Key) (b : Addr), y = .ref b ∧ H2 b = some (.tup (k.map kV)) ∧ H2 D = some (.dT kvs) ∧ kvs.length < sizeLine ∧
  Nx (upd H2 D (.dT (putK kvs k z)))
theorem pe_dcT {kx vx tg iter : Expr} {ifs : List Expr} {scope : Scope} {own : List (PySem.Str × Nat)} {pos : Pos} {wi : TI} {g : TG} {tt : TT} {tk tv : TE} (hu : X.A.units + 1 < cLine) (hc : X.calm = true) (hN : X.N.Nodup) (hi : PI X tg iter wi) (ok : BlkOk X.N X.env.scope scope own)
    (hg : ∀ (s : Shared) (H : Hp) (C : Addr) (cl : List (PySem.Str × Addr)) (fp : List Addr), PG (X.blk s H scope (compEnvC scope cl C X.env) fp) tg g)
    (ht : ∀ (s : Shared) (H : Hp) (C : Addr) (cl : List (PySem.Str × Addr)) (fp : List Addr), PTs (X.blk s H scope (compEnvC scope cl C X.env) fp) ifs tt)
    (hk : ∀ (s : Shared) (H : Hp) (C : Addr) (cl : List (PySem.Str × Addr)) (fp : List Addr), PE (X.blk s H scope (compEnvC scope cl C X.env) fp) kx tk)
    (he : ∀ (s : Shared) (H : Hp) (C : Addr) (cl : List (PySem.Str × Addr)) (fp : List Addr), PE (X.blk s H scope (compEnvC scope cl C X.env) fp) vx tv)
    (hs : ∀ x, foldedSetIterable iter X.env x = pure x := by intro _; rfl) :
    PE X (.DictComp kx vx [⟨tg, iter, ifs, 0⟩] scope pos) (tGather (fun _ => .dT []) wi g tt (addT tk tv) (own.map (·.2))) := by
  refine ⟨fun pins s σ H Q I h => ?_⟩
  rw [arm_eval_DictComp]
  refine gather_core (ob := { cls := .type "dict", data := .dict #[] }) (mk := newDict) (o0 := fun _ => .dT []) (add := addT tk tv)
    (Body := fun acc env R back s => match acc with
      | .ref D => wpAny (model X.prog X.w) X.A (eval kx env) (fun kv s4 => wpAny (model X.prog X.w) X.A (eval vx env) (fun vv s5 => wpAny (model X.prog X.w) X.A (dictSet D kv vv) (fun _ s6 => back s6) (notedBy (model X.prog X.w) X.A env fun e s' => R (.error e) s') s5)
          (notedBy (model X.prog X.w) X.A env fun e s' => R (.error e) s') s4) (notedBy (model X.prog X.w) X.A env fun e s' => R (.error e) s') s
      | _ => False)
    hc hN I hi ok rfl (fun A E s Q q => wpAny_newObj_type q) (fun h H hb => dt_empty h hb) (fun it D env R I turn n s => compLoop_anyD I turn n) (fun it acc env R s a b => codeAny_compStart_dict a b) hg ht ?_ hs h ?_
  · intro s H C cl fp D R Nx back pins' σ2 H3 s3 I3 q3 k
    refine thnF ((hk s H C cl fp).run _ s3 σ2 H3 _ I3 q3) fun z s4 ⟨yk, H4, I4, r4, q4⟩ => ?_
    refine thnF ((he s H C cl fp).run _ s4 σ2 H4 _ I4 q4) fun z2 s5 ⟨yv, H5, I5, r5, kvs, ks, b, ey, hb, hD, hz, nx⟩ => ?_
    subst ey
    cases (show z = Value.ref b from r4)
    obtain ⟨hl, hd, xs, rel, dd⟩ := dt_of I5.hok hD
    have hz' : xs.length ≤ sizeLine := by rw [← Paired.length rel]; exact hl
    have grown : (putK kvs ks yv).length ≤ sizeLine := by have := length_putK kvs ks yv; omega
    refine wpAny_dictSet_heap (hsz := hz') (show X.A.units < cLine by omega) (key_of I5.hok hb) dd fun h' dd' same => k _ _ ?_ nx
    obtain ⟨q, es, ep, hq, h2, h3, h4, _, h5⟩ := dd'
    refine d_write I5 (by rw [hD]; exact True.intro) same ⟨q, hq⟩ ⟨grown, hd, _, (rel.put ks hb r5).keeps fun c ys ec => ?_, q, es, ep, hq, h2, h3, h4, h5⟩
    rw [upd_ne (ne_of ec hD (fun z => nomatch z))]
    exact ec
  · intro D C s' m H' I' q hn ⟨f0, f1, f2, f3, f4, f5⟩
    exact ⟨m, hn, fun h'' sb => ⟨.ref D, H', I'.turned (t' := s'.toks) (fun b o hb e => (sb.2 b hb).trans e) f0 f1 f3 f4 f5, rfl, q⟩⟩
end
end L2

set_option Elab.async false
set_option maxRecDepth 100000
set_option maxHeartbeats 4000000
namespace L2
open PySem PySem.Spec PyProof.Rows
set_option linter.unusedVariables false
/-! sorted(d), d a dict whose keys are tuples of ints -/
def rSortDT (d : Nat) (B : Int) : List V → Hp → VK → Prop := fun vs H Q => ∃ (a : Addr) (kvs : List (List Key × V)) (nss : List (List Int)), vs = [V.ref a] ∧ Rd H a (.dT kvs) ∧ kvs.map (·.1) = nss.map (fun ns => ns.map Sum.inl) ∧ nss.length < 64 ∧
  (∀ ns ∈ nss, ns.length = d ∧ TS.Bd B ns) ∧
  ∀ (L : List (Addr × List Int)) (p : Addr), (L.map (·.2)).Perm nss → L.Pairwise (fun q r => TS.code B q.2 ≤ TS.code B r.2) → (∀ q ∈ L, H q.1 = some (.tup (q.2.map V.int))) → H p = none → Q (.ref p) (upd H p (.lst (L.map fun q => V.ref q.1)))
theorem inl_inj : ∀ {a b : List Int}, a.map (Sum.inl : Int → Key) = b.map Sum.inl → a = b
  | [], [], _ => rfl
  | x :: a, y :: b, e => by
    rw [List.map_cons, List.map_cons] at e
    injection e with e1 e2
    rw [Sum.inl.inj e1, inl_inj e2]
  | [], _ :: _, e => by cases e
  | _ :: _, [], e => by cases e
section
variable {X : Cx}
theorem cr_sortedDT {d : Nat} {B : Int} (hd1 : 1 ≤ d) (hc : X.calm = true) : CallR X (.builtin "sorted") (rSortDT d B) := by
  intro pins s σ H vs us Q I r h
  obtain ⟨a, kvs, nss, rfl, hR, hkeys, few, hB, q⟩ := h
  rw [Vals.ref1 r]
  obtain ⟨hz, notSys, ks, pairs, o, es, ep, ho, hx, hdt, rows, nd⟩ := (show ObjOk X.prog X.w H s.heap a (.dT kvs) from hR.ok I.hok)
  have l1 : es.size = ks.length := size_of_entries rows
  have l2 : kvs.length = ks.length := Paired.length pairs
  have l3 : kvs.length = nss.length := by have e := congrArg List.length hkeys; rwa [List.length_map, List.length_map] at e
  -- each row: its tuple, by number
  have row : ∀ (j : Nat) (x : List Key × Addr × Value), ks[j]? = some x → ∃ ns, nss[j]? = some ns ∧ H x.2.1 = some (.tup (ns.map V.int)) := fun j x hj => by
    have lt : j < kvs.length := by have := (List.getElem?_eq_some_iff.mp hj).1; omega
    obtain ⟨b, hb, e1, e2, _⟩ := paired_get pairs (List.getElem?_eq_getElem lt)
    rw [hj] at hb
    cases hb
    have e3 : (kvs.map (·.1))[j]? = some kvs[j].1 := by rw [List.getElem?_map, List.getElem?_eq_getElem lt]; rfl
    rw [hkeys, List.getElem?_map] at e3
    obtain ⟨ns, hns, e4⟩ := Option.map_eq_some_iff.mp e3
    refine ⟨ns, hns, ?_⟩
    rw [e2, ← e4, List.map_map]
    rfl
  refine Calls.call_function_entry kind_sorted plain_sorted entry_sorted (args_sorted1 _) ?_
  unfold Builtin.«sorted»
  refine wpAny_bind (m := checkCount "sorted" 1 1 _) (wpAny_pure ?_)
  refine wpAny_bind (PySem.W.kdu_collect (A := X.A.in1) (kdl_raw notSys hx hdt) (I.ok.hd hc) ho (by omega) fun h' tk acc kept its => ?_)
  have eq : acc.toList = ks.map fun x => Value.ref x.2.1 := by
    apply List.ext_getElem?
    intro j
    rw [List.getElem?_map]
    rcases Nat.lt_or_ge j ks.length with lt | ge
    · have hacc : j < acc.toList.length := by rw [Array.length_toList, its.1, l1]; exact lt
      obtain ⟨en, hen, hv⟩ := its.2 j acc.toList[j] (by rw [← Array.getElem?_toList]; exact List.getElem?_eq_getElem hacc)
      have qe := entry_at rows j
      rw [hen, List.getElem?_eq_getElem lt] at qe
      have e2 : en = entryOfKey (tupleKind (mixKind X.prog X.w)) ks[j] := Option.some.inj qe
      rw [List.getElem?_eq_getElem hacc, List.getElem?_eq_getElem lt, hv, e2]
      rfl
    · rw [List.getElem?_eq_none (by rw [Array.length_toList, its.1, l1]; exact ge), List.getElem?_eq_none ge]
      rfl
  have I1 : Inv X pins σ H { s with heap := h', toks := tk } := I.kept kept
  refine wpAny_bind (wpAny_newList ?_ (by rw [eq, List.length_map, sizeLine_eq]; omega))
  have made : (h'.push (seqObj "list" acc.toList.toArray 0)).get? h'.objs.size = some (seqObj "list" acc.toList.toArray 0) := Heap.get?_push_size _ rfl
  generalize hvs : acc.toList = vs at made eq ⊢
  have I2 : Inv X pins σ H { s with heap := h'.push (seqObj "list" vs.toArray 0), toks := tk } := I1.kept (t' := tk) fun b o e => Heap.get?_push_of_some _ e
  have tups : ∀ v ∈ vs, ∃ (b : Addr) (ns : List Int), v = .ref b ∧ ns ∈ nss ∧ H b = some (.tup (ns.map V.int)) ∧ TS.TupInts (h'.push (seqObj "list" vs.toArray 0)) v ns := fun v hv => by
    rw [eq] at hv
    obtain ⟨x, hx, rfl⟩ := List.mem_map.mp hv
    obtain ⟨j, hj⟩ := List.getElem?_of_mem hx
    obtain ⟨ns, h1, h2⟩ := row j x hj
    obtain ⟨_, ws, rv, it⟩ := (show ObjOk X.prog X.w H (h'.push (seqObj "list" vs.toArray 0)) x.2.1 (.tup (ns.map V.int)) from I2.hok _ _ h2)
    exact ⟨_, ns, rfl, List.mem_of_getElem? h1, h2, _, ws.toArray, rfl, it, by simpa using rv.ints⟩
  show wpAny _ _ _ _ _ { s with heap := h'.push (seqObj "list" vs.toArray 0), toks := tk }
  refine wpAny_bind (wpAny_holding (TS.call_sort_tups (d := d) (B := B) (s := { s with heap := h'.push (seqObj "list" vs.toArray 0), toks := tk }) made (by rw [eq, List.length_map]; omega) hd1 (fun v hv => ?_) fun out a1 a2 => ?_))
  · obtain ⟨b, ns, _, h1, _, h2⟩ := tups v hv
    exact ⟨ns, h2, (hB ns h1).1, (hB ns h1).2⟩
  obtain ⟨e', he'⟩ := sortedHeap_at (vs := vs) (out := out) made
  have kept2 : ∀ b u, h'.get? b = some u → (sortedHeap (h'.push (seqObj "list" vs.toArray 0)) h'.objs.size vs out).get? b = some u := fun b u e => by
    have hb : b < h'.objs.size := Heap.lt_size e
    rw [sortedHeap_old (Nat.ne_of_lt hb) (by rw [size_push']; exact Nat.lt_succ_of_lt hb)]
    exact Heap.get?_push_of_some _ e
  -- the rows that come out
  have L0 : ∀ ws : List Value, (∀ v ∈ ws, v ∈ vs) → ∃ L : List (Addr × List Int), ws = L.map (fun q => Value.ref q.1) ∧ L.map (·.2) = ws.map (TS.intsOf (h'.push (seqObj "list" vs.toArray 0))) ∧ ∀ q ∈ L, H q.1 = some (.tup (q.2.map V.int)) := by
    intro ws
    induction ws with
    | nil => intro _; exact ⟨[], rfl, rfl, fun q hq => by cases hq⟩
    | cons v ws ih =>
      intro hv
      obtain ⟨b, ns, e, _, h2, h3⟩ := tups v (hv v List.mem_cons_self)
      obtain ⟨L, e1, e2, e3⟩ := ih fun u hu => hv u (List.mem_cons_of_mem _ hu)
      refine ⟨(b, ns) :: L, by rw [List.map_cons, e, e1], by rw [List.map_cons, List.map_cons, e2, h3.ints], fun q hq => ?_⟩
      rcases List.mem_cons.mp hq with rfl | z
      · exact h2
      · exact e3 q z
  obtain ⟨L, e1, e2, e3⟩ := L0 out.toList fun v hv => a1.mem_iff.mp hv
  have lenL : (L.map fun q => V.ref q.1).length ≤ sizeLine := by
    have e4 := a1.length_eq
    rw [e1, eq, List.length_map, List.length_map] at e4
    rw [List.length_map, e4, sizeLine_eq]; omega
  refine wpAny_pure ⟨_, rfl, .ref h'.objs.size, upd H h'.objs.size (.lst (L.map fun q => V.ref q.1)), I1.laid (t' := tk) kept2 (Nat.le_refl _)
    (show ObjOk X.prog X.w _ _ _ (.lst (L.map fun q => V.ref q.1)) from ⟨lenL, out.toList, e', by rw [e1]; exact vals_of_refs L, he'⟩), rfl, q L _ ?_ ?_ e3 (I1.hok.fresh (Nat.le_refl _))⟩
  · rw [e2]
    have all : ∀ F : Value → List Int, (∀ (j : Nat) (x : List Key × Addr × Value), ks[j]? = some x → nss[j]? = some (F (.ref x.2.1))) → vs.map F = nss := fun F hF => by
      rw [eq, List.map_map]
      apply List.ext_getElem?
      intro j
      rw [List.getElem?_map]
      cases hj : ks[j]? with
      | none => rw [List.getElem?_eq_none (by have := List.getElem?_eq_none_iff.mp hj; omega)]; rfl
      | some x => rw [hF j x hj]; rfl
    refine (a1.map _).trans (List.Perm.of_eq (all _ fun j x hj => ?_))
    obtain ⟨ns, h1, h2⟩ := row j x hj
    obtain ⟨_, ws, rv, it⟩ := (show ObjOk X.prog X.w H (h'.push (seqObj "list" vs.toArray 0)) x.2.1 (.tup (ns.map V.int)) from I2.hok _ _ h2)
    rw [h1]
    exact congrArg some (show TS.TupInts (h'.push (seqObj "list" vs.toArray 0)) (.ref x.2.1) ns from ⟨_, ws.toArray, rfl, it, by simpa using rv.ints⟩).ints.symm
  · rw [e1, List.pairwise_map] at a2
    have e5 : ∀ q ∈ L, TS.intsOf (h'.push (seqObj "list" vs.toArray 0)) (.ref q.1) = q.2 := fun q hq => by
      obtain ⟨_, ws, rv, it⟩ := (show ObjOk X.prog X.w H (h'.push (seqObj "list" vs.toArray 0)) q.1 (.tup (q.2.map V.int)) from I2.hok _ _ (e3 q hq))
      exact (show TS.TupInts (h'.push (seqObj "list" vs.toArray 0)) (.ref q.1) q.2 from ⟨_, ws.toArray, rfl, it, by simpa using rv.ints⟩).ints
    refine List.Pairwise.imp_of_mem (fun {x y} hx hy hle => ?_) a2
    rw [← e5 x hx, ← e5 y hy]
    exact hle
end
end L2

set_option Elab.async false
set_option maxRecDepth 100000
set_option maxHeartbeats 4000000
namespace L2
open PySem PySem.Spec PyProof.Rows
set_option linter.unusedVariables false
/-! set(xs), xs a list of ints, as a set that can be sorted -/
section
variable {P : Program} {w : World} {A : Around} {E : Value → Shared → Prop} {s : Shared}
theorem set_of_list {l : Addr} {items : Array Value} (ns : List Int) {Q : Value → Shared → Prop} (hh : A.handled = none) (hl : s.heap.IsList l items) (hit : IntsAre items.toList ns) (hb : ns.length + 1 < scanBound)
    (h : ∀ (h' : Heap) (tk c : Nat), SetR w h' s.heap.objs.size (fun j => decide (j ∈ ns)) c → c ≤ ns.length → (∀ b o, s.heap.get? b = some o → h'.get? b = some o) → Q (.ref s.heap.objs.size) { s with heap := h', toks := tk }) :
    wpAny (model P w) A (call (.type "set") [.ref l]) Q E s := by
  have sizes : items.size = ns.length := by rw [← Array.length_toList]; exact IntsAre.length hit
  obtain ⟨c, tl, hmro⟩ := F.called_set.mro
  have hmade := F.called_set.made
  have hsub := F.called_set.sub
  refine wpAny_call (codeAny_of_tree ?_)
  show wpAny (model P w) _ (callAny (.type "set") _) _ _ s
  refine wpAny_pure ⟨Code.quiet_builtin _ (by decide +kernel), codeAny_builtin F.entry_type_call ?_⟩
  rw [Around.under_plain (weight_type_call_type "set" [.ref l] []) rfl]
  have h1 := F.called_set.notType
  have h2 := F.called_set.canCreate
  have hct := F.typeCall_set_1 (.ref l)
  repeat (any_goals (first | assumption | wp_step))
  refine codeAny_mono (code_set_led1 (.ref l) (E := E) (Q₁ := fun obj s₁ => obj = .ref s.heap.objs.size ∧ s₁ = { s with heap := s.heap.push (bareSet w) }) ⟨rfl, rfl⟩) fun r s₁ hr => ?_
  match r, hr with
  | .error e, hr => exact hr
  | .ok .next, hr | .ok .brk, hr | .ok .cont, hr => exact hr.elim
  | .ok (.ret obj), hr =>
    obtain ⟨rfl, rfl⟩ := hr
    have laid : (s.heap.push (bareSet w)).get? s.heap.objs.size = some (bareSet w) := Heap.get?_push_size _ rfl
    have hT : Shared.TypeIs { s with heap := s.heap.push (bareSet w) } (.ref s.heap.objs.size) "set" := ⟨_, laid, rfl⟩
    have hli := F.called_set.init.lookup
    have hbi := F.called_set.init.bind (.ref s.heap.objs.size)
    repeat (any_goals (first | assumption | wp_step))
    refine codeAny_mono (codeAny_call_builtin (R := wants (fun r s₂ => r = .none ∧ ∃ h' tk c, s₂ = { s with heap := h', toks := tk } ∧ SetR w h' s.heap.objs.size (fun j => decide (j ∈ ns)) c ∧ c ≤ ns.length ∧
        (∀ b o, s.heap.get? b = some o → h'.get? b = some o)) E) F.called_set.init.plain F.entry_set_init (check_set_init_1 hT ?_)) fun r₂ s₂ hr₂ => ?_
    · obtain ⟨⟨ocls, odict, odata, oslots⟩, hol, hcl, nl, hdl⟩ := hl
      simp only at hcl hdl
      subst hcl; subst hdl
      have lS : l < s.heap.objs.size := Heap.lt_size hol
      have hol' : (s.heap.push (bareSet w)).get? l = some { cls := .type "list", dict := odict, data := .seq items nl, slots := oslots } := Heap.get?_push_of_some _ hol
      have hsls := F.sub_list_set
      have hslf := F.sub_list_frozenset
      have hne : (Value.type "list" == Value.type "dict") = false := by decide
      have hl1 : (s.heap.push (bareSet w)).IsList l items := ⟨_, hol', rfl, nl, rfl⟩
      unfold Builtin.«set.__init__» noKeywords Builtin.Frozenset.updateFrom
      generalize hPI : pyIter = PI
      wp_walk
      subst hPI
      refine wpAny_pyIter_list hl1 ?_
      refine wpAny_bind (wpAny_runValue ?_)
      have hh3 : A.in1.in1.in1.handled = none := by simp [hh]
      have pz : (s.heap.push (bareSet w)).objs.size = s.heap.objs.size + 1 := Heap.size_push ..
      have hneI : l ≠ (s.heap.push (bareSet w)).objs.size := by rw [pz]; exact Nat.ne_of_lt (Nat.lt_succ_of_lt lS)
      have away : s.heap.objs.size ∉ [(s.heap.push (bareSet w)).objs.size, l] := by
        rw [pz]; simp only [List.mem_cons, List.not_mem_nil, or_false, not_or]
        exact ⟨Nat.ne_of_lt (Nat.lt_succ_self _), Nat.ne_of_gt lS⟩
      have hval : ∀ (i : Nat) (v : Value), items[i]? = some v → ∃ k t, ns[i]? = some k ∧ v = .int k t := fun i v hv => by
        have hi : i < ns.length := by rw [← sizes]; exact (Array.getElem?_eq_some_iff.mp hv).1
        obtain ⟨t, e⟩ := IntsAre.int_at hit i v (by rw [Array.getElem?_toList]; exact hv)
        refine ⟨ns[i], t, List.getElem?_eq_getElem hi, ?_⟩
        rw [e, List.getD_eq_getElem?_getD, List.getElem?_eq_getElem hi]
        rfl
      refine set_update_ints ((Walks.list hh3 _ l hneI items).toS) s.heap.objs.size away ns sizes hb hval (items.size - 0) 0 _ (by omega) (Nat.zero_le _) ⟨⟨_, Heap.get?_push_size _ rfl, rfl, rfl⟩, (hl1.push _)⟩ ⟨0, Nat.le_refl 0, setR_new_at (Heap.get?_push_of_some _ laid)⟩ ?_
      intro s' c' hm hc' hS'
      obtain ⟨h', g2, d', tk', os'⟩ := s'
      cases (hm.gens : g2 = s.gens); cases (hm.drawn : d' = s.drawn); cases (hm.os : os' = s.os)
      show wpAny (model P w) _ _ _ _ _
      refine wpAny_pure ?_
      show wpAny (model P w) _ (ret Value.none) _ _ _
      rw [sizes] at hc'
      refine wpAny_pure ⟨rfl, h', tk', c', rfl, hS', hc', fun b o e => ?_⟩
      have b0 : b < s.heap.objs.size := Heap.lt_size e
      have b2 : b ≠ (s.heap.push (bareSet w)).objs.size := by rw [pz]; exact Nat.ne_of_lt (Nat.lt_succ_of_lt b0)
      exact hm.heap b o (by simp only [List.mem_cons, List.not_mem_nil, or_false, not_or]; exact ⟨Nat.ne_of_lt b0, b2⟩) (Heap.get?_push_of_some _ (Heap.get?_push_of_some _ e))
    · match r₂, hr₂ with
      | .error e, hr₂ => exact hr₂
      | .ok .next, hr₂ | .ok .brk, hr₂ | .ok .cont, hr₂ => exact hr₂.elim
      | .ok (.ret r), hr₂ =>
        obtain ⟨rfl, h', tk, c', rfl, hS', hc', hk'⟩ := hr₂
        repeat (any_goals (first | assumption | wp_step))
        exact h _ _ _ hS' hc' hk'
end
section
variable {X : Cx}
/-- set(xs), xs a list of ints -/
def rSetOfI (K : PySem.W.Frag) (w : World) : List V → Hp → VK → Prop := fun vs H Q => ∃ (l : Addr) (ns : List Int), vs = [V.ref l] ∧ SqL K H l (ns.map V.int) ∧ ns.length ≤ 1000 ∧
  ∀ (a : Addr) (c : Nat), H a = none → c ≤ ns.length → Q (.ref a) (upd H a (SetO w a (fun j => decide (j ∈ ns)) c))
theorem cr_setOfI (hc : X.calm = true) : CallR X (.type "set") (rSetOfI X.K X.w) := by
  intro pins s σ H vs us Q I r h
  obtain ⟨l, ns, rfl, hl, few, q⟩ := h
  rw [Vals.ref1 r]
  obtain ⟨its, rv, pl, hz⟩ := I.list hl
  refine set_of_list ns (I.ok.hd hc) pl.isList (by simpa using rv.ints) (by unfold scanBound; omega) fun h' tk c R hle kept => ?_
  exact ⟨.ref s.heap.objs.size, upd H s.heap.objs.size (SetO X.w s.heap.objs.size (fun j => decide (j ∈ ns)) c), I.laid (t' := tk) kept (Nat.le_refl _) (setO_new R), rfl, q _ c (I.hok.fresh (Nat.le_refl _)) hle⟩
end
end L2

set_option Elab.async false
set_option maxRecDepth 100000
set_option maxHeartbeats 4000000
namespace L2
open PySem PySem.Spec PyProof.Rows
set_option linter.unusedVariables false
/-! d.clear() of a dict with tuple keys -/
def rClearT : V → List V → Hp → VK → Prop := fun x vs H Q => ∃ (a : Addr) (kvs : List (List Key × V)), x = .ref a ∧ vs = [] ∧ H a = some (.dT kvs) ∧ Q .non (upd H a (.dT []))
theorem mt_clearT {X : Cx} : MtR X "dict.clear" rClearT := by
  intro pins s σ H x vs v us Q I rx rv h
  obtain ⟨a, kvs, ex, ev, e, q⟩ := h
  subst ex
  subst ev
  obtain rfl : v = Value.ref a := rx
  have hus := rv.zero
  subst hus
  obtain ⟨hz, notSys, ks, pairs, o, es, ep, ho, hx, hdt, rows, nd⟩ := (show ObjOk X.prog X.w H s.heap a (.dT kvs) from I.hok a _ e)
  have l1 : es.size = ks.length := size_of_entries rows
  have l2 : kvs.length = ks.length := Paired.length pairs
  have raw : s.heap.DictRaw a es ep := ⟨o, ho, hx, hdt⟩
  refine call_meetsIn PySem.F.slot_dict_clear raw.typeIs PySem.F.entry_dict_clear (PySem.F.args_dict_clear_1 _) (meets_dict_clear_raw a) ⟨es, ep, raw, by omega, fun h' dd' hs => ?_⟩
  obtain ⟨o', h1, h2, h3⟩ := dd'
  refine ⟨.non, _, d_write (ob := .dT []) (t' := s.toks) I (by rw [e]; exact True.intro) hs ⟨o', h1⟩ ⟨Nat.zero_le _, notSys, [], .nil, o', #[], ep + 1, h1, h2, h3, rfl, List.nodup_nil⟩, rfl, q⟩
end L2

set_option Elab.async false
set_option maxRecDepth 100000
set_option maxHeartbeats 4000000
namespace L2
open PySem PySem.Spec PyProof.Rows PpSet
set_option linter.unusedVariables false
/-! a display with tuples as keys -/
/-- the pairs that were made, as keys and values -/
abbrev PDt (H : Hp) : List (V × V) → List (List Key × V) → Prop := Paired fun p q => (∃ b, p.1 = .ref b ∧ H b = some (.tup (q.1.map kV))) ∧ p.2 = q.2
def mergeT (kvs more : List (List Key × V)) : List (List Key × V) := more.foldl (fun acc kv => putK acc kv.1 kv.2) kvs
theorem length_mergeT : ∀ (more kvs : List (List Key × V)), (mergeT kvs more).length ≤ kvs.length + more.length
  | [], kvs => by show kvs.length ≤ kvs.length + 0; omega
  | p :: r, kvs => by
    have a := length_mergeT r (putK kvs p.1 p.2)
    have b := length_putK kvs p.1 p.2
    show (mergeT (putK kvs p.1 p.2) r).length ≤ _
    rw [List.length_cons]; omega
theorem KT.merge {H : Hp} : ∀ {more : List (List Key × V)} {rs : List (List Key × Addr × Value)} {kvs : List (List Key × V)} {xs : List (List Key × Addr × Value)}, KT H more rs → KT H kvs xs → KT H (mergeT kvs more) (storedAllH xs rs) := by
  intro more rs kvs xs r
  unfold KT at r
  induction r generalizing kvs xs with
  | nil => intro q; exact q
  | @cons p q ps qs h t ih =>
    intro r0
    have e : KT H (putK kvs p.1 p.2) (storedH xs q.1 q.2.1 q.2.2) := by
      rw [← h.1]
      exact r0.put p.1 h.2.1 h.2.2
    exact ih e
theorem carriesT_of {P : Program} {w : World} {H : Hp} {h : Heap} (ok : HOk P w H h) : ∀ {ps : List (V × V)} {kvs : List (List Key × V)} {ws : List (Value × Value)}, VV ps ws → PDt H ps kvs → ∃ rs, CarriesH (tupleKind (mixKind P w)) h ws rs ∧ KT H kvs rs := by
  intro ps kvs ws r
  induction r generalizing kvs with
  | nil =>
    intro q
    cases q
    exact ⟨[], True.intro, .nil⟩
  | @cons p v ps vs hv t ih =>
    intro q
    cases q with
    | @cons _ kv _ kvs hk tk =>
      obtain ⟨rs, c, z⟩ := ih tk
      obtain ⟨⟨b, e1, hb⟩, e2⟩ := hk
      obtain ⟨v1, v2⟩ := v
      obtain ⟨r1, r2⟩ := hv
      rw [e1] at r1
      cases (show v1 = Value.ref b from r1)
      exact ⟨(kv.1, b, v2) :: rs, ⟨rfl, rfl, key_of ok hb, c⟩, .cons ⟨rfl, hb, e2 ▸ r2⟩ z⟩
/-- {(a, b): v, ..}; the new dict stands empty while the pairs are made -/
def tDispT (trs : List (TE × TE)) : TE := fun σ H Q => ∀ p, H p = none → tPairs trs σ (upd H p (.dT [])) fun ps H2 => H2 p = some (.dT []) ∧ ∃ kvs : List (List Key × V), PDt H2 ps kvs ∧ kvs.length ≤ 15 ∧ Q (.ref p) (upd H2 p (.dT (mergeT [] kvs)))
theorem pe_dispT {X : Cx} {pos : Pos} {keys : List (Option Expr)} {values : List Expr} {trs : List (TE × TE)} (hu : X.A.units + 1 < cLine) (h : PPs X pos keys values trs) (hall : keys.all (·.isSome) = true) (hl : keys.length = values.length) (h0 : keys ≠ [])
    (h15 : keys.length ≤ 15) : PE X (.Dict keys values pos) (tDispT trs) := by
  refine ⟨fun pins s σ H Q I q => ?_⟩
  have hn := I.hok.fresh (Nat.le_refl s.heap.objs.size)
  have I1 := I.laid (a := s.heap.objs.size) (o := .dT []) (h' := s.heap.push { cls := .type "dict", data := .dict #[] }) (t' := s.toks) (fun _ _ q => Heap.get?_push_of_some _ q) (Nat.le_refl _) (dt_empty s.heap I.big)
  have hlen := pairTrees_length keys values X.env pos hall hl
  have hne : pairTrees keys values X.env pos ≠ [] := fun he => by
    rw [he] at hlen
    exact h0 (List.length_eq_zero_iff.mp hlen.symm)
  rw [arm_eval_Dict, zip_pairTrees keys values X.env pos hall hl, dictDisplay_pairs _ hne (by omega)]
  refine wpAny_bind (wpAny_standAt (wpAny_bind (wpAny_subDictH (knd := tupleKind (mixKind X.prog X.w)) (show X.A.units < cLine by omega) (by omega) (thn (h.run pins _ σ _ _ I1 (q _ hn)) fun ws s2 ⟨ps, H2, I2, rel, e, kvs, pt, lk, q2⟩ => ?_))))
  obtain ⟨rs, c, rk⟩ := carriesT_of I2.hok rel pt
  obtain ⟨z, hd, vs0, r0, dd⟩ := dt_of I2.hok e
  cases r0
  refine ⟨rs, c, dd, fun h' tk dd' hs => wpAny_pure ⟨.ref s.heap.objs.size, _, ?_, rfl, q2⟩⟩
  have hz : (mergeT [] kvs).length ≤ sizeLine := by
    have h1 := length_mergeT kvs []
    rw [List.length_nil] at h1
    rw [sizeLine_eq]; omega
  obtain ⟨o, es, ep, ho, h2, h3, h4, _, h5⟩ := dd'
  refine d_write I2 (by rw [e]; exact True.intro) hs ⟨o, ho⟩ ⟨hz, hd, _, (rk.merge .nil).keeps fun c ys ec => ?_, o, es, ep, ho, h2, h3, h4, h5⟩
  rw [upd_ne (ne_of ec e (fun z => nomatch z))]
  exact ec
end L2

set_option Elab.async false
set_option maxRecDepth 100000
set_option maxHeartbeats 4000000
namespace L2
open PySem PySem.Spec PyProof.Rows
set_option linter.unusedVariables false
/-! t in s, s a set of tuples of ints that stands still -/
section
variable {P : Program} {w : World} {A : Around} {E : Value → Shared → Prop} {s : Shared}
variable {a : Addr} {L : List (Addr × List Int)} {es : Array (Int × Value)} {ep : Nat} {t : SetTable}
theorem nth_dummy (m : Nat) : ∀ (c : Nat) (q : SetTable.Probe), q.dummy = none → (nth m q c).dummy = none
  | 0, q, e => e
  | c + 1, q, e => nth_dummy m c (adv m q) (by unfold adv; split <;> exact e)
theorem seek {x : Addr} {k : List Int} (R : SetTR P w s.heap a L es ep t) (mine : IsT P w s.heap k x) (few : A.units < cLine) {end_ : Nat} {Q : SetFound → Shared → Prop}
    (ends : end_ < 10 * SetTable.turns t.mask) (free : way t.mask (thash P w k) end_ ∉ t.place.toList) (full : ∀ c, c < end_ → way t.mask (thash P w k) c ∈ t.place.toList)
    (yes : k ∈ L.map (·.2) → ∀ i, Q (.there (some i)) s) (no : k ∉ L.map (·.2) → ∀ j, Q (.free j false) s) :
    ∀ (fuel c : Nat) (at_ : Option SetTable.Probe), at_.getD (t.probeStart (thash P w k)) = nth t.mask (t.probeStart (thash P w k)) c → c ≤ end_ → end_ - c < fuel →
      (∀ (i : Nat) q, L[i]? = some q → q.2 = k → ∃ d, c ≤ d ∧ d < end_ ∧ t.place.toList[i]? = some (way t.mask (thash P w k) d)) →
      wpAny (model P w) A (setSearchFrom a (.ref x) (thash P w k) false fuel at_) Q E s := by
  intro fuel
  induction fuel with
  | zero => exact fun c at_ _ _ lt _ => absurd lt (Nat.not_lt_zero _)
  | succ n again =>
    intro c at_ here cle lt ahead
    obtain ⟨ob, got, exact_, dat⟩ := R.ob
    rw [setSearchFrom_succ]
    apply wpAny_bind
    apply wpAny_setState_of got dat R.fits
    dsimp only
    apply wp_if_neg R.gw
    try (apply wpAny_bind; apply wpAny_pure)
    have plain0 := nth_dummy t.mask c (t.probeStart (thash P w k)) rfl
    have join : ∀ d, nth t.mask (nth t.mask (t.probeStart (thash P w k)) c) d = nth t.mask (t.probeStart (thash P w k)) (c + d) := fun d => (nth_add t.mask c _ d).symm
    have spot : ∀ d, (nth t.mask (nth t.mask (t.probeStart (thash P w k)) c) d).j = way t.mask (thash P w k) (c + d) := fun d => congrArg (·.j) (join d)
    have hash_ : ∀ (i : Nat) q, L[i]? = some q → ((es[i]?.map (·.1)).getD 0) = thash P w q.2 := fun i q e => by
      rw [R.entry e] <;> rfl
    rcases go_spec t R.tab.ris R.tab.dm (fun i => (es[i]?.map (·.1)).getD 0) (thash P w k) (10 * SetTable.turns t.mask) (end_ - c) _ plain0 (by omega) (fun d lt => by rw [spot]; exact full _ (by omega)) (by rw [spot, Nat.add_sub_cancel' cle]; exact free) with ⟨d, i, dlt, at_i, hi, before, probe⟩ | ⟨before, probe⟩
    · rw [spot] at at_i probe
      rw [join] at probe
      have probe' : t.probe (fun i => (es[i]?.map (·.1)).getD 0) (thash P w k) (at_.getD (t.probeStart (thash P w k))) = some (.candidate (way t.mask (thash P w k) (c + d)) i (nth t.mask (t.probeStart (thash P w k)) (c + (d + 1)))) := by rw [here]; exact probe
      rw [probe']
      dsimp only
      have il : i < L.length := by
        have z1 := (List.getElem?_eq_some_iff.mp at_i).1
        have z2 := R.tab.sz
        rw [List.length_map] at z2
        rwa [Array.length_toList, z2] at z1
      obtain ⟨q, eq⟩ : ∃ q, L[i]? = some q := ⟨_, List.getElem?_eq_getElem il⟩
      have qm := List.mem_of_getElem? eq
      have inner : wpAny (model P w) A (searchRest a (.ref x) (thash P w k) false n es t (way t.mask (thash P w k) (c + d)) i (nth t.mask (t.probeStart (thash P w k)) (c + (d + 1)))) Q E s := by
        unfold searchRest
        rw [R.entry eq]
        dsimp only
        apply wpAny_bind
        apply wpAny_holding
        apply wpAny_eqBool_tuple few (R.tup q qm) mine
        apply wpAny_bind
        apply wpAny_setState_of got dat R.fits
        dsimp only
        apply wp_if_neg (by simp)
        try (apply wpAny_bind; apply wpAny_pure)
        rw [sameMem]
        dsimp only
        have live := slot_live R.tab.ris at_i
        simp only [if_true, live, R.entry eq]
        apply wpAny_bind
        apply wpAny_isSame_ref_self
        apply wpAny_bind
        apply wpAny_pure
        simp only [if_true]
        by_cases same : q.2 = k
        · apply wp_if_pos (by simp [same])
          exact wpAny_pure (yes (List.mem_map.mpr ⟨q, qm, same⟩) i)
        · apply wp_if_neg (by simp [same])
          apply again (c + (d + 1)) _ rfl (by omega) (by omega)
          intro i0 q0 e0 k0
          obtain ⟨d', l1, l2, l3⟩ := ahead i0 q0 e0 k0
          refine ⟨d', ?_, l2, l3⟩
          by_cases z : d' < c + d
          · refine absurd ((hash_ i0 q0 e0).trans (congrArg (thash P w) k0)) (before (d' - c) i0 (by omega) ?_)
            rw [spot, Nat.add_sub_cancel' l1]
            exact l3
          · by_cases y : d' = c + d
            · exfalso
              rw [y] at l3
              have live0 := slot_live R.tab.ris l3
              rw [live] at live0
              injection live0 with live0
              rw [← live0, eq] at e0
              cases e0
              exact same k0
            · omega
      by_cases led : t.led = true
      · apply wp_if_neg (by simp [led])
        try (apply wpAny_bind; apply wpAny_pure)
        exact inner
      · apply wp_if_pos (by simp [led])
        apply wpAny_bind
        apply seen_tup mine
        · intro y hy
          obtain ⟨e, me, rfl⟩ := List.mem_map.mp hy
          have me1 : e ∈ es.toList := (show e ∈ es ∧ _ by simpa using me).1.val
          rw [R.rows] at me1
          obtain ⟨q2, m2, rfl⟩ := List.mem_map.mp me1
          exact ⟨q2.2, q2.1, rfl, R.tup q2 m2⟩
        · apply wp_if_neg (by decide)
          try (apply wpAny_bind; apply wpAny_pure)
          exact inner
    · have probe' : t.probe (fun i => (es[i]?.map (·.1)).getD 0) (thash P w k) (at_.getD (t.probeStart (thash P w k))) = some (.empty (nth t.mask (nth t.mask (t.probeStart (thash P w k)) c) (end_ - c)).j none) := by rw [here]; exact probe
      rw [probe']
      dsimp only
      apply wpAny_pure
      apply no
      intro hm
      obtain ⟨q0, m0, k0⟩ := List.mem_map.mp hm
      obtain ⟨i0, e0⟩ := List.getElem?_of_mem m0
      obtain ⟨d', l1, l2, l3⟩ := ahead i0 q0 e0 k0
      refine before (d' - c) i0 (by omega) ?_ ((hash_ i0 q0 e0).trans (congrArg (thash P w) k0))
      rw [spot, Nat.add_sub_cancel' l1]
      exact l3
theorem seek_all {x : Addr} {k : List Int} (R : SetTR P w s.heap a L es ep t) (mine : IsT P w s.heap k x) (few : A.units < cLine) {Q : SetFound → Shared → Prop}
    (yes : k ∈ L.map (·.2) → ∀ i, Q (.there (some i)) s) (no : k ∉ L.map (·.2) → ∀ j, Q (.free j false) s) : wpAny (model P w) A (setSearch a (.ref x) (thash P w k)) Q E s := by
  have room := R.room
  obtain ⟨end_, ends, free, full⟩ := R.tab.first (by rw [List.length_map]; omega) (thash P w k)
  have turns : 10 * SetTable.turns t.mask ≤ 1420 := by
    unfold SetTable.turns
    rcases R.tab.mok with z | z | z <;> omega
  unfold setSearch
  apply seek R mine few ends free full yes no 100000 0 none rfl (Nat.zero_le _) (by omega)
  intro i q e hk
  have e' : (L.map fun p => thash P w p.2)[i]? = some (thash P w k) := by rw [List.getElem?_map, e, ← hk] <;> rfl
  have il : i < t.place.toList.length := by
    have z1 := (List.getElem?_eq_some_iff.mp e).1
    have z2 := R.tab.sz
    rw [List.length_map] at z2
    rw [Array.length_toList]
    omega
  obtain ⟨d, dlt, de⟩ := R.tab.before free e' (List.getElem?_eq_getElem il)
  exact ⟨d, Nat.zero_le _, dlt, by rw [List.getElem?_eq_getElem il, de]⟩
theorem find_tup {x : Addr} {k : List Int} (R : SetTR P w s.heap a L es ep t) (mine : IsT P w s.heap k x) (few : A.units < cLine) {Q : Option Nat → Shared → Prop} (h : ∀ r : Option Nat, r.isSome = decide (k ∈ L.map (·.2)) → Q r s) :
    wpAny (model P w) A (setFind a (.ref x) (thash P w k)) Q E s := by
  obtain ⟨ob, got, exact_, dat⟩ := R.ob
  unfold setFind setFindIn
  apply wpAny_bind
  apply wpAny_setState_of got dat R.fits
  dsimp only
  apply wp_if_neg (by simp [byScan, Value.scannable])
  try (apply wpAny_bind; apply wpAny_pure)
  apply wpAny_bind
  apply seek_all R mine few
  · intro m i
    exact wpAny_pure (h (some i) (by rw [decide_eq_true m]; rfl))
  · intro m j
    exact wpAny_pure (h none (by rw [decide_eq_false m]; rfl))
theorem holds_tup (neg : Bool) {x : Addr} {k : List Int} (R : SetTR P w s.heap a L es ep t) (mine : IsT P w s.heap k x) (few : A.units + 64 < cLine) {Q : Value → Shared → Prop} (h : ∀ tk, Q (.bool (if neg = true then !decide (k ∈ L.map (·.2)) else decide (k ∈ L.map (·.2)))) { s with toks := tk }) :
    wpAny (model P w) A (compareOp (if neg = true then .NotIn else .In) (.ref x) (.ref a)) Q E s := by
  have isSet : s.TypeIs (.ref a) "set" := by
    obtain ⟨ob, got, exact_, _⟩ := R.ob
    exact ⟨ob, got, exact_.1⟩
  have core : ∀ {Q' : Bool → Shared → Prop}, (∀ tk, Q' (decide (k ∈ L.map (·.2))) { s with toks := tk }) → wpAny (model P w) A (contains (.ref a) (.ref x)) Q' E s := by
    intro Q' h'
    unfold contains
    try with_reducible apply wpAny_holding
    apply wpAny_bind
    apply wpAny_specialOf isSet F.slot_set_contains.lookup
    show wpAny _ _ (if (some (Value.builtin "set.__contains__") == some Value.none) = true then _ else _) _ E s
    rw [if_neg (by rw [beq_builtin_none]; decide)]
    apply wpAny_bind
    apply wpAny_callSpecialUnlessNone?_slot (name := Str.ofString "__contains__") isSet F.slot_set_contains
    apply wpAny_call_entry F.slot_set_contains isSet entry_set_contains ?_ (F.args_set_contains_2 _ _)
    unfold Builtin.«frozenset.__contains__» Builtin.Frozenset.oneOther
    simp only [List.isEmpty_nil, bind_assoc]
    unfold Builtin.Frozenset.addrOf Builtin.Frozenset.withSetAsKey setContains
    apply wpAny_bind
    apply wpAny_pure
    try dsimp only
    apply wpAny_bind
    apply wpAny_pure
    try dsimp only
    apply wpAny_bind
    apply wpAny_tryCatch
    apply wpAny_holding
    apply wpAny_bind
    apply wpAny_pyHash_tuple ?_ mine
    apply wpAny_bind
    apply find_tup (s := { s with toks := s.toks + (k.length + 1) }) R mine ?_
    · intro r er
      apply wpAny_pure
      show wpAny _ _ (ret (Value.bool r.isSome)) _ _ _
      rw [er]
      exact wpAny_pure ⟨_, rfl, wpAny_truthy_bool (h' _)⟩
    all_goals (show A.units + 1 < cLine; omega)
  cases neg with
  | true =>
    show wpAny _ _ (do return .bool (!(← contains (.ref a) (.ref x)))) Q E s
    apply wpAny_bind
    exact core fun tk => wpAny_pure (h tk)
  | false =>
    show wpAny _ _ (do return .bool (← contains (.ref a) (.ref x))) Q E s
    apply wpAny_bind
    exact core fun tk => wpAny_pure (h tk)
end
section
variable {X : Cx}
/-- x in s, s a set of tuples of ints -/
def rInSetT (neg : Bool) (K : PySem.W.Frag) (P : Program) (w : World) : R2 := fun x y H Q => ∃ (b a : Addr) (k : List Int) (L : List (Addr × List Int)), x = .ref b ∧ y = .ref a ∧ SqT K H b (k.map V.int) ∧ H a = some (SetTO P w a L) ∧ (∀ q ∈ L, SqT K H q.1 (q.2.map V.int)) ∧ Q (.bl (if neg = true then !decide (k ∈ L.map (·.2)) else decide (k ∈ L.map (·.2)))) H
theorem or_setT (neg : Bool) (hu : X.A.units + 64 < cLine) : OpR X (compareOp (if neg = true then .NotIn else .In)) (rInSetT neg X.K X.prog X.w) := by
  intro pins s σ H x y v u Q I rx ry h
  obtain ⟨b, a, k, L, rfl, rfl, tup, isSet, rows, q⟩ := h
  cases rx
  cases ry
  have R0 : SetT0 X.prog X.w s.heap a L := (I.hok a _ isSet).1
  obtain ⟨es, ep, t, R⟩ := R0.full fun p hp => I.isT (rows p hp)
  exact holds_tup neg R (I.isT tup) hu fun tk => ⟨.bl _, H, I.tok tk, rfl, q⟩
theorem op_inSetT (hu : X.A.units + 64 < cLine) : OpR X (compareOp .In) (rInSetT false X.K X.prog X.w) := or_setT false hu
theorem op_notInSetT (hu : X.A.units + 64 < cLine) : OpR X (compareOp .NotIn) (rInSetT true X.K X.prog X.w) := or_setT true hu
end
end L2

set_option Elab.async false
set_option maxRecDepth 100000
set_option maxHeartbeats 4000000
namespace L2
open PySem PySem.Spec PyProof.Rows
set_option linter.unusedVariables false
/-! data in which dicts with tuple keys may stand -/
def keyD1 : Key → PyData
  | .inl i => .int i
  | .inr s => .str s
def keyD (k : List Key) : PyData := .tuple (k.map keyD1)
mutual
inductive DX (K : PySem.W.Frag) (H : Hp) : V → PyData → Prop
  | flat {v : V} {d : PyData} : Dp K H v d → d.hasDict = false → DX K H v d
  | lst {a : Addr} {xs : List V} {ds : List PyData} : SqL K H a xs → DXs K H xs ds → DX K H (.ref a) (.list ds)
  | tup {a : Addr} {xs : List V} {ds : List PyData} : SqT K H a xs → DXs K H xs ds → DX K H (.ref a) (.tuple ds)
  | dic {a : Addr} {kvs : List (List Key × V)} {vs : List V} {ds : List PyData} {es : List (PyData × PyData)} : H a = some (.dT kvs) → vs = kvs.map (·.2) → DXs K H vs ds → es.map (·.1) = kvs.map (fun kv => keyD kv.1) → es.map (·.2) = ds → DX K H (.ref a) (.dict es)
inductive DXs (K : PySem.W.Frag) (H : Hp) : List V → List PyData → Prop
  | nil : DXs K H [] []
  | cons {v : V} {vs : List V} {d : PyData} {ds : List PyData} : DX K H v d → DXs K H vs ds → DXs K H (v :: vs) (d :: ds)
end
theorem keyD1_dp {K : PySem.W.Frag} {H : Hp} : ∀ k : List Key, DpAll K H (k.map kV) (k.map keyD1)
  | [] => .nil
  | .inl i :: k => .cons (.int i) (keyD1_dp k)
  | .inr s :: k => .cons (.str s) (keyD1_dp k)
theorem keyD1_no : ∀ k : List Key, PyData.hasDictAll (k.map keyD1) = false
  | [] => rfl
  | .inl i :: k => by
    show (false || PyData.hasDictAll (k.map keyD1)) = false
    rw [keyD1_no k]
    rfl
  | .inr s :: k => by
    show (false || PyData.hasDictAll (k.map keyD1)) = false
    rw [keyD1_no k]
    rfl
section
variable {X : Cx} {pins : List (Addr × Obj)} {σ : L2.St} {H : Hp} {s : Shared}
/-- what may be shown of a value -/
def Shw (P : Program) (w : World) (h : Heap) (u : Value) (d : PyData) : Prop := (∃ as, Reads h u d as) ∧ (d.showable = true → d.shown.length ≤ sizeLine → ∃ bs, ReadAtMost h d.depth bs ∧ ReprK P w bs h d.depth u d.shown)
def ShwS (P : Program) (w : World) (h : Heap) (us : List Value) (ds : List PyData) : Prop := (∃ as, ReadsAll h us ds as) ∧ (PyData.showableAll ds = true → (∀ t ∈ PyData.shownAll ds, t.length ≤ sizeLine) → ∃ bs, ReadAtMost h (PyData.depthAll ds) bs ∧ ReprAllK P w bs h (PyData.depthAll ds) us (PyData.shownAll ds))
theorem shw_nil {P : Program} {w : World} {h : Heap} : ShwS P w h [] [] := ⟨⟨_, .nil⟩, fun _ _ => ⟨[], fun _ m => (nomatch m), by rw [PyData.shownAll]; exact .nil⟩⟩
theorem shw_cons {P : Program} {w : World} {h : Heap} {u : Value} {us : List Value} {d : PyData} {ds : List PyData} (a : Shw P w h u d) (b : ShwS P w h us ds) : ShwS P w h (u :: us) (d :: ds) := by
  obtain ⟨⟨as, ra⟩, ga⟩ := a
  obtain ⟨⟨bs, rb⟩, gb⟩ := b
  refine ⟨⟨_, .cons ra rb⟩, fun hs hz => ?_⟩
  rw [PyData.showableAll, Bool.and_eq_true] at hs
  rw [PyData.shownAll] at hz
  obtain ⟨p, p1, p2⟩ := ga hs.1 (hz _ List.mem_cons_self)
  obtain ⟨q, q1, q2⟩ := gb hs.2 fun t m => hz t (List.mem_cons_of_mem _ m)
  rw [PyData.depthAll, PyData.shownAll]
  exact ⟨p ++ q, (p1.mono (Nat.le_max_left _ _)).append (q1.mono (Nat.le_max_right _ _)), .cons ((p2.more fun _ m => List.mem_append_left _ m).level_le (Nat.le_max_left _ _)) (q2.more_le (fun _ m => List.mem_append_right _ m) (Nat.le_max_right _ _))⟩
theorem shw_seq {P : Program} {w : World} {h : Heap} {u : Value} {d : PyData} {as : List Addr} (r : Reads h u d as) (n : d.hasDict = false) : Shw P w h u d := ⟨⟨as, r⟩, fun hs hz => ReprK.of_reads r hs (PyData.noDict_hsm n) hz⟩
theorem shw_lst {P : Program} {w : World} {h : Heap} {a : Addr} {o : Obj} {its : Array Value} {n : Nat} {ds : List PyData} (ha : h.get? a = some o) (hc : o.cls = .type "list") (hd : o.data = .seq its n) (g : ShwS P w h its.toList ds) : Shw P w h (.ref a) (.list ds) := by
  obtain ⟨⟨as, ra⟩, g⟩ := g
  have rd : Reads h (.ref a) (.list ds) _ := .list ha hc hd ra
  refine ⟨⟨_, rd⟩, fun hs hz => ?_⟩
  rw [PyData.showable] at hs
  rw [PyData.shown] at hz ⊢
  obtain ⟨bs, b1, b2⟩ := g hs fun t m => Nat.le_trans (listText_mem_le m) hz
  have out : a ∉ bs := not_mem_of_deeper rd (by rw [PyData.depth]; omega) b1
  refine ⟨a :: bs, b1.cons rd (by rw [PyData.depth]; omega), ?_⟩
  rw [PyData.depth]
  obtain ⟨l⟩ := its
  cases l with
  | nil =>
    cases ra
    rw [PyData.shownAll, listText_nil]
    exact .listEmpty ha hc hd
  | cons x l => exact .list ha hc hd out (by simpa using b2.length_eq) fun i y e => b2.item i y (by simpa using e)
theorem shw_tup {P : Program} {w : World} {h : Heap} {a : Addr} {o : Obj} {its : Array Value} {n : Nat} {ds : List PyData} (ha : h.get? a = some o) (hc : o.cls = .type "tuple") (hd : o.data = .seq its n) (g : ShwS P w h its.toList ds) : Shw P w h (.ref a) (.tuple ds) := by
  obtain ⟨⟨as, ra⟩, g⟩ := g
  have rd : Reads h (.ref a) (.tuple ds) _ := .tuple ha hc hd ra
  refine ⟨⟨_, rd⟩, fun hs hz => ?_⟩
  rw [PyData.showable] at hs
  rw [PyData.shown] at hz ⊢
  obtain ⟨bs, b1, b2⟩ := g hs fun t m => Nat.le_trans (tupleText_mem_le m) hz
  refine ⟨a :: bs, b1.cons rd (by rw [PyData.depth]; omega), ?_⟩
  rw [PyData.depth]
  exact .tuple ha hc hd (not_mem_of_deeper rd (by rw [PyData.depth]; omega) b1) b2
theorem shw_dic {P : Program} {w : World} {h : Heap} {a : Addr} {o : Obj} {es : Array DictEntry} {n : Nat} {kvs : List (PyData × PyData)} (ha : h.get? a = some o) (hc : o.cls = .type "dict") (hd : o.data = .dict es n) (hy : (a == sysModules) = false) (gk : ShwS P w h (es.toList.map (·.key)) (kvs.map (·.1))) (gv : ShwS P w h (es.toList.map (·.val)) (kvs.map (·.2))) : Shw P w h (.ref a) (.dict kvs) := by
  obtain ⟨⟨as, ra⟩, gk⟩ := gk
  obtain ⟨⟨bs, rb⟩, gv⟩ := gv
  have rd : Reads h (.ref a) (.dict kvs) _ := .dict ha hc hd ra rb
  refine ⟨⟨_, rd⟩, fun hs hz => ?_⟩
  rw [PyData.showable] at hs
  rw [PyData.shown] at hz ⊢
  obtain ⟨s1, s2⟩ := PyData.showableKv_split kvs hs
  obtain ⟨p, p1, p2⟩ := gk s1 fun t m => by
    obtain ⟨x, x1, x2⟩ := PyData.shownKv_key_le kvs t m
    exact Nat.le_trans x2 (Nat.le_trans (dictText_mem_le x1) hz)
  obtain ⟨q, q1, q2⟩ := gv s2 fun t m => by
    obtain ⟨x, x1, x2⟩ := PyData.shownKv_val_le kvs t m
    exact Nat.le_trans x2 (Nat.le_trans (dictText_mem_le x1) hz)
  have pq : ReadAtMost h (PyData.depthKv kvs) (p ++ q) := (p1.mono (PyData.depthAll_keys_le kvs)).append (q1.mono (PyData.depthAll_vals_le kvs))
  refine ⟨a :: (p ++ q), pq.cons rd (by rw [PyData.depth]; omega), ?_⟩
  rw [PyData.depth, PyData.shownKv_eq]
  exact .dict ha hc hd hy (not_mem_of_deeper rd (by rw [PyData.depth]; omega) pq) (.of_two es.toList _ _ (p2.more_le (fun _ m => List.mem_append_left _ m) (PyData.depthAll_keys_le kvs)) (q2.more_le (fun _ m => List.mem_append_right _ m) (PyData.depthAll_vals_le kvs)))
theorem dpAll_shw (I : Inv X pins σ H s) : ∀ (ds : List PyData) (vs : List V) (us : List Value), DpAll X.K H vs ds → Vals vs us → PyData.hasDictAll ds = false → ShwS X.prog X.w s.heap us ds
  | [], _, _, h, r, _ => by
    cases h
    cases r
    exact shw_nil
  | d :: ds, _, _, h, r, n => by
    cases h with
    | cons h1 h2 =>
      cases r with
      | cons r1 r2 =>
        rw [PyData.hasDictAll, Bool.or_eq_false_iff] at n
        obtain ⟨as, q⟩ := Dp.reads I d _ _ h1 r1
        exact shw_cons (shw_seq q n.1) (dpAll_shw I ds _ _ h2 r2 n.2)
mutual
theorem DX.shw (I : Inv X pins σ H s) : ∀ {v : V} {d : PyData}, DX X.K H v d → ∀ u : Value, RelV v u → Shw X.prog X.w s.heap u d
  | _, _, .flat h n, u, r => by
    obtain ⟨as, q⟩ := Dp.reads I _ _ _ h r
    exact shw_seq q n
  | _, _, .lst hq g, u, r => by
    obtain rfl : u = Value.ref _ := r
    obtain ⟨its, rv, ⟨o, n, ho, hc, _, hd⟩, _⟩ := I.list hq
    exact shw_lst ho hc hd (DXs.shw I g its rv)
  | _, _, .tup hq g, u, r => by
    obtain rfl : u = Value.ref _ := r
    obtain ⟨its, rv, ⟨o, ho, hc, n, hd⟩, _⟩ := I.tuple hq
    exact shw_tup ho hc hd (DXs.shw I g its rv)
  | _, _, .dic (a := a) (kvs := kvs) (es := eds) ha ev g ek ed, u, r => by
    obtain rfl : u = Value.ref a := r
    obtain ⟨hz, hy, xs, pairs, o, es, ep, ho, hx, hdt, rows, nd⟩ := (show ObjOk X.prog X.w H s.heap a (.dT kvs) from I.hok _ _ ha)
    have hvals : Vals (kvs.map (·.2)) (es.toList.map (·.val)) := by
      rw [rows]
      clear rows nd g ev ek ha hz
      induction pairs with
      | nil => exact .nil
      | cons p _ ih => exact .cons p.2.2 ih
    have hkeys : ∀ (ks : List (List Key × V)) (ys : List (List Key × Addr × Value)), Paired (fun (p : List Key × V) (q : List Key × Addr × Value) => p.1 = q.1 ∧ H q.2.1 = some (.tup (p.1.map kV)) ∧ RelV p.2 q.2.2) ks ys → ShwS X.prog X.w s.heap ((ys.map (entryOfKey (tupleKind (mixKind X.prog X.w)))).map (·.key)) (ks.map fun kv => keyD kv.1) := fun ks ys p => by
      induction p with
      | nil => exact shw_nil
      | @cons k y ks ys p _ ih =>
        obtain ⟨as, q⟩ := Dp.reads I (keyD k.1) (.ref y.2.1) (.ref y.2.1) (.tup (SqT.of p.2.1) (keyD1_dp k.1)) rfl
        exact shw_cons (shw_seq q (by unfold keyD; rw [PyData.hasDict]; exact keyD1_no _)) ih
    refine shw_dic ho hx.1 hdt hy ?_ ?_
    · rw [ek, rows]
      exact hkeys kvs xs pairs
    · rw [ed]
      exact DXs.shw I g _ (ev ▸ hvals)
theorem DXs.shw (I : Inv X pins σ H s) : ∀ {vs : List V} {ds : List PyData}, DXs X.K H vs ds → ∀ us : List Value, Vals vs us → ShwS X.prog X.w s.heap us ds
  | _, _, .nil, us, r => by
    cases r
    exact shw_nil
  | _, _, .cons g gs, us, r => by
    cases r with
    | cons r1 r2 => exact shw_cons (DX.shw I g _ r1) (DXs.shw I gs _ r2)
end
/-- repr of a tuple in which dicts may stand -/
def rReprX (K : PySem.W.Frag) : List V → Hp → VK → Prop := fun xs H Q => ∃ (a : Addr) (vs : List V) (ds : List PyData), xs = [.ref a] ∧ SqT K H a vs ∧ DXs K H vs ds ∧ (PyData.tuple ds).showable = true ∧ (PyData.tuple ds).depth ≤ 40 ∧ (PyData.tuple ds).shown.length ≤ sizeLine ∧ Q (.str (PyData.tuple ds).shown) H
theorem call_reprX (hg : X.A.guards = some []) (hu : X.A.units + 64 < cLine) : CallR X (.builtin "repr") (rReprX X.K) := by
  intro pins s σ H xs us Q I r h
  obtain ⟨a, vs, ds, rfl, hq, g, hs, hd, hz, q⟩ := h
  obtain rfl := Vals.ref1 r
  obtain ⟨its, rv, ⟨o, ho, hc, n, hdd⟩, _⟩ := I.tuple hq
  obtain ⟨⟨as, ra⟩, gg⟩ := DXs.shw I g its rv
  have rd : Reads s.heap (.ref a) (.tuple ds) _ := .tuple ho hc hdd ra
  rw [PyData.showable] at hs
  rw [PyData.shown] at hz q
  rw [PyData.depth] at hd
  obtain ⟨bs, b1, b2⟩ := gg hs fun t m => Nat.le_trans (tupleText_mem_le m) hz
  have out : a ∉ bs := not_mem_of_deeper rd (by rw [PyData.depth]; omega) b1
  refine call_repr_slot (T := "tuple") (idr := "tuple.__repr__") (by omega) ⟨o, ho, hc⟩ F.slot_tuple_repr ?_
  exact call_tuple_reprK ho hc hdd out b2 (g := []) hg (fun b _ => Clear.nil b) (by show X.A.units + 1 + (PyData.depthAll ds + 1) < cLine; omega) (fun _ _ e => e) (fun h' u tk hk => ⟨_, _, rfl, .str _, H, I.kept (t' := tk) hk, ⟨_, rfl⟩, q⟩) hz
end
end L2

set_option Elab.async false
set_option maxRecDepth 100000
set_option maxHeartbeats 4000000
namespace L2
open PySem PySem.Spec PyProof.Rows
set_option linter.unusedVariables false
/-! dict(d) and d.pop(k) of a dict whose keys are pairs of small numbers -/
def hI (a b : Nat) : Int := reduceHash (Builtin.Tuple.tupleHashOf [hashInt ((a : Nat) : Int), hashInt ((b : Nat) : Int)])
theorem hI_all : ((List.range 400).map fun i => hI (i / 20) (i % 20)).Pairwise (· ≠ ·) := by decide +kernel
theorem hI_inj {a b c d : Nat} (ha : a < 20) (hb : b < 20) (hc : c < 20) (hd : d < 20) (h : hI a b = hI c d) : a = c ∧ b = d := by
  have key : ∀ {a b c d : Nat}, a < 20 → b < 20 → c < 20 → d < 20 → 20 * a + b < 20 * c + d → hI a b ≠ hI c d := fun {a b c d} ha hb hc hd hl => by
    have h1 := List.pairwise_iff_getElem.mp hI_all (20 * a + b) (20 * c + d) (by rw [List.length_map, List.length_range]; omega) (by rw [List.length_map, List.length_range]; omega) hl
    rw [List.getElem_map, List.getElem_map, List.getElem_range, List.getElem_range] at h1
    rw [show (20 * a + b) / 20 = a by omega, show (20 * a + b) % 20 = b by omega, show (20 * c + d) / 20 = c by omega, show (20 * c + d) % 20 = d by omega] at h1
    exact h1
  rcases Nat.lt_trichotomy (20 * a + b) (20 * c + d) with g | g | g
  · exact absurd h (key ha hb hc hd g)
  · omega
  · exact absurd h.symm (key hc hd ha hb g)
def smallK (k : List Key) : Prop := ∃ a b : Nat, a < 20 ∧ b < 20 ∧ k = [.inl (a : Int), .inl (b : Int)]
section
variable {prog : Program} {w : World} {A : Around} {E : Value → Shared → Prop} {s : Shared}
theorem smallK_hash {a b : Nat} : (tupleKind (mixKind prog w)).hash [.inl (a : Int), .inl (b : Int)] = hI a b := rfl
theorem small_nodup : ∀ {ks : List (List Key)}, (∀ k ∈ ks, smallK k) → ks.Nodup → (ks.map fun k => (tupleKind (mixKind prog w)).hash k).Nodup
  | [], _, _ => List.nodup_nil
  | k :: ks, h, n => by
    rw [List.nodup_cons] at n
    rw [List.map_cons, List.nodup_cons]
    refine ⟨fun m => ?_, small_nodup (fun x hx => h x (List.mem_cons_of_mem _ hx)) n.2⟩
    obtain ⟨k2, hk2, e⟩ := List.mem_map.mp m
    obtain ⟨a, b, ha, hb, rfl⟩ := h k List.mem_cons_self
    obtain ⟨c, d, hc, hd, rfl⟩ := h k2 (List.mem_cons_of_mem _ hk2)
    have e : hI c d = hI a b := e
    obtain ⟨rfl, rfl⟩ := hI_inj hc hd ha hb e
    exact n.1 hk2
theorem call_dictH {o : Addr} {more : List (List Key × Addr × Value)} {Q : Value → Shared → Prop} (hu : (tupleKind (mixKind prog w)).room A.in1.in1) (hoS : (o == sysModules) = false) (ho : s.heap.DictOfH (tupleKind (mixKind prog w)) o more) (hsz : more.length ≤ sizeLine)
    (hty : ∀ x ∈ more, s.TypeIs (.ref x.2.1) "tuple") (hap : (more.map fun x => (tupleKind (mixKind prog w)).hash x.1).Nodup)
    (h : ∀ h', h'.DictOfH (tupleKind (mixKind prog w)) s.heap.objs.size more → Heap.SameBut s.heap.objs.size (s.heap.push { cls := .type "dict", data := .dict #[] }) h' → Q (.ref s.heap.objs.size) { s with heap := h' }) :
    wpAny (model prog w) A (call (.type "dict") [.ref o]) Q E s := by
  refine callType_codes (Q₁ := fun obj s₁ => obj = .ref s.heap.objs.size ∧ s₁ = { s with heap := s.heap.push { cls := .type "dict", data := .dict #[] } }) F.kt_called_dict (F.kt_typeCall_dict_1 _) F.entry_dict_init (kt_code_dict_new _ ⟨rfl, rfl⟩) ?_
  rintro obj s₁ ⟨rfl, rfl⟩
  have hnew : (s.heap.push { cls := .type "dict", data := .dict #[] }).DictOfH (tupleKind (mixKind prog w)) s.heap.objs.size [] :=
    ⟨_, #[], 0, Heap.get?_push_size _ rfl, ⟨rfl, rfl, rfl⟩, rfl, rfl, (fun _ hx => nomatch hx), List.nodup_nil⟩
  have hdo : s.heap.objs.size ≠ o := by
    obtain ⟨_, _, _, hg, _⟩ := ho
    exact fun e => absurd (Heap.lt_size hg) (by rw [e]; exact Nat.lt_irrefl _)
  have ho' : (s.heap.push { cls := .type "dict", data := .dict #[] }).DictOfH (tupleKind (mixKind prog w)) o more := by
    obtain ⟨ob, es, ep, h1, h2, h3, h4, h5, h6⟩ := ho
    refine ⟨ob, es, ep, Heap.get?_push_of_some _ h1, h2, h3, h4, fun x hx => ?_, h6⟩
    obtain ⟨o1, its, n, q1, q2, q3, q4⟩ := (show IsTupleKey (mixKind prog w) s.heap x.1 x.2.1 from h5 x hx)
    exact ⟨o1, its, n, Heap.get?_push_of_some _ q1, q2, q3, q4⟩
  have hn : (more.map (·.1)).Nodup := ho.nodup
  have ty' : ∀ x ∈ more, ({ s with heap := s.heap.push { cls := .type "dict", data := .dict #[] } } : Shared).TypeIs (.ref x.2.1) "tuple" := fun x hx => by
    obtain ⟨o1, q1, q2⟩ := hty x hx
    exact ⟨o1, Heap.get?_push_of_some _ q1, q2⟩
  have hnt : ({ s with heap := s.heap.push { cls := .type "dict", data := .dict #[] } } : Shared).TypeIs (.ref s.heap.objs.size) "dict" := ⟨_, Heap.get?_push_size _ rfl, rfl⟩
  refine ⟨hnt, F.args_dict_init_2 _ _, ?_⟩
  unfold Builtin.«dict.__init__»
  refine wpAny_bind ?_
  unfold Builtin.Dict.selfAndRest
  refine wpAny_bind (wpAny_notOrdered_dict hnt ?_)
  show wpAny _ _ (pure (s.heap.objs.size, [Value.ref o])) _ _ _
  refine wpAny_pure ?_
  show wpAny _ _ (Builtin.Dict.updateFrom "dict.__init__" s.heap.objs.size (.ref o) [] .none) _ _ _
  unfold Builtin.Dict.updateFrom
  refine wpAny_bind (wpAny_typeOf (s := { s with heap := s.heap.push { cls := .type "dict", data := .dict #[] } }) ho'.typeIs ?_)
  rw [if_neg (by decide)]
  refine wpAny_bind ?_
  unfold Builtin.Dict.merge
  refine wpAny_bind ?_
  unfold Builtin.Dict.readDirectly
  refine wpAny_bind (wpAny_isInstance (s := { s with heap := s.heap.push { cls := .type "dict", data := .dict #[] } }) ho'.typeIs isSubtype_dict_dict ?_)
  simp only [Bool.not_true, Bool.false_eq_true, if_false]
  refine wpAny_bind (wpAny_specialOf (s := { s with heap := s.heap.push { cls := .type "dict", data := .dict #[] } }) ho'.typeIs F.slot_dict_iter.lookup (wpAny_pure ?_))
  simp only [beq_self_eq_true, if_true]
  refine wpAny_bind (wpAny_pure ?_)
  refine wpAny_mergeDict_heap (s := { s with heap := s.heap.push { cls := .type "dict", data := .dict #[] } }) (hsz := by simpa using hsz) hu hdo hoS hnew ho' (.inr ⟨ty', hap⟩) fun h' hd' _ hs' => ?_
  show wpAny _ _ (Builtin.Dict.addKeywords s.heap.objs.size [] >>= _) _ _ _
  rw [storedAllH_nil_of_nodup more hn] at hd'
  exact wpAny_bind (wpAny_pure (wpAny_pure ⟨rfl, h h' hd' hs'⟩))
end
/-- dict(d): a copy -/
def rDictT : List V → Hp → VK → Prop := fun xs H Q => ∃ (a : Addr) (kvs : List (List Key × V)), xs = [.ref a] ∧ Rd H a (.dT kvs) ∧ (∀ kv ∈ kvs, smallK kv.1) ∧ ∀ p, H p = none → Q (.ref p) (upd H p (.dT kvs))
theorem KT.keysEq {H : Hp} : ∀ {kvs : List (List Key × V)} {xs : List (List Key × Addr × Value)}, KT H kvs xs → xs.map (·.1) = kvs.map (·.1)
  | _, _, .nil => rfl
  | _, _, .cons h t => by
    rw [List.map_cons, List.map_cons, KT.keysEq t, h.1]
theorem call_dict_dT {X : Cx} (hu : X.A.units + 2 < cLine) : CallR X (.type "dict") rDictT := by
  intro pins s σ H xs us Q I r q
  obtain ⟨a, kvs, ex, hd, hk, q⟩ := q
  subst ex
  obtain ⟨u, eu, rx⟩ := vals1 r
  subst eu
  cases rx
  obtain ⟨z, lo, xs, rel, dd⟩ := dt_rd I.hok hd
  have ek := KT.keysEq rel
  have hall : ∀ k ∈ xs.map (·.1), smallK k := fun k hkm => by
    rw [ek] at hkm
    obtain ⟨kv, hkv, rfl⟩ := List.mem_map.mp hkm
    exact hk kv hkv
  have hn : (xs.map (·.1)).Nodup := dd.nodup
  have hap := small_nodup (prog := X.prog) (w := X.w) hall hn
  rw [List.map_map] at hap
  have hst : ∀ x ∈ xs, (tupleKind (mixKind X.prog X.w)).is s.heap x.1 x.2.1 := by
    obtain ⟨o, es, ep, h1, h2, h3, h4, h5, h6⟩ := id dd
    exact h5
  refine call_dictH (show X.A.units + 2 < cLine from hu) lo dd (by rw [← Paired.length rel]; exact z) (fun x hx => ?_) hap fun h' d' hs => ?_
  · obtain ⟨o, its, n, h1, h2, _⟩ := (show IsTupleKey (mixKind X.prog X.w) s.heap x.1 x.2.1 from hst x hx)
    exact ⟨o, h1, h2⟩
  have hm : (s.heap.objs.size == sysModules) = false := beq_eq_false_iff_ne.mpr (Nat.ne_of_gt I.big)
  have hf := I.hok.fresh (Nat.le_refl _)
  obtain ⟨o, es, ep, h1, h2, h3, h4, h5, h6⟩ := d'
  exact ⟨.ref s.heap.objs.size, upd H s.heap.objs.size (.dT kvs), I.laid (t' := s.toks) (fun b u e => (hs.2 b (Nat.ne_of_lt (Heap.lt_size e))).trans (Heap.get?_push_of_some _ e)) (Nat.le_refl _)
    (show ObjOk X.prog X.w _ _ _ (.dT kvs) from ⟨z, hm, xs, rel.keeps (fun c ys ec => (by rw [upd_ne (ne_of_none ec hf)]; exact ec)), o, es, ep, h1, h2, h3, h4, h6⟩), rfl, q _ hf⟩
/-- d.pop(k), k a key -/
def rPop1T : V → List V → Hp → VK → Prop := fun x xs H Q => ∃ (a : Addr) (kvs : List (List Key × V)) (k : List Key) (b : Addr) (v : V), x = .ref a ∧ xs = [.ref b] ∧ H a = some (.dT kvs) ∧ H b = some (.tup (k.map kV)) ∧ valV kvs k = some v ∧ Q v (upd H a (.dT (dropK kvs k)))
theorem mt_pop1T {X : Cx} (hu : X.A.units + 1 < cLine) : MtR X "dict.pop" rPop1T := by
  intro pins s σ H x xs v us Q I rx rxs h
  obtain ⟨a, kvs, k, b, v0, rfl, rfl, ha, hb, ev, q⟩ := h
  cases rx
  obtain ⟨u1, rfl, r1⟩ := vals1 rxs
  cases r1
  obtain ⟨z, hd, xs', rel, dd⟩ := dt_of I.hok ha
  have hz : xs'.length ≤ sizeLine := by rw [← Paired.length rel]; exact z
  have r := rel.val k
  rw [ev] at r
  obtain ⟨p, hp, rv⟩ : ∃ p, atKey xs' k = some p ∧ RelV v0 p.2 := by
    cases ep : atKey xs' k with
    | none =>
      rw [ep] at r
      exact (show False from r).elim
    | some p =>
      rw [ep] at r
      exact ⟨p, rfl, r⟩
  refine call_pop_heap (hsz := hz) (.inl rfl) (PySem.F.args_dict_pop_2 _ _) (tupleKind_room_in1 hu) (key_of I.hok hb) hd dd hp fun h' dd' hs => ?_
  obtain ⟨o, es, ep, hq, h2, h3, h4, _, h5⟩ := dd'
  have I2 : Inv X pins σ (upd H a (.dT (dropK kvs k))) { s with heap := h', toks := s.toks + (tupleKind (mixKind X.prog X.w)).draws k } :=
    d_write I (by rw [ha]; exact True.intro) hs ⟨o, hq⟩ ⟨Nat.le_trans (dropK_le kvs k) z, hd, _, (DX.KT_drop k rel).keeps (fun c ys ec => (by rw [upd_ne (ne_of ec ha (fun z => nomatch z))]; exact ec)), o, es, ep, hq, h2, h3, h4, h5⟩
  exact ⟨v0, _, I2, rv, q⟩
end L2

set_option Elab.async false
set_option maxRecDepth 100000
set_option maxHeartbeats 4000000
namespace L2
open PySem PySem.Spec PyProof.Rows
set_option linter.unusedVariables false
/-! a key that is no tuple, among keys that are tuples -/
inductive OddKey : V → Value → PyData → Prop
  | non : OddKey .non .none .none
  | int {i : Int} {t : Tok} : OddKey (.int i) (.int i t) (.int i)
  | str {x : Str} {t : Tok} : PyData.strOk x = true → OddKey (.str x) (.str x t) (.str x)
theorem OddKey.carried {v : V} {u : Value} {d : PyData} (h : OddKey v u d) : carriedByValue u = true := by cases h <;> rfl
theorem OddKey.eqv {v : V} {u : Value} {d : PyData} (h : OddKey v u d) (k : List Key) : PyData.eqv (keyD k) d = false := by
  cases h <;> (unfold keyD; simp [PyData.eqv])
def IntK (k : List Key) : Prop := ∀ x ∈ k, ∃ i : Int, x = .inl i
theorem canLay_key : ∀ k : List Key, IntK k → PyData.canLayAll0 (k.map keyD1) = true
  | [], _ => rfl
  | x :: k, h => by
    obtain ⟨i, rfl⟩ := h x List.mem_cons_self
    rw [List.map_cons, PyData.canLayAll0, canLay_key k fun y hy => h y (List.mem_cons_of_mem _ hy)]
    simp [keyD1, PyData.canLay0]
theorem OddKey.lay {v : V} {u : Value} {d : PyData} (h : OddKey v u d) : PyData.canLay0 d = true ∧ d.depth = 0 := by
  cases h with
  | non => exact ⟨by simp [PyData.canLay0], by simp [PyData.depth]⟩
  | int => exact ⟨by simp [PyData.canLay0], by simp [PyData.depth]⟩
  | str o => exact ⟨by simpa [PyData.canLay0] using o, by simp [PyData.depth]⟩
section
variable {X : Cx} {pins : List (Addr × Obj)} {σ : L2.St} {H : Hp} {s : Shared}
theorem OddKey.reads {v : V} {u : Value} {d : PyData} (h : OddKey v u d) (hp : Heap) : Reads hp u d [] := by
  cases h
  · exact .none
  · exact .int _ _
  · exact .str _ _
theorem OddKey.quiet {A : Around} {E : Value → Shared → Prop} {v : V} {u : Value} {d : PyData} (h : OddKey v u d) {Q : Bool → Shared → Prop} (q : Q true s) : wpAny (model X.prog X.w) A (eqIsQuiet 8 u) Q E s := by
  cases h <;> (unfold eqIsQuiet; exact wpAny_pure q)
/-- it isn't there -/
theorem find_odd (I : Inv X pins σ H s) {A : Around} {E : Value → Shared → Prop} (hu : A.units < cLine) {d : Addr} {o : Obj} {es : Array DictEntry} {ep : Nat} {xs : List (List Key × Addr × Value)} {kvs : List (List Key × V)} (ho : s.heap.get? d = some o) (hd : o.data = .dict es ep) (he : es.toList = xs.map (entryOfKey (tupleKind (mixKind X.prog X.w)))) (rel : KT H kvs xs) (hi : ∀ kv ∈ kvs, IntK kv.1)
    {v : V} {key : Value} {dk : PyData} (hk : OddKey v key dk) (h : Int) {Q : Option Nat → Shared → Prop} (q : Q none s) : wpAny (model X.prog X.w) A (dictFind d key h) Q E s := by
  have hall : ∀ x ∈ xs, ∃ k : List Key, H x.2.1 = some (.tup (k.map kV)) ∧ IntK k := by
    clear he
    induction rel with
    | nil => exact fun x hx => nomatch hx
    | @cons p y ks ys r _ ih =>
      intro x hx
      rcases List.mem_cons.mp hx with rfl | hx
      · exact ⟨p.1, r.2.1, hi p List.mem_cons_self⟩
      · exact ih (fun kv hkv => hi kv (List.mem_cons_of_mem _ hkv)) x hx
  have hmem : ∀ (i : Nat) (e : DictEntry), es[i]? = some e → ∃ (b : Addr) (k : List Key), e.key = .ref b ∧ H b = some (.tup (k.map kV)) ∧ IntK k := by
    intro i e hi
    have : e ∈ xs.map (entryOfKey (tupleKind (mixKind X.prog X.w))) := he ▸ Array.mem_toList_iff.mpr (Array.mem_of_getElem? hi)
    obtain ⟨x, hx, rfl⟩ := List.mem_map.mp this
    obtain ⟨k, hk⟩ := hall x hx
    exact ⟨x.2.1, k, rfl, hk⟩
  have hst : ∀ v ∈ (placesWithHash es.size (fun i => es[i]?.map (·.hash)) h).filterMap (fun i => es[i]?.map (·.key)), ∃ (b : Addr) (k : List Key), v = .ref b ∧ H b = some (.tup (k.map kV)) ∧ IntK k := by
    intro v hv
    obtain ⟨i, _, hi⟩ := List.mem_filterMap.mp hv
    cases hei : es[i]? with
    | none => rw [hei] at hi; cases hi
    | some e =>
      rw [hei] at hi
      obtain rfl : e.key = v := by simpa using hi
      exact hmem i e hei
  have unlike : ∀ {Q : Bool → Shared → Prop} {E : Value → Shared → Prop} {b : Addr} {k : List Key}, H b = some (.tup (k.map kV)) ∧ IntK k → Q false s → wpAny (model X.prog X.w) A (eqBool (.ref b) key) Q E s := fun {Q E b k} hb hq => by
    obtain ⟨as, ra⟩ := Dp.reads I (keyD k) (.ref b) (.ref b) (.tup (SqT.of hb.1) (keyD1_dp k)) rfl
    refine PySem.SeqAt.eqBoolOverData _ _ A E s _ _ _ dk _ [] Q ra (hk.reads _) (by unfold keyD; rw [PyData.canLay0]; exact canLay_key k hb.2) hk.lay.1 (by rw [hk.lay.2]; omega) ?_
    rw [hk.eqv]
    exact hq
  have walk : wpAny (model X.prog X.w) A (dictWalkPlain d key h es (placesWithHash es.size (fun i => es[i]?.map (·.hash)) h)) Q E s := by
    unfold dictWalkPlain
    refine wpAny_bind ?_
    refine wpAny_forIn_list _ (fun rest b s' => s' = s ∧ b = (none, ())) _ ?_ ?_ _ _ ⟨rfl, rfl⟩
    · rintro x rest b s' ⟨rfl, rfl⟩
      cases hx : es[x]? with
      | none => exact wpAny_pure ⟨rfl, rfl⟩
      | some e =>
        obtain ⟨b, k, ek, hb⟩ := hmem x e hx
        dsimp only
        by_cases hh : (e.hash == h) = true
        · rw [if_pos hh]
          refine wpAny_bind (wpAny_dictEpoch ho hd (wpAny_bind ?_))
          rw [ek]
          refine unlike hb (wpAny_bind (wpAny_dictEpoch ho hd ?_))
          show wpAny _ _ (if (ep != ep) = true then _ else _) _ E _
          rw [if_neg (by simp)]
          simp only [Bool.false_eq_true, if_false]
          exact wpAny_bind (wpAny_rule (wpAny_pure ⟨rfl, rfl⟩))
        · rw [if_neg hh]
          exact wpAny_pure ⟨rfl, rfl⟩
    · rintro b s' ⟨rfl, rfl⟩
      exact wpAny_pure q
  have tells : ∀ {Q : Bool → Shared → Prop} {E : Value → Shared → Prop}, Q false s → wpAny (model X.prog X.w) A (tableMayTell key ((placesWithHash es.size (fun i => es[i]?.map (·.hash)) h).filterMap (fun i => es[i]?.map (·.key)))) Q E s := fun {Q E} hq => by
    unfold tableMayTell
    split
    · exact wpAny_pure hq
    · refine wpAny_bind (hk.quiet (X := X) ?_)
      simp only [Bool.not_true, Bool.false_eq_true, if_false]
      refine wpAny_bind ?_
      refine wpAny_forIn_list _ (fun rest r s' => s' = s ∧ r = (none, ()) ∧ ∀ v ∈ rest, ∃ (b : Addr) (k : List Key), v = .ref b ∧ H b = some (.tup (k.map kV)) ∧ IntK k) _ ?_ ?_ _ _ ⟨rfl, rfl, hst⟩
      · rintro x rest r s' ⟨rfl, rfl, hr⟩
        obtain ⟨b, k, rfl, hb⟩ := hr x List.mem_cons_self
        refine wpAny_bind ((tupleKind (mixKind X.prog X.w)).quiet (key_of I.hok hb.1) ?_)
        simp only [Bool.not_true, Bool.false_eq_true, if_false]
        exact wpAny_pure ⟨rfl, rfl, fun v hv => hr v (List.mem_cons_of_mem _ hv)⟩
      · rintro r s' ⟨rfl, rfl, _⟩
        exact wpAny_pure hq
  cases hk with
  | non =>
    unfold dictFind
    try with_reducible refine wpAny_holding ?_
    refine wpAny_bind (wpAny_dictEntries ho hd ?_)
    dsimp only
    by_cases hc : ((Value.none :: (placesWithHash es.size (fun i => es[i]?.map (·.hash)) h).filterMap (fun i => es[i]?.map (·.key))).all carriedByValue) = true
    · rw [if_pos hc]
      exact walk
    · rw [if_neg hc]
      have hne : ¬ (((placesWithHash es.size (fun i => es[i]?.map (·.hash)) h).filterMap (fun i => es[i]?.map (·.key))) == [Value.none]) = true := by
        intro e
        have e := eq_of_beq e
        obtain ⟨b, k, e2, _⟩ := hst Value.none (by rw [e]; exact List.mem_cons_self)
        cases e2
      rw [if_neg hne]
      refine wpAny_bind (tells ?_)
      simp only [Bool.false_and, Bool.false_eq_true, if_false]
      refine wpAny_bind ?_
      refine wpAny_forIn_list _ (fun rest b s' => s' = s ∧ b = (none, none)) _ ?_ ?_ _ _ ⟨rfl, rfl⟩
      · rintro x rest b s' ⟨rfl, rfl⟩
        cases hx : es[x]? with
        | none => exact wpAny_pure ⟨rfl, rfl⟩
        | some e =>
          obtain ⟨b, k, ek, hb⟩ := hmem x e hx
          dsimp only
          by_cases hh : (e.hash == h) = true
          · rw [if_pos hh]
            refine wpAny_bind (wpAny_dictEpoch ho hd (wpAny_bind ?_))
            rw [ek]
            refine unlike hb (wpAny_bind (wpAny_dictEpoch ho hd ?_))
            show wpAny _ _ (if (ep != ep) = true then _ else _) _ E _
            rw [if_neg (by simp)]
            simp only [Bool.false_eq_true, if_false]
            exact wpAny_bind (wpAny_rule (wpAny_pure ⟨rfl, rfl⟩))
          · rw [if_neg hh]
            exact wpAny_pure ⟨rfl, rfl⟩
      · rintro b s' ⟨rfl, rfl⟩
        exact wpAny_pure q
  | @int i t =>
    unfold dictFind
    try with_reducible refine wpAny_holding ?_
    refine wpAny_bind (wpAny_dictEntries ho hd ?_)
    dsimp only
    by_cases hc : ((Value.int i t :: (placesWithHash es.size (fun i => es[i]?.map (·.hash)) h).filterMap (fun i => es[i]?.map (·.key))).all carriedByValue) = true
    · rw [if_pos hc]
      exact walk
    · rw [if_neg hc]
      have hne : ¬ (((placesWithHash es.size (fun i => es[i]?.map (·.hash)) h).filterMap (fun i => es[i]?.map (·.key))) == [Value.int i t]) = true := by
        intro e
        have e := eq_of_beq e
        obtain ⟨b, k, e2, _⟩ := hst (Value.int i t) (by rw [e]; exact List.mem_cons_self)
        cases e2
      rw [if_neg hne]
      refine wpAny_bind (tells ?_)
      simp only [Bool.false_and, Bool.false_eq_true, if_false]
      refine wpAny_bind ?_
      refine wpAny_forIn_list _ (fun rest b s' => s' = s ∧ b = (none, none)) _ ?_ ?_ _ _ ⟨rfl, rfl⟩
      · rintro x rest b s' ⟨rfl, rfl⟩
        cases hx : es[x]? with
        | none => exact wpAny_pure ⟨rfl, rfl⟩
        | some e =>
          obtain ⟨b, k, ek, hb⟩ := hmem x e hx
          dsimp only
          by_cases hh : (e.hash == h) = true
          · rw [if_pos hh]
            refine wpAny_bind (wpAny_dictEpoch ho hd (wpAny_bind ?_))
            rw [ek]
            refine unlike hb (wpAny_bind (wpAny_dictEpoch ho hd ?_))
            show wpAny _ _ (if (ep != ep) = true then _ else _) _ E _
            rw [if_neg (by simp)]
            simp only [Bool.false_eq_true, if_false]
            exact wpAny_bind (wpAny_rule (wpAny_pure ⟨rfl, rfl⟩))
          · rw [if_neg hh]
            exact wpAny_pure ⟨rfl, rfl⟩
      · rintro b s' ⟨rfl, rfl⟩
        exact wpAny_pure q
  | @str x t ox =>
    unfold dictFind
    try with_reducible refine wpAny_holding ?_
    refine wpAny_bind (wpAny_dictEntries ho hd ?_)
    dsimp only
    by_cases hs : (es.all fun e => isExactStrKey e.key) = true
    · rw [if_pos hs]
      have h0 : es = #[] := by
        by_cases h1 : 0 < es.size
        · obtain ⟨b, k, ek, _⟩ := hmem 0 es[0] (Array.getElem?_eq_getElem h1)
          have := Array.all_eq_true.mp hs 0 h1
          rw [ek] at this
          cases this
        · exact Array.size_eq_zero_iff.mp (by omega)
      subst h0
      unfold foundByValue
      have e0 : (#[] : Array DictEntry).findIdx? (fun y => y.key.isStr x) = none := by simp
      rw [e0]
      exact wpAny_pure q
    · rw [if_neg hs]
      by_cases hc : ((Value.str x t :: (placesWithHash es.size (fun i => es[i]?.map (·.hash)) h).filterMap (fun i => es[i]?.map (·.key))).all carriedByValue) = true
      · rw [if_pos hc]
        exact walk
      · rw [if_neg hc]
        have hne : ¬ (((placesWithHash es.size (fun i => es[i]?.map (·.hash)) h).filterMap (fun i => es[i]?.map (·.key))) == [Value.str x t]) = true := by
          intro e
          have e := eq_of_beq e
          obtain ⟨b, k, e2, _⟩ := hst (Value.str x t) (by rw [e]; exact List.mem_cons_self)
          cases e2
        rw [if_neg hne]
        refine wpAny_bind (tells ?_)
        simp only [Bool.false_and, Bool.false_eq_true, if_false]
        refine wpAny_bind ?_
        refine wpAny_forIn_list _ (fun rest b s' => s' = s ∧ b = (none, none)) _ ?_ ?_ _ _ ⟨rfl, rfl⟩
        · rintro x rest b s' ⟨rfl, rfl⟩
          cases hx : es[x]? with
          | none => exact wpAny_pure ⟨rfl, rfl⟩
          | some e =>
            obtain ⟨b, k, ek, hb⟩ := hmem x e hx
            dsimp only
            by_cases hh : (e.hash == h) = true
            · rw [if_pos hh]
              refine wpAny_bind (wpAny_dictEpoch ho hd (wpAny_bind ?_))
              rw [ek]
              refine unlike hb (wpAny_bind (wpAny_dictEpoch ho hd ?_))
              show wpAny _ _ (if (ep != ep) = true then _ else _) _ E _
              rw [if_neg (by simp)]
              simp only [Bool.false_eq_true, if_false]
              exact wpAny_bind (wpAny_rule (wpAny_pure ⟨rfl, rfl⟩))
            · rw [if_neg hh]
              exact wpAny_pure ⟨rfl, rfl⟩
        · rintro b s' ⟨rfl, rfl⟩
          exact wpAny_pure q
/-- what may be put among keys that are tuples, and is none -/
def OddV (y : V) : Prop := y = .non ∨ (∃ i, y = .int i) ∨ ∃ x, y = .str x ∧ PyData.strOk x = true
theorem OddV.key {y : V} {u : Value} (h : OddV y) (r : RelV y u) : ∃ d, OddKey y u d := by
  rcases h with rfl | ⟨i, rfl⟩ | ⟨x, rfl, o⟩
  · cases (show u = Value.none from r)
    exact ⟨_, .non⟩
  · obtain ⟨t, rfl⟩ := r
    exact ⟨_, .int⟩
  · obtain ⟨t, rfl⟩ := r
    exact ⟨_, .str o⟩
theorem OddKey.hash {A : Around} {E : Value → Shared → Prop} {v : V} {u : Value} {d : PyData} (h : OddKey v u d) {Q : Int → Shared → Prop} (q : ∀ i, Q i { s with toks := s.toks + 1 }) : wpAny (model X.prog X.w) A (pyHash u) Q E s := by
  cases h with
  | non => exact pyHash_leaf (k := .none) rfl (q _)
  | @int i t => exact pyHash_leaf (k := .num i) (by simp [Leaf.isOf]) (q _)
  | @str x t o => exact pyHash_leaf (k := .text x) (by simp [Leaf.isOf, Value.isStrOf]) (q _)
/-- a dict of tuple keys in which one more key stands, at the end, that is none; its object is o -/
structure OddW (o : Obj) (H : Hp) (a : Addr) (kvs : List (List Key × V)) (k v : V) : Prop where
  at' : H a = some (.ext fun h => h.get? a = some o)
  ec : o.ExactDict
  ex : ∃ (es : Array DictEntry) (ep : Nat) (xs : List (List Key × Addr × Value)) (uk uv : Value), o.data = .dict es ep ∧ (a == sysModules) = false ∧ KT H kvs xs ∧ RelV k uk ∧ RelV v uv ∧
    es.toList.map (fun e => (e.key, e.val)) = xs.map (fun x => (Value.ref x.2.1, x.2.2)) ++ [(uk, uv)] ∧ es.size ≤ sizeLine
  key : OddV k
def OddAt (H : Hp) (a : Addr) (kvs : List (List Key × V)) (k v : V) : Prop := ∃ o, OddW o H a kvs k v
theorem OddW.mono {o : Obj} {H H' : Hp} {a : Addr} {kvs : List (List Key × V)} {k v : V} (h : OddW o H a kvs k v) (s : ∀ b u, H b = some u → H' b = some u) : OddW o H' a kvs k v := by
  obtain ⟨h1, h2, ⟨es, ep, xs, uk, uv, h3, h4, h5, h6⟩, h7⟩ := h
  exact ⟨s _ _ h1, h2, ⟨es, ep, xs, uk, uv, h3, h4, h5.keeps (fun c ys e => s _ _ e), h6⟩, h7⟩
theorem put_odd (I : Inv X pins σ H s) {A : Around} {E : Value → Shared → Prop} (hu : A.units + 1 < cLine) {a : Addr} {kvs : List (List Key × V)} {y v : V} {u r : Value} {Q : Unit → Shared → Prop} (ha : H a = some (.dT kvs)) (hi : ∀ kv ∈ kvs, IntK kv.1) (hz : kvs.length < sizeLine) (hy : OddV y) (ry : RelV y u) (rv : RelV v r)
    (q : ∀ φ s', OddAt (upd H a (.ext φ)) a kvs y v → Inv X pins σ (upd H a (.ext φ)) s' → Q () s') : wpAny (model X.prog X.w) A (setItem (.ref a) u r) Q E s := by
  obtain ⟨dk, hk⟩ := hy.key ry
  obtain ⟨z, hd, xs, rel, dd⟩ := dt_of I.hok ha
  obtain ⟨o, es, ep, ho, hc, hdat, he, his, hn⟩ := id dd
  have hty : s.TypeIs (.ref a) "dict" := ⟨o, ho, hc.1⟩
  have hes : es.size = kvs.length := by rw [size_of_entries he, ← Paired.length rel]
  unfold setItem
  try with_reducible refine wpAny_holding ?_
  refine wpAny_bind (wpAny_sequenceKey hty (by decide) ?_)
  refine wpAny_bind (wpAny_callSpecial?_slot (name := Str.ofString "__setitem__") hty PySem.slot_dict_setitem
    (wpAny_call_entry PySem.slot_dict_setitem hty PySem.entry_dict_setitem ?_ (PySem.args_dict_setitem _ _ _)))
  show wpAny _ _ (Builtin.Dict.notOrdered "__setitem__" ⟨[.ref a, u, r], []⟩ >>= _) _ _ s
  refine wpAny_bind (wpAny_notOrdered_dict hty ?_)
  show wpAny _ _ (dictSet a u r >>= _) _ _ s
  refine wpAny_bind ?_
  unfold dictSet
  try with_reducible refine wpAny_holding ?_
  refine wpAny_bind (hk.hash (X := X) fun hh => ?_)
  unfold dictSetHashed
  try with_reducible refine wpAny_holding ?_
  have I1 : Inv X pins σ H { s with toks := s.toks + 1 } := I.tok _
  refine wpAny_bind (find_odd I1 (show A.in1.units < cLine from by show A.units + 1 < cLine; exact hu) ho hdat he rel hi hk hh ?_)
  refine wpAny_bind (wpAny_rule (wpAny_updateDictKeys (s := { s with toks := s.toks + 1 }) (hz := by omega) ho hdat ?_))
  refine wpAny_pure ⟨.none, rfl, wpAny_pure ?_⟩
  have hg := Heap.get?_update_self (Obj.mapDictKeys fun es => es.push ⟨hh, u, r⟩) ho (Obj.isFreed_of_dict (Obj.data_mapDictKeys hdat _))
  have hs : Heap.SameBut a s.heap (s.heap.update a (Obj.mapDictKeys fun es => es.push ⟨hh, u, r⟩)) := Heap.SameBut.update ..
  refine q (fun h => h.get? a = some (Obj.mapDictKeys (fun es => es.push ⟨hh, u, r⟩) o)) _ ⟨_, upd_same, hc.mapDictKeys _, ⟨_, ep + 1, xs, u, r, Obj.data_mapDictKeys hdat _, hd, rel.keeps (fun c ys ec => by rw [upd_ne (ne_of ec ha (fun z => nomatch z))]; exact ec), ry, rv, ?_, ?_⟩, hy⟩ ?_
  · rw [Array.toList_push, List.map_append, he, List.map_map]
    rfl
  · rw [Array.size_push]
    omega
  · exact d_write (t' := s.toks + 1) I1 (by rw [ha]; exact True.intro) hs ⟨_, hg⟩ ⟨hg, ⟨_, hg⟩, fun h1 h2 e k => k _ e⟩
/-- as it lies -/
theorem OddW.entries (I : Inv X pins σ H s) {d : Addr} {o : Obj} {kvs : List (List Key × V)} {k v : V} (h : OddW o H d kvs k v) :
    (d == sysModules) = false ∧ ∃ (es : Array DictEntry) (ep : Nat), o.data = .dict es ep ∧ DT.Raw s.heap d es ep ∧ es.size = kvs.length + 1 ∧
      (∀ (i : Nat) (k : List Key) (v : V), kvs[i]? = some (k, v) → ∃ (hi : i < es.size) (q : Addr), es[i].key = .ref q ∧ H q = some (.tup (k.map kV)) ∧ RelV v es[i].val) ∧ ∃ hi : kvs.length < es.size, RelV k es[kvs.length].key ∧ RelV v es[kvs.length].val := by
  obtain ⟨h1, h2, ⟨es, ep, xs, uk, uv, h3, h4, h5, h6, h7, h8, h9⟩, hk⟩ := h
  have there : s.heap.get? d = some o := (show ObjOk X.prog X.w H s.heap d (.ext fun h => h.get? d = some o) from I.hok _ _ h1).1
  have l5 : kvs.length = xs.length := Paired.length h5
  have sizes : es.size = kvs.length + 1 := by
    have := congrArg List.length h8
    rw [List.length_map, List.length_append, List.length_map, Array.length_toList] at this
    simpa [l5] using this
  have at8 : ∀ (i : Nat) (hi : i < es.size), (es.toList.map (fun e => (e.key, e.val)))[i]? = some (es[i].key, es[i].val) := fun i hi => by
    rw [List.getElem?_map, Array.getElem?_toList, Array.getElem?_eq_getElem hi]
    rfl
  refine ⟨h4, es, ep, h3, ⟨o, there, h2, h3⟩, sizes, fun i k v e => ?_, by omega, ?_⟩
  · obtain ⟨b, hb, e1, e2, e3⟩ := paired_get h5 e
    have hi : i < es.size := by have := (List.getElem?_eq_some_iff.mp e).1; omega
    have q := at8 i hi
    rw [h8, List.getElem?_append_left (by rw [List.length_map]; exact (List.getElem?_eq_some_iff.mp hb).1), List.getElem?_map, hb] at q
    injection q with q
    injection q with q1 q2
    exact ⟨hi, b.2.1, q1.symm, e2, by rw [← q2]; exact e3⟩
  · have hi : kvs.length < es.size := by omega
    have q := at8 kvs.length hi
    rw [h8, List.getElem?_append_right (by rw [List.length_map]; omega), List.length_map, show kvs.length - xs.length = 0 by omega] at q
    injection q with q
    injection q with q1 q2
    exact ⟨by rw [← q1]; exact h6, by rw [← q2]; exact h7⟩
end
/-- the items of the odd dict at d -/
def ItO (o : Obj) (d : Addr) (kvs : List (List Key × V)) (k v : V) : It :=
  ⟨fun i H => OddW o H d kvs k v ∧ i < kvs.length + 1,
   fun i H x H' => ∃ (T : Addr) (a b : V), x = .ref T ∧ H T = none ∧ H' = upd H T (.tup [a, b]) ∧ ((∃ (q : Addr) (k' : List Key), kvs[i]? = some (k', b) ∧ H q = some (.tup (k'.map kV)) ∧ a = .ref q) ∨ (i = kvs.length ∧ a = k ∧ b = v)),
   fun i H => OddW o H d kvs k v ∧ kvs.length + 1 ≤ i⟩
theorem turn_itemsO {P : Program} {w : World} {K : PySem.W.Frag} {d : Addr} {o : Obj} {es : Array DictEntry} {ep : Nat} {kvs : List (List Key × V)} {k v : V} {elts : List Expr} {kk : Nat} {tpos : Pos} (it : Addr) (hod : o.data = .dict es ep) :
    Turn P w K (.Tuple elts kk tpos) (ItO o d kvs k v) [it] it (fun i h => ∃ ok ov, IsItemIter h it d i (kvs.length + 1) ep ok ov) where
  mem := by simp
  obj := fun i h ⟨ok, ov, e⟩ b hb => by
    rw [List.mem_singleton.mp hb]
    exact ⟨_, e, fun v z => nomatch z⟩
  keep := fun i h h' ⟨ok, ov, e⟩ k => ⟨ok, ov, k it (by simp) _ e⟩
  item := by
    rintro X rfl rfl rfl hc i pins s σ H E I hf ⟨ok, ov, he⟩ ⟨hd, hi⟩
    obtain ⟨_, es', ep', hdt, raw, hsz, ent, hlast, lk, lv⟩ := hd.entries I
    obtain ⟨rfl, rfl⟩ := dict_ep hod hdt
    have hi' : i < es'.size := by omega
    obtain ⟨a, b, ra, rb, hab⟩ : ∃ a b : V, RelV a es'[i].key ∧ RelV b es'[i].val ∧ ((∃ (q : Addr) (k' : List Key), kvs[i]? = some (k', b) ∧ H q = some (.tup (k'.map kV)) ∧ a = .ref q) ∨ (i = kvs.length ∧ a = k ∧ b = v)) := by
      by_cases c : i < kvs.length
      · obtain ⟨⟨k', v'⟩, hkv⟩ : ∃ p, kvs[i]? = some p := ⟨kvs[i], List.getElem?_eq_getElem c⟩
        obtain ⟨hi2, q, hkey, hq, rv⟩ := ent i k' v' hkv
        exact ⟨.ref q, v', hkey, rv, .inl ⟨q, k', hkv, hq, rfl⟩⟩
      · have e : i = kvs.length := by omega
        subst e
        exact ⟨k, v, lk, lv, .inr ⟨rfl, rfl, rfl⟩⟩
    rw [← hsz] at he
    have hlt : it < s.heap.objs.size := Heap.lt_size he
    refine DT.nextI he raw hi' fun h' out laid grown kept => ?_
    refine ⟨_, rfl, wpAny_letOwnedTupleGo_items (s := { s with heap := h' }) out fun h'' he' sb => ?_⟩
    have laid2 : h''.get? s.heap.objs.size = some { cls := .type "tuple", data := .seq #[es'[i].key, es'[i].val] } := (sb.2 _ (Nat.ne_of_gt hlt)).trans laid
    have pair : ObjOk X.prog X.w (upd H s.heap.objs.size (.tup [a, b])) h'' s.heap.objs.size (.tup [a, b]) :=
      ⟨by show 2 ≤ sizeLine; decide, [es'[i].key, es'[i].val], .cons ra (.cons rb .nil), ⟨_, laid2, rfl, _, rfl⟩⟩
    have I1 : Inv X pins σ (upd H s.heap.objs.size (.tup [a, b])) { s with heap := h'' } :=
      I.turnedNew (t' := s.toks) (ch := [it]) (fun b ob hb e => (sb.2 b (fun z => hb (List.mem_singleton.mpr z))).trans (kept b ob (fun z => hb (List.mem_singleton.mpr z)) e)) hf (Nat.le_refl _) pair
    refine ⟨.ref s.heap.objs.size, _, I1, rfl, ⟨_, a, b, rfl, I.hok.fresh (Nat.le_refl _), rfl, hab⟩, ⟨es'[i].key, es'[i].val, by rw [← hsz]; exact he'⟩, fun b hb => ?_⟩
    rw [List.mem_singleton.mp hb, upd_ne (Nat.ne_of_lt hlt)]
    exact (hf it (by simp)).1
  done := by
    rintro X rfl rfl rfl hc i pins s σ H E I hf ⟨ok, ov, he⟩ ⟨hd, hi⟩
    obtain ⟨f0, f1, f2, f3, f4, f5⟩ := hf it (by simp)
    obtain ⟨_, es', ep', hdt, raw, hsz, _⟩ := hd.entries I
    obtain ⟨rfl, rfl⟩ := dict_ep hod hdt
    rw [← hsz] at he
    exact DT.endI (I.ok.hd hc) he raw (by omega) fun h' eb => ⟨rfl, I.turned (t' := s.toks) (fun b ob hb e => eb b ob hb e) f0 f1 f3 f4 f5⟩
  self := fun A i s Q E ⟨_, _, e⟩ h => PySem.W.kcp_self e h
/-- for a, b in e.items(): e an odd dict -/
def iItemsO (td : TE) : TI := fun σ H R => td σ H fun x H1 => ∃ d o kvs k v, x = .ref d ∧ OddW o H1 d kvs k v ∧ R (ItO o d kvs k v) H1
theorem pi_itemsO {X : Cx} {e : Expr} {td : TE} {apos cpos : Pos} {elts : List Expr} {kk : Nat} {tpos : Pos} (he : PE X e td) (hbase : attributeBase e "items" X.env (eval e X.env) = eval e X.env := by rfl) (hline : (apos.endLine == cpos.line) = true := by rfl) :
    PI X (.Tuple elts kk tpos) (.Call (.Attribute e "items" apos) [] [] cpos) (iItemsO td) := by
  refine ⟨fun pins s σ H R I h => ?_⟩
  refine wpAny_Call_method (T := "dict") (id := "dict.items") hbase rfl hline F.plainAttrs_dict F.slot_dict_items F.type_dict_items (thn (he.run pins s σ H _ I h) fun u s1 ⟨x, H1, I1, rx, d, o, kvs, k, v, ex, hd, q⟩ => ?_)
  subst ex
  obtain rfl : u = Value.ref d := rx
  obtain ⟨notSys, es, ep, hdt, raw, hsz, ent, _⟩ := hd.entries I1
  refine ⟨raw.typeIs, fun b z => ?_, ?_⟩
  · cases z
    obtain ⟨ob, h1, h2, h3⟩ := raw
    exact ⟨ob, h1, h2.2.1⟩
  have I2 : Inv X pins σ H1 { s1 with heap := s1.heap.push { cls := .type "dict_items", data := .fields #[.ref d] } } := I1.kept (t' := s1.toks) fun b ob q => Heap.get?_push_of_some _ q
  have walk : wpAny (model X.prog X.w) X.A (pyIter (.ref s1.heap.objs.size)) (PIE X pins σ (.Tuple elts kk tpos) R) X.xe { s1 with heap := s1.heap.push { cls := .type "dict_items", data := .fields #[.ref d] } } := by
    refine DT.iterI (d := d) ⟨_, Heap.get?_push_size _ rfl, rfl, rfl⟩ (raw.push _) (pi_one (tk := s1.toks) I2 _ (turn_itemsO _ hdt) ⟨.none, .none, ?_⟩ q)
    rw [← hsz]
    exact Heap.get?_push_size _ rfl
  show wpAny _ _ (callWith cpos (.builtin "dict.items") [.ref d] [] []) _ X.xe s1
  exact method_meetsIn F.slot_dict_items F.entry_dict_items rfl (PySem.evalArgs_none ⟨rfl, raw.typeIs, F.args_dict_items_1 _, _, DT.meetsItems (es := es) (ep := ep) notSys, raw, walk⟩)
end L2

set_option Elab.async false
set_option maxRecDepth 100000
set_option maxHeartbeats 4000000
namespace PySem
section
variable {prog : Program} {w : World} {A : Around} {E : Value → Shared → Prop} {s : Shared}
theorem wpAny_len_body_raw {d : Addr} {es : Array DictEntry} {ep : Nat} {Q : Value → Shared → Prop} (hd : (d == sysModules) = false) (hm : s.heap.DictRaw d es ep) (hfit : (es.size : Int) < 2 ^ 63)
    (h : Q (.int es.size (s.toks + 1)) { s with toks := s.toks + 1 + 1 }) : wpAny (model prog w) A (Builtin.«len» ⟨[.ref d], []⟩) (fun fin s' => ∃ r, fin = .done (.ret r) ∧ Q r s') E s := by
  unfold Builtin.«len»
  refine wpAny_bind (m := oneArg "len" _) (wpAny_pure ?_)
  refine wpAny_bind (m := callSpecial? (.ref d) (Str.ofString "__len__")) (wpAny_callSpecial?_slot (name := Str.ofString "__len__") hm.typeIs F.slot_dict_len
    (call_len_raw hd hm ?_))
  show wpAny _ _ _ _ _ { s with toks := s.toks + 1 }
  refine wpAny_bind (wpAny_holding (wpAny_pure ?_))
  refine wpAny_bind (wpAny_letGo ?_)
  show wpAny _ _ (if ((es.size : Nat) : Int) < 0 then _ else _) _ _ _
  rw [if_neg (by omega)]
  show wpAny _ _ (if ((es.size : Nat) : Int) ≥ 2 ^ 63 then _ else _) _ _ _
  rw [if_neg (by omega)]
  exact wpAny_bind (wpAny_mkInt (wpAny_pure ⟨_, rfl, h⟩))
end
end PySem
namespace L2
open PySem PySem.Spec PyProof.Rows
set_option linter.unusedVariables false
section
variable {X : Cx} {pins : List (Addr × Obj)} {σ : L2.St} {H : Hp} {s : Shared}
def rLenO : List V → Hp → VK → Prop := fun xs H Q => ∃ (p : Addr) (kvs : List (List Key × V)) (k v : V), xs = [.ref p] ∧ OddAt H p kvs k v ∧ Q (.int ((kvs.length + 1 : Nat) : Int)) H
theorem call_len_O : CallR X (.builtin "len") rLenO := by
  intro pins s σ H xs us Q I r h
  obtain ⟨p, kvs, k, v, rfl, ⟨o, hp⟩, q⟩ := h
  obtain ⟨u, rfl, rx⟩ := vals1 r
  obtain rfl : u = .ref p := rx
  obtain ⟨z, es, ep, hdt, ⟨o', raw⟩, hsz, _⟩ := hp.entries I
  obtain ⟨es1, ep1, xs, uk, uv, h3, _, _, _, _, _, h9⟩ := hp.ex
  have e1 : es1 = es := by rw [hdt] at h3; cases h3; rfl
  subst e1
  refine Calls.call_function_entry kind_len plain_len entry_len (args_len1 _) (wpAny_len_body_raw z ⟨o', raw⟩ (by rw [sizeLine_eq] at h9; omega) ?_)
  rw [hsz]
  exact ⟨.int ((kvs.length + 1 : Nat) : Int), H, I.tok _, ⟨_, rfl⟩, q⟩
def rIsiO (K : PySem.W.Frag) : List V → Hp → VK → Prop := fun xs H Q => ∃ (p : Addr) (kvs : List (List Key × V)) (k v c : V) (u : Value) (b : Bool), xs = [.ref p, c] ∧ OddAt H p kvs k v ∧ ClsV c u ∧ PySem.W.kitOne K (.type "dict") u = some b ∧ Q (.bl b) H
theorem call_isiO : CallR X (.builtin "isinstance") (rIsiO X.K) := by
  intro pins s σ H xs us Q I r h
  obtain ⟨p, kvs, k, v, c, u, b, rfl, ⟨o, hp⟩, hc, e, q⟩ := h
  obtain ⟨u1, u2, rfl, r1, r2⟩ := vals2 r
  have e2 := hc.eq r2
  subst e2
  cases (show u1 = Value.ref p from r1)
  obtain ⟨z, es, ep, hdt, ⟨o', h1, h2, h3⟩, hsz, _⟩ := hp.entries I
  exact PySem.W.kia_one PySem.W.kitx_dict I.kIn ⟨o', h1, h2.1⟩ e (fun z => nomatch z) fun tk => ⟨.bl b, H, I.tok tk, rfl, q⟩
/-- d[y] = v, y perhaps no tuple -/
def sDPutO (td ty tv : TE) : TS := fun D σ H => tv σ H fun v H1 => td σ H1 fun x H2 => ty σ H2 fun y H3 => (∃ a H4, x = .ref a ∧ DPut H3 a y v H4 ∧ D.nx σ H4) ∨
  ∃ (a : Addr) (kvs : List (List Key × V)), x = .ref a ∧ H3 a = some (.dT kvs) ∧ (∀ kv ∈ kvs, IntK kv.1) ∧ kvs.length < sizeLine ∧ OddV y ∧ ∀ φ, OddAt (upd H3 a (.ext φ)) a kvs y v → D.nx σ (upd H3 a (.ext φ))
theorem ps_dputO {o i value : Expr} {td ty tv : TE} {pos pos' : Pos} (hu : X.A.units + 1 < cLine) (ho : PE X o td) (hi : PE X i ty) (hv : PE X value tv) (hs : swapsWith value (some (.Subscript o i pos')) pos.line X.env = pure false) :
    PS X (.Assign [.Subscript o i pos'] value pos) (sDPutO td ty tv) := by
  refine ⟨fun pins s σ H D I h => ?_⟩
  refine wpAny_Assign_Subscript (thn (hv.run pins s σ H _ I h) fun r s1 ⟨v, H1, I1, rv, q1⟩ => thn (ho.run pins s1 σ H1 _ I1 q1) fun u s2 ⟨x, H2, I2, rx, q2⟩ => thn (hi.run pins s2 σ H2 _ I2 q2) fun iv s3 ⟨y, H3, I3, ry, q3⟩ => ?_) hs
  rcases q3 with ⟨a, H4, ex, g, q3⟩ | ⟨a, kvs, ex, ha, hk, hz, hy, q3⟩
  · subst ex
    obtain rfl : u = Value.ref a := rx
    exact d_setItem hu I3 g ry rv fun s4 I4 => ⟨σ, H4, I4, q3⟩
  · subst ex
    obtain rfl : u = Value.ref a := rx
    exact put_odd I3 hu ha hk hz hy ry rv fun φ s4 od I4 => ⟨σ, _, I4, q3 φ od⟩
/-! what may be shown: an odd dict too -/
inductive DY (K : PySem.W.Frag) (H : Hp) : V → PyData → Prop
  | even {v : V} {d : PyData} : DX K H v d → DY K H v d
  | odd {a : Addr} {kvs : List (List Key × V)} {k v : V} {vs : List V} {ds : List PyData} {es : List (PyData × PyData)} {dk dv : PyData} : OddAt H a kvs k v → vs = kvs.map (·.2) → DXs K H vs ds → es.map (·.1) = kvs.map (fun kv => keyD kv.1) → es.map (·.2) = ds → Dp K H k dk → dk.hasDict = false → DX K H v dv → DY K H (.ref a) (.dict (es ++ [(dk, dv)]))
  | lst {a : Addr} {xs : List V} {ds : List PyData} : SqL K H a xs → xs.length = ds.length → (∀ (i : Nat) (x : V) (d : PyData), xs[i]? = some x → ds[i]? = some d → DY K H x d) → DY K H (.ref a) (.list ds)
  | tup {a : Addr} {xs : List V} {ds : List PyData} : SqT K H a xs → xs.length = ds.length → (∀ (i : Nat) (x : V) (d : PyData), xs[i]? = some x → ds[i]? = some d → DY K H x d) → DY K H (.ref a) (.tuple ds)
theorem shwS_of {P : Program} {w : World} {h : Heap} : ∀ {xs : List V} {us : List Value} {ds : List PyData}, Vals xs us → xs.length = ds.length → (∀ (i : Nat) (x : V) (d : PyData) (u : Value), xs[i]? = some x → ds[i]? = some d → RelV x u → Shw P w h u d) → ShwS P w h us ds
  | _, _, [], .nil, _, _ => shw_nil
  | _, _, d :: ds, .cons r rs, hl, g => shw_cons (g 0 _ d _ rfl rfl r) (shwS_of rs (by simpa using hl) fun i x d u hx hd hr => g (i + 1) x d u (by simpa using hx) (by simpa using hd) hr)
  | _, _, [], .cons r rs, hl, _ => by simp at hl
  | _, _, d :: ds, .nil, hl, _ => by simp at hl
theorem shwS_idx {P : Program} {w : World} {h : Heap} : ∀ {us : List Value} {ds : List PyData}, us.length = ds.length → (∀ (i : Nat) (u : Value) (d : PyData), us[i]? = some u → ds[i]? = some d → Shw P w h u d) → ShwS P w h us ds
  | [], [], _, _ => shw_nil
  | u :: us, d :: ds, hl, g => shw_cons (g 0 _ d rfl rfl) (shwS_idx (by simpa using hl) fun i u d hx hd => g (i + 1) u d (by simpa using hx) (by simpa using hd))
  | [], d :: ds, hl, _ => by simp at hl
  | u :: us, [], hl, _ => by simp at hl
theorem DXs.get {K : PySem.W.Frag} {H : Hp} : ∀ {vs : List V} {ds : List PyData} {i : Nat} {v : V}, DXs K H vs ds → vs[i]? = some v → ∃ d, ds[i]? = some d ∧ DX K H v d
  | _, _, 0, _, .cons a _, h => by
    cases h
    exact ⟨_, rfl, a⟩
  | _, _, i + 1, _, .cons _ b, h => by
    obtain ⟨d, h1, h2⟩ := DXs.get (i := i) b (by simpa using h)
    exact ⟨d, by simpa using h1, h2⟩
  | _, _, _, _, .nil, h => by simp at h
theorem DXs.len {K : PySem.W.Frag} {H : Hp} : ∀ {vs : List V} {ds : List PyData}, DXs K H vs ds → vs.length = ds.length
  | _, _, .nil => rfl
  | _, _, .cons _ b => by rw [List.length_cons, List.length_cons, DXs.len b]
theorem DY.shw (I : Inv X pins σ H s) {v : V} {d : PyData} (h : DY X.K H v d) : ∀ u : Value, RelV v u → Shw X.prog X.w s.heap u d := by
  induction h with
  | even h => exact fun u r => DX.shw I h u r
  | @lst a xs ds hq hl g ih =>
    intro u r
    obtain rfl : u = Value.ref _ := r
    obtain ⟨its, rv, ⟨o, n, ho, hc, _, hd⟩, _⟩ := I.list hq
    exact shw_lst ho hc hd (shwS_of rv hl fun i x d u hx hd hr => ih i x d hx hd u hr)
  | @tup a xs ds hq hl g ih =>
    intro u r
    obtain rfl : u = Value.ref _ := r
    obtain ⟨its, rv, ⟨o, ho, hc, n, hd⟩, _⟩ := I.tuple hq
    exact shw_tup ho hc hd (shwS_of rv hl fun i x d u hx hd hr => ih i x d hx hd u hr)
  | @odd a kvs k v vs ds es dk dv ho ev g ek ed hk nk hv =>
    intro u r
    obtain rfl : u = Value.ref a := r
    obtain ⟨o, hp⟩ := ho
    obtain ⟨z, es', ep, hdt, ⟨o', h1, h2, h3⟩, hsz, ent, hlast, lk, lv⟩ := hp.entries I
    have el : es.length = kvs.length := by
      have := congrArg List.length ek
      rwa [List.length_map, List.length_map] at this
    have at8 : ∀ {α : Type} (f : DictEntry → α) (i : Nat) (u : α), (es'.toList.map f)[i]? = some u → ∃ hi : i < es'.size, u = f es'[i] := fun f i u hu => by
      rw [List.getElem?_map] at hu
      obtain ⟨e, he, rfl⟩ := Option.map_eq_some_iff.mp hu
      rw [Array.getElem?_toList] at he
      obtain ⟨hi, rfl⟩ := Array.getElem?_eq_some_iff.mp he
      exact ⟨hi, rfl⟩
    have keys : ShwS X.prog X.w s.heap (es'.toList.map (·.key)) ((es ++ [(dk, dv)]).map (·.1)) := by
      refine shwS_idx (by rw [List.length_map, List.length_map, List.length_append, Array.length_toList, hsz, el]; rfl) fun i u d hu hd => ?_
      obtain ⟨hi, rfl⟩ := at8 _ i u hu
      rw [List.map_append] at hd
      by_cases c : i < kvs.length
      · rw [List.getElem?_append_left (by rw [List.length_map, el]; exact c), ek, List.getElem?_map, List.getElem?_eq_getElem c] at hd
        cases hd
        obtain ⟨_, q, e1, e2, _⟩ := ent i kvs[i].1 kvs[i].2 (List.getElem?_eq_getElem c)
        rw [e1]
        obtain ⟨as, ra⟩ := Dp.reads I (keyD kvs[i].1) (.ref q) (.ref q) (.tup (SqT.of e2) (keyD1_dp _)) rfl
        exact shw_seq ra (by unfold keyD; rw [PyData.hasDict]; exact keyD1_no _)
      · have ei : i = kvs.length := by omega
        subst ei
        rw [List.getElem?_append_right (by rw [List.length_map, el]; exact Nat.le_refl _), List.length_map, el, Nat.sub_self] at hd
        cases hd
        obtain ⟨as, ra⟩ := Dp.reads I dk k _ hk lk
        exact shw_seq ra nk
    have vals : ShwS X.prog X.w s.heap (es'.toList.map (·.val)) ((es ++ [(dk, dv)]).map (·.2)) := by
      refine shwS_idx (by rw [List.length_map, List.length_map, List.length_append, Array.length_toList, hsz, el]; rfl) fun i u d hu hd => ?_
      obtain ⟨hi, rfl⟩ := at8 _ i u hu
      rw [List.map_append] at hd
      by_cases c : i < kvs.length
      · rw [List.getElem?_append_left (by rw [List.length_map, el]; exact c), ed] at hd
        obtain ⟨_, q, e1, e2, e3⟩ := ent i kvs[i].1 kvs[i].2 (List.getElem?_eq_getElem c)
        obtain ⟨d', h4, h5⟩ := DXs.get g (i := i) (v := kvs[i].2) (by rw [ev, List.getElem?_map, List.getElem?_eq_getElem c]; rfl)
        rw [h4] at hd
        cases hd
        exact DX.shw I h5 _ e3
      · have ei : i = kvs.length := by omega
        subst ei
        rw [List.getElem?_append_right (by rw [List.length_map, el]; exact Nat.le_refl _), List.length_map, el, Nat.sub_self] at hd
        cases hd
        exact DX.shw I hv _ lv
    exact shw_dic h1 h2.1 h3 z keys vals
/-- repr of a tuple in which odd dicts may stand -/
def rReprY (K : PySem.W.Frag) : List V → Hp → VK → Prop := fun xs H Q => ∃ (a : Addr) (vs : List V) (ds : List PyData), xs = [.ref a] ∧ SqT K H a vs ∧ vs.length = ds.length ∧ (∀ (i : Nat) (x : V) (d : PyData), vs[i]? = some x → ds[i]? = some d → DY K H x d) ∧ (PyData.tuple ds).showable = true ∧ (PyData.tuple ds).depth ≤ 40 ∧ (PyData.tuple ds).shown.length ≤ sizeLine ∧ Q (.str (PyData.tuple ds).shown) H
theorem call_reprY (hg : X.A.guards = some []) (hu : X.A.units + 64 < cLine) : CallR X (.builtin "repr") (rReprY X.K) := by
  intro pins s σ H xs us Q I r h
  obtain ⟨a, vs, ds, rfl, hq, hl, g, hs, hd, hz, q⟩ := h
  obtain rfl := Vals.ref1 r
  obtain ⟨its, rv, ⟨o, ho, hc, n, hdd⟩, _⟩ := I.tuple hq
  obtain ⟨⟨as, ra⟩, gg⟩ := shwS_of rv hl fun i x d u hx hd hr => DY.shw I (g i x d hx hd) u hr
  have rd : Reads s.heap (.ref a) (.tuple ds) _ := .tuple ho hc hdd ra
  rw [PyData.showable] at hs
  rw [PyData.shown] at hz q
  rw [PyData.depth] at hd
  obtain ⟨bs, b1, b2⟩ := gg hs fun t m => Nat.le_trans (tupleText_mem_le m) hz
  have out : a ∉ bs := not_mem_of_deeper rd (by rw [PyData.depth]; omega) b1
  refine call_repr_slot (T := "tuple") (idr := "tuple.__repr__") (by omega) ⟨o, ho, hc⟩ F.slot_tuple_repr ?_
  exact call_tuple_reprK ho hc hdd out b2 (g := []) hg (fun b _ => Clear.nil b) (by show X.A.units + 1 + (PyData.depthAll ds + 1) < cLine; omega) (fun _ _ e => e) (fun h' u tk hk => ⟨_, _, rfl, .str _, H, I.kept (t' := tk) hk, ⟨_, rfl⟩, q⟩) hz
end
end L2

set_option Elab.async false
set_option maxRecDepth 100000
set_option maxHeartbeats 4000000
namespace TB
open PySem L2 PyProof.Rows
set_option linter.unusedVariables false
def top (i : Nat) : Stmt := PySem.Challenge.pw_twoalone_k32_what_cannot_be_told.main.body.getD i (.Pass ⟨0, 0, 0, 0⟩)
abbrev sWhole : Stmt := top 2
abbrev sWithin : Stmt := top 3
abbrev sHand : Stmt := top 4
abbrev s_is_rising : Stmt := top 5
abbrev s_AloneError : Stmt := top 7
abbrev s_NoTask : Stmt := top 8
abbrev s_NoHand : Stmt := top 9
abbrev s_NoRounds : Stmt := top 10
abbrev s_NoInputs : Stmt := top 11
abbrev s_NoWeaving : Stmt := top 12
abbrev s_NoKnown : Stmt := top 13
abbrev s_NoProtocol : Stmt := top 14
abbrev sInputs : Stmt := top 18
abbrev sWeaving : Stmt := top 19
abbrev sPut : Stmt := top 20
abbrev sKnown : Stmt := top 21
abbrev s_rounds_behind : Stmt := top 24
abbrev s_agrees : Stmt := top 25
abbrev s_met : Stmt := top 26
abbrev s_standing : Stmt := top 27
abbrev sPlace : Stmt := top 28
abbrev s_is_output : Stmt := top 31
abbrev s_is_outputs : Stmt := top 32
abbrev s_is_rows : Stmt := top 33
abbrev s_is_alone : Stmt := top 34
abbrev s_is_output_pair : Stmt := top 35
abbrev s_is_let : Stmt := top 36
abbrev s_is_input_pair : Stmt := top 37
abbrev s_each_comes : Stmt := top 38
abbrev s_is_both : Stmt := top 39
abbrev s_Task : Stmt := top 40
abbrev s_is_pair : Stmt := top 41
abbrev s_is_row : Stmt := top 43
abbrev s_is_chosen : Stmt := top 44
abbrev s_is_walks : Stmt := top 45
abbrev s_is_protocol : Stmt := top 46
abbrev s_output_of : Stmt := top 47
abbrev s_tell : Stmt := top 48
abbrev sCell : Stmt := top 50
abbrev s__law_digit : Stmt := top 51
abbrev s__law_of : Stmt := top 52
abbrev s__law_rising : Stmt := top 53
abbrev s__law_outs : Stmt := top 54
abbrev s__law_parts : Stmt := top 55
abbrev s__law_walk : Stmt := top 56
abbrev s__law_scheme : Stmt := top 57
abbrev sLawWeav : Stmt := top 58
abbrev s__law_spots : Stmt := top 59
abbrev s__law_odd_rows : Stmt := top 60
abbrev s__law_odd_walks : Stmt := top 61
abbrev s__law_odd : Stmt := top 62
abbrev s__law_refused : Stmt := top 63
abbrev s__law_odd_pair : Stmt := top 64
abbrev s__law_odd_weaving : Stmt := top 65
abbrev sLaw : Stmt := top 66

structure Txt (K : PySem.W.Frag) (mg : Str → Option Value) : Prop where
  isi : mg "isinstance" = none
  int : mg "int" = none
  bool : mg "bool" = none
  len : mg "len" = none
  range : mg "range" = none
  list : mg "list" = none
  tuple : mg "tuple" = none
  all : mg "all" = none
  sum : mg "sum" = none
  min : mg "min" = none
theorem same_new {H : Hp} {p : Addr} (h : H p = none) (o : HO) : Same H (upd H p o) := fun b u q => by rw [upd_ne (ne_of_none q h)]; exact q

/-! the small promises -/
def spWhole : Sp := fun vs H Q _ => ∃ n : Int, vs = [.int n] ∧ Q (.bl true) H
def spWithin : Sp := fun vs H Q _ => ∃ a b c : Int, vs = [.int a, .int b, .int c] ∧ Q (.bl (decide (b ≤ a ∧ a ≤ c))) H
section
variable {P : Program} {w : World} {K : PySem.W.Frag} {mg : Str → Option Value} {base : Heap}

theorem scWhole : FnScope ["thing"] ["thing"] (defScope sWhole) := ⟨rfl, rfl, rfl, by decide +kernel, rfl, by decide +kernel, by decide +kernel⟩
theorem ok_whole {f : Addr} {fd : FuncData} (F : Fun K "is_whole" "is_whole" sWhole f fd) (T : Txt K mg) : FnOk P w K mg base CX0 1 f fd ["thing"] spWhole := by
  refine F.ok scWhole (fun vs H Q E h => ?_) (fun cdv A outer s H vs Q E hr h => ?_)
  · obtain ⟨n, rfl, _⟩ := h
    rfl
  obtain ⟨n, rfl, q⟩ := h
  refine ⟨_, pss_one (ps_ret (pe_and (pe_callB call_isi (by rfl) T.isi boot_isinstance (pa_cons (pv 0) (pa_cons (pe_bltn (v := .ty "int") (by rfl) T.int boot_int rfl) pa_nil)))
    (pe_one (pe_not (pe_callB call_isi (by rfl) T.isi boot_isinstance (pa_cons (pv 0) (pa_cons (pe_bltn (v := .ty "bool") (by rfl) T.bool boot_bool rfl) pa_nil))))))), ?_⟩
  refine ⟨_, rfl, V.int n, V.ty "int", _, _, true, rfl, .ty "int", .base (.int n), kit_ty (by decide +kernel), true, rfl, iteT ?_⟩
  exact ⟨_, rfl, V.int n, V.ty "bool", _, _, false, rfl, .ty "bool", .base (.int n), kit_ty (by decide +kernel), false, rfl, q⟩

theorem scWithin : FnScope ["thing", "least", "most"] ["thing", "least", "most"] (defScope sWithin) := ⟨rfl, rfl, rfl, by decide +kernel, rfl, by decide +kernel, by decide +kernel⟩
theorem ok_within {f g : Addr} {fd gd : FuncData} (F : Fun K "is_whole_within" "is_whole_within" sWithin f fd) (G : FnOk P w K mg base CX0 1 g gd ["thing"] spWhole) (bG : Binds K gd ["thing"] []) (kG : PySem.W.keepIn K (.ref g) = true) (mG : mg "is_whole" = some (.ref g)) :
    FnOk P w K mg base CX0 2 f fd ["thing", "least", "most"] spWithin := by
  refine F.ok scWithin (fun vs H Q E h => ?_) (fun cdv A outer s H vs Q E hr h => ?_)
  · obtain ⟨a, b, c, rfl, _⟩ := h
    rfl
  obtain ⟨a, b, c, rfl, q⟩ := h
  refine ⟨_, pss_one (ps_ret (pe_and (pe_call G hr rfl mG kG bG .nil pass0 (pa_cons (pv 0) pa_nil)) (pe_one (pe_chain op_le op_le (pv 1) (pv 0) (pv 2))))), ?_⟩
  refine ⟨_, rfl, a, rfl, true, rfl, iteT ?_⟩
  refine ⟨_, rfl, _, rfl, _, _, rfl, rfl, _, rfl, ?_⟩
  by_cases h1 : b ≤ a
  · rw [decide_eq_true h1]
    refine iteT ?_
    refine ⟨_, rfl, _, _, rfl, rfl, ?_⟩
    have e : decide (b ≤ a ∧ a ≤ c) = decide (a ≤ c) := by simp [h1]
    rw [e] at q
    exact q
  · rw [decide_eq_false h1]
    refine iteF ?_
    have e : decide (b ≤ a ∧ a ≤ c) = false := by simp [h1]
    rw [e] at q
    exact q

end
end TB

set_option Elab.async false
set_option maxRecDepth 100000
set_option maxHeartbeats 4000000
namespace TB
open PySem L2 PyProof.Rows
set_option linter.unusedVariables false
/-! what a hand knows, on the heap: ints, None, tuples of two -/
inductive Kn (H : Hp) : V → PyData → Prop
  | int (i : Int) : Kn H (.int i) (.int i)
  | non : Kn H .non .none
  | tup {a : Addr} {x y : V} {d e : PyData} : H a = some (.tup [x, y]) → Kn H x d → Kn H y e → Kn H (.ref a) (.tuple [d, e])
/-- all tuples stand as they stood -/
def Tups (H H' : Hp) : Prop := ∀ a xs, H a = some (.tup xs) → H' a = some (.tup xs)
theorem Kn.mono {H H' : Hp} (s : Tups H H') : ∀ {v d}, Kn H v d → Kn H' v d
  | _, _, .int i => .int i
  | _, _, .non => .non
  | _, _, .tup h a b => .tup (s _ _ h) (a.mono s) (b.mono s)
theorem Kn.dp {K : PySem.W.Frag} {H : Hp} : ∀ {v d}, Kn H v d → Dp K H v d
  | _, _, .int i => .int i
  | _, _, .non => .non
  | _, _, .tup h a b => .tup (SqT.of h) (.cons a.dp (.cons b.dp .nil))
theorem Tups.same {H H' : Hp} (s : Same H H') : Tups H H' := fun a xs h => s _ _ h
theorem Tups.updL {H : Hp} {p : Addr} {xs : List V} {o : HO} (h : H p = some (.lst xs)) : Tups H (upd H p o) := fun a ys e => by
  rw [upd_ne (ne_of e h (fun q => by cases q))]
  exact e
theorem Tups.updD {H : Hp} {p : Addr} {kvs : List (List Key × V)} {o : HO} (h : H p = some (.dT kvs)) : Tups H (upd H p o) := fun a ys e => by
  rw [upd_ne (ne_of e h (fun q => by cases q))]
  exact e
theorem Tups.trans {H H1 H2 : Hp} (a : Tups H H1) (b : Tups H1 H2) : Tups H H2 := fun x xs h => b _ _ (a _ _ h)
inductive KnAll (H : Hp) : List V → List PyData → Prop
  | nil : KnAll H [] []
  | cons {v vs d ds} : Kn H v d → KnAll H vs ds → KnAll H (v :: vs) (d :: ds)
theorem KnAll.mono {H H' : Hp} (s : Tups H H') : ∀ {vs ds}, KnAll H vs ds → KnAll H' vs ds
  | _, _, .nil => .nil
  | _, _, .cons a b => .cons (a.mono s) (b.mono s)
theorem KnAll.len {H : Hp} : ∀ {vs ds}, KnAll H vs ds → vs.length = ds.length
  | _, _, .nil => rfl
  | _, _, .cons _ b => congrArg (· + 1) b.len
theorem KnAll.snoc {H : Hp} {v d} (k : Kn H v d) : ∀ {vs ds}, KnAll H vs ds → KnAll H (vs ++ [v]) (ds ++ [d])
  | _, _, .nil => .cons k .nil
  | _, _, .cons a b => .cons a (b.snoc k)
theorem KnAll.getD {H : Hp} : ∀ {vs ds} (t : Nat), KnAll H vs ds → Kn H (vs.getD t .non) (ds.getD t .none)
  | _, _, _, .nil => by simp; exact .non
  | _, _, 0, .cons a b => by simpa using a
  | _, _, t + 1, .cons a b => by simpa using b.getD t

/-! the mirror -/
def upf {α : Type} (f : Nat → α) (h : Nat) (x : α) : Nat → α := fun i => if i = h then x else f i
theorem upf_same {α : Type} {f : Nat → α} {h : Nat} {x : α} : upf f h x h = x := by unfold upf; rw [if_pos rfl]
theorem upf_ne {α : Type} {f : Nat → α} {h i : Nat} {x : α} (e : i ≠ h) : upf f h x i = f i := by unfold upf; rw [if_neg e]
theorem two_get {α : Type} (f : Nat → α) {h : Nat} (hh : h < 2) : [f 0, f 1][h]? = some (f h) := by
  rcases h with _ | _ | h
  · rfl
  · rfl
  · omega
theorem two_set {α : Type} (f : Nat → α) {h : Nat} (hh : h < 2) (x : α) : [f 0, f 1].set h x = [upf f h x 0, upf f h x 1] := by
  rcases h with _ | _ | h
  · rfl
  · rfl
  · omega
structure M where
  k : Nat → PyData
  c : Nat → List PyData
  l : Nat → Nat
def M.step (m : M) (h : Nat) : M :=
  if m.l h < (m.c h).length then { k := upf m.k h (.tuple [m.k h, (m.c (1 - h)).getD (m.l h) .none]), c := m.c, l := upf m.l h (m.l h + 1) }
  else { k := m.k, c := upf m.c h (m.c h ++ [m.k h]), l := m.l }
def M.run (m : M) (hs : List Nat) : M := hs.foldl M.step m
def M.done (m : M) (h : Nat) : Nat := m.l h + (m.c h).length
def M0 (a b : Int) : M := { k := fun h => if h = 0 then .int a else .int b, c := fun _ => [], l := fun _ => 0 }
def M.wf (m : M) : Prop := ∀ h < 2, (m.c h).length = m.l h ∨ (m.c h).length = m.l h + 1
theorem M.wf0 (a b : Int) : (M0 a b).wf := fun h _ => .inl rfl
theorem M.wf_step {m : M} (w : m.wf) {h : Nat} (hh : h < 2) : (m.step h).wf := fun i hi => by
  unfold M.step
  have wi := w i hi
  have wh := w h hh
  by_cases c : m.l h < (m.c h).length
  · rw [if_pos c]
    show (m.c i).length = upf m.l h (m.l h + 1) i ∨ (m.c i).length = upf m.l h (m.l h + 1) i + 1
    by_cases e : i = h
    · subst e; rw [upf_same]; omega
    · rw [upf_ne e]; exact wi
  · rw [if_neg c]
    show (upf m.c h (m.c h ++ [m.k h]) i).length = m.l i ∨ (upf m.c h (m.c h ++ [m.k h]) i).length = m.l i + 1
    by_cases e : i = h
    · subst e; rw [upf_same, List.length_append]; show _ + 1 = _ ∨ _ + 1 = _; omega
    · rw [upf_ne e]; exact wi
theorem M.done_step (m : M) (h i : Nat) : (m.step h).done i = m.done i + (if i = h then 1 else 0) := by
  unfold M.step M.done
  by_cases c : m.l h < (m.c h).length
  · rw [if_pos c]
    show upf m.l h (m.l h + 1) i + (m.c i).length = _
    by_cases e : i = h
    · subst e; rw [upf_same, if_pos rfl]; omega
    · rw [upf_ne e, if_neg e]; rfl
  · rw [if_neg c]
    show m.l i + (upf m.c h (m.c h ++ [m.k h]) i).length = _
    by_cases e : i = h
    · subst e; rw [upf_same, if_pos rfl, List.length_append]; show _ + (_ + 1) = _; omega
    · rw [upf_ne e, if_neg e]; rfl
theorem M.run_snoc (m : M) (hs : List Nat) (h : Nat) : m.run (hs ++ [h]) = (m.run hs).step h := by
  unfold M.run
  rw [List.foldl_append]
  rfl
theorem M.done_run (m : M) (i : Nat) : ∀ hs : List Nat, (m.run hs).done i = m.done i + hs.count i := by
  intro hs
  induction hs generalizing m with
  | nil => rfl
  | cons h r ih =>
    show ((m.step h).run r).done i = _
    rw [ih, M.done_step, List.count_cons]
    by_cases e : i = h
    · subst e; simp; omega
    · have e2 : ¬ h = i := fun q => e q.symm
      simp [e, e2]
theorem M.wf_run {m : M} (w : m.wf) : ∀ {hs : List Nat}, (∀ h ∈ hs, h < 2) → (m.run hs).wf := by
  intro hs
  induction hs generalizing m with
  | nil => intro _; exact w
  | cons h r ih => intro q; exact ih (M.wf_step w (q h List.mem_cons_self)) (fun x hx => q x (List.mem_cons_of_mem _ hx))
/-- data as they may be compared -/
def Ok (n : Nat) (d : PyData) : Prop := d.canLay0 = true ∧ d.depth ≤ n
theorem Ok.up {n m : Nat} {d : PyData} (h : Ok n d) (e : n ≤ m) : Ok m d := ⟨h.1, Nat.le_trans h.2 e⟩
theorem Ok.pair {n : Nat} {d e : PyData} (h : Ok n d) (g : Ok n e) : Ok (n + 1) (.tuple [d, e]) := by
  refine ⟨?_, ?_⟩
  · simp [PyData.canLay0, PyData.canLayAll0, h.1, g.1]
  · have h2 := h.2
    have g2 := g.2
    simp only [PyData.depth, PyData.depthAll]
    omega
theorem Ok.lst {n : Nat} {d e : PyData} (h : Ok n d) (g : Ok n e) : Ok (n + 1) (.list [d, e]) := by
  refine ⟨?_, ?_⟩
  · simp [PyData.canLay0, PyData.canLayAll0, h.1, g.1]
  · have h2 := h.2
    have g2 := g.2
    simp only [PyData.depth, PyData.depthAll]
    omega
theorem Ok.shaped {d : PyData} (h : Ok 64 d) : SeqAt.shaped d = true := by
  unfold SeqAt.shaped
  rw [h.1, decide_eq_true h.2]
  rfl
end TB

set_option Elab.async false
set_option maxRecDepth 100000
set_option maxHeartbeats 4000000
namespace TB
open PySem L2 PyProof.Rows
set_option linter.unusedVariables false
def M.ok (n : Nat) (m : M) : Prop := ∀ h < 2, Ok n (m.k h) ∧ ∀ d ∈ m.c h, Ok n d
theorem ok_int {n : Nat} (i : Int) (h : 0 < n) : Ok n (.int i) := ⟨rfl, by show PyData.depth (.int i) ≤ n; simp only [PyData.depth]; omega⟩
theorem ok_none {n : Nat} (h : 0 < n) : Ok n .none := ⟨rfl, by show PyData.depth .none ≤ n; simp only [PyData.depth]; omega⟩
theorem M.ok0 (a b : Int) : (M0 a b).ok 1 := fun h _ => ⟨by
  show Ok 1 (if h = 0 then .int a else .int b)
  split
  · exact ok_int a (by decide)
  · exact ok_int b (by decide), fun d hd => by cases hd⟩
theorem M.ok_step {n : Nat} {m : M} (o : m.ok n) (h0 : 0 < n) {h : Nat} (hh : h < 2) : (m.step h).ok (n + 1) := fun i hi => by
  unfold M.step
  by_cases c : m.l h < (m.c h).length
  · rw [if_pos c]
    refine ⟨?_, fun d hd => ((o i hi).2 d hd).up (by omega)⟩
    show Ok (n + 1) (upf m.k h _ i)
    by_cases e : i = h
    · subst e
      rw [upf_same]
      refine Ok.pair (o i hi).1 ?_
      cases g : (m.c (1 - i))[m.l i]? with
      | none => rw [List.getD_eq_getElem?_getD, g]; exact ok_none h0
      | some d => rw [List.getD_eq_getElem?_getD, g]; exact (o (1 - i) (by omega)).2 d (List.mem_of_getElem? g)
    · rw [upf_ne e]; exact (o i hi).1.up (by omega)
  · rw [if_neg c]
    refine ⟨(o i hi).1.up (by omega), fun d hd => ?_⟩
    have hd' : d ∈ upf m.c h (m.c h ++ [m.k h]) i := hd
    by_cases e : i = h
    · subst e
      rw [upf_same] at hd'
      rcases List.mem_append.mp hd' with q | q
      · exact ((o i hi).2 d q).up (by omega)
      · have : d = m.k i := by simpa using q
        rw [this]
        exact (o i hi).1.up (by omega)
    · rw [upf_ne e] at hd'; exact ((o i hi).2 d hd').up (by omega)
theorem M.ok_run {hs : List Nat} : ∀ {n : Nat} {m : M}, m.ok n → 0 < n → (∀ h ∈ hs, h < 2) → (m.run hs).ok (n + hs.length) := by
  induction hs with
  | nil => intro n m o _ _; exact o
  | cons h r ih =>
    intro n m o h0 q
    have := ih (M.ok_step o h0 (q h List.mem_cons_self)) (by omega) (fun x hx => q x (List.mem_cons_of_mem _ hx))
    rw [show n + 1 + r.length = n + (h :: r).length by rw [List.length_cons]; omega] at this
    exact this
def M.res (m : M) (deep : Nat) (h : Nat) : PyData := if m.done h = 2 * deep then m.k h else .none
theorem M.res_ok {n : Nat} {m : M} (o : m.ok n) (h0 : 0 < n) (deep : Nat) {h : Nat} (hh : h < 2) : Ok n (m.res deep h) := by
  unfold M.res
  split
  · exact (o h hh).1
  · exact ok_none h0
theorem M.stopped {m : M} (w : m.wf) {deep h : Nat} (hh : h < 2) (hd : m.done h ≤ 2 * deep) : m.l h = deep ↔ m.done h = 2 * deep := by
  have wh := w h hh
  unfold M.done at hd ⊢
  omega
/-- what is told: two places -/
def told (a b : Int) (hs : List Nat) (deep : Nat) : PyData := .list [((M0 a b).run hs).res deep 0, ((M0 a b).run hs).res deep 1]
theorem told_shaped (a b : Int) {hs : List Nat} (q : ∀ h ∈ hs, h < 2) (hz : hs.length ≤ 40) (deep : Nat) : SeqAt.shaped (told a b hs deep) = true := by
  have o := M.ok_run (M.ok0 a b) (by decide) q
  exact ((M.res_ok o (by omega) deep (h := 0) (by decide)).lst (M.res_ok o (by omega) deep (h := 1) (by decide))).up (by omega) |>.shaped
theorem eqv_self {d : PyData} (h : SeqAt.shaped d = true) : PyData.eqv d d = true := SeqAt.eqv_refl d (SeqAt.canLay_of_shaped h)

/-! a walk of n turns, whatever is walked: the word Pv is kept from turn to turn -/
theorem turns {J : It} (n : Nat) {H0 : Hp} {Qd : Hp → Prop} {B : (Hp → Prop) → V → Hp → Prop} (Pv : Nat → Hp → Prop) (start : Pv 0 H0) (last : ∀ H, Pv n H → J.stop n H ∧ Qd H)
    (turn : ∀ i H, i < n → Pv i H → J.go i H ∧ ∀ x H', J.yld i H x H' → B (Pv (i + 1)) x H') :
    ∃ W : Nat → Nat → Hp → Prop, (∃ m, W 0 m H0) ∧ ∀ i m H, W i m H →
      (J.stop i H ∧ Qd H) ∨ (J.go i H ∧ ∃ Nx : Hp → Prop, (∀ H', Nx H' → ∃ m', m' < m ∧ W (i + 1) m' H') ∧ ∀ x H', J.yld i H x H' → B Nx x H') := by
  refine ⟨fun i m H => i + m = n ∧ Pv i H, ⟨n, by omega, start⟩, fun i m H h => ?_⟩
  obtain ⟨hm, word⟩ := h
  cases m with
  | zero =>
    have hin : i = n := by omega
    rw [hin] at word ⊢
    exact Or.inl (last H word)
  | succ m =>
    obtain ⟨go, step⟩ := turn i H (by omega) word
    exact Or.inr ⟨go, Pv (i + 1), fun H' w' => ⟨m, by omega, by omega, w'⟩, step⟩
theorem list_turns {K : PySem.W.Frag} {a : Addr} {xs : List V} {H0 : Hp} {Qd : Hp → Prop} {B : (Hp → Prop) → V → Hp → Prop} (Pv : Nat → Hp → Prop) (start : Pv 0 H0) (still : ∀ i H, i ≤ xs.length → Pv i H → SqL K H a xs)
    (turn : ∀ i x H, xs[i]? = some x → Pv i H → B (Pv (i + 1)) x H) (last : ∀ H, Pv xs.length H → Qd H) :
    ∃ W : Nat → Nat → Hp → Prop, (∃ m, W 0 m H0) ∧ ∀ i m H, W i m H →
      ((Itl K a).stop i H ∧ Qd H) ∨ ((Itl K a).go i H ∧ ∃ Nx : Hp → Prop, (∀ H', Nx H' → ∃ m', m' < m ∧ W (i + 1) m' H') ∧ ∀ x H', (Itl K a).yld i H x H' → B Nx x H') :=
  turns xs.length Pv start (fun H w => ⟨⟨xs, still _ H (Nat.le_refl _) w, Nat.le_refl _⟩, last H w⟩) fun i H hi w =>
    have there := still i H (Nat.le_of_lt hi) w
    ⟨⟨xs, xs[i], there, List.getElem?_eq_getElem hi⟩, fun x H' ⟨same, given⟩ => by rw [same]; exact turn i x H (given xs there) w⟩
theorem tup_turns {K : PySem.W.Frag} {a : Addr} {xs : List V} {H0 : Hp} {Qd : Hp → Prop} {B : (Hp → Prop) → V → Hp → Prop} (Pv : Nat → Hp → Prop) (start : Pv 0 H0) (still : ∀ i H, i ≤ xs.length → Pv i H → SqT K H a xs)
    (turn : ∀ i x H, xs[i]? = some x → Pv i H → B (Pv (i + 1)) x H) (last : ∀ H, Pv xs.length H → Qd H) :
    ∃ W : Nat → Nat → Hp → Prop, (∃ m, W 0 m H0) ∧ ∀ i m H, W i m H →
      ((Itt K a).stop i H ∧ Qd H) ∨ ((Itt K a).go i H ∧ ∃ Nx : Hp → Prop, (∀ H', Nx H' → ∃ m', m' < m ∧ W (i + 1) m' H') ∧ ∀ x H', (Itt K a).yld i H x H' → B Nx x H') :=
  turns xs.length Pv start (fun H w => ⟨⟨xs, still _ H (Nat.le_refl _) w, Nat.le_refl _⟩, last H w⟩) fun i H hi w =>
    have there := still i H (Nat.le_of_lt hi) w
    ⟨⟨xs, xs[i], there, List.getElem?_eq_getElem hi⟩, fun x H' ⟨same, given⟩ => by rw [same]; exact turn i x H (given xs there) w⟩
theorem range_turns {lo : Int} {n : Nat} {H0 : Hp} {Qd : Hp → Prop} {B : (Hp → Prop) → V → Hp → Prop} (Pv : Nat → Hp → Prop) (start : Pv 0 H0)
    (turn : ∀ i H, i < n → Pv i H → B (Pv (i + 1)) (.int (lo + i)) H) (last : ∀ H, Pv n H → Qd H) :
    ∃ W : Nat → Nat → Hp → Prop, (∃ m, W 0 m H0) ∧ ∀ i m H, W i m H →
      ((Itr lo n).stop i H ∧ Qd H) ∨ ((Itr lo n).go i H ∧ ∃ Nx : Hp → Prop, (∀ H', Nx H' → ∃ m', m' < m ∧ W (i + 1) m' H') ∧ ∀ x H', (Itr lo n).yld i H x H' → B Nx x H') :=
  turns n Pv start (fun H w => ⟨Nat.le_refl _, last H w⟩) fun i H hi w => ⟨hi, fun x H' ⟨same, given⟩ => by rw [same, given]; exact turn i H hi w⟩
theorem small13 {n : Nat} (h : n ≤ 100000) : n ≤ sizeLine := Nat.le_trans h (by decide)

/-- xs[i] as an augmented assignment reads it, 0 ≤ i -/
theorem get_list {X : Cx} : PGet X (fun o i H Q => ∃ (p : Addr) (xs : List V) (k : Nat) (v : V), o = .ref p ∧ i = .int (k : Int) ∧ SqL X.K H p xs ∧ xs[k]? = some v ∧ Q v H) := by
  intro pins s σ H o i ov iv Q I ro ri h
  obtain ⟨p, xs, k, v, rfl, rfl, hq, he, q⟩ := h
  cases ro
  obtain ⟨t, rfl⟩ := ri
  obtain ⟨its, r, pl, hz⟩ := I.list hq
  obtain ⟨w, ew, rw'⟩ := r.get he
  have hl := r.length
  have hn := line63
  have hk : k < xs.length := (List.getElem?_eq_some_iff.mp he).1
  refine getItem_listL (l := its) pl.isList (by omega) ?_ (by simpa using ew) ⟨v, H, I, rw', q⟩
  omega
end TB

set_option Elab.async false
set_option maxRecDepth 100000
set_option maxHeartbeats 4000000
namespace TB
open PySem L2 PyProof.Rows
set_option linter.unusedVariables false
structure Txt2 (K : PySem.W.Frag) (mg : Str → Option Value) : Prop where
  two : ∃ t, mg "STEPS" = some (.int 2 t)
  five : ∃ t, mg "MOST_ROUNDS" = some (.int 5 t)
  hands : ∃ hA, mg "HANDS" = some (.ref hA) ∧ ∀ H, SqT K H hA [.int 0, .int 1]
structure Def (P : Program) (w : World) (K : PySem.W.Frag) (mg : Str → Option Value) (base : Heap) (x : Str) (ps : List Str) (k : Nat) (sp : Sp) (f : Addr) (fd : FuncData) : Prop where
  G : FnOk P w K mg base CX0 k f fd ps sp
  b : Binds K fd ps []
  k : PySem.W.keepIn K (.ref f) = true
  m : mg x = some (.ref f)
def spHand : Sp := fun vs H Q _ => ∃ a : Int, vs = [.int a] ∧ Q (.bl (decide (0 ≤ a ∧ a ≤ 1))) H
def spInputs : Sp := fun vs H Q _ => ∃ (t : Addr) (a b : Int), vs = [.ref t] ∧ H t = some (.tup [.int a, .int b]) ∧ 0 ≤ a ∧ 0 ≤ b ∧ ∀ H', Same H H' → Q (.bl true) H'
/-- the list of hands at p -/
def hl (hs : List Nat) : List V := hs.map fun h : Nat => V.int (h : Int)
def spWeaving (K : PySem.W.Frag) : Sp := fun vs H Q _ => ∃ (p : Addr) (hs : List Nat) (d : Nat), vs = [.ref p, .int (d : Int)] ∧ SqL K H p (hl hs) ∧ (∀ h ∈ hs, h < 2) ∧ (∀ h < 2, hs.count h ≤ 2 * d) ∧ hs.length ≤ 1000 ∧ ∀ H', Same H H' → Q (.bl true) H'
def spPut (K : PySem.W.Frag) : Sp := fun vs H Q _ => ∃ (c : Addr) (ws : List V) (t : Nat), vs = [.ref c, .int (t : Int)] ∧ SqL K H c ws ∧ Q (ws.getD t .non) H
theorem hl_ints (hs : List Nat) : hl hs = (hs.map fun h : Nat => (h : Int)).map V.int := by
  unfold hl
  rw [List.map_map]
  rfl
theorem hl_count (hs : List Nat) (h : Nat) : (hs.map fun h : Nat => (h : Int)).count (h : Int) = hs.count h := by
  induction hs with
  | nil => rfl
  | cons x r ih =>
    rw [List.map_cons, List.count_cons, List.count_cons, ih]
    by_cases e : x = h
    · subst e; simp
    · have : ¬ ((x : Int) = (h : Int)) := by omega
      simp [e, this]
theorem all_rep (n : Nat) : (List.replicate n true).all id = true := by
  induction n with
  | zero => rfl
  | succ n ih => rw [List.replicate_succ, List.all_cons, ih]; rfl
theorem rep_snoc (n : Nat) : ((List.replicate n true).map V.bl) ++ [V.bl true] = (List.replicate (n + 1) true).map V.bl := by
  rw [List.replicate_succ', List.map_append]
  rfl
section
variable {P : Program} {w : World} {K : PySem.W.Frag} {mg : Str → Option Value} {base : Heap}
theorem scHand : FnScope ["thing"] ["thing"] (defScope sHand) := ⟨rfl, rfl, rfl, by decide +kernel, rfl, by decide +kernel, by decide +kernel⟩
theorem ok_hand {f g : Addr} {fd gd : FuncData} (F : Fun K "is_hand" "is_hand" sHand f fd) (W : Def P w K mg base "is_whole_within" ["thing", "least", "most"] 2 spWithin g gd) : FnOk P w K mg base CX0 3 f fd ["thing"] spHand := by
  refine F.ok scHand (fun vs H Q E h => ?_) (fun cdv A outer s H vs Q E hr h => ?_)
  · obtain ⟨a, rfl, _⟩ := h
    rfl
  obtain ⟨a, rfl, q⟩ := h
  refine ⟨_, pss_one (ps_ret (pe_call W.G hr rfl W.m W.k W.b .nil pass0 (pa_cons (pv 0) (pa_cons pe_int (pa_cons pe_int pa_nil))))), ?_⟩
  exact ⟨_, rfl, a, 0, 1, rfl, q⟩
theorem scPut : FnScope ["cells", "at"] ["cells", "at"] (defScope sPut) := ⟨rfl, rfl, rfl, by decide +kernel, rfl, by decide +kernel, by decide +kernel⟩
theorem ok_put {f : Addr} {fd : FuncData} (F : Fun K "put_in" "put_in" sPut f fd) (T : Txt K mg) : FnOk P w K mg base CX0 1 f fd ["cells", "at"] (spPut K) := by
  refine F.ok scPut (fun vs H Q E h => ?_) (fun cdv A outer s H vs Q E hr h => ?_)
  · obtain ⟨c, ws, t, rfl, _⟩ := h
    rfl
  obtain ⟨c, ws, t, rfl, hS, q⟩ := h
  refine ⟨_, pss_one (ps_ret (pe_ifExp (pt_cmpR op_lt (pv 1) (pe_callB call_len_seq (by rfl) T.len PySem.boot_len (pa_cons (pv 0) pa_nil)) (nomark _)) (pe_ix ix_list (pv 0) (pv 1) (fun _ _ => rfl)) pe_non)), ?_⟩
  refine ⟨_, rfl, _, rfl, c, _, rfl, .inl hS, _, _, rfl, rfl, _, rfl, ?_⟩
  refine ite2 (fun c1 => ?_) (fun c1 => ?_)
  · have c2 : ((t : Nat) : Int) < ((ws.length : Nat) : Int) := of_decide_eq_true c1
    have ht : t < ws.length := by omega
    have e : ws.getD t .non = ws[t] := by rw [List.getD_eq_getElem?_getD, List.getElem?_eq_getElem ht]; rfl
    rw [e] at q
    exact ⟨_, rfl, _, rfl, c, _, _, _, rfl, rfl, hS, atI_nat (List.getElem?_eq_getElem ht), q⟩
  · have c2 : ¬ ((t : Nat) : Int) < ((ws.length : Nat) : Int) := of_decide_eq_false (Bool.eq_false_iff.mpr c1)
    have e : ws.getD t .non = .non := by rw [List.getD_eq_getElem?_getD, List.getElem?_eq_none (by omega)]; rfl
    rw [e] at q
    exact q
theorem scInputs : FnScope ["thing", "a"] ["thing"] (defScope sInputs) := ⟨rfl, rfl, rfl, by decide +kernel, rfl, by decide +kernel, by decide +kernel⟩
theorem ok_inputs {f g : Addr} {fd gd : FuncData} (F : Fun K "is_inputs" "is_inputs" sInputs f fd) (T : Txt K mg) (W : Def P w K mg base "is_whole" ["thing"] 1 spWhole g gd) : FnOk P w K mg base CX0 2 f fd ["thing"] spInputs := by
  refine F.ok scInputs (fun vs H Q E h => ?_) (fun cdv A outer s H vs Q E hr h => ?_)
  · obtain ⟨t, a, b, rfl, _⟩ := h
    rfl
  obtain ⟨t, a, b, rfl, ht, ha, hb, q⟩ := h
  have nd := scInputs.nd
  refine ⟨_, pss_one (ps_ret (pe_and (pe_callB call_isi (by rfl) T.isi boot_isinstance (pa_cons (pv 0) (pa_cons (pe_bltn (v := .ty "tuple") (by rfl) T.tuple boot_tuple rfl) pa_nil)))
    (pe_and (pe_cmpR op_eq (pe_callB call_len_seq (by rfl) T.len PySem.boot_len (pa_cons (pv 0) pa_nil)) pe_int (nomark _))
    (pe_one (pe_callB (cr_all rfl) (by rfl) T.all (by decide +kernel) (pa_cons
      (pe_lc (own := [("a", 1)]) (g := gName 1) (tt := tYes) (te := tAndV (tCall spWhole [] E0 (tCons (tVar 1) tNil)) (tOp (rI0 fun i j => .bl (decide (i ≥ j))) (tVar 1) (tC (.int 0)))) rfl nd (pi_tup (pv 0)) (blkOk_by (N := ["thing", "a"]) (sc := defScope sInputs) (by decide +kernel)) (fun _ _ _ _ _ => pg_name (i := 1) nd rfl (Or.inl rfl)) (fun _ _ _ _ _ => pts_nil)
        (fun _ _ _ _ _ => (by refine pe_and ?_ (pe_one ?_); (exact pe_call W.G hr rfl W.m W.k W.b .nil pass0 (pa_cons (pv 1) pa_nil)); (exact pe_cmpR op_ge (pv 1) pe_int (nomark _))))) pa_nil)))))), ?_⟩
  refine ⟨_, rfl, .ref t, .ty "tuple", _, _, true, rfl, .ty "tuple", .base (.tup ht), kit_ty (by decide +kernel), true, rfl, iteT ?_⟩
  refine ⟨_, rfl, t, _, rfl, .inr (SqT.of ht), rfl, true, rfl, iteT ?_⟩
  refine ⟨_, rfl, t, rfl, ⟨_, SqT.of ht⟩, fun D hD => ?_⟩
  have s0 := same_new hD (.lst [])
  refine tup_turns (xs := [V.int a, V.int b]) (fun i H' => Same H H' ∧ H' D = some (.lst ((List.replicate i true).map V.bl))) ⟨s0, upd_same⟩ (fun i H' _ h => SqT.of (h.1 _ _ ht)) ?_ ?_
  · rintro i x H' hx ⟨s1, h1⟩
    obtain ⟨z, rfl, hz⟩ : ∃ z : Int, x = .int z ∧ 0 ≤ z := by
      rcases i with _ | _ | i
      · exact ⟨a, by simpa using hx.symm, ha⟩
      · exact ⟨b, by simpa using hx.symm, hb⟩
      · simp at hx
    have hi : i < 2 := (List.getElem?_eq_some_iff.mp hx).1
    refine ⟨rfl, _, rfl, z, rfl, true, rfl, iteT ?_⟩
    refine ⟨_, rfl, _, _, rfl, rfl, _, h1, (by rw [List.length_map, List.length_replicate]; exact Nat.lt_of_lt_of_le hi (by decide)), fun b' o e => ?_, ?_⟩
    · rw [upd_ne (ne_of_none e hD)]
      exact s1 _ _ e
    · rw [upd_same]
      show some (HO.lst (_ ++ [V.bl (decide (z ≥ 0))])) = _
      rw [decide_eq_true (show z ≥ 0 from hz), rep_snoc]
  · rintro H' ⟨s1, h1⟩
    refine ⟨D, _, rfl, SqL.of h1, ?_⟩
    rw [all_rep]
    exact q _ s1
theorem scWeaving : FnScope ["thing", "rounds", "hand"] ["thing", "rounds"] (defScope sWeaving) := ⟨rfl, rfl, rfl, by decide +kernel, rfl, by decide +kernel, by decide +kernel⟩
theorem ok_weaving {f g : Addr} {fd gd : FuncData} (F : Fun K "is_weaving" "is_weaving" sWeaving f fd) (T : Txt K mg) (U : Txt2 K mg) (W : Def P w K mg base "is_hand" ["thing"] 3 spHand g gd) : FnOk P w K mg base CX0 4 f fd ["thing", "rounds"] (spWeaving K) := by
  refine F.ok scWeaving (fun vs H Q E h => ?_) (fun cdv A outer s H vs Q E hr h => ?_)
  · obtain ⟨p, hs, d, rfl, _⟩ := h
    rfl
  obtain ⟨p, hs, d, rfl, hS, hh, hc, hz, q⟩ := h
  obtain ⟨t2, m2⟩ := U.two
  obtain ⟨hA, mH, hH⟩ := U.hands
  have nd := scWeaving.nd
  have ty : TyX K H (.ref p) (.type "list") := by
    rcases hS with h | ⟨o, its, n, h1, h2, _⟩
    · rcases h with h | ⟨o, h⟩
      · exact .base (.lst h)
      · exact .base (.frz h)
    · exact .kList h1 h2
  refine ⟨_, pss_one (ps_ret (pe_and (pe_callB call_isi (by rfl) T.isi boot_isinstance (pa_cons (pv 0) (pa_cons (pe_bltn (v := .ty "list") (by rfl) T.list boot_list rfl) pa_nil)))
    (pe_and (pe_callB (cr_all rfl) (by rfl) T.all (by decide +kernel) (pa_cons
      (pe_lc (own := [("hand", 2)]) (g := gName 2) (tt := tYes) (te := tCall spHand [] E0 (tCons (tVar 2) tNil)) rfl nd (pi_list (pv 0)) (blkOk_by (N := ["thing", "rounds", "hand"]) (sc := defScope sWeaving) (by decide +kernel)) (fun _ _ _ _ _ => pg_name (i := 2) nd rfl (Or.inl rfl)) (fun _ _ _ _ _ => pts_nil)
        (fun _ _ _ _ _ => (by exact pe_call W.G hr rfl W.m W.k W.b .nil pass0 (pa_cons (pv 2) pa_nil)))) pa_nil))
    (pe_one (pe_callB (cr_all rfl) (by rfl) T.all (by decide +kernel) (pa_cons
      (pe_lc (own := [("hand", 2)]) (g := gName 2) (tt := tYes) (te := tOp (rI0 fun i j => .bl (decide (i ≤ j))) (tBM K "list" (rCntI K) (tVar 0) (tCons (tVar 2) tNil)) (tOp (rI CMul fun i j => .int (i * j)) (tC (.int 2)) (tVar 1))) rfl nd (pi_tup (pe_glob (v := .ref hA) rfl mH rfl)) (blkOk_by (N := ["thing", "rounds", "hand"]) (sc := defScope sWeaving) (by decide +kernel)) (fun _ _ _ _ _ => pg_name (i := 2) nd rfl (Or.inl rfl)) (fun _ _ _ _ _ => pts_nil)
        (fun _ _ _ _ _ => (by refine pe_cmpR op_le ?_ (pe_op op_mul ?_ (pv 1)) (nomark _); (exact pe_bm PySem.F.plainAttrs_list PySem.F.slot_list_count PySem.F.type_list_count mt_lcount (pv 0) (pa_cons (pv 2) pa_nil)); (exact pe_glob (v := .int 2) rfl m2 ⟨_, rfl⟩)))) pa_nil)))))), ?_⟩
  refine ⟨_, rfl, .ref p, .ty "list", _, _, true, rfl, .ty "list", ty, kit_ty (by decide +kernel), true, rfl, iteT ?_⟩
  refine ⟨_, rfl, p, rfl, ⟨_, hS⟩, fun D hD => ?_⟩
  have lenH : (hl hs).length = hs.length := List.length_map _
  refine list_turns (xs := hl hs) (fun i H' => Same H H' ∧ H' D = some (.lst ((List.replicate i true).map V.bl))) ⟨same_new hD _, upd_same⟩ (fun i H' _ h => h.1.seq hS) ?_ ?_
  · rintro i x H' hx ⟨s1, h1⟩
    have hi : i < (hl hs).length := (List.getElem?_eq_some_iff.mp hx).1
    obtain ⟨z, rfl, hz2⟩ : ∃ z : Nat, x = .int (z : Int) ∧ z < 2 := by
      unfold hl at hx
      rw [List.getElem?_map] at hx
      obtain ⟨z, e1, e2⟩ := Option.map_eq_some_iff.mp hx
      exact ⟨z, e2.symm, hh z (List.mem_of_getElem? e1)⟩
    have e1 : decide ((0 : Int) ≤ (z : Int) ∧ (z : Int) ≤ 1) = true := decide_eq_true (by omega)
    refine ⟨rfl, _, rfl, (z : Int), rfl, _, h1, (by rw [List.length_map, List.length_replicate]; exact Nat.lt_of_lt_of_le hi (by rw [lenH]; exact Nat.le_trans hz (by decide))), fun b' o e => ?_, ?_⟩
    · rw [upd_ne (ne_of_none e hD)]
      exact s1 _ _ e
    · rw [upd_same, e1, rep_snoc]
  · rintro H1 ⟨s1, h1⟩
    refine ⟨D, _, rfl, SqL.of h1, ?_⟩
    rw [all_rep]
    refine ⟨true, rfl, iteT ?_⟩
    refine ⟨hA, rfl, ⟨_, hH _⟩, fun D2 hD2 => ?_⟩
    refine tup_turns (xs := [V.int 0, V.int 1]) (fun i H' => Same H1 H' ∧ H' D2 = some (.lst ((List.replicate i true).map V.bl))) ⟨same_new hD2 _, upd_same⟩ (fun i H' _ h => hH _) ?_ ?_
    · rintro i x H' hx ⟨s2, h2⟩
      have hi : i < 2 := (List.getElem?_eq_some_iff.mp hx).1
      obtain ⟨z, rfl, hz2⟩ : ∃ z : Nat, x = .int (z : Int) ∧ z < 2 := by
        rcases i with _ | _ | i
        · exact ⟨0, by simpa using hx.symm, by decide⟩
        · exact ⟨1, by simpa using hx.symm, by decide⟩
        · simp at hx
      have hS2 := s2.seq (s1.seq hS)
      have cz := hc z hz2
      rw [← hl_count, ] at cz
      refine ⟨rfl, _, rfl, ?_, _, rfl, p, hs.map fun h : Nat => (h : Int), (z : Int), rfl, rfl, by rw [← hl_ints]; exact hS2, _, rfl, _, _, rfl, rfl, .inl ⟨by decide, by decide⟩, _, _, rfl, rfl, _, h2, (by rw [List.length_map, List.length_replicate]; exact Nat.lt_of_lt_of_le hi (by decide)), fun b' o e => ?_, ?_⟩
      · exact .inl ⟨rfl, _, hS2⟩
      · rw [upd_ne (ne_of_none e hD2)]
        exact s2 _ _ e
      · rw [upd_same]
        show some (HO.lst (_ ++ [V.bl (decide ((((hs.map fun h : Nat => (h : Int)).count (z : Int) : Nat) : Int) ≤ 2 * (d : Int)))])) = _
        rw [decide_eq_true (by omega), rep_snoc]
    · rintro H2 ⟨s2, h2⟩
      refine ⟨D2, _, rfl, SqL.of h2, ?_⟩
      rw [all_rep]
      exact q _ (s1.trans s2)
end
end TB

set_option Elab.async false
set_option maxRecDepth 100000
set_option maxHeartbeats 4000000
namespace TB
open PySem L2 PyProof.Rows
set_option linter.unusedVariables false
theorem ixN_two {h : Nat} (hh : h < 2) : ixN 2 (h : Int) = some h := by
  rcases h with _ | _ | h
  · rfl
  · rfl
  · omega
theorem at_two {α : Type} (f : Nat → α) {h : Nat} (hh : h < 2) : atI [f 0, f 1] (h : Int) = some (f h) := atI_nat (two_get f hh)
theorem same_upd {H0 H : Hp} {p : Addr} {o : HO} (s : Same H0 H) (f : H0 p = none) : Same H0 (upd H p o) := fun b u e => by
  rw [upd_ne (ne_of_none e f)]
  exact s _ _ e
structure KS (H0 H : Hp) (kn ce lo : Addr) (cs : Nat → Addr) (m : M) : Prop where
  same : Same H0 H
  f1 : H0 kn = none
  f2 : H0 ce = none
  f3 : H0 lo = none
  f4 : ∀ h < 2, H0 (cs h) = none
  n1 : kn ≠ ce
  n2 : kn ≠ lo
  n3 : ∀ h < 2, kn ≠ cs h
  n4 : ce ≠ lo
  n5 : ∀ h < 2, ce ≠ cs h
  n6 : ∀ h < 2, lo ≠ cs h
  n7 : cs 0 ≠ cs 1
  hk : ∃ v : Nat → V, H kn = some (.lst [v 0, v 1]) ∧ ∀ h < 2, Kn H (v h) (m.k h)
  he : H ce = some (.lst [.ref (cs 0), .ref (cs 1)])
  ho : H lo = some (.lst [.int (m.l 0 : Nat), .int (m.l 1 : Nat)])
  hc : ∀ h < 2, ∃ ws, H (cs h) = some (.lst ws) ∧ KnAll H ws (m.c h)
theorem cs_ne {cs : Nat → Addr} (n : cs 0 ≠ cs 1) {i h : Nat} (hi : i < 2) (hh : h < 2) (e : i ≠ h) : cs i ≠ cs h := by
  rcases i with _ | _ | i
  · rcases h with _ | _ | h
    · exact absurd rfl e
    · exact n
    · omega
  · rcases h with _ | _ | h
    · exact n.symm
    · exact absurd rfl e
    · omega
  · omega
theorem KS.put {H0 H : Hp} {kn ce lo : Addr} {cs : Nat → Addr} {m : M} (S : KS H0 H kn ce lo cs m) {h : Nat} (hh : h < 2) (c : ¬ m.l h < (m.c h).length) {ws : List V} {v : V} (hw : H (cs h) = some (.lst ws)) (ha : KnAll H ws (m.c h)) (hv : Kn H v (m.k h)) :
    KS H0 (upd H (cs h) (.lst (ws ++ [v]))) kn ce lo cs (m.step h) := by
  have es : m.step h = { k := m.k, c := upf m.c h (m.c h ++ [m.k h]), l := m.l } := by unfold M.step; rw [if_neg c]
  rw [es]
  have tu : Tups H (upd H (cs h) (.lst (ws ++ [v]))) := Tups.updL hw
  obtain ⟨vs, hk, hkn⟩ := S.hk
  refine { S with same := same_upd S.same (S.f4 h hh), hk := ⟨vs, ?_, fun i hi => (hkn i hi).mono tu⟩, he := ?_, ho := ?_, hc := fun i hi => ?_ }
  · rw [upd_ne (S.n3 h hh)]; exact hk
  · rw [upd_ne (S.n5 h hh)]; exact S.he
  · rw [upd_ne (S.n6 h hh)]; exact S.ho
  · by_cases e : i = h
    · subst e
      refine ⟨_, upd_same, ?_⟩
      show KnAll _ _ (upf m.c i (m.c i ++ [m.k i]) i)
      rw [upf_same]
      exact (ha.mono tu).snoc (hv.mono tu)
    · obtain ⟨ws2, h1, h2⟩ := S.hc i hi
      refine ⟨ws2, by rw [upd_ne (cs_ne S.n7 hi hh e)]; exact h1, ?_⟩
      show KnAll _ _ (upf m.c h (m.c h ++ [m.k h]) i)
      rw [upf_ne e]
      exact h2.mono tu
theorem KS.look {H0 H : Hp} {kn ce lo : Addr} {cs : Nat → Addr} {m : M} (S : KS H0 H kn ce lo cs m) {h : Nat} (hh : h < 2) (c : m.l h < (m.c h).length) {v : Nat → V} {w : V} {q : Addr} (hk : H kn = some (.lst [v 0, v 1])) (hkn : ∀ h < 2, Kn H (v h) (m.k h)) (hw : Kn H w ((m.c (1 - h)).getD (m.l h) .none)) (hq : H q = none) :
    KS H0 (upd (upd (upd H q (.tup [v h, w])) kn (.lst [upf v h (.ref q) 0, upf v h (.ref q) 1])) lo (.lst [.int (upf m.l h (m.l h + 1) 0 : Nat), .int (upf m.l h (m.l h + 1) 1 : Nat)])) kn ce lo cs (m.step h) := by
  have es : m.step h = { k := upf m.k h (.tuple [m.k h, (m.c (1 - h)).getD (m.l h) .none]), c := m.c, l := upf m.l h (m.l h + 1) } := by unfold M.step; rw [if_pos c]
  rw [es]
  have qk : kn ≠ q := ne_of_none hk hq
  have qe : ce ≠ q := ne_of_none S.he hq
  have ql : lo ≠ q := ne_of_none S.ho hq
  have t1 : Tups H (upd H q (.tup [v h, w])) := Tups.same (same_new hq _)
  have t2 : Tups H (upd (upd H q (.tup [v h, w])) kn (.lst [upf v h (.ref q) 0, upf v h (.ref q) 1])) := t1.trans (Tups.updL (by rw [upd_ne qk]; exact hk))
  have t3 : Tups H (upd (upd (upd H q (.tup [v h, w])) kn (.lst [upf v h (.ref q) 0, upf v h (.ref q) 1])) lo (.lst [.int (upf m.l h (m.l h + 1) 0 : Nat), .int (upf m.l h (m.l h + 1) 1 : Nat)])) := t2.trans (Tups.updL (by rw [upd_ne S.n2.symm, upd_ne ql]; exact S.ho))
  have hq3 : (upd (upd (upd H q (.tup [v h, w])) kn (.lst [upf v h (.ref q) 0, upf v h (.ref q) 1])) lo (.lst [.int (upf m.l h (m.l h + 1) 0 : Nat), .int (upf m.l h (m.l h + 1) 1 : Nat)])) q = some (.tup [v h, w]) := by
    rw [upd_ne ql.symm, upd_ne qk.symm, upd_same]
  refine { S with same := same_upd (same_upd (S.same.trans (same_new hq _)) S.f1) S.f3, hk := ⟨upf v h (.ref q), ?_, fun i hi => ?_⟩, he := ?_, ho := upd_same, hc := fun i hi => ?_ }
  · rw [upd_ne S.n2, upd_same]
  · show Kn _ (upf v h (.ref q) i) (upf m.k h (.tuple [m.k h, (m.c (1 - h)).getD (m.l h) .none]) i)
    by_cases e : i = h
    · subst e
      rw [upf_same, upf_same]
      exact .tup hq3 ((hkn i hi).mono t3) (hw.mono t3)
    · rw [upf_ne e, upf_ne e]
      exact (hkn i hi).mono t3
  · rw [upd_ne S.n4, upd_ne S.n1.symm, upd_ne qe]; exact S.he
  · obtain ⟨ws2, h1, h2⟩ := S.hc i hi
    exact ⟨ws2, by rw [upd_ne (S.n6 i hi).symm, upd_ne (S.n3 i hi).symm, upd_ne (ne_of_none h1 hq)]; exact h1, h2.mono t3⟩
/-- the answer of known (and of _law_behind) -/
def spTold (vs0 : List V → Hp → Addr → List Nat → Nat → Int → Int → Prop) : Sp := fun vs H Q _ => ∃ (p : Addr) (hs : List Nat) (d : Nat) (a b : Int), vs0 vs H p hs d a b ∧ (∀ h ∈ hs, h < 2) ∧ (∀ h < 2, hs.count h ≤ 2 * d) ∧ hs.length ≤ 40 ∧ d ≤ 5 ∧ 0 ≤ a ∧ 0 ≤ b ∧
  ∀ (o : Addr) (v : Nat → V) (H' : Hp), Same H H' → H o = none → H' o = some (.lst [v 0, v 1]) → (∀ h < 2, Kn H' (v h) (((M0 a b).run hs).res d h)) → Q (.ref o) H'
def spKnown (K : PySem.W.Frag) : Sp := spTold fun vs H p hs d a b => ∃ t, vs = [.ref t, .ref p, .int (d : Int)] ∧ H t = some (.tup [.int a, .int b]) ∧ SqL K H p (hl hs)
theorem nat_two {x : V} {i : Nat} (hx : ([V.int 0, V.int 1] : List V)[i]? = some x) : x = .int ((i : Nat) : Int) ∧ i < 2 := by
  rcases i with _ | _ | i
  · exact ⟨by simpa using hx.symm, by decide⟩
  · exact ⟨by simpa using hx.symm, by decide⟩
  · simp at hx
theorem hl_at {hs : List Nat} {i : Nat} {x : V} (hx : (hl hs)[i]? = some x) : ∃ z : Nat, x = .int (z : Int) ∧ hs[i]? = some z := by
  unfold hl at hx
  rw [List.getElem?_map] at hx
  obtain ⟨z, e1, e2⟩ := Option.map_eq_some_iff.mp hx
  exact ⟨z, e2.symm, e1⟩
end TB

set_option Elab.async false
set_option maxRecDepth 100000
set_option maxHeartbeats 4000000
namespace TB
open PySem L2 PyProof.Rows
set_option linter.unusedVariables false
theorem upf_map {α β : Type} (f : α → β) (g : Nat → α) (h : Nat) (x : α) (i : Nat) : upf (fun j => f (g j)) h (f x) i = f (upf g h x i) := by
  unfold upf
  by_cases e : i = h
  · rw [if_pos e, if_pos e]
  · rw [if_neg e, if_neg e]
theorem ints_set (l : Nat → Nat) {h : Nat} (hh : h < 2) (n : Nat) : ([.int (l 0 : Nat), .int (l 1 : Nat)] : List V).set h (.int (n : Int)) = [.int (upf l h n 0 : Nat), .int (upf l h n 1 : Nat)] := by
  have := two_set (fun j => V.int (l j : Nat)) hh (V.int (n : Int))
  rw [upf_map (fun n : Nat => V.int (n : Int)) l h n 0, upf_map (fun n : Nat => V.int (n : Int)) l h n 1] at this
  exact this
def outs (m : M) (d : Nat) (v : Nat → V) (h : Nat) : V := if m.l h = d then v h else .non
theorem int_eq {a b : Nat} : (V.int (a : Int) = V.int (b : Int)) ↔ a = b := ⟨fun e => by injection e with e; omega, fun e => by rw [e]⟩
section
variable {P : Program} {w : World} {K : PySem.W.Frag} {mg : Str → Option Value} {base : Heap}
abbrev nKnown : List Str := ["inputs", "weaving", "rounds", "knows", "cells", "looks", "hand"]
theorem scKnown : FnScope nKnown ["inputs", "weaving", "rounds"] (defScope sKnown) := ⟨rfl, rfl, rfl, by decide +kernel, rfl, by decide +kernel, by decide +kernel⟩
theorem ok_known {f g1 g2 g3 g4 : Addr} {fd d1 d2 d3 d4 : FuncData} (F : Fun K "known" "known" sKnown f fd) (T : Txt K mg) (U : Txt2 K mg) (W1 : Def P w K mg base "is_whole_within" ["thing", "least", "most"] 2 spWithin g1 d1)
    (W2 : Def P w K mg base "is_inputs" ["thing"] 2 spInputs g2 d2) (W3 : Def P w K mg base "is_weaving" ["thing", "rounds"] 4 (spWeaving K) g3 d3) (W4 : Def P w K mg base "put_in" ["cells", "at"] 1 (spPut K) g4 d4) :
    FnOk P w K mg base CX0 5 f fd ["inputs", "weaving", "rounds"] (spKnown K) := by
  refine F.ok scKnown (fun vs H Q E h => ?_) (fun cdv A outer s H vs Q E hr h => ?_)
  · obtain ⟨p, hs, d, a, b, ⟨t, rfl, _⟩, _⟩ := h
    rfl
  obtain ⟨p, hs, d, a, b, ⟨t, rfl, ht, hS⟩, hh, hc, hz, hd, ha, hb, q⟩ := h
  obtain ⟨t5, m5⟩ := U.five
  obtain ⟨hA, mH, hH⟩ := U.hands
  have nd := scKnown.nd
  refine ⟨_, pss_cons (ps_if (pt_not (pt_val (pe_call W1.G (hr.mono (by decide)) rfl W1.m W1.k W1.b .nil pass0 (pa_cons (pv 2) (pa_cons pe_int (pa_cons (pe_glob (v := .int 5) rfl m5 ⟨_, rfl⟩) pa_nil)))))) pss_never pss_nil)
    (pss_cons (ps_if (pt_not (pt_val (pe_call W2.G (hr.mono (by decide)) rfl W2.m W2.k W2.b .nil pass0 (pa_cons (pv 0) pa_nil)))) pss_never pss_nil)
    (pss_cons (ps_if (pt_not (pt_val (pe_call W3.G (hr.mono (by decide)) rfl W3.m W3.k W3.b .nil pass0 (pa_cons (pv 1) (pa_cons (pv 2) pa_nil))))) pss_never pss_nil)
    (pss_cons (ps_set (i := 3) nd rfl (Or.inr rfl) (pe_callTy call_list_of (by rfl) T.list boot_list (pa_cons (pv 0) pa_nil)))
    (pss_cons (ps_set (i := 4) nd rfl (Or.inl rfl) (pe_lst (pa_cons (pe_lst pa_nil) (pa_cons (pe_lst pa_nil) pa_nil))))
    (pss_cons (ps_set (i := 5) nd rfl (Or.inr rfl) (pe_lst (pa_cons pe_int (pa_cons pe_int pa_nil))))
    (pss_cons (ps_for PassesOwn.never rfl (pi_list (pv 1)) (pg_name (i := 6) nd rfl (Or.inl rfl))
      (pss_one (ps_if (pt_cmpR op_gt (pe_callB call_len_seq (by rfl) T.len PySem.boot_len (pa_cons (pe_ix ix_list (pv 4) (pv 6) (fun _ _ => rfl)) pa_nil)) (pe_ix ix_list (pv 5) (pv 6) (fun _ _ => rfl)) (nomark _))
        (pss_cons (ps_asg (pe_tup (pa_cons (pe_ix ix_list (pv 3) (pv 6) (fun _ _ => rfl)) (pa_cons (pe_call W4.G (hr.mono (by decide)) rfl W4.m W4.k W4.b .nil pass0 (pa_cons (pe_ix ix_list (pv 4) (pe_op op_sub pe_int (pv 6)) (fun _ _ => rfl)) (pa_cons (pe_ix ix_list (pv 5) (pv 6) (fun _ _ => rfl)) pa_nil))) pa_nil))) (pg_sub (pv 3) (pv 6) set_list))
          (pss_one (ps_augS (pv 5) (pv 6) get_list pe_int ip_add set_list)))
        (pss_one (ps_expr (pe_bm PySem.F.plainAttrs_list PySem.F.slot_list_append PySem.F.type_list_append mt_append (pe_ix ix_list (pv 4) (pv 6) (fun _ _ => rfl)) (pa_cons (pe_ix ix_list (pv 3) (pv 6) (fun _ _ => rfl)) pa_nil)))))))
    (pss_one (ps_ret (pe_lc (own := [("hand", 6)]) (g := gName 6) (tt := tYes) (te := tIf (tTest (tOp rEq (tOp (rIxL K) (tVar 5) (tVar 6)) (tVar 2))) (tOp (rIxL K) (tVar 3) (tVar 6)) (tC .non)) rfl nd (pi_tup (pe_glob (v := .ref hA) rfl mH rfl)) (blkOk_by (N := nKnown) (sc := defScope sKnown) (by decide +kernel)) (fun _ _ _ _ _ => pg_name (i := 6) nd rfl (Or.inl rfl)) (fun _ _ _ _ _ => pts_nil)
      (fun _ _ _ _ _ => (by refine pe_ifExp ?_ ?_ pe_non; (refine pt_cmpR op_eq ?_ (pv 2) (nomark _); exact pe_ix ix_list (pv 5) (pv 6) (fun _ _ => rfl)); (exact pe_ix ix_list (pv 3) (pv 6) (fun _ _ => rfl))))))))))))), ?_⟩
  have e5 : decide ((0 : Int) ≤ (d : Int) ∧ (d : Int) ≤ 5) = true := decide_eq_true (by omega)
  refine ⟨_, rfl, (d : Int), 0, 5, rfl, true, congrArg V.bl e5, iteF ?_⟩
  refine ⟨_, rfl, t, a, b, rfl, ht, ha, hb, fun H1 s1 => ⟨true, rfl, iteF ?_⟩⟩
  refine ⟨_, rfl, _, rfl, p, hs, d, rfl, s1.seq hS, hh, hc, by omega, fun H2 s2 => ⟨true, rfl, iteF ?_⟩⟩
  have s12 := s1.trans s2
  refine ⟨_, rfl, t, _, rfl, .inr (SqT.of (s12 _ _ ht)), fun kn hkn => ?_⟩
  refine ⟨Nat.zero_le _, fun c0 hc0 => ⟨Nat.zero_le _, fun c1 hc1 => ⟨(by show 2 ≤ sizeLine; decide), fun ce hce => ?_⟩⟩⟩
  refine ⟨(by show 2 ≤ sizeLine; decide), fun lo hlo => ?_⟩
  have sa := same_new hkn (.lst [V.int a, V.int b])
  have sb := sa.trans (same_new hc0 (.lst []))
  have sc := sb.trans (same_new hc1 (.lst []))
  have sd := sc.trans (same_new hce (.lst [V.ref c0, V.ref c1]))
  have se := sd.trans (same_new hlo (.lst [V.int 0, V.int 0]))
  have K0 : KS H2 (upd (upd (upd (upd (upd H2 kn (.lst [V.int a, V.int b])) c0 (.lst [])) c1 (.lst [])) ce (.lst [V.ref c0, V.ref c1])) lo (.lst [V.int 0, V.int 0])) kn ce lo (fun i => if i = 0 then c0 else c1) (M0 a b) := by
    have q1 := upd_same (H := H2) (a := kn) (o := .lst [V.int a, V.int b])
    have q2 := upd_same (H := upd H2 kn (.lst [V.int a, V.int b])) (a := c0) (o := .lst [])
    have q3 := upd_same (H := upd (upd H2 kn (.lst [V.int a, V.int b])) c0 (.lst [])) (a := c1) (o := .lst [])
    have q4 := upd_same (H := upd (upd (upd H2 kn (.lst [V.int a, V.int b])) c0 (.lst [])) c1 (.lst [])) (a := ce) (o := .lst [V.ref c0, V.ref c1])
    have b2 := same_new hc0 (.lst [])
    have b3 := same_new hc1 (.lst [])
    have b4 := same_new hce (.lst [V.ref c0, V.ref c1])
    have b5 := same_new hlo (.lst [V.int 0, V.int 0])
    have two : ∀ {R : Addr → Prop}, R c0 → R c1 → ∀ h < 2, R ((fun i : Nat => if i = 0 then c0 else c1) h) := fun r0 r1 h hh => by
      rcases h with _ | _ | h
      · exact r0
      · exact r1
      · omega
    refine { same := se, f1 := hkn, f2 := sc.free hce, f3 := sd.free hlo, f4 := two (R := fun c => H2 c = none) (sa.free hc0) (sb.free hc1), n1 := ne_of_none (b3 _ _ (b2 _ _ q1)) hce, n2 := ne_of_none (b4 _ _ (b3 _ _ (b2 _ _ q1))) hlo, n3 := two (R := fun c => kn ≠ c) (ne_of_none q1 hc0) (ne_of_none (b2 _ _ q1) hc1), n4 := ne_of_none q4 hlo, n5 := two (R := fun c => ce ≠ c) (ne_of_none (b3 _ _ q2) hce).symm (ne_of_none q3 hce).symm, n6 := two (R := fun c => lo ≠ c) (ne_of_none (b4 _ _ (b3 _ _ q2)) hlo).symm (ne_of_none (b4 _ _ q3) hlo).symm, n7 := ne_of_none q2 hc1, hk := ⟨fun i => if i = 0 then .int a else .int b, b5 _ _ (b4 _ _ (b3 _ _ (b2 _ _ q1))), fun h hh => ?_⟩, he := b5 _ _ q4, ho := upd_same, hc := ?_ }
    · rcases h with _ | _ | h
      · exact .int a
      · exact .int b
      · omega
    · intro h hh
      rcases h with _ | _ | h
      · exact ⟨[], b5 _ _ (b4 _ _ (b3 _ _ q2)), .nil⟩
      · exact ⟨[], b5 _ _ (b4 _ _ q3), .nil⟩
      · omega
  generalize (fun i : Nat => if i = 0 then c0 else c1) = cs at K0
  have lenH : (hl hs).length = hs.length := List.length_map _
  refine ⟨_, rfl, p, rfl, ⟨_, (s12.trans se).seq hS⟩, for_list (K := K) (a := p) (xs := hl hs) (fun i σ Hc => ∃ g, σ = [some (.ref t), some (.ref p), some (.int (d : Int)), some (.ref kn), some (.ref ce), some (.ref lo), g] ∧ KS H2 Hc kn ce lo cs ((M0 a b).run (hs.take i))) ⟨none, rfl, K0⟩ ?_ ?_ ?_⟩
  · rintro i σ Hc _ ⟨g, _, S⟩
    exact (s12.trans S.same).seq hS
  · rintro i x σ Hc hx ⟨g, rfl, S⟩
    obtain ⟨z, rfl, hz1⟩ := hl_at hx
    have hz2 : z < 2 := hh z (List.mem_of_getElem? hz1)
    have er : (M0 a b).run (hs.take (i + 1)) = ((M0 a b).run (hs.take i)).step z := by
      rw [List.take_add_one, hz1]
      exact M.run_snoc _ _ _
    rw [er]
    have hdn : ((M0 a b).run (hs.take i)).done z ≤ 40 := by
      rw [M.done_run]
      have h1 := List.count_le_length (a := z) (l := hs.take i)
      rw [List.length_take] at h1
      show 0 + 0 + _ ≤ 40
      omega
    generalize (M0 a b).run (hs.take i) = m at S hdn ⊢
    obtain ⟨v, hk, hkn'⟩ := S.hk
    obtain ⟨ws, hw, hwa⟩ := S.hc z hz2
    have hwl := hwa.len
    have he2 := at_two (fun i => V.ref (cs i)) hz2
    have ho2 := at_two (fun i => V.int ((m.l i : Nat) : Int)) hz2
    refine ⟨_, rfl, _, rfl, ce, _, _, _, rfl, rfl, SqL.of S.he, he2, cs z, ws, rfl, .inl (SqL.of hw), _, rfl, _, rfl, lo, _, _, _, rfl, rfl, SqL.of S.ho, ho2, _, _, rfl, rfl, _, rfl, ?_⟩
    refine ite2 (fun c1 => ?_) (fun c1 => ?_)
    · have c2 : ((m.l z : Nat) : Int) < ((ws.length : Nat) : Int) := of_decide_eq_true c1
      have c3 : m.l z < (m.c z).length := by omega
      obtain ⟨ws2, hw2, hwa2⟩ := S.hc (1 - z) (by omega)
      have he3 : atI [V.ref (cs 0), V.ref (cs 1)] ((1 : Int) - (z : Int)) = some (.ref (cs (1 - z))) := by
        rw [show (1 : Int) - (z : Int) = ((1 - z : Nat) : Int) by omega]
        exact at_two (fun i => V.ref (cs i)) (by omega)
      refine ⟨_, rfl, _, rfl, kn, _, _, _, rfl, rfl, SqL.of hk, at_two v hz2, _, rfl, _, rfl, _, _, rfl, rfl, ce, _, _, _, rfl, rfl, SqL.of S.he, he3, _, rfl, _, rfl, lo, _, _, _, rfl, rfl, SqL.of S.ho, ho2, cs (1 - z), ws2, m.l z, rfl, SqL.of hw2, (by show 2 ≤ sizeLine; decide), fun q0 hq0 => ?_⟩
      have n1 := ne_of_none hk hq0
      have n2 := ne_of_none S.ho hq0
      refine ⟨_, rfl, _, rfl, kn, [v 0, v 1], _, z, rfl, rfl, by rw [upd_ne n1]; exact hk, ixN_two hz2, ?_⟩
      have ho3 : (upd (upd Hc q0 (.tup [v z, ws2.getD (m.l z) .non])) kn (.lst ([v 0, v 1].set z (.ref q0)))) lo = some (.lst [.int (m.l 0 : Nat), .int (m.l 1 : Nat)]) := by
        rw [upd_ne S.n2.symm, upd_ne n2]
        exact S.ho
      refine ⟨_, rfl, _, rfl, lo, _, z, _, rfl, rfl, SqL.of ho3, two_get (fun i => V.int ((m.l i : Nat) : Int)) hz2, _, _, rfl, rfl, lo, [.int (m.l 0 : Nat), .int (m.l 1 : Nat)], _, z, rfl, rfl, ho3, ixN_two hz2, ?_⟩
      refine ⟨_, rfl, ?_⟩
      have r := S.look hz2 c3 hk hkn' (hwa2.getD (m.l z)) hq0
      rw [← two_set v hz2, ← ints_set m.l hz2] at r
      exact r
    · have c2 : ¬ ((m.l z : Nat) : Int) < ((ws.length : Nat) : Int) := of_decide_eq_false (Bool.eq_false_iff.mpr c1)
      have c3 : ¬ m.l z < (m.c z).length := by omega
      have hsz : ws.length < sizeLine := by
        unfold M.done at hdn
        exact Nat.lt_of_le_of_lt (show ws.length ≤ 40 by omega) (by decide)
      refine ⟨_, rfl, _, rfl, ce, _, _, _, rfl, rfl, SqL.of S.he, he2, .inl ⟨rfl, _, SqL.of hw⟩, _, rfl, _, rfl, kn, _, _, _, rfl, rfl, SqL.of hk, at_two v hz2, cs z, ws, _, rfl, rfl, hw, hsz, ?_⟩
      exact ⟨_, rfl, S.put hz2 c3 hw hwa (hkn' z hz2)⟩
  · rintro σ Hc ⟨g, rfl, S⟩
    rw [lenH, List.take_length] at S
    have wf := M.wf_run (M.wf0 a b) hh
    have dn : ∀ h < 2, ((M0 a b).run hs).done h ≤ 2 * d := fun h h2 => by
      rw [M.done_run]
      have := hc h h2
      show 0 + 0 + _ ≤ _
      omega
    generalize (M0 a b).run hs = m at S wf dn q ⊢
    obtain ⟨v, hk, hkn'⟩ := S.hk
    refine ⟨hA, rfl, ⟨_, hH _⟩, fun D hD => ?_⟩
    refine tup_turns (xs := [V.int 0, V.int 1]) (fun i H' => Same Hc H' ∧ H' D = some (.lst ([outs m d v 0, outs m d v 1].take i))) ⟨same_new hD _, upd_same⟩ (fun i H' _ h => hH _) ?_ ?_
    · rintro i x H' hx ⟨s3, h3⟩
      obtain ⟨rfl, hi⟩ := nat_two hx
      have fin : ∀ H'', Same H' H'' → ∃ acc, H'' D = some (.lst acc) ∧ acc.length < sizeLine ∧ (Same Hc (upd H'' D (.lst (acc ++ [outs m d v i]))) ∧ (upd H'' D (.lst (acc ++ [outs m d v i]))) D = some (.lst ([outs m d v 0, outs m d v 1].take (i + 1)))) := fun H'' s4 => by
        refine ⟨_, s4 _ _ h3, Nat.lt_of_le_of_lt (List.length_take_le i _) (Nat.lt_of_lt_of_le hi (by decide)), same_upd (s3.trans s4) hD, ?_⟩
        rw [upd_same, List.take_add_one, two_get (outs m d v) hi]
        all_goals rfl
      refine ⟨rfl, _, rfl, _, rfl, lo, _, _, _, rfl, rfl, SqL.of (s3 _ _ S.ho), at_two (fun i => V.int ((m.l i : Nat) : Int)) hi, _, rfl, rfl, _, rfl, ?_⟩
      refine ite2 (fun c1 => ?_) (fun c1 => ?_)
      · have c2 : m.l i = d := int_eq.mp (of_decide_eq_true c1)
        have r := fin H' (Same.refl _)
        rw [show outs m d v i = v i by unfold outs; rw [if_pos c2]] at r
        exact ⟨_, rfl, _, rfl, kn, _, _, _, rfl, rfl, SqL.of (s3 _ _ hk), at_two v hi, r⟩
      · have c2 : ¬ m.l i = d := fun e => c1 (decide_eq_true (int_eq.mpr e))
        have r := fin H' (Same.refl _)
        rw [show outs m d v i = .non by unfold outs; rw [if_neg c2]] at r
        exact r
    · rintro H' ⟨s3, h3⟩
      have sH := s12.trans (S.same.trans s3)
      refine q D (outs m d v) H' sH (s12.free (S.same.free hD)) h3 fun h h2 => ?_
      have st := M.stopped wf h2 (dn h h2)
      unfold outs M.res
      by_cases c : m.l h = d
      · rw [if_pos c, if_pos (st.mp c)]
        exact (hkn' h h2).mono (Tups.same s3)
      · rw [if_neg c, if_neg (fun e => c (st.mpr e))]
        exact .non
end
end TB

set_option Elab.async false
set_option maxRecDepth 100000
set_option maxHeartbeats 4000000
namespace TB
open PySem L2 PyProof.Rows
set_option linter.unusedVariables false
/-- all but what stands at a is as it was -/
def But (a : Addr) (H H' : Hp) : Prop := ∀ b o, b ≠ a → H b = some o → H' b = some o
def WellAt (H : Hp) (a : Addr) (n : Int) : Prop := ∃ x y z : Int, H a = some (.lst [.int x, .int y, .int z]) ∧ 0 ≤ x ∧ 0 ≤ y ∧ y < 2147483629 ∧ 0 ≤ z ∧ z ≤ n
theorem But.trans {a : Addr} {H H1 H2 : Hp} (h : But a H H1) (g : But a H1 H2) : But a H H2 := fun b o e q => g b o e (h b o e q)
theorem But.same {a : Addr} {H H' : Hp} (s : Same H H') : But a H H' := fun b o _ q => s b o q
theorem WellAt.same {H H' : Hp} {a : Addr} {n : Int} (s : Same H H') (w : WellAt H a n) : WellAt H' a n := by
  obtain ⟨x, y, z, h, r⟩ := w
  exact ⟨x, y, z, s _ _ h, r⟩
theorem WellAt.up {H : Hp} {a : Addr} {n m : Int} (w : WellAt H a n) (h : n ≤ m) : WellAt H a m := by
  obtain ⟨x, y, z, e, r1, r2, r3, r4, r5⟩ := w
  exact ⟨x, y, z, e, r1, r2, r3, r4, by omega⟩
theorem But.free {a : Addr} {H H' : Hp} {m : Int} (b : But a H H') (w : WellAt H' a m) {q : Addr} (h : H' q = none) : H q = none := by
  obtain ⟨x, y, z, e, _⟩ := w
  have nq : q ≠ a := fun c => by rw [c, e] at h; cases h
  cases g : H q with
  | none => rfl
  | some o => rw [b q o nq g] at h; cases h
theorem weak {P : Program} {w : World} {K : PySem.W.Frag} {mg : Str → Option Value} {base : Heap} {k : Nat} {f : Addr} {fd : FuncData} {ps : List Str} {sp sp' : Sp} (F : FnOk P w K mg base CX0 k f fd ps sp) (i : ∀ vs H Q E, sp' vs H Q E → sp vs H Q E) : FnOk P w K mg base CX0 k f fd ps sp' :=
  ⟨fun vs H Q E h => F.len vs H Q E (i _ _ _ _ h), fun A outer s H args us vs Q E a b c d h => F.run A outer s H args us vs Q E a b c d (i _ _ _ _ h)⟩
def spLW : Sp := fun vs H Q _ => ∃ (a : Addr) (n : Int) (d : Nat) (st : Bool), vs = [.ref a, .int (d : Int), .bl st] ∧ WellAt H a n ∧ n ≤ 900000 ∧ d ≤ 5 ∧
  ∀ (o : Addr) (hs : List Nat) (H' : Hp), But a H H' → WellAt H' a (n + 100) → H o = none → H' o = some (.lst (hl hs)) → (∀ h ∈ hs, h < 2) → (∀ h < 2, hs.count h ≤ 2 * d) → (st = false → ∀ h < 2, hs.count h = 2 * d) → Q (.ref o) H'
def avail (l : Nat → Nat) (i : Nat) : List Nat := (([0, 1] : List Nat).take i).filter fun h => decide (0 < l h)
theorem avail_mem {l : Nat → Nat} {i h : Nat} (m : h ∈ avail l i) : h < 2 ∧ 0 < l h := by
  unfold avail at m
  obtain ⟨m1, m2⟩ := List.mem_filter.mp m
  have m3 := List.mem_of_mem_take m1
  have : h = 0 ∨ h = 1 := by simpa using m3
  exact ⟨by omega, of_decide_eq_true m2⟩
theorem avail_step {l : Nat → Nat} {i : Nat} (hi : i < 2) : avail l (i + 1) = if 0 < l i then avail l i ++ [i] else avail l i := by
  unfold avail
  have e : ([0, 1] : List Nat)[i]? = some i := two_get (fun i => i) hi
  rw [List.take_add_one, e, List.filter_append]
  by_cases c : 0 < l i
  · rw [if_pos c]; simp [c]
  · rw [if_neg c]; simp [c]
theorem avail_len (l : Nat → Nat) (i : Nat) : (avail l i).length ≤ 2 := by
  unfold avail
  refine Nat.le_trans (List.length_filter_le _ _) ?_
  rw [List.length_take]
  exact Nat.min_le_right _ _
theorem avail_pos {l : Nat → Nat} (h : 0 < l 0 + l 1) : 0 < (avail l 2).length := by
  rw [avail_step (by decide), avail_step (by decide)]
  by_cases c : 0 < l 1
  · rw [if_pos c, List.length_append]; show 0 < _ + 1; omega
  · rw [if_neg c, if_pos (show 0 < l 0 by omega), List.length_append]; show 0 < _ + 1; omega
theorem hl_snoc (hs : List Nat) (z : Nat) : hl hs ++ [V.int (z : Int)] = hl (hs ++ [z]) := by
  unfold hl
  rw [List.map_append]
  rfl
theorem join {b : Bool} {X : Prop} {R : Hp → Prop} {H : Hp} (Iv : Hp → Prop) (h0 : Iv H) (k : ∀ Hc, Iv Hc → R Hc) (h1 : b = true → (∀ Hc, Iv Hc → R Hc) → X) : if b = true then X else R H := by
  cases b with
  | false => exact iteF (k H h0)
  | true => exact iteT (h1 rfl k)
def LWI (H : Hp) (a mn lf fo : Addr) (n : Int) (d : Nat) (st : Bool) (m : Nat) (σ : L2.St) (Hc : Hp) : Prop := ∃ (l : Nat → Nat) (hs : List Nat) (g1 g2 : Option V), m = l 0 + l 1 ∧
  σ = [some (.ref a), some (.int (d : Int)), some (.bl st), some (.ref mn), some (.ref lf), some (.ref fo), g1, g2] ∧ But a H Hc ∧ WellAt Hc a (n + 2 + 3 * (20 - ((l 0 + l 1 : Nat) : Int))) ∧
  Hc lf = some (.lst [.int (l 0 : Nat), .int (l 1 : Nat)]) ∧ Hc fo = some (.lst (hl hs)) ∧ (∀ h ∈ hs, h < 2) ∧ (∀ h < 2, hs.count h + l h ≤ 2 * d) ∧ (st = false → ∀ h < 2, hs.count h + l h = 2 * d)
theorem len_counts : ∀ hs : List Nat, (∀ h ∈ hs, h < 2) → hs.length = hs.count 0 + hs.count 1
  | [], _ => rfl
  | h :: r, q => by
    have ih := len_counts r (fun x hx => q x (List.mem_cons_of_mem _ hx))
    have h2 := q h List.mem_cons_self
    rw [List.length_cons, List.count_cons, List.count_cons, ih]
    rcases h with _ | _ | h
    · simp; omega
    · simp; omega
    · omega
theorem But.upd {a p : Addr} {H H' : Hp} {o : HO} (b : But a H H') (f : H p = none) : But a H (L2.upd H' p o) := fun c u nc e => by
  rw [upd_ne (ne_of_none e f)]
  exact b _ _ nc e
theorem WellAt.upd {a p : Addr} {H : Hp} {o : HO} {n : Int} (w : WellAt H a n) (f : a ≠ p) : WellAt (L2.upd H p o) a n := by
  obtain ⟨x, y, z, e, r⟩ := w
  exact ⟨x, y, z, by rw [upd_ne f]; exact e, r⟩
end TB

set_option Elab.async false
set_option maxRecDepth 100000
set_option maxHeartbeats 4000000
namespace TB
open PySem L2 PyProof.Rows
set_option linter.unusedVariables false
/-! places, in plain mathematics -/
abbrev Stands := Int × Option Int × Option Int
def agr : Option Int → Option Int → Bool
  | some a, some b => decide (a = b)
  | _, _ => true
def fst2 : Option Int → Option Int → Option Int
  | none, b => b
  | some a, _ => some a
def metD (u v : Stands) : Option Stands :=
  if (v.1 - u.1).natAbs = 1 ∧ agr u.2.1 v.2.1 = true ∧ agr u.2.2 v.2.2 = true then some (3 * u.1 + 2 * (v.1 - u.1), fst2 u.2.1 v.2.1, fst2 u.2.2 v.2.2) else none
def isN : PyData → Bool
  | .none => true
  | _ => false
def stand1 (u : Option Stands) (y : PyData) (v : Option Stands) : Option Stands := u.bind fun u => if isN y = true then some (3 * u.1, u.2.1, u.2.2) else v.bind (metD u)
def stand : Nat → PyData → Nat → Option Stands
  | 0, .int i, h => if 0 ≤ i then some (if h = 0 then (0, some i, none) else (1, none, some i)) else none
  | r + 1, .tuple [x, y], h => stand1 (stand r x h) y (stand r y (1 - h))
  | _, _, _ => none
/-- how deep, at most n -/
def rb : Nat → PyData → Nat
  | n + 1, .tuple [x, _] => rb n x + 1
  | _, _ => 0
def placeD (d : PyData) (h : Nat) : Option Int := (stand (rb 5 d) d h).map (·.1)
theorem stand0 {d : PyData} {h : Nat} {u : Stands} (e : stand 0 d h = some u) : ∃ i : Int, d = .int i ∧ 0 ≤ i ∧ u = (if h = 0 then (0, some i, none) else (1, none, some i)) := by
  cases d with
  | int i =>
    simp only [stand] at e
    split at e
    · cases e; exact ⟨i, rfl, by assumption, rfl⟩
    · cases e
  | _ => simp [stand] at e
theorem standS {r : Nat} {d : PyData} {h : Nat} {u : Stands} (e : stand (r + 1) d h = some u) : ∃ x y u0, d = .tuple [x, y] ∧ stand r x h = some u0 ∧ ((isN y = true ∧ u = (3 * u0.1, u0.2.1, u0.2.2)) ∨ (isN y = false ∧ ∃ v, stand r y (1 - h) = some v ∧ metD u0 v = some u)) := by
  match d, e with
  | .tuple [x, y], e =>
    simp only [stand, stand1] at e
    cases e1 : stand r x h with
    | none => rw [e1] at e; cases e
    | some u0 =>
      rw [e1] at e
      refine ⟨x, y, u0, rfl, e1, ?_⟩
      by_cases c : isN y = true
      · rw [Option.bind_some, if_pos c] at e
        exact .inl ⟨c, by cases e; rfl⟩
      · rw [Option.bind_some, if_neg c] at e
        cases e2 : stand r y (1 - h) with
        | none => rw [e2] at e; cases e
        | some v =>
          rw [e2] at e
          exact .inr ⟨Bool.eq_false_iff.mpr c, v, rfl, e⟩
  | .none, e => simp [stand] at e
  | .bool _, e => simp [stand] at e
  | .int _, e => simp [stand] at e
  | .str _, e => simp [stand] at e
  | .list _, e => simp [stand] at e
  | .dict _, e => simp [stand] at e
  | .tuple [], e => simp [stand] at e
  | .tuple [_], e => simp [stand] at e
  | .tuple (_ :: _ :: _ :: _), e => simp [stand] at e
theorem stand_rb : ∀ {r : Nat} {d : PyData} {h : Nat} {u : Stands}, stand r d h = some u → ∀ n, rb n d = min n r
  | 0, d, h, u, e, n => by
    obtain ⟨i, rfl, _⟩ := stand0 e
    cases n <;> simp [rb]
  | r + 1, d, h, u, e, n => by
    obtain ⟨x, y, u0, rfl, e0, _⟩ := standS e
    cases n with
    | zero => simp [rb]
    | succ n => simp only [rb]; rw [stand_rb e0 n]; omega
theorem stand_isN {r : Nat} {d : PyData} {h : Nat} {u : Stands} (e : stand r d h = some u) : isN d = false := by
  cases r with
  | zero => obtain ⟨i, rfl, _⟩ := stand0 e; rfl
  | succ r => obtain ⟨x, y, u0, rfl, _⟩ := standS e; rfl
theorem stand_uniq {r r' : Nat} {d : PyData} {h h' : Nat} {u u' : Stands} (e : stand r d h = some u) (e' : stand r' d h' = some u') : r = r' := by
  have a := stand_rb e (r + r')
  have b := stand_rb e' (r + r')
  omega
theorem metD_some {u v w : Stands} (e : metD u v = some w) : (v.1 - u.1).natAbs = 1 ∧ agr u.2.1 v.2.1 = true ∧ agr u.2.2 v.2.2 = true ∧ w = (3 * u.1 + 2 * (v.1 - u.1), fst2 u.2.1 v.2.1, fst2 u.2.2 v.2.2) := by
  unfold metD at e
  split at e
  · rename_i c
    cases e
    exact ⟨c.1, c.2.1, c.2.2, rfl⟩
  · cases e
/-- a hand's own input is known, also where the thing is taken for the other hand's -/
theorem stand_own : ∀ {r : Nat} {d : PyData}, ∃ a : Int, (∀ u, stand r d 0 = some u → u.2.1 = some a ∧ (u.2.2 = none → u.1 = 0)) ∧ (∀ v, stand r d 1 = some v → v.2.2 = some a ∧ (v.2.1 = none → v.1 = 3 ^ r)) ∧ (∀ u v, stand r d 0 = some u → stand r d 1 = some v → u.2.2 = none ∨ v.2.1 = none → u.1 = 0 ∧ v.1 = 3 ^ r)
  | 0, d => by
    by_cases q : ∃ i, d = .int i
    · obtain ⟨i, rfl⟩ := q
      refine ⟨i, fun u e => ?_, fun v e => ?_, fun u v e f _ => ?_⟩
      · obtain ⟨j, ej, _, rfl⟩ := stand0 e
        cases ej
        exact ⟨rfl, fun _ => rfl⟩
      · obtain ⟨j, ej, _, rfl⟩ := stand0 e
        cases ej
        exact ⟨rfl, fun _ => rfl⟩
      · obtain ⟨j, ej, _, rfl⟩ := stand0 e
        obtain ⟨j2, ej2, _, rfl⟩ := stand0 f
        exact ⟨rfl, rfl⟩
    · have no : ∀ h u, stand 0 d h ≠ some u := fun h u e => by
        obtain ⟨i, ei, _⟩ := stand0 e
        exact q ⟨i, ei⟩
      exact ⟨0, fun u e => absurd e (no _ _), fun u e => absurd e (no _ _), fun u v e => absurd e (no _ _)⟩
  | r + 1, d => by
    by_cases q : ∃ x y, d = .tuple [x, y]
    · obtain ⟨x, y, rfl⟩ := q
      obtain ⟨a, h0, h1, h2⟩ := stand_own (r := r) (d := x)
      obtain ⟨b, k0, k1, k2⟩ := stand_own (r := r) (d := y)
      have p3 : (3 : Int) ^ (r + 1) = 3 * 3 ^ r := by rw [Int.pow_succ]; omega
      refine ⟨a, fun u e => ?_, fun v e => ?_, fun u v e f g => ?_⟩
      · obtain ⟨x', y', u0, ed, e0, e1⟩ := standS e
        cases ed
        obtain ⟨g1, g2⟩ := h0 _ e0
        rcases e1 with ⟨_, rfl⟩ | ⟨_, v, ev, em⟩
        · exact ⟨g1, fun z => by have := g2 z; show 3 * u0.1 = 0; omega⟩
        · obtain ⟨_, _, _, rfl⟩ := metD_some em
          obtain ⟨g3, _⟩ := k1 _ ev
          refine ⟨by show fst2 u0.2.1 v.2.1 = _; rw [g1]; rfl, fun z => ?_⟩
          have z' : fst2 u0.2.2 v.2.2 = none := z
          rw [g3] at z'
          cases e9 : u0.2.2 <;> rw [e9] at z' <;> cases z'
      · obtain ⟨x', y', u0, ed, e0, e1⟩ := standS e
        cases ed
        obtain ⟨g1, g2⟩ := h1 _ e0
        rcases e1 with ⟨_, rfl⟩ | ⟨_, v', ev, em⟩
        · exact ⟨g1, fun z => by have := g2 z; show 3 * u0.1 = _; omega⟩
        · obtain ⟨_, _, _, rfl⟩ := metD_some em
          obtain ⟨g3, _⟩ := k0 _ ev
          refine ⟨by show fst2 u0.2.2 v'.2.2 = _; rw [g1]; rfl, fun z => ?_⟩
          have z' : fst2 u0.2.1 v'.2.1 = none := z
          rw [g3] at z'
          cases e9 : u0.2.1 <;> rw [e9] at z' <;> cases z'
      · obtain ⟨x', y', u0, ed, e0, e1⟩ := standS e
        cases ed
        obtain ⟨x', y', v0, ed, f0, f1⟩ := standS f
        cases ed
        rcases e1 with ⟨_, rfl⟩ | ⟨c, v', ev, em⟩
        · rcases f1 with ⟨_, rfl⟩ | ⟨c, v', ev, em⟩
          · obtain ⟨z1, z2⟩ := h2 _ _ e0 f0 g
            exact ⟨by show 3 * u0.1 = 0; omega, by show 3 * v0.1 = _; omega⟩
          · rename_i c'
            rw [c] at c'; cases c'
        · rcases f1 with ⟨c', _⟩ | ⟨_, w, fw, fm⟩
          · rw [c] at c'; cases c'
          · obtain ⟨_, _, _, rfl⟩ := metD_some em
            obtain ⟨_, _, _, rfl⟩ := metD_some fm
            obtain ⟨g3, _⟩ := k1 _ ev
            obtain ⟨g4, _⟩ := k0 _ fw
            rcases g with g | g
            · have z' : fst2 u0.2.2 v'.2.2 = none := g
              rw [g3] at z'
              cases e9 : u0.2.2 <;> rw [e9] at z' <;> cases z'
            · have z' : fst2 v0.2.1 w.2.1 = none := g
              rw [g4] at z'
              cases e9 : v0.2.1 <;> rw [e9] at z' <;> cases z'
    · have no : ∀ h u, stand (r + 1) d h ≠ some u := fun h u e => by
        obtain ⟨x, y, _, ei, _⟩ := standS e
        exact q ⟨x, y, ei⟩
      exact ⟨0, fun u e => absurd e (no _ _), fun u e => absurd e (no _ _), fun u v e => absurd e (no _ _)⟩
/-- the inputs that stand in what hand h knows, of inputs a, b -/
def inp (a b : Int) (h : Nat) (u : Stands) : Prop := (u.2.1 = some a ∨ (h = 1 ∧ u.2.1 = none)) ∧ (u.2.2 = some b ∨ (h = 0 ∧ u.2.2 = none))
def At (a b : Int) (r : Nat) (d : PyData) (h : Nat) (j : Int) : Prop := ∃ u, stand r d h = some u ∧ u.1 = j ∧ inp a b h u
theorem At.int {a b : Int} (ha : 0 ≤ a) (hb : 0 ≤ b) {h : Nat} (hh : h < 2) : At a b 0 (if h = 0 then .int a else .int b) h (if h = 0 then 0 else 1) := by
  obtain rfl | rfl : h = 0 ∨ h = 1 := by omega
  · exact ⟨(0, some a, none), by simp [stand, ha], rfl, .inl rfl, .inr ⟨rfl, rfl⟩⟩
  · exact ⟨(1, none, some b), by simp [stand, hb], rfl, .inr ⟨rfl, rfl⟩, .inl rfl⟩
theorem At.alone {a b : Int} {r : Nat} {d : PyData} {h : Nat} {j : Int} (k : At a b r d h j) : At a b (r + 1) (.tuple [d, .none]) h (3 * j) := by
  obtain ⟨u, e, rfl, i⟩ := k
  exact ⟨(3 * u.1, u.2.1, u.2.2), by simp [stand, stand1, e, isN], rfl, i⟩
theorem inp_agr {a b : Int} {h h' : Nat} {u v : Stands} (i : inp a b h u) (k : inp a b h' v) : agr u.2.1 v.2.1 = true ∧ agr u.2.2 v.2.2 = true := by
  obtain ⟨i1, i2⟩ := i
  obtain ⟨k1, k2⟩ := k
  constructor
  · rcases i1 with e | ⟨_, e⟩ <;> rcases k1 with f | ⟨_, f⟩ <;> rw [e, f] <;> simp [agr]
  · rcases i2 with e | ⟨_, e⟩ <;> rcases k2 with f | ⟨_, f⟩ <;> rw [e, f] <;> simp [agr]
theorem At.met {a b : Int} {r : Nat} {d e : PyData} {h : Nat} {i j : Int} (hh : h < 2) (k : At a b r d h j) (l : At a b r e (1 - h) i) (n : (i - j).natAbs = 1) : At a b (r + 1) (.tuple [d, e]) h (3 * j + 2 * (i - j)) := by
  obtain ⟨u, e1, rfl, i1⟩ := k
  obtain ⟨v, e2, rfl, i2⟩ := l
  obtain ⟨g1, g2⟩ := inp_agr i1 i2
  refine ⟨(3 * u.1 + 2 * (v.1 - u.1), fst2 u.2.1 v.2.1, fst2 u.2.2 v.2.2), ?_, rfl, ?_, ?_⟩
  · have en := stand_isN e2
    show stand1 _ _ _ = _
    rw [e1, e2]
    unfold stand1 metD
    rw [Option.bind_some, if_neg (by rw [en]; decide), Option.bind_some, if_pos ⟨n, g1, g2⟩]
  · rcases i1.1 with z | ⟨y, z⟩
    · left; show fst2 u.2.1 v.2.1 = _; rw [z]; rfl
    · rcases i2.1 with z2 | ⟨y2, z2⟩
      · left; show fst2 u.2.1 v.2.1 = _; rw [z, z2]; rfl
      · omega
  · rcases i1.2 with z | ⟨y, z⟩
    · left; show fst2 u.2.2 v.2.2 = _; rw [z]; rfl
    · rcases i2.2 with z2 | ⟨y2, z2⟩
      · left; show fst2 u.2.2 v.2.2 = _; rw [z, z2]; rfl
      · omega
/-! the mirror of the places -/
structure Pm where
  q : Nat → Nat → Int
  l : Nat → Nat
  n : Nat → Nat
def Pm.nxt (p : Pm) (h : Nat) : Int := if p.l h < p.n (1 - h) then 3 * p.q h (p.l h) + 2 * (p.q (1 - h) (p.l h) - p.q h (p.l h)) else 3 * p.q h (p.l h)
def Pm.step (p : Pm) (h : Nat) : Pm :=
  if p.l h < p.n h then { q := upf p.q h (upf (p.q h) (p.l h + 1) (p.nxt h)), l := upf p.l h (p.l h + 1), n := p.n }
  else { q := p.q, l := p.l, n := upf p.n h (p.n h + 1) }
def P0 : Pm := { q := fun h _ => if h = 0 then 0 else 1, l := fun _ => 0, n := fun _ => 0 }
def Pm.run (p : Pm) (hs : List Nat) : Pm := hs.foldl Pm.step p
theorem Pm.run_snoc (p : Pm) (hs : List Nat) (h : Nat) : p.run (hs ++ [h]) = (p.run hs).step h := by
  unfold Pm.run
  rw [List.foldl_append]
  rfl
structure Nb (p : Pm) : Prop where
  n1 : ∀ h < 2, p.n h = p.l h ∨ p.n h = p.l h + 1
  n3 : ∀ t, t ≤ p.l 0 → t ≤ p.l 1 → (p.q 1 t - p.q 0 t).natAbs = 1
  n4 : ∀ h < 2, ∀ t, t < p.l h → p.q h (t + 1) = 3 * p.q h t ∨ (t < p.n (1 - h) ∧ p.q h (t + 1) = p.q h t + 2 * p.q (1 - h) t)
  n5 : ∀ h < 2, ∀ t, t ≤ p.l h → p.q h t % 2 = (h : Int) ∧ 0 ≤ p.q h t ∧ p.q h t ≤ 3 ^ t
theorem Nb.zero : Nb P0 where
  n1 := fun h _ => .inl rfl
  n3 := fun t _ _ => rfl
  n4 := fun h _ t ht => absurd ht (Nat.not_lt_zero _)
  n5 := fun h hh t ht => by
    obtain rfl : t = 0 := Nat.le_zero.mp ht
    obtain rfl | rfl : h = 0 ∨ h = 1 := by omega
    · exact ⟨rfl, by decide, by decide⟩
    · exact ⟨rfl, by decide, by decide⟩
theorem Nb.near {p : Pm} (N : Nb p) {h : Nat} (hh : h < 2) {t : Nat} (h1 : t ≤ p.l h) (h2 : t ≤ p.l (1 - h)) : (p.q (1 - h) t - p.q h t).natAbs = 1 := by
  obtain rfl | rfl : h = 0 ∨ h = 1 := by omega
  · exact N.n3 t h1 h2
  · have := N.n3 t h2 h1
    show (p.q 0 t - p.q 1 t).natAbs = 1
    omega
theorem Nb.step {p : Pm} (N : Nb p) {h : Nat} (hh : h < 2) : Nb (p.step h) := by
  have ho : 1 - h < 2 := by omega
  have hne : 1 - h ≠ h := by omega
  have a1 := N.n1 h hh
  have a2 := N.n1 (1 - h) ho
  unfold Pm.step
  by_cases c : p.l h < p.n h
  · rw [if_pos c]
    have lh : upf p.l h (p.l h + 1) h = p.l h + 1 := upf_same
    have lo : ∀ i, i ≠ h → upf p.l h (p.l h + 1) i = p.l i := fun i e => upf_ne e
    have qo : ∀ i, i ≠ h → upf p.q h (upf (p.q h) (p.l h + 1) (p.nxt h)) i = p.q i := fun i e => upf_ne e
    have qh : upf p.q h (upf (p.q h) (p.l h + 1) (p.nxt h)) h = upf (p.q h) (p.l h + 1) (p.nxt h) := upf_same
    have qt : ∀ t, t ≠ p.l h + 1 → upf (p.q h) (p.l h + 1) (p.nxt h) t = p.q h t := fun t e => upf_ne e
    have qn : upf (p.q h) (p.l h + 1) (p.nxt h) (p.l h + 1) = p.nxt h := upf_same
    have near' : ∀ t, t ≤ p.l h + 1 → t ≤ p.l (1 - h) → (p.q (1 - h) t - upf (p.q h) (p.l h + 1) (p.nxt h) t).natAbs = 1 := fun t t1 t2 => by
      by_cases e : t = p.l h + 1
      · subst e
        rw [qn]
        unfold Pm.nxt
        rw [if_pos (by omega)]
        have nr := N.near hh (Nat.le_refl _) (show p.l h ≤ p.l (1 - h) by omega)
        have m4 := N.n4 (1 - h) ho (p.l h) (by omega)
        rw [show 1 - (1 - h) = h by omega] at m4
        rcases m4 with m4 | ⟨_, m4⟩
        · omega
        · omega
      · rw [qt t e]
        exact N.near hh (by omega) t2
    refine { n1 := fun i hi => ?_, n3 := fun t t0 t1 => ?_, n4 := fun i hi t ht => ?_, n5 := fun i hi t ht => ?_ }
    · show p.n i = upf p.l h (p.l h + 1) i ∨ p.n i = upf p.l h (p.l h + 1) i + 1
      by_cases e : i = h
      · subst e; rw [lh]; omega
      · rw [lo i e]; exact N.n1 i hi
    · show (upf p.q h (upf (p.q h) (p.l h + 1) (p.nxt h)) 1 t - upf p.q h (upf (p.q h) (p.l h + 1) (p.nxt h)) 0 t).natAbs = 1
      have t0' : t ≤ upf p.l h (p.l h + 1) 0 := t0
      have t1' : t ≤ upf p.l h (p.l h + 1) 1 := t1
      obtain rfl | rfl : h = 0 ∨ h = 1 := by omega
      · rw [lh] at t0'
        rw [lo 1 (by decide)] at t1'
        rw [qh, qo 1 (by decide)]
        exact near' t t0' t1'
      · rw [lh] at t1'
        rw [lo 0 (by decide)] at t0'
        rw [qh, qo 0 (by decide)]
        have := near' t t1' t0'
        show (upf (p.q 1) (p.l 1 + 1) (p.nxt 1) t - p.q 0 t).natAbs = 1
        have z : (p.q 0 t - upf (p.q 1) (p.l 1 + 1) (p.nxt 1) t).natAbs = 1 := this
        omega
    · have ht' : t < upf p.l h (p.l h + 1) i := ht
      show upf p.q h (upf (p.q h) (p.l h + 1) (p.nxt h)) i (t + 1) = 3 * upf p.q h (upf (p.q h) (p.l h + 1) (p.nxt h)) i t ∨ (t < p.n (1 - i) ∧ upf p.q h (upf (p.q h) (p.l h + 1) (p.nxt h)) i (t + 1) = upf p.q h (upf (p.q h) (p.l h + 1) (p.nxt h)) i t + 2 * upf p.q h (upf (p.q h) (p.l h + 1) (p.nxt h)) (1 - i) t)
      by_cases e : i = h
      · subst e
        rw [lh] at ht'
        rw [qh, qo (1 - i) hne, qt t (by omega)]
        by_cases et : t = p.l i
        · subst et
          rw [qn]
          unfold Pm.nxt
          by_cases c2 : p.l i < p.n (1 - i)
          · rw [if_pos c2]; right; exact ⟨c2, by omega⟩
          · rw [if_neg c2]; left; rfl
        · rw [qt (t + 1) (by omega)]
          exact N.n4 i hi t (by omega)
      · rw [lo i e] at ht'
        have e1 : 1 - i = h := by omega
        rw [qo i e, e1, qh]
        have m4 := N.n4 i hi t ht'
        rw [e1] at m4
        rcases m4 with m4 | ⟨m5, m4⟩
        · exact .inl m4
        · right
          refine ⟨m5, ?_⟩
          rw [qt t (by omega)]
          exact m4
    · have ht' : t ≤ upf p.l h (p.l h + 1) i := ht
      show upf p.q h (upf (p.q h) (p.l h + 1) (p.nxt h)) i t % 2 = (i : Int) ∧ 0 ≤ upf p.q h (upf (p.q h) (p.l h + 1) (p.nxt h)) i t ∧ upf p.q h (upf (p.q h) (p.l h + 1) (p.nxt h)) i t ≤ 3 ^ t
      by_cases e : i = h
      · subst e
        rw [lh] at ht'
        rw [qh]
        by_cases et : t = p.l i + 1
        · subst et
          rw [qn]
          obtain ⟨b1, b2, b3⟩ := N.n5 i hi (p.l i) (Nat.le_refl _)
          have p3 : (3 : Int) ^ (p.l i + 1) = 3 * 3 ^ p.l i := by rw [Int.pow_succ]; omega
          unfold Pm.nxt
          by_cases c2 : p.l i < p.n (1 - i)
          · rw [if_pos c2]
            obtain ⟨d1, d2, d3⟩ := N.n5 (1 - i) ho (p.l i) (by omega)
            refine ⟨by omega, by omega, by omega⟩
          · rw [if_neg c2]
            refine ⟨by omega, by omega, by omega⟩
        · rw [qt t et]
          exact N.n5 i hi t (by omega)
      · rw [lo i e] at ht'
        rw [qo i e]
        exact N.n5 i hi t ht'
  · rw [if_neg c]
    refine { n1 := fun i hi => ?_, n3 := N.n3, n4 := fun i hi t ht => ?_, n5 := N.n5 }
    · show upf p.n h (p.n h + 1) i = p.l i ∨ upf p.n h (p.n h + 1) i = p.l i + 1
      by_cases e : i = h
      · subst e; rw [upf_same]; omega
      · rw [upf_ne e]; exact N.n1 i hi
    · show p.q i (t + 1) = 3 * p.q i t ∨ (t < upf p.n h (p.n h + 1) (1 - i) ∧ p.q i (t + 1) = p.q i t + 2 * p.q (1 - i) t)
      rcases N.n4 i hi t ht with m | ⟨m1, m2⟩
      · exact .inl m
      · right
        refine ⟨?_, m2⟩
        by_cases e : 1 - i = h
        · rw [e] at m1 ⊢; rw [upf_same]; omega
        · rw [upf_ne e]; exact m1
/-- what is known and where it stands -/
structure Rel (a b : Int) (m : M) (p : Pm) : Prop where
  l : ∀ h < 2, m.l h = p.l h
  n : ∀ h < 2, (m.c h).length = p.n h
  c : ∀ h < 2, ∀ t, t < p.n h → At a b t ((m.c h).getD t .none) h (p.q h t)
  k : ∀ h < 2, At a b (p.l h) (m.k h) h (p.q h (p.l h))
theorem Rel.zero {a b : Int} (ha : 0 ≤ a) (hb : 0 ≤ b) : Rel a b (M0 a b) P0 where
  l := fun h _ => rfl
  n := fun h _ => rfl
  c := fun h _ t ht => absurd ht (Nat.not_lt_zero _)
  k := fun h hh => At.int ha hb hh
theorem Rel.step {a b : Int} {m : M} {p : Pm} (R : Rel a b m p) (N : Nb p) {h : Nat} (hh : h < 2) : Rel a b (m.step h) (p.step h) := by
  have ho : 1 - h < 2 := by omega
  have hne : 1 - h ≠ h := by omega
  have a1 := N.n1 h hh
  have a2 := N.n1 (1 - h) ho
  have rl := R.l h hh
  have rn := R.n h hh
  have rno := R.n (1 - h) ho
  unfold Pm.step M.step
  by_cases c : p.l h < p.n h
  · rw [if_pos c, if_pos (show m.l h < (m.c h).length by omega)]
    have qo : ∀ i, i ≠ h → upf p.q h (upf (p.q h) (p.l h + 1) (p.nxt h)) i = p.q i := fun i e => upf_ne e
    have qh : upf p.q h (upf (p.q h) (p.l h + 1) (p.nxt h)) h = upf (p.q h) (p.l h + 1) (p.nxt h) := upf_same
    have qt : ∀ t, t ≠ p.l h + 1 → upf (p.q h) (p.l h + 1) (p.nxt h) t = p.q h t := fun t e => upf_ne e
    have qn : upf (p.q h) (p.l h + 1) (p.nxt h) (p.l h + 1) = p.nxt h := upf_same
    refine { l := fun i hi => ?_, n := R.n, c := fun i hi t ht => ?_, k := fun i hi => ?_ }
    · show upf m.l h (m.l h + 1) i = upf p.l h (p.l h + 1) i
      by_cases e : i = h
      · subst e; rw [upf_same, upf_same]; omega
      · rw [upf_ne e, upf_ne e]; exact R.l i hi
    · show At a b t ((m.c i).getD t .none) i (upf p.q h (upf (p.q h) (p.l h + 1) (p.nxt h)) i t)
      have old := R.c i hi t ht
      by_cases e : i = h
      · subst e
        have ht' : t < p.n i := ht
        rw [qh, qt t (by omega)]
        exact old
      · rw [qo i e]; exact old
    · show At a b (upf p.l h (p.l h + 1) i) (upf m.k h _ i) i (upf p.q h (upf (p.q h) (p.l h + 1) (p.nxt h)) i (upf p.l h (p.l h + 1) i))
      by_cases e : i = h
      · subst e
        rw [upf_same, upf_same, qh, qn, rl]
        unfold Pm.nxt
        have mine := R.k i hi
        by_cases c2 : p.l i < p.n (1 - i)
        · rw [if_pos c2]
          exact At.met hi mine (R.c (1 - i) ho (p.l i) c2) (N.near hi (Nat.le_refl _) (by omega))
        · rw [if_neg c2, List.getD_eq_getElem?_getD, List.getElem?_eq_none (by omega)]
          exact mine.alone
      · rw [upf_ne e, upf_ne e, qo i e]
        exact R.k i hi
  · rw [if_neg c, if_neg (show ¬ m.l h < (m.c h).length by omega)]
    refine { l := R.l, n := fun i hi => ?_, c := fun i hi t ht => ?_, k := R.k }
    · show (upf m.c h (m.c h ++ [m.k h]) i).length = upf p.n h (p.n h + 1) i
      by_cases e : i = h
      · subst e; rw [upf_same, upf_same, List.length_append, rn]; rfl
      · rw [upf_ne e, upf_ne e]; exact R.n i hi
    · show At a b t ((upf m.c h (m.c h ++ [m.k h]) i).getD t .none) i (p.q i t)
      have ht' : t < upf p.n h (p.n h + 1) i := ht
      by_cases e : i = h
      · subst e
        rw [upf_same] at ht' ⊢
        by_cases et : t < p.n i
        · rw [List.getD_eq_getElem?_getD, List.getElem?_append_left (by omega), ← List.getD_eq_getElem?_getD]
          exact R.c i hi t et
        · have eq1 : t = p.l i := by omega
          rw [List.getD_eq_getElem?_getD, List.getElem?_append_right (by omega), rn, show t - p.n i = 0 by omega]
          rw [eq1]
          exact R.k i hi
      · rw [upf_ne e] at ht' ⊢
        exact R.c i hi t ht'
theorem run_both {a b : Int} (ha : 0 ≤ a) (hb : 0 ≤ b) : ∀ {hs : List Nat} {m : M} {p : Pm}, (∀ h ∈ hs, h < 2) → Rel a b m p → Nb p → Rel a b (m.run hs) (p.run hs) ∧ Nb (p.run hs)
  | [], m, p, _, R, N => ⟨R, N⟩
  | h :: r, m, p, q, R, N => run_both ha hb (hs := r) (m := m.step h) (p := p.step h) (fun x hx => q x (List.mem_cons_of_mem _ hx)) (R.step N (q h List.mem_cons_self)) (N.step (q h List.mem_cons_self))
def Pm.done (p : Pm) (h : Nat) : Nat := p.l h + p.n h
end TB

set_option Elab.async false
set_option maxRecDepth 100000
set_option maxHeartbeats 4000000
namespace TB
open PySem L2 PyProof.Rows
set_option linter.unusedVariables false
def isI : PyData → Bool
  | .int _ => true
  | _ => false
def isT : PyData → Bool
  | .tuple _ => true
  | _ => false
def ov : Option Int → V
  | none => .non
  | some i => .int i
def stV (u : Stands) : List V := [.int u.1, ov u.2.1, ov u.2.2]
def spWholeK : Sp := fun vs H Q _ => ∃ (v : V) (d : PyData), vs = [v] ∧ Kn H v d ∧ Q (.bl (isI d)) H
def spRb : Sp := fun vs H Q _ => ∃ (v : V) (d : PyData), vs = [v] ∧ Kn H v d ∧ Q (.int (rb 5 d : Nat)) H
def spAgr : Sp := fun vs H Q _ => ∃ a b : Option Int, vs = [ov a, ov b] ∧ Q (.bl (agr a b)) H
def spMet : Sp := fun vs H Q _ => ∃ (p q : Addr) (u v : Stands), vs = [.ref p, .ref q] ∧ H p = some (.tup (stV u)) ∧ H q = some (.tup (stV v)) ∧ (metD u v = none → Q .non H) ∧ ∀ w, metD u v = some w → ∀ (o : Addr) (H' : Hp), Same H H' → H' o = some (.tup (stV w)) → Q (.ref o) H'
def spStand (r : Nat) : Sp := fun vs H Q _ => ∃ (v : V) (d : PyData) (h : Nat), vs = [v, .int (h : Int), .int (r : Int)] ∧ Kn H v d ∧ h < 2 ∧ (stand r d h = none → ∀ H', Same H H' → Q .non H') ∧ ∀ u, stand r d h = some u → ∀ (o : Addr) (H' : Hp), Same H H' → H' o = some (.tup (stV u)) → Q (.ref o) H'
theorem Kn.ty {K : PySem.W.Frag} {H : Hp} {v : V} {d : PyData} (h : Kn H v d) : (∃ i, v = .int i ∧ d = .int i) ∨ (v = .non ∧ d = .none) ∨ ∃ a x y e f, v = .ref a ∧ d = .tuple [e, f] ∧ H a = some (.tup [x, y]) ∧ Kn H x e ∧ Kn H y f := by
  cases h with
  | int i => exact .inl ⟨i, rfl, rfl⟩
  | non => exact .inr (.inl ⟨rfl, rfl⟩)
  | tup h a b => exact .inr (.inr ⟨_, _, _, _, _, rfl, rfl, h, a, b⟩)
section
variable {P : Program} {w : World} {K : PySem.W.Frag} {mg : Str → Option Value} {base : Heap}
theorem ok_wholeK {f : Addr} {fd : FuncData} (F : Fun K "is_whole" "is_whole" sWhole f fd) (T : Txt K mg) : FnOk P w K mg base CX0 1 f fd ["thing"] spWholeK := by
  refine F.ok scWhole (fun vs H Q E h => ?_) (fun cdv A outer s H vs Q E hr h => ?_)
  · obtain ⟨v, d, rfl, _⟩ := h
    rfl
  obtain ⟨v, d, rfl, hk, q⟩ := h
  refine ⟨_, pss_one (ps_ret (pe_and (pe_callB call_isi (by rfl) T.isi boot_isinstance (pa_cons (pv 0) (pa_cons (pe_bltn (v := .ty "int") (by rfl) T.int boot_int rfl) pa_nil)))
    (pe_one (pe_not (pe_callB call_isi (by rfl) T.isi boot_isinstance (pa_cons (pv 0) (pa_cons (pe_bltn (v := .ty "bool") (by rfl) T.bool boot_bool rfl) pa_nil))))))), ?_⟩
  rcases hk.ty (K := K) with ⟨i, rfl, rfl⟩ | ⟨rfl, rfl⟩ | ⟨a, x, y, e, g, rfl, rfl, ha, _, _⟩
  · refine ⟨_, rfl, V.int i, V.ty "int", _, _, true, rfl, .ty "int", .base (.int i), kit_ty (by decide +kernel), true, rfl, iteT ?_⟩
    exact ⟨_, rfl, V.int i, V.ty "bool", _, _, false, rfl, .ty "bool", .base (.int i), kit_ty (by decide +kernel), false, rfl, q⟩
  · exact ⟨_, rfl, V.non, V.ty "int", _, _, false, rfl, .ty "int", .base .non, kit_ty (by decide +kernel), false, rfl, iteF q⟩
  · exact ⟨_, rfl, V.ref a, V.ty "int", _, _, false, rfl, .ty "int", .base (.tup ha), kit_ty (by decide +kernel), false, rfl, iteF q⟩
theorem scRb : FnScope ["thing", "rounds"] ["thing"] (defScope s_rounds_behind) := ⟨rfl, rfl, rfl, by decide +kernel, rfl, by decide +kernel, by decide +kernel⟩
theorem ok_rb {f : Addr} {fd : FuncData} (F : Fun K "rounds_behind" "rounds_behind" s_rounds_behind f fd) (T : Txt K mg) (U : Txt2 K mg) : FnOk P w K mg base CX0 1 f fd ["thing"] spRb := by
  refine F.ok scRb (fun vs H Q E h => ?_) (fun cdv A outer s H vs Q E hr h => ?_)
  · obtain ⟨v, d, rfl, _⟩ := h
    rfl
  obtain ⟨v, d, rfl, hk, q⟩ := h
  obtain ⟨t5, m5⟩ := U.five
  have nd := scRb.nd
  refine ⟨_, pss_cons (ps_set (i := 1) nd rfl (Or.inl rfl) pe_int)
    (pss_cons (ps_while PassesOwn.never (PW.pt (pw_and (pt_cmpR op_lt (pv 1) (pe_glob (v := .int 5) rfl m5 ⟨_, rfl⟩) (nomark _)) (pw_and (pt_val (pe_callB call_isi (by rfl) T.isi boot_isinstance (pa_cons (pv 0) (pa_cons (pe_bltn (v := .ty "tuple") (by rfl) T.tuple boot_tuple rfl) pa_nil)))) (pw_and1 (pt_cmpR op_eq (pe_callB call_len_seq (by rfl) T.len PySem.boot_len (pa_cons (pv 0) pa_nil)) pe_int (nomark _))))))
      (pss_cons (ps_set (i := 0) nd rfl (Or.inl rfl) (pe_ix ix_tup (pv 0) pe_int (fun _ _ => rfl)))
      (pss_one (ps_aug (i := 1) nd rfl (Or.inl rfl) pe_int ip_add))))
    (pss_one (ps_ret (pv 1)))), ?_⟩
  refine ⟨fun m σ H' => ∃ (k : Nat) (v' : V) (d' : PyData), σ = [some v', some (.int (k : Int))] ∧ H' = H ∧ Kn H v' d' ∧ m + k = 5 ∧ rb 5 d = k + rb m d', ⟨5, 0, v, d, rfl, rfl, hk, rfl, (Nat.zero_add _).symm⟩, ?_⟩
  rintro m σ H' ⟨k, v', d', rfl, rfl, hk', hm, he⟩
  refine ⟨_, rfl, _, _, rfl, rfl, _, rfl, ?_⟩
  by_cases c : k < 5
  · rw [decide_eq_true (show ((k : Nat) : Int) < 5 by omega)]
    refine iteT ?_
    obtain ⟨m', rfl⟩ : ∃ m', m = m' + 1 := ⟨m - 1, by omega⟩
    rcases hk'.ty (K := K) with ⟨i, rfl, rfl⟩ | ⟨rfl, rfl⟩ | ⟨a, x, y, e, g, rfl, rfl, ha, hx, hy⟩
    · refine ⟨_, rfl, V.int i, V.ty "tuple", _, _, false, rfl, .ty "tuple", .base (.int i), kit_ty (by decide +kernel), false, rfl, iteF (iteF ?_)⟩
      refine ⟨_, rfl, ?_⟩
      rw [show rb 5 d = k from by rw [he]; simp [rb]] at q
      exact q
    · refine ⟨_, rfl, V.non, V.ty "tuple", _, _, false, rfl, .ty "tuple", .base .non, kit_ty (by decide +kernel), false, rfl, iteF (iteF ?_)⟩
      refine ⟨_, rfl, ?_⟩
      rw [show rb 5 d = k from by rw [he]; simp [rb]] at q
      exact q
    · refine ⟨_, rfl, V.ref a, V.ty "tuple", _, _, true, rfl, .ty "tuple", .base (.tup ha), kit_ty (by decide +kernel), true, rfl, iteT ?_⟩
      refine ⟨_, rfl, a, _, rfl, .inr (SqT.of ha), rfl, _, rfl, iteT ?_⟩
      refine ⟨fun σ' H'' => ∃ m'' < m' + 1, ∃ (k : Nat) (v' : V) (d' : PyData), σ' = [some v', some (.int (k : Int))] ∧ H'' = H' ∧ Kn H' v' d' ∧ m'' + k = 5 ∧ rb 5 d = k + rb m'' d', fun σ' H'' h => h, ?_⟩
      refine ⟨_, rfl, a, _, _, _, rfl, rfl, SqT.of ha, (by rfl), ?_⟩
      refine ⟨_, rfl, _, _, rfl, rfl, m', Nat.lt_succ_self _, k + 1, x, e, rfl, rfl, hx, by omega, ?_⟩
      rw [he]
      simp only [rb]
      omega
  · rw [decide_eq_false (show ¬ ((k : Nat) : Int) < 5 by omega)]
    refine iteF (iteF ?_)
    refine ⟨_, rfl, ?_⟩
    obtain rfl : m = 0 := by omega
    rw [show rb 5 d = k from by rw [he]; simp [rb]] at q
    exact q
theorem scAgr : FnScope ["one", "other"] ["one", "other"] (defScope s_agrees) := ⟨rfl, rfl, rfl, by decide +kernel, rfl, by decide +kernel, by decide +kernel⟩
theorem ok_agr {f : Addr} {fd : FuncData} (F : Fun K "agrees" "agrees" s_agrees f fd) : FnOk P w K mg base CX0 1 f fd ["one", "other"] spAgr := by
  refine F.ok scAgr (fun vs H Q E h => ?_) (fun cdv A outer s H vs Q E hr h => ?_)
  · obtain ⟨a, b, rfl, _⟩ := h
    rfl
  obtain ⟨a, b, rfl, q⟩ := h
  refine ⟨_, pss_one (ps_ret (pe_or (pe_cmpR op_isN (pv 0) pe_non (nomark _)) (pe_or (pe_cmpR op_isN (pv 1) pe_non (nomark _)) (pe_one (pe_cmpR op_eq (pv 0) (pv 1) (nomark _)))))), ?_⟩
  refine ⟨_, rfl, rfl, _, rfl, ?_⟩
  cases a with
  | none => exact iteT q
  | some i =>
    refine iteF ⟨_, rfl, rfl, _, rfl, ?_⟩
    cases b with
    | none => exact iteT q
    | some j =>
      refine iteF ⟨_, rfl, _, rfl, rfl, ?_⟩
      have e : decide (V.int i = V.int j) = agr (some i) (some j) := by
        show decide (V.int i = V.int j) = decide (i = j)
        by_cases c : i = j
        · subst c; simp
        · rw [decide_eq_false (show ¬ i = j from c), decide_eq_false (fun z => c (by injection z))]
      show Q (.bl (decide (V.int i = V.int j))) H
      rw [e]
      exact q
end
end TB

set_option Elab.async false
set_option maxRecDepth 100000
set_option maxHeartbeats 4000000
namespace TB
open PySem L2 PyProof.Rows
set_option linter.unusedVariables false
structure RaiseC (K : PySem.W.Frag) (mg : Str → Option Value) (n : Str) (C : Addr) : Prop where
  m : mg n = some (.ref C)
  x : PySem.W.excIn K C [.type "ValueError", .type "Exception", .type "BaseException", .type "object"] "ValueError.__new__" = true
  k : PySem.W.keepIn K (.ref C) = true
  b : PySem.W.subIn K (.ref C) (.type "BaseException") = some true
  t : PySem.W.typeIn K (.ref C) = some (.type "type")
/-- a hand that is one: what it knows, its place, or the refusal -/
def spPlace (cN : Addr) : Sp := fun vs H Q E => ∃ (v : V) (d : PyData) (h : Nat), vs = [v, .int (h : Int)] ∧ Kn H v d ∧ h < 2 ∧ (placeD d h = none → ∀ H', Same H H' → E (.ref cN) none H') ∧ ∀ j, placeD d h = some j → ∀ H', Same H H' → Q (.int j) H'
theorem fst2_ov (a b : Option Int) : ov (fst2 a b) = if a = none then ov b else ov a := by
  cases a <;> rfl
section
variable {P : Program} {w : World} {K : PySem.W.Frag} {mg : Str → Option Value} {base : Heap}
theorem stV_at0 (u : Stands) : atI (stV u) 0 = some (.int u.1) := rfl
theorem stV_at1 (u : Stands) : atI (stV u) 1 = some (ov u.2.1) := rfl
theorem stV_at2 (u : Stands) : atI (stV u) 2 = some (ov u.2.2) := rfl
abbrev nMet : List Str := ["own", "other", "at", "own0", "own1", "seen_at", "other0", "other1"]
theorem scMet : FnScope nMet ["own", "other"] (defScope s_met) := ⟨rfl, rfl, rfl, by decide +kernel, rfl, by decide +kernel, by decide +kernel⟩
theorem ok_met {f g : Addr} {fd gd : FuncData} (F : Fun K "met" "met" s_met f fd) (mA : mg "abs" = none) (A1 : Def P w K mg base "agrees" ["one", "other"] 1 spAgr g gd) : FnOk P w K mg base CX0 2 f fd ["own", "other"] spMet := by
  refine F.ok scMet (fun vs H Q E h => ?_) (fun cdv A outer s H vs Q E hr h => ?_)
  · obtain ⟨p, q, u, v, rfl, _⟩ := h
    rfl
  obtain ⟨p, q, u, v, rfl, hp, hq, q0, q1⟩ := h
  have nd := scMet.nd
  refine ⟨_, pss_cons (ps_asg (pv 0) (pg_tup (by rfl) (pgs_cons (pg_name (i := 2) nd rfl (Or.inl rfl)) (pgs_cons (pg_name (i := 3) nd rfl (Or.inl rfl)) (pgs_cons (pg_name (i := 4) nd rfl (Or.inl rfl)) pgs_nil)))))
    (pss_cons (ps_asg (pv 1) (pg_tup (by rfl) (pgs_cons (pg_name (i := 5) nd rfl (Or.inl rfl)) (pgs_cons (pg_name (i := 6) nd rfl (Or.inl rfl)) (pgs_cons (pg_name (i := 7) nd rfl (Or.inl rfl)) pgs_nil)))))
    (pss_cons (ps_if (PW.pt (pw_or (pt_cmpR op_ne (pe_callB call_abs (by rfl) mA (by decide +kernel) (pa_cons (pe_op op_sub (pv 2) (pv 5)) pa_nil)) pe_int (nomark _)) (pw_or (pt_not (pt_val (pe_call A1.G hr rfl A1.m A1.k A1.b .nil pass0 (pa_cons (pv 3) (pa_cons (pv 6) pa_nil))))) (pw_or1 (pt_not (pt_val (pe_call A1.G hr rfl A1.m A1.k A1.b .nil pass0 (pa_cons (pv 4) (pa_cons (pv 7) pa_nil)))))))) ) (pss_one (ps_ret pe_non)) pss_nil)
    (pss_one (ps_ret (pe_tup (pa_cons (pe_op op_add (pe_op op_mul pe_int (pv 2)) (pe_op op_mul pe_int (pe_op op_sub (pv 5) (pv 2)))) (pa_cons (pe_ifExp (pt_cmpR op_isN (pv 3) pe_non (nomark _)) (pv 6) (pv 3)) (pa_cons (pe_ifExp (pt_cmpR op_isN (pv 4) pe_non (nomark _)) (pv 7) (pv 4)) pa_nil)))))))), ?_⟩
  refine ⟨_, rfl, p, _, rfl, SqT.of hp, rfl, _, _, rfl, _, _, rfl, _, _, rfl, rfl, ?_⟩
  refine ⟨_, rfl, q, _, rfl, SqT.of hq, rfl, _, _, rfl, _, _, rfl, _, _, rfl, rfl, ?_⟩
  refine ⟨_, rfl, _, rfl, _, _, rfl, rfl, _, rfl, rfl, _, rfl, ?_⟩
  have habs : (if u.1 - v.1 < 0 then -(u.1 - v.1) else u.1 - v.1) = (((v.1 - u.1).natAbs : Nat) : Int) := by split <;> omega
  rw [habs]
  by_cases c1 : (v.1 - u.1).natAbs = 1
  case neg =>
    have e1 : (!decide (V.int (((v.1 - u.1).natAbs : Nat) : Int) = V.int 1)) = true := by
      rw [decide_eq_false (fun e => c1 (by injection e with e; omega))]; rfl
    rw [e1]
    refine iteT (iteT ?_)
    exact q0 (by unfold metD; rw [if_neg (fun z => c1 z.1)])
  have e1 : (!decide (V.int (((v.1 - u.1).natAbs : Nat) : Int) = V.int 1)) = false := by
    rw [decide_eq_true (by rw [c1]; rfl)]; rfl
  rw [e1]
  refine iteF ?_
  refine ⟨_, rfl, _, rfl, u.2.1, v.2.1, rfl, agr u.2.1 v.2.1, rfl, ?_⟩
  by_cases c2 : agr u.2.1 v.2.1 = true
  case neg =>
    rw [Bool.eq_false_iff.mpr c2]
    refine iteT (iteT ?_)
    exact q0 (by unfold metD; rw [if_neg (fun z => c2 z.2.1)])
  rw [c2]
  refine iteF ?_
  refine ⟨_, rfl, _, rfl, u.2.2, v.2.2, rfl, agr u.2.2 v.2.2, rfl, ?_⟩
  by_cases c3 : agr u.2.2 v.2.2 = true
  case neg =>
    rw [Bool.eq_false_iff.mpr c3]
    refine iteT ?_
    exact q0 (by unfold metD; rw [if_neg (fun z => c3 z.2.2)])
  rw [c3]
  refine iteF ?_
  refine ⟨_, rfl, _, _, rfl, rfl, .inl ⟨by decide, by decide⟩, _, rfl, _, rfl, _, _, rfl, rfl, _, _, rfl, rfl, .inl ⟨by decide, by decide⟩, _, _, rfl, rfl, ?_⟩
  have fin : ∀ x y : V, x = ov (fst2 u.2.1 v.2.1) → y = ov (fst2 u.2.2 v.2.2) → 3 ≤ sizeLine ∧ ∀ t, H t = none → Q (.ref t) (upd H t (.tup [.int (3 * u.1 + 2 * (v.1 - u.1)), x, y])) := fun x y ex ey =>
    ⟨by decide, fun t ht => q1 _ (by unfold metD; rw [if_pos ⟨c1, c2, c3⟩]) t _ (same_new ht _) (by rw [upd_same, ex, ey]; rfl)⟩
  refine ⟨_, rfl, rfl, _, rfl, ?_⟩
  cases o1 : u.2.1 with
  | none =>
    refine iteT ⟨_, rfl, ?_⟩
    refine ⟨_, rfl, rfl, _, rfl, ?_⟩
    cases o2 : u.2.2 with
    | none => exact iteT ⟨_, rfl, fin _ _ (by rw [o1]; rfl) (by rw [o2]; rfl)⟩
    | some i => exact iteF ⟨_, rfl, fin _ _ (by rw [o1]; rfl) (by rw [o2]; rfl)⟩
  | some i =>
    refine iteF ⟨_, rfl, ?_⟩
    refine ⟨_, rfl, rfl, _, rfl, ?_⟩
    cases o2 : u.2.2 with
    | none => exact iteT ⟨_, rfl, fin _ _ (by rw [o1]; rfl) (by rw [o2]; rfl)⟩
    | some i => exact iteF ⟨_, rfl, fin _ _ (by rw [o1]; rfl) (by rw [o2]; rfl)⟩
abbrev nStand : List Str := ["thing", "hand", "rounds", "own", "other"]
theorem scStand : FnScope nStand ["thing", "hand", "rounds"] (defScope s_standing) := ⟨rfl, rfl, rfl, by decide +kernel, rfl, by decide +kernel, by decide +kernel⟩
theorem ok_stand {f g1 g2 : Addr} {fd d1 d2 : FuncData} (F : Fun K "standing" "standing" s_standing f fd) (T : Txt K mg) (W : Def P w K mg base "is_whole" ["thing"] 1 spWholeK g1 d1) (M1 : Def P w K mg base "met" ["own", "other"] 2 spMet g2 d2) (bF : Binds K fd ["thing", "hand", "rounds"] []) (kF : PySem.W.keepIn K (.ref f) = true) (mF : mg "standing" = some (.ref f)) :
    ∀ r, FnOk P w K mg base CX0 (3 + r) f fd ["thing", "hand", "rounds"] (spStand r)
  | 0 => by
    refine F.ok scStand (fun vs H Q E h => ?_) (fun cdv A outer s H vs Q E hr h => ?_)
    · obtain ⟨v, d, h, rfl, _⟩ := h
      rfl
    obtain ⟨v, d, h, rfl, hk, hh, q0, q1⟩ := h
    have nd := scStand.nd
    refine ⟨_, pss_cons (ps_if (pt_cmpR op_eq (pv 2) pe_int (nomark _))
        (pss_cons (ps_if (PW.pt (pw_or (pt_not (pt_val (pe_call W.G (hr.mono (by decide)) rfl W.m W.k W.b .nil pass0 (pa_cons (pv 0) pa_nil)))) (pw_or1 (pt_cmpR op_lt (pv 0) pe_int (nomark _))))) (pss_one (ps_ret pe_non)) pss_nil)
        (pss_one (ps_ret (pe_ifExp (pt_cmpR op_eq (pv 1) pe_int (nomark _)) (pe_tup (pa_cons pe_int (pa_cons (pv 0) (pa_cons pe_non pa_nil)))) (pe_tup (pa_cons pe_int (pa_cons pe_non (pa_cons (pv 0) pa_nil)))))))) pss_nil)
      pss_never, ?_⟩
    refine ⟨_, rfl, rfl, _, rfl, ?_⟩
    refine iteT ?_
    refine ⟨_, rfl, v, d, rfl, hk, isI d, rfl, ?_⟩
    rcases hk.ty (K := K) with ⟨i, rfl, rfl⟩ | ⟨rfl, rfl⟩ | ⟨a, x, y, e, g, rfl, rfl, ha, hx, hy⟩
    · refine iteF ⟨_, rfl, _, _, rfl, rfl, _, rfl, ?_⟩
      refine ite2 (fun c => ?_) (fun c => ?_)
      · have c' : i < 0 := of_decide_eq_true c
        exact q0 (by simp [stand]; omega) _ (Same.refl H)
      · have c' : ¬ i < 0 := of_decide_eq_false (Bool.eq_false_iff.mpr c)
        have e0 : stand 0 (.int i) h = some (if h = 0 then (0, some i, none) else (1, none, some i)) := by simp [stand]; omega
        refine ⟨_, rfl, rfl, _, rfl, ?_⟩
        obtain rfl | rfl : h = 0 ∨ h = 1 := by omega
        · refine iteT ⟨_, rfl, (by show 3 ≤ sizeLine; decide), fun t ht => q1 _ e0 t _ (same_new ht _) (by rw [upd_same]; rfl)⟩
        · refine iteF ⟨_, rfl, (by show 3 ≤ sizeLine; decide), fun t ht => q1 _ e0 t _ (same_new ht _) (by rw [upd_same]; rfl)⟩
    · exact iteT (iteT (q0 rfl _ (Same.refl H)))
    · exact iteT (iteT (q0 rfl _ (Same.refl H)))
  | r + 1 => by
    have ih := ok_stand F T W M1 bF kF mF r
    refine F.ok (k := 3 + r) scStand (fun vs H Q E h => ?_) (fun cdv A outer s H vs Q E hr h => ?_)
    · obtain ⟨v, d, h, rfl, _⟩ := h
      rfl
    obtain ⟨v, d, h, rfl, hk, hh, q0, q1⟩ := h
    have nd := scStand.nd
    refine ⟨_, pss_cons (ps_if (pt_cmpR op_eq (pv 2) pe_int (nomark _)) pss_never pss_nil)
      (pss_cons (ps_if (PW.pt (pw_or (pt_not (pt_val (pe_callB call_isi (by rfl) T.isi boot_isinstance (pa_cons (pv 0) (pa_cons (pe_bltn (v := .ty "tuple") (by rfl) T.tuple boot_tuple rfl) pa_nil))))) (pw_or1 (pt_cmpR op_ne (pe_callB call_len_seq (by rfl) T.len PySem.boot_len (pa_cons (pv 0) pa_nil)) pe_int (nomark _))))) (pss_one (ps_ret pe_non)) pss_nil)
      (pss_cons (ps_set (i := 3) nd rfl (Or.inl rfl) (pe_call ih hr rfl mF kF bF .nil pass0 (pa_cons (pe_ix ix_tup (pv 0) pe_int (fun _ _ => rfl)) (pa_cons (pv 1) (pa_cons (pe_op op_sub (pv 2) pe_int) pa_nil)))))
      (pss_cons (ps_if (pt_cmpR op_isN (pv 3) pe_non (nomark _)) (pss_one (ps_ret pe_non)) pss_nil)
      (pss_cons (ps_if (pt_cmpR op_isN (pe_ix ix_tup (pv 0) pe_int (fun _ _ => rfl)) pe_non (nomark _)) (pss_one (ps_ret (pe_tup (pa_cons (pe_op op_mul pe_int (pe_ix ix_tup (pv 3) pe_int (fun _ _ => rfl))) (pa_cons (pe_ix ix_tup (pv 3) pe_int (fun _ _ => rfl)) (pa_cons (pe_ix ix_tup (pv 3) pe_int (fun _ _ => rfl)) pa_nil)))))) pss_nil)
      (pss_cons (ps_set (i := 4) nd rfl (Or.inl rfl) (pe_call ih hr rfl mF kF bF .nil pass0 (pa_cons (pe_ix ix_tup (pv 0) pe_int (fun _ _ => rfl)) (pa_cons (pe_op op_sub pe_int (pv 1)) (pa_cons (pe_op op_sub (pv 2) pe_int) pa_nil)))))
      (pss_one (ps_ret (pe_ifExp (pt_cmpR op_isN (pv 4) pe_non (nomark _)) pe_non (pe_call M1.G (hr.mono (by omega)) rfl M1.m M1.k M1.b .nil pass0 (pa_cons (pv 3) (pa_cons (pv 4) pa_nil)))))))))))
, ?_⟩
    refine ⟨_, rfl, rfl, _, rfl, ?_⟩
    have e0 : decide (V.int ((r + 1 : Nat) : Int) = V.int 0) = false := decide_eq_false (fun e => by injection e with e; omega)
    rw [e0]
    refine iteF ?_
    rcases hk.ty (K := K) with ⟨i, rfl, rfl⟩ | ⟨rfl, rfl⟩ | ⟨a, x, y, e, g, rfl, rfl, ha, hx, hy⟩
    · refine ⟨_, rfl, V.int i, V.ty "tuple", _, _, false, rfl, .ty "tuple", .base (.int i), kit_ty (by decide +kernel), false, rfl, iteT (iteT ?_)⟩
      exact q0 rfl _ (Same.refl H)
    · refine ⟨_, rfl, V.non, V.ty "tuple", _, _, false, rfl, .ty "tuple", .base .non, kit_ty (by decide +kernel), false, rfl, iteT (iteT ?_)⟩
      exact q0 rfl _ (Same.refl H)
    · refine ⟨_, rfl, V.ref a, V.ty "tuple", _, _, true, rfl, .ty "tuple", .base (.tup ha), kit_ty (by decide +kernel), true, rfl, iteF ?_⟩
      refine ⟨_, rfl, a, _, rfl, .inr (SqT.of ha), rfl, _, rfl, iteF ?_⟩
      have er : ((r + 1 : Nat) : Int) - 1 = (r : Int) := by omega
      refine ⟨_, rfl, a, _, _, _, rfl, rfl, SqT.of ha, (by rfl), _, rfl, _, rfl, _, _, rfl, rfl, ?_⟩
      refine ⟨x, e, h, (by show [x, V.int (h : Int), V.int (((r + 1 : Nat) : Int) - 1)] = _; rw [er]), hx, hh, fun n1 H1 s1 => ?_, fun u n1 p H1 s1 hp => ?_⟩
      · refine ⟨_, rfl, rfl, _, rfl, iteT ?_⟩
        exact q0 (by show stand1 _ _ _ = none; rw [n1]; rfl) _ s1
      · refine ⟨_, rfl, rfl, _, rfl, iteF ?_⟩
        have ha1 := s1 _ _ ha
        refine ⟨_, rfl, a, _, _, _, rfl, rfl, SqT.of ha1, (by rfl), rfl, _, rfl, ?_⟩
        have hyN : decide (y = V.non) = isN g := by
          cases hy <;> rfl
        rw [hyN]
        cases cN : isN g with
        | true =>
          refine iteT ⟨_, rfl, p, _, _, _, rfl, rfl, SqT.of hp, (by rfl), _, _, rfl, rfl, .inl ⟨by decide, by decide⟩, _, rfl, p, _, _, _, rfl, rfl, SqT.of hp, (by rfl), _, rfl, p, _, _, _, rfl, rfl, SqT.of hp, (by rfl), (by show 3 ≤ sizeLine; decide), fun t ht => ?_⟩
          exact q1 (3 * u.1, u.2.1, u.2.2) (by show stand1 _ _ _ = _; rw [n1]; unfold stand1; rw [Option.bind_some, if_pos cN]) t _ (s1.trans (same_new ht _)) (by rw [upd_same]; rfl)
        | false =>
          refine iteF ⟨_, rfl, a, _, _, _, rfl, rfl, SqT.of ha1, (by rfl), _, rfl, _, _, rfl, rfl, _, rfl, _, _, rfl, rfl, ?_⟩
          have est : ∀ z, stand r g (1 - h) = z → stand (r + 1) (.tuple [e, g]) h = z.bind (metD u) := fun z hz => by
            show stand1 _ _ _ = _
            rw [n1, hz]
            unfold stand1
            rw [Option.bind_some, if_neg (by rw [cN]; decide)]
          refine ⟨y, g, 1 - h, (by show [y, V.int ((1 : Int) - (h : Int)), V.int (((r + 1 : Nat) : Int) - 1)] = _; rw [er, show (1 : Int) - (h : Int) = ((1 - h : Nat) : Int) by omega]), hy.mono (Tups.same s1), by omega, fun n2 H2 s2 => ?_, fun u2 n2 p2 H2 s2 hp2 => ?_⟩
          · refine ⟨_, rfl, rfl, _, rfl, iteT ?_⟩
            exact q0 (by rw [est _ n2]; rfl) _ (s1.trans s2)
          · refine ⟨_, rfl, rfl, _, rfl, iteF ?_⟩
            refine ⟨_, rfl, _, rfl, p, p2, u, u2, rfl, s2 _ _ hp, hp2, fun n3 => ?_, fun w3 n3 o H3 s3 ho => ?_⟩
            · exact q0 (by rw [est _ n2]; exact n3) _ (s1.trans s2)
            · exact q1 w3 (by rw [est _ n2]; exact n3) o _ (s1.trans (s2.trans s3)) ho
theorem scPlace : FnScope ["known", "hand", "stands"] ["known", "hand"] (defScope sPlace) := ⟨rfl, rfl, rfl, by decide +kernel, rfl, by decide +kernel, by decide +kernel⟩
theorem ok_place {f g1 g2 g3 cN : Addr} {fd d1 d2 d3 : FuncData} (F : Fun K "place" "place" sPlace f fd) (R : RaiseC K mg "NoKnown" cN) (W1 : Def P w K mg base "is_hand" ["thing"] 3 spHand g1 d1) (W2 : Def P w K mg base "rounds_behind" ["thing"] 1 spRb g2 d2)
    (bS : Binds K d3 ["thing", "hand", "rounds"] []) (kS : PySem.W.keepIn K (.ref g3) = true) (mS : mg "standing" = some (.ref g3)) (S : ∀ r, r ≤ 5 → FnOk P w K mg base CX0 (3 + r) g3 d3 ["thing", "hand", "rounds"] (spStand r)) :
    FnOk P w K mg base (L2.CX P w) 9 f fd ["known", "hand"] (spPlace cN) := by
  refine F.okX scPlace (fun vs H Q E h => ?_) (fun cdv A outer s H vs Q E hr h => ?_)
  · obtain ⟨v, d, h, rfl, _⟩ := h
    rfl
  obtain ⟨v, d, h, rfl, hk, hh, q0, q1⟩ := h
  have nd := scPlace.nd
  have h5 : rb 5 d ≤ 5 := by
    have key : ∀ (n : Nat) (d : PyData), rb n d ≤ n := by
      intro n
      induction n with
      | zero => intro d; simp [rb]
      | succ n ih =>
        intro d
        match d with
        | .tuple [x, y] => simp only [rb]; have := ih x; omega
        | .tuple [] | .tuple [_] | .tuple (_ :: _ :: _ :: _) | .none | .bool _ | .int _ | .str _ | .list _ | .dict _ => simp [rb]
    exact key 5 d
  refine ⟨_, pss_cons (ps_if (pt_not (pt_val (pe_call W1.G (hr.mono (by decide)) rfl W1.m W1.k W1.b .nil pass0 (pa_cons (pv 1) pa_nil)))) pss_never pss_nil)
    (pss_cons (ps_set (i := 2) nd rfl (Or.inl rfl) (pe_call (S (rb 5 d) h5) (hr.mono (by omega)) rfl mS kS bS .nil pass0 (pa_cons (pv 0) (pa_cons (pv 1) (pa_cons (pe_call W2.G (hr.mono (by decide)) rfl W2.m W2.k W2.b .nil pass0 (pa_cons (pv 0) pa_nil)) pa_nil)))))
    (pss_cons (ps_if (pt_cmpR op_isN (pv 2) pe_non (nomark _)) (pss_one (ps_raise rfl (takes_of rfl rfl rfl rfl) (pmk_own PySem.F.excBase_ValueError R.x R.m R.k (raises_own R.b R.t) (by exact rfl)))) pss_nil)
    (PSs.nox (pss_one (ps_ret (pe_ix ix_tup (pv 2) pe_int (fun _ _ => rfl))))))), ?_⟩
  have e1 : decide ((0 : Int) ≤ (h : Int) ∧ (h : Int) ≤ 1) = true := decide_eq_true (by omega)
  refine ⟨_, rfl, (h : Int), rfl, true, congrArg V.bl e1, iteF ?_⟩
  refine ⟨_, rfl, _, rfl, _, rfl, v, d, rfl, hk, v, d, h, rfl, hk, hh, fun n1 H1 s1 => ?_, fun u n1 p H1 s1 hp => ?_⟩
  · refine ⟨_, rfl, rfl, _, rfl, iteT ?_⟩
    exact q0 (by unfold placeD; rw [n1]; rfl) _ s1
  · refine ⟨_, rfl, rfl, _, rfl, iteF ?_⟩
    exact ⟨_, rfl, p, _, _, _, rfl, rfl, SqT.of hp, (by rfl), q1 u.1 (by unfold placeD; rw [n1]; rfl) _ s1⟩
end
end TB

set_option Elab.async false
set_option maxRecDepth 100000
set_option maxHeartbeats 4000000
namespace TB
open PySem L2 PyProof.Rows
set_option linter.unusedVariables false
def ky (t h : Nat) : List Key := [Sum.inl (t : Int), Sum.inl (h : Int)]
theorem ky_inj {t h t' h' : Nat} : ky t' h' = ky t h ↔ t' = t ∧ h' = h := by
  unfold ky
  constructor
  · intro e
    injection e with e1 e2
    injection e2 with e2 _
    injection e1 with e1
    injection e2 with e2
    omega
  · rintro ⟨rfl, rfl⟩
    rfl
def Pm.cur (p : Pm) (h : Nat) : Int := p.q h (p.l h)
theorem Pm.done_step (p : Pm) (z i : Nat) : (p.step z).done i = upf p.done z (p.done z + 1) i := by
  unfold Pm.step
  by_cases c : p.l z < p.n z
  · rw [if_pos c]
    show upf p.l z (p.l z + 1) i + p.n i = _
    by_cases e : i = z
    · subst e; rw [upf_same, upf_same]; unfold Pm.done; omega
    · rw [upf_ne e, upf_ne e]; rfl
  · rw [if_neg c]
    show p.l i + upf p.n z (p.n z + 1) i = _
    by_cases e : i = z
    · subst e; rw [upf_same, upf_same]; unfold Pm.done; omega
    · rw [upf_ne e, upf_ne e]; rfl
theorem Pm.done_run (p : Pm) (i : Nat) : ∀ hs : List Nat, (p.run hs).done i = p.done i + hs.count i := by
  intro hs
  induction hs generalizing p with
  | nil => rfl
  | cons h r ih =>
    show ((p.step h).run r).done i = _
    rw [ih, Pm.done_step, List.count_cons]
    unfold upf
    by_cases e : i = h
    · subst e; simp; omega
    · have e2 : ¬ h = i := fun q => e q.symm
      simp [e, e2]
theorem Nb.half {p : Pm} (N : Nb p) {z : Nat} (hz : z < 2) : p.done z / 2 = p.l z ∧ (p.done z % 2 = 0 ↔ ¬ p.l z < p.n z) ∧ (¬ p.l z < p.n z → p.n z = p.l z) := by
  have := N.n1 z hz
  unfold Pm.done
  omega
structure PlS (H0 H : Hp) (sp dn cd : Addr) (p : Pm) : Prop where
  same : Same H0 H
  f1 : H0 sp = none
  f2 : H0 dn = none
  f3 : H0 cd = none
  n1 : sp ≠ dn
  n2 : sp ≠ cd
  n3 : dn ≠ cd
  hs : H sp = some (.lst [.int (p.cur 0), .int (p.cur 1)])
  hd : H dn = some (.lst [.int (p.done 0 : Nat), .int (p.done 1 : Nat)])
  hc : ∃ kvs, H cd = some (.dT kvs) ∧ kvs.length ≤ p.done 0 + p.done 1 ∧ ∀ h < 2, ∀ t : Nat, valV kvs (ky t h) = if t < p.n h then some (V.int (p.q h t)) else none
  nb : Nb p
theorem PlS.new {H0 H : Hp} {sp dn cd : Addr} {p : Pm} (S : PlS H0 H sp dn cd p) {q : Addr} (hq : H q = none) (o : HO) : PlS H0 (upd H q o) sp dn cd p := by
  have s := same_new hq o
  obtain ⟨kvs, h3, h4, h5⟩ := S.hc
  exact { S with same := S.same.trans s, hs := s _ _ S.hs, hd := s _ _ S.hd, hc := ⟨kvs, s _ _ h3, h4, h5⟩ }
theorem Pm.sum_step (p : Pm) {z : Nat} (hz : z < 2) : (p.step z).done 0 + (p.step z).done 1 = p.done 0 + p.done 1 + 1 := by
  rw [Pm.done_step, Pm.done_step]
  obtain rfl | rfl : z = 0 ∨ z = 1 := by omega
  · show p.done 0 + 1 + p.done 1 = _; omega
  · show p.done 0 + (p.done 1 + 1) = _; omega
theorem PlS.put {H0 H : Hp} {sp dn cd : Addr} {p : Pm} (S : PlS H0 H sp dn cd p) {z : Nat} (hz : z < 2) (c : ¬ p.l z < p.n z) {kvs : List (List Key × V)} (hcd : H cd = some (.dT kvs)) :
    PlS H0 (upd (upd H cd (.dT (putK kvs (ky (p.l z) z) (.int (p.cur z))))) dn (.lst [.int ((p.step z).done 0 : Nat), .int ((p.step z).done 1 : Nat)])) sp dn cd (p.step z) := by
  have es : p.step z = { q := p.q, l := p.l, n := upf p.n z (p.n z + 1) } := by unfold Pm.step; rw [if_neg c]
  have hl := (S.nb.half hz).2.2 c
  obtain ⟨kvs', h3, h4, h5⟩ := S.hc
  rw [hcd] at h3
  cases h3
  refine { S with same := same_upd (same_upd S.same S.f3) S.f2, hs := ?_, hd := upd_same, hc := ⟨_, by rw [upd_ne S.n3.symm, upd_same], ?_, fun h hh t => ?_⟩, nb := S.nb.step hz }
  · rw [upd_ne S.n1, upd_ne S.n2, es]; exact S.hs
  · have g1 := length_putK kvs (ky (p.l z) z) (.int (p.cur z))
    rw [Pm.sum_step p hz]
    generalize (putK kvs (ky (p.l z) z) (.int (p.cur z))).length = n at g1 ⊢
    omega
  · rw [valV_put, es]
    show (if ky t h = ky (p.l z) z then _ else _) = if t < upf p.n z (p.n z + 1) h then some (V.int (p.q h t)) else none
    by_cases e : h = z
    · subst e
      rw [upf_same]
      by_cases et : t = p.l h
      · subst et
        rw [if_pos rfl, if_pos (by omega)]
        rfl
      · rw [if_neg (fun q => et (ky_inj.mp q).1), h5 h hh t]
        by_cases ct : t < p.n h
        · rw [if_pos ct, if_pos (by omega)]
        · rw [if_neg ct, if_neg (by omega)]
    · rw [upf_ne e, if_neg (fun q => e (ky_inj.mp q).2)]
      exact h5 h hh t
theorem cur_look (p : Pm) {z : Nat} (c : p.l z < p.n z) (i : Nat) : (p.step z).cur i = upf p.cur z (p.nxt z) i := by
  unfold Pm.step
  rw [if_pos c]
  show upf p.q z (upf (p.q z) (p.l z + 1) (p.nxt z)) i (upf p.l z (p.l z + 1) i) = _
  by_cases e : i = z
  · subst e; rw [upf_same, upf_same, upf_same, upf_same]
  · rw [upf_ne e, upf_ne e, upf_ne e]; rfl
theorem PlS.look {H0 H : Hp} {sp dn cd : Addr} {p : Pm} (S : PlS H0 H sp dn cd p) {z : Nat} (hz : z < 2) (c : p.l z < p.n z) :
    PlS H0 (upd (upd H sp (.lst [.int ((p.step z).cur 0), .int ((p.step z).cur 1)])) dn (.lst [.int ((p.step z).done 0 : Nat), .int ((p.step z).done 1 : Nat)])) sp dn cd (p.step z) := by
  have es : p.step z = { q := upf p.q z (upf (p.q z) (p.l z + 1) (p.nxt z)), l := upf p.l z (p.l z + 1), n := p.n } := by unfold Pm.step; rw [if_pos c]
  obtain ⟨kvs, h3, h4, h5⟩ := S.hc
  refine { S with same := same_upd (same_upd S.same S.f1) S.f2, hs := by rw [upd_ne S.n1, upd_same], hd := upd_same, hc := ⟨kvs, by rw [upd_ne S.n3.symm, upd_ne S.n2.symm]; exact h3, by rw [Pm.sum_step p hz]; omega, fun h hh t => ?_⟩, nb := S.nb.step hz }
  rw [h5 h hh t, es]
  show _ = if t < p.n h then some (V.int (upf p.q z (upf (p.q z) (p.l z + 1) (p.nxt z)) h t)) else none
  by_cases e : h = z
  · subst e
    rw [upf_same]
    by_cases ct : t < p.n h
    · have := S.nb.n1 h hh
      rw [if_pos ct, if_pos ct, upf_ne (show t ≠ p.l h + 1 by omega)]
    · rw [if_neg ct, if_neg ct]
  · rw [upf_ne e]
theorem doneP_set (p : Pm) {z : Nat} (hz : z < 2) : ([.int (p.done 0 : Nat), .int (p.done 1 : Nat)] : List V).set z (.int (((p.done z : Nat) : Int) + 1)) = [.int ((p.step z).done 0 : Nat), .int ((p.step z).done 1 : Nat)] := by
  rw [Pm.done_step, Pm.done_step]
  exact ints_set p.done hz (p.done z + 1)
theorem curP_set (p : Pm) {z : Nat} (hz : z < 2) (c : p.l z < p.n z) : ([.int (p.cur 0), .int (p.cur 1)] : List V).set z (.int (p.nxt z)) = [.int ((p.step z).cur 0), .int ((p.step z).cur 1)] := by
  rw [cur_look p c, cur_look p c]
  have := two_set (fun j => V.int (p.cur j)) hz (V.int (p.nxt z))
  rw [upf_map (fun n : Int => V.int n) p.cur z (p.nxt z) 0, upf_map (fun n : Int => V.int n) p.cur z (p.nxt z) 1] at this
  exact this
/-- the place where a hand stands behind all its steps -/
def plv (p : Pm) (d : Nat) (h : Nat) : V := if p.done h = 2 * d then .int (p.cur h) else .non
end TB

set_option Elab.async false
set_option maxRecDepth 100000
set_option maxHeartbeats 4000000
namespace TB
open PySem L2 PyProof.Rows
set_option linter.unusedVariables false
theorem At.place {a b : Int} {r : Nat} {d : PyData} {h : Nat} {j : Int} (k : At a b r d h j) (hr : r ≤ 5) : placeD d h = some j := by
  obtain ⟨u, e, rfl, _⟩ := k
  unfold placeD
  rw [stand_rb e 5, show min 5 r = r by omega, e]
  rfl
/-- behind a weaving: what is known, and where it stands -/
theorem behind {a b : Int} (ha : 0 ≤ a) (hb : 0 ≤ b) {hs : List Nat} (hh : ∀ h ∈ hs, h < 2) {d h : Nat} (h2 : h < 2) (hc : hs.count h = 2 * d) :
    ((M0 a b).run hs).res d h = ((M0 a b).run hs).k h ∧ At a b d (((M0 a b).run hs).k h) h ((P0.run hs).cur h) ∧ plv (P0.run hs) d h = .int ((P0.run hs).cur h) ∧ (P0.run hs).l h = d := by
  obtain ⟨R, N⟩ := run_both ha hb hh (Rel.zero ha hb) Nb.zero
  have d1 : ((M0 a b).run hs).done h = 2 * d := by rw [M.done_run, hc]; show 0 + 0 + _ = _; omega
  have d2 : (P0.run hs).done h = 2 * d := by rw [Pm.done_run, hc]; show 0 + 0 + _ = _; omega
  have n1 := N.n1 h h2
  have hl : (P0.run hs).l h = d := by unfold Pm.done at d2; omega
  refine ⟨by unfold M.res; rw [if_pos d1], ?_, by unfold plv; rw [if_pos d2], hl⟩
  have := R.k h h2
  rw [hl] at this
  unfold Pm.cur
  rw [hl]
  exact this
theorem stopped_res {a b : Int} {hs : List Nat} {d h : Nat} (hc : hs.count h ≠ 2 * d) : ((M0 a b).run hs).res d h = .none ∧ plv (P0.run hs) d h = .non := by
  have d1 : ¬ ((M0 a b).run hs).done h = 2 * d := by rw [M.done_run]; show ¬ 0 + 0 + _ = _; omega
  have d2 : ¬ (P0.run hs).done h = 2 * d := by rw [Pm.done_run]; show ¬ 0 + 0 + _ = _; omega
  exact ⟨by unfold M.res; rw [if_neg d1], by unfold plv; rw [if_neg d2]⟩
theorem cur_facts {a b : Int} (ha : 0 ≤ a) (hb : 0 ≤ b) {hs : List Nat} (hh : ∀ h ∈ hs, h < 2) {d h : Nat} (h2 : h < 2) (hc : hs.count h = 2 * d) : (P0.run hs).cur h % 2 = (h : Int) ∧ 0 ≤ (P0.run hs).cur h ∧ (P0.run hs).cur h ≤ 3 ^ d := by
  obtain ⟨R, N⟩ := run_both ha hb hh (Rel.zero ha hb) Nb.zero
  have hl := (behind ha hb hh h2 hc).2.2.2
  have := N.n5 h h2 ((P0.run hs).l h) (Nat.le_refl _)
  rw [hl] at this
  unfold Pm.cur
  rw [hl]
  exact this
theorem cur_near {a b : Int} (ha : 0 ≤ a) (hb : 0 ≤ b) {hs : List Nat} (hh : ∀ h ∈ hs, h < 2) {d : Nat} (c0 : hs.count 0 = 2 * d) (c1 : hs.count 1 = 2 * d) : ((P0.run hs).cur 1 - (P0.run hs).cur 0).natAbs = 1 := by
  obtain ⟨R, N⟩ := run_both ha hb hh (Rel.zero ha hb) Nb.zero
  have l0 := (behind ha hb hh (h := 0) (by decide) c0).2.2.2
  have l1 := (behind ha hb hh (h := 1) (by decide) c1).2.2.2
  have := N.n3 d (by omega) (by omega)
  unfold Pm.cur
  rw [l0, l1]
  exact this
def tD : Option Int → PyData
  | some j => .int j
  | none => .str "known"
def tV : Option Int → V
  | some j => .int j
  | none => .str "known"
theorem tV_dp {K : PySem.W.Frag} {H : Hp} (o : Option Int) : Dp K H (tV o) (tD o) := by
  cases o with
  | none => exact .str _
  | some j => exact .int j
theorem tD_shaped (o : Option Int) : SeqAt.shaped (tD o) = true := by
  cases o with
  | none => decide +kernel
  | some j => rfl
section
variable {a b : Int} {d h : Nat} {mine its : PyData} {spot other : Int}
theorem deep5 (k : At a b 5 mine h spot) (y : PyData) : placeD (.tuple [mine, y]) h = none := by
  obtain ⟨u, e, _⟩ := k
  unfold placeD
  have : rb 5 (.tuple [mine, y]) = 5 := by
    show rb 4 mine + 1 = 5
    rw [stand_rb e 4]
    rfl
  rw [this]
  show (stand1 (stand 4 mine h) y (stand 4 y (1 - h))).map _ = none
  cases e4 : stand 4 mine h with
  | none => rfl
  | some v => exact absurd (stand_uniq e e4) (by decide)
theorem rb_tuple (k : At a b d mine h spot) (hd : d < 5) (y : PyData) : rb 5 (.tuple [mine, y]) = d + 1 := by
  obtain ⟨u, e, _⟩ := k
  show rb 4 mine + 1 = d + 1
  rw [stand_rb e 4, show min 4 d = d by omega]
theorem mixed_place (hh : h < 2) (k : At a b d mine h spot) (l : At a b d its (1 - h) other) (hd : d ≤ 5) : placeD (.tuple [mine, its]) h = if (other - spot).natAbs = 1 ∧ d < 5 then some (3 * spot + 2 * (other - spot)) else none := by
  by_cases h5 : d < 5
  · by_cases n : (other - spot).natAbs = 1
    · rw [if_pos ⟨n, h5⟩]
      exact (At.met hh k l n).place (by omega)
    · rw [if_neg (fun z => n z.1)]
      unfold placeD
      rw [rb_tuple k h5]
      obtain ⟨u, e, rfl, _⟩ := k
      obtain ⟨v, e2, rfl, _⟩ := l
      show (stand1 _ _ _).map _ = none
      rw [e, e2]
      unfold stand1 metD
      rw [Option.bind_some, if_neg (by rw [stand_isN e2]; decide), Option.bind_some, if_neg (fun z => n z.1)]
      rfl
  · obtain rfl : d = 5 := by omega
    rw [if_neg (fun z => h5 z.2)]
    exact deep5 k its
theorem none_place (k : At a b d mine h spot) (hd : d ≤ 5) : placeD (.tuple [mine, .none]) h = if d < 5 then some (3 * spot) else none := by
  by_cases h5 : d < 5
  · rw [if_pos h5]
    exact k.alone.place (by omega)
  · obtain rfl : d = 5 := by omega
    rw [if_neg h5]
    exact deep5 k .none
theorem pow3_ge {d : Nat} (hd : 1 ≤ d) : (3 : Int) ≤ 3 ^ d := by
  obtain ⟨e, rfl⟩ : ∃ e, d = e + 1 := ⟨d - 1, by omega⟩
  have : (1 : Int) ≤ 3 ^ e := by
    have := Int.pow_pos (n := 3) (m := e) (by decide)
    omega
  rw [Int.pow_succ]
  omega
theorem same_place (hh : h < 2) (k : At a b d mine h spot) (hd1 : 1 ≤ d) (hd : d ≤ 5) (ne : a ≠ b) : placeD (.tuple [mine, mine]) h = none := by
  by_cases h5 : d < 5
  · unfold placeD
    rw [rb_tuple k h5]
    obtain ⟨u, e, rfl, i1, i2⟩ := k
    show (stand1 _ _ _).map _ = none
    rw [e]
    unfold stand1
    rw [Option.bind_some, if_neg (by rw [stand_isN e]; decide)]
    cases e2 : stand d mine (1 - h) with
    | none => rfl
    | some v =>
      rw [Option.bind_some]
      unfold metD
      have p3 := pow3_ge hd1
      rw [if_neg]
      · rfl
      rintro ⟨z1, z2, z3⟩
      obtain ⟨x, s0, s1, s2⟩ := stand_own (r := d) (d := mine)
      obtain rfl | rfl : h = 0 ∨ h = 1 := by omega
      · have f1 := (s0 _ e).1
        have f2 := (s1 _ e2).1
        have ea : u.2.1 = some a := by
          rcases i1 with q | ⟨q, _⟩
          · exact q
          · cases q
        rcases i2 with q | ⟨_, q⟩
        · rw [q, f2] at z3
          have : b = x := of_decide_eq_true z3
          rw [f1] at ea
          cases ea
          exact ne this.symm
        · have := s2 _ _ e e2 (.inl q)
          omega
      · have f1 := (s1 _ e).1
        have f2 := (s0 _ e2).1
        have eb : u.2.2 = some b := by
          rcases i2 with q | ⟨q, _⟩
          · exact q
          · cases q
        rcases i1 with q | ⟨_, q⟩
        · rw [q, f2] at z2
          have : a = x := of_decide_eq_true z2
          rw [f1] at eb
          cases eb
          exact ne this
        · have := s2 _ _ e2 e (.inr q)
          omega
  · obtain rfl : d = 5 := by omega
    exact deep5 k mine
end
/-- known(inputs, weaving, rounds = deep): how the arguments bind -/
abbrev KnB (K : PySem.W.Frag) (fd : FuncData) : Prop := KBn K fd ["inputs", "weaving", "rounds"] 2 ["rounds"] (fun us ws => us ++ ws) (fun vs zs => vs ++ zs)
structure KDef (P : Program) (w : World) (K : PySem.W.Frag) (mg : Str → Option Value) (base : Heap) (f : Addr) (fd : FuncData) : Prop where
  G : FnOk P w K mg base CX0 5 f fd ["inputs", "weaving", "rounds"] (spKnown K)
  b : KnB K fd
  k : PySem.W.keepIn K (.ref f) = true
  m : mg "known" = some (.ref f)
theorem kn_binds {K : PySem.W.Frag} {f : Addr} {fd : FuncData} (F : Fun K "known" "known" sKnown f fd) : KnB K fd := by
  obtain ⟨oc, od, kV, doc, pm, an, cdv, ct, osl, rfl, lk, hcd⟩ := F.ex
  refine ⟨fun s us ws _ h1 h2 => ?_, fun r q => r.append q⟩
  match us, ws, h1, h2 with
  | [_, _], [_], _, _ => exact .of_eq rfl
theorem But.tups {a : Addr} {H H' : Hp} {n : Int} (b : But a H H') (w : WellAt H a n) : Tups H H' := fun c xs e => by
  obtain ⟨x, y, z, ea, _⟩ := w
  exact b _ _ (ne_of e ea (fun q => by cases q)) e
theorem iteT' {c : Bool} {A B : Prop} (e : c = true) (a : A) : if c = true then A else B := by rw [if_pos e]; exact a
theorem iteF' {c : Bool} {A B : Prop} (e : c = false) (b : B) : if c = true then A else B := by rw [e]; exact b
structure PDef (P : Program) (w : World) (K : PySem.W.Frag) (mg : Str → Option Value) (base : Heap) (cN : Addr) (f : Addr) (fd : FuncData) : Prop where
  G : FnOk P w K mg base (L2.CX P w) 9 f fd ["known", "hand"] (spPlace cN)
  b : Binds K fd ["known", "hand"] []
  k : PySem.W.keepIn K (.ref f) = true
  m : mg "place" = some (.ref f)
theorem passN {X : Cx} (σ : L2.St) : PassesAt (L2.CX X.prog X.w) X σ (fun _ _ _ => False) := fun _ _ _ _ _ _ c => by
  obtain ⟨_, _, _, _, _, _, _, _, _, _, _, _, z⟩ := c
  exact z.elim
theorem Kn.isNon {H : Hp} {v : V} {d : PyData} (k : Kn H v d) : decide (v = .non) = isN d := by
  cases k <;> rfl
theorem join2 {b : Bool} {X : Prop} {R : L2.St → Hp → Prop} {σ : L2.St} {H : Hp} (Iv : L2.St → Hp → Prop) (h0 : Iv σ H) (k : ∀ σ Hc, Iv σ Hc → R σ Hc) (h1 : b = true → (∀ σ Hc, Iv σ Hc → R σ Hc) → X) : if b = true then X else R σ H := by
  cases b with
  | false => exact iteF (k σ H h0)
  | true => exact iteT (h1 rfl k)
theorem But.wells {a p : Addr} {H H' : Hp} {n : Int} {o : HO} (b : But a H H') (w : WellAt H a n) (hp : H p = some o) (ne : ∀ x y z : Int, o ≠ .lst [.int x, .int y, .int z]) : H' p = some o := by
  obtain ⟨x, y, z, ea, _⟩ := w
  exact b _ _ (ne_of hp ea (ne x y z)) hp
def spRight : Sp := fun vs H Q _ => ∃ a : Addr, vs = [.ref a] ∧ WellAt H a 0 ∧ ∀ H', But a H H' → Q (.bl true) H'
end TB

set_option Elab.async false
set_option maxRecDepth 100000
set_option maxHeartbeats 4000000
namespace TB
open PySem L2 PyProof.Rows
set_option linter.unusedVariables false
/-! things of any kind, by their data -/
inductive Kd (K : PySem.W.Frag) (H : Hp) : V → PyData → Prop
  | dp {v d} : Dp K H v d → Kd K H v d
  | dic {a : Addr} : H a = some (.dT []) → Kd K H (.ref a) (.dict [])
def tyN : PyData → String
  | .none => "NoneType"
  | .bool _ => "bool"
  | .int _ => "int"
  | .str _ => "str"
  | .list _ => "list"
  | .tuple _ => "tuple"
  | .dict _ => "dict"
theorem sqT_ty {K : PySem.W.Frag} {H : Hp} {a : Addr} {xs : List V} (h : SqT K H a xs) : TyX K H (.ref a) (.type "tuple") := by
  rcases h with h | ⟨o, its, n, h1, h2, _⟩
  · rcases h with h | ⟨o, h⟩
    · exact .base (.tup h)
    · exact .fTuple h
  · exact .kTuple h1 h2
theorem sqL_ty {K : PySem.W.Frag} {H : Hp} {a : Addr} {xs : List V} (h : SqL K H a xs) : TyX K H (.ref a) (.type "list") := by
  rcases h with h | ⟨o, its, n, h1, h2, _⟩
  · rcases h with h | ⟨o, h⟩
    · exact .base (.lst h)
    · exact .base (.frz h)
  · exact .kList h1 h2
theorem Kd.ty {K : PySem.W.Frag} {H : Hp} {v : V} {d : PyData} (h : Kd K H v d) : TyX K H v (.type (tyN d)) := by
  cases h with
  | dp h =>
    cases h with
    | non => exact .base .non
    | bl b => exact .base (.bl b)
    | int i => exact .base (.int i)
    | str x => exact .base (.str x)
    | lst h _ => exact sqL_ty h
    | tup h _ => exact sqT_ty h
  | dic h => exact .base (.dT h)
def isWholeD : PyData → Bool
  | .int _ => true
  | _ => false
def within : PyData → Int → Int → Bool
  | .int n, lo, hi => decide (lo ≤ n ∧ n ≤ hi)
  | _, _, _ => false
def spWholeG (K : PySem.W.Frag) : Sp := fun vs H Q _ => ∃ (v : V) (d : PyData), vs = [v] ∧ Kd K H v d ∧ Q (.bl (isWholeD d)) H
def spWithinG (K : PySem.W.Frag) : Sp := fun vs H Q _ => ∃ (v : V) (d : PyData) (lo hi : Int), vs = [v, .int lo, .int hi] ∧ Kd K H v d ∧ Q (.bl (within d lo hi)) H
def spHandG (K : PySem.W.Frag) : Sp := fun vs H Q _ => ∃ (v : V) (d : PyData), vs = [v] ∧ Kd K H v d ∧ Q (.bl (within d 0 1)) H
theorem kit_int (d : PyData) {K : PySem.W.Frag} : ∃ b1 b2, PySem.W.kitOne K (.type (tyN d)) (.type "int") = some b1 ∧ PySem.W.kitOne K (.type (tyN d)) (.type "bool") = some b2 ∧ isWholeD d = (b1 && !b2) := by
  cases d with
  | none => exact ⟨false, false, kit_ty (a := "NoneType") (b := "int") (by decide +kernel), kit_ty (a := "NoneType") (b := "bool") (by decide +kernel), rfl⟩
  | bool b => exact ⟨true, true, kit_ty (a := "bool") (b := "int") (by decide +kernel), kit_ty (a := "bool") (b := "bool") (by decide +kernel), rfl⟩
  | int i => exact ⟨true, false, kit_ty (a := "int") (b := "int") (by decide +kernel), kit_ty (a := "int") (b := "bool") (by decide +kernel), rfl⟩
  | str s => exact ⟨false, false, kit_ty (a := "str") (b := "int") (by decide +kernel), kit_ty (a := "str") (b := "bool") (by decide +kernel), rfl⟩
  | list l => exact ⟨false, false, kit_ty (a := "list") (b := "int") (by decide +kernel), kit_ty (a := "list") (b := "bool") (by decide +kernel), rfl⟩
  | tuple l => exact ⟨false, false, kit_ty (a := "tuple") (b := "int") (by decide +kernel), kit_ty (a := "tuple") (b := "bool") (by decide +kernel), rfl⟩
  | dict l => exact ⟨false, false, kit_ty (a := "dict") (b := "int") (by decide +kernel), kit_ty (a := "dict") (b := "bool") (by decide +kernel), rfl⟩
section
variable {P : Program} {w : World} {K : PySem.W.Frag} {mg : Str → Option Value} {base : Heap}
theorem ok_wholeG {f : Addr} {fd : FuncData} (F : Fun K "is_whole" "is_whole" sWhole f fd) (T : Txt K mg) : FnOk P w K mg base CX0 1 f fd ["thing"] (spWholeG K) := by
  refine F.ok scWhole (fun vs H Q E h => ?_) (fun cdv A outer s H vs Q E hr h => ?_)
  · obtain ⟨v, d, rfl, _⟩ := h
    rfl
  obtain ⟨v, d, rfl, hk, q⟩ := h
  refine ⟨_, pss_one (ps_ret (pe_and (pe_callB call_isi (by rfl) T.isi boot_isinstance (pa_cons (pv 0) (pa_cons (pe_bltn (v := .ty "int") (by rfl) T.int boot_int rfl) pa_nil)))
    (pe_one (pe_not (pe_callB call_isi (by rfl) T.isi boot_isinstance (pa_cons (pv 0) (pa_cons (pe_bltn (v := .ty "bool") (by rfl) T.bool boot_bool rfl) pa_nil))))))), ?_⟩
  obtain ⟨b1, b2, e1, e2, e3⟩ := kit_int d (K := K)
  rw [e3] at q
  refine ⟨_, rfl, v, V.ty "int", _, _, b1, rfl, .ty "int", hk.ty, e1, b1, rfl, ?_⟩
  cases b1 with
  | false => exact iteF q
  | true => exact iteT ⟨_, rfl, v, V.ty "bool", _, _, b2, rfl, .ty "bool", hk.ty, e2, b2, rfl, q⟩
theorem ok_withinG {f g : Addr} {fd gd : FuncData} (F : Fun K "is_whole_within" "is_whole_within" sWithin f fd) (W : Def P w K mg base "is_whole" ["thing"] 1 (spWholeG K) g gd) : FnOk P w K mg base CX0 2 f fd ["thing", "least", "most"] (spWithinG K) := by
  refine F.ok scWithin (fun vs H Q E h => ?_) (fun cdv A outer s H vs Q E hr h => ?_)
  · obtain ⟨v, d, lo, hi, rfl, _⟩ := h
    rfl
  obtain ⟨v, d, lo, hi, rfl, hk, q⟩ := h
  refine ⟨_, pss_one (ps_ret (pe_and (pe_call W.G hr rfl W.m W.k W.b .nil pass0 (pa_cons (pv 0) pa_nil)) (pe_one (pe_chain op_le op_le (pv 1) (pv 0) (pv 2))))), ?_⟩
  refine ⟨_, rfl, v, d, rfl, hk, isWholeD d, rfl, ?_⟩
  by_cases hw : ∃ n, d = .int n
  · obtain ⟨n, rfl⟩ := hw
    have ev : v = .int n := by
      cases hk with
      | dp h => cases h; rfl
    subst ev
    refine iteT ⟨_, rfl, _, rfl, _, _, rfl, rfl, _, rfl, ?_⟩
    by_cases h1 : lo ≤ n
    · rw [decide_eq_true h1]
      refine iteT ⟨_, rfl, _, _, rfl, rfl, ?_⟩
      have e : within (.int n) lo hi = decide (n ≤ hi) := by unfold within; simp [h1]
      rw [e] at q
      exact q
    · rw [decide_eq_false h1]
      refine iteF ?_
      have e : within (.int n) lo hi = false := by unfold within; simp [h1]
      rw [e] at q
      exact q
  · have e1 : isWholeD d = false := by
      cases d with
      | int n => exact absurd ⟨n, rfl⟩ hw
      | _ => rfl
    have e2 : within d lo hi = false := by
      cases d with
      | int n => exact absurd ⟨n, rfl⟩ hw
      | _ => rfl
    rw [e1]
    rw [e2] at q
    exact iteF q
theorem ok_handG {f g : Addr} {fd gd : FuncData} (F : Fun K "is_hand" "is_hand" sHand f fd) (W : Def P w K mg base "is_whole_within" ["thing", "least", "most"] 2 (spWithinG K) g gd) : FnOk P w K mg base CX0 3 f fd ["thing"] (spHandG K) := by
  refine F.ok scHand (fun vs H Q E h => ?_) (fun cdv A outer s H vs Q E hr h => ?_)
  · obtain ⟨v, d, rfl, _⟩ := h
    rfl
  obtain ⟨v, d, rfl, hk, q⟩ := h
  refine ⟨_, pss_one (ps_ret (pe_call W.G hr rfl W.m W.k W.b .nil pass0 (pa_cons (pv 0) (pa_cons pe_int (pa_cons pe_int pa_nil))))), ?_⟩
  exact ⟨_, rfl, v, d, 0, 1, rfl, hk, q⟩
end
end TB

set_option Elab.async false
set_option maxRecDepth 100000
set_option maxHeartbeats 4000000
namespace TB
open PySem L2 PyProof.Rows
set_option linter.unusedVariables false
theorem rd_mono {H H' : Hp} (s : Same H H') {a : Addr} {o : HO} (h : Rd H a o) : Rd H' a o := by
  rcases h with h | ⟨ob, h⟩
  · exact .inl (s _ _ h)
  · exact .inr ⟨ob, s _ _ h⟩
theorem seqT_mono {K : PySem.W.Frag} {H H' : Hp} (s : Same H H') {a : Addr} {xs : List V} (h : SqT K H a xs) : SqT K H' a xs := by
  rcases h with h | h
  · exact .inl (rd_mono s h)
  · exact .inr h
mutual
theorem dp_mono {K : PySem.W.Frag} {H H' : Hp} (s : Same H H') : ∀ (d : PyData) (v : V), Dp K H v d → Dp K H' v d
  | .none, _, h => by cases h; exact .non
  | .bool b, _, h => by cases h; exact .bl b
  | .int i, _, h => by cases h; exact .int i
  | .str x, _, h => by cases h; exact .str x
  | .list ds, _, h => by
    cases h with
    | lst a b => exact .lst (s.seq a) (dpAll_mono s ds _ b)
  | .tuple ds, _, h => by
    cases h with
    | tup a b => exact .tup (seqT_mono s a) (dpAll_mono s ds _ b)
  | .dict _, _, h => by cases h
theorem dpAll_mono {K : PySem.W.Frag} {H H' : Hp} (s : Same H H') : ∀ (ds : List PyData) (vs : List V), DpAll K H vs ds → DpAll K H' vs ds
  | [], _, h => by cases h; exact .nil
  | d :: ds, _, h => by
    cases h with
    | cons a b => exact .cons (dp_mono s d _ a) (dpAll_mono s ds _ b)
end
theorem kd_mono {K : PySem.W.Frag} {H H' : Hp} (s : Same H H') {v : V} {d : PyData} (h : Kd K H v d) : Kd K H' v d := by
  cases h with
  | dp h => exact .dp (dp_mono s _ _ h)
  | dic h => exact .dic (s _ _ h)
theorem dpAll_get {K : PySem.W.Frag} {H : Hp} : ∀ {vs : List V} {ds : List PyData} {i : Nat} {x : V}, DpAll K H vs ds → vs[i]? = some x → ∃ d, ds[i]? = some d ∧ Dp K H x d
  | _, _, _, _, .nil, e => by simp at e
  | _, _, 0, _, .cons a b, e => ⟨_, rfl, by simp at e; rw [← e]; exact a⟩
  | _, _, i + 1, x, .cons a b, e => by
    obtain ⟨d, h1, h2⟩ := dpAll_get (i := i) (x := x) b (by simpa using e)
    exact ⟨d, by simpa using h1, h2⟩
theorem dpAll_len {K : PySem.W.Frag} {H : Hp} : ∀ {vs : List V} {ds : List PyData}, DpAll K H vs ds → vs.length = ds.length
  | _, _, .nil => rfl
  | _, _, .cons _ b => congrArg (· + 1) (dpAll_len b)
def IOk (d : PyData) : Prop := ∃ a b : Int, d = .tuple [.int a, .int b] ∧ 0 ≤ a ∧ 0 ≤ b
def hlD (hs : List Nat) : PyData := .list (hs.map fun h : Nat => PyData.int (h : Int))
def WOk (deep : Nat) (d : PyData) : Prop := ∃ hs : List Nat, d = hlD hs ∧ (∀ h ∈ hs, h < 2) ∧ ∀ h < 2, hs.count h ≤ 2 * deep
def elemOk : PyData → Bool
  | .int n => decide (0 ≤ n)
  | _ => false
theorem two_ok {ds : List PyData} : (decide (ds.length = 2) && (ds.map elemOk).all id) = true ↔ IOk (.tuple ds) := by
  constructor
  · intro h
    obtain ⟨h1, h2⟩ := Bool.and_eq_true_iff.mp h
    have h1 := of_decide_eq_true h1
    obtain ⟨x, y, rfl⟩ : ∃ x y, ds = [x, y] := by
      match ds, h1 with
      | [x, y], _ => exact ⟨x, y, rfl⟩
    have e : elemOk x = true ∧ elemOk y = true := by simpa using h2
    obtain ⟨ex, ey⟩ := e
    cases x with
    | int a =>
      cases y with
      | int b => exact ⟨a, b, rfl, of_decide_eq_true ex, of_decide_eq_true ey⟩
      | _ => exact Bool.noConfusion (show false = true from ey)
    | _ => exact Bool.noConfusion (show false = true from ex)
  · rintro ⟨a, b, e, ha, hb⟩
    injection e with e
    subst e
    simp [elemOk, ha, hb]
theorem hands_ok {ds : List PyData} (h : (ds.map fun d => within d 0 1).all id = true) : ∃ hs : List Nat, ds = hs.map (fun h : Nat => PyData.int (h : Int)) ∧ ∀ h ∈ hs, h < 2 := by
  induction ds with
  | nil => exact ⟨[], rfl, fun h m => by cases m⟩
  | cons d r ih =>
    rw [List.map_cons, List.all_cons] at h
    obtain ⟨h1, h2⟩ := Bool.and_eq_true_iff.mp h
    obtain ⟨hs, rfl, hh⟩ := ih h2
    cases d with
    | int n =>
      have := of_decide_eq_true (show decide ((0 : Int) ≤ n ∧ n ≤ 1) = true from h1)
      refine ⟨n.toNat :: hs, ?_, fun h m => ?_⟩
      · rw [List.map_cons, show ((n.toNat : Nat) : Int) = n by omega]
      · rcases List.mem_cons.mp m with e | e
        · rw [e]; omega
        · exact hh h e
    | _ => exact Bool.noConfusion (show false = true from h1)
theorem take_bl (bs : List Bool) {i : Nat} {b : Bool} (h : bs[i]? = some b) : (bs.take i).map V.bl ++ [V.bl b] = (bs.take (i + 1)).map V.bl := by
  rw [List.take_add_one, h, List.map_append]
  rfl
def spInputsG (K : PySem.W.Frag) : Sp := fun vs H Q _ => ∃ (v : V) (d : PyData), vs = [v] ∧ Kd K H v d ∧ (∀ ds, d = .tuple ds → ds.length ≤ 1000) ∧ ∀ (b : Bool) (H' : Hp), Same H H' → (b = true ↔ IOk d) → Q (.bl b) H'
def spWeavingG (K : PySem.W.Frag) : Sp := fun vs H Q _ => ∃ (v : V) (d : PyData) (deep : Nat), vs = [v, .int (deep : Int)] ∧ Kd K H v d ∧ (∀ ds, d = .list ds → ds.length ≤ 1000) ∧ ∀ (b : Bool) (H' : Hp), Same H H' → (b = true ↔ WOk deep d) → Q (.bl b) H'
section
variable {P : Program} {w : World} {K : PySem.W.Frag} {mg : Str → Option Value} {base : Heap}
theorem ok_inputsG {f g : Addr} {fd gd : FuncData} (F : Fun K "is_inputs" "is_inputs" sInputs f fd) (T : Txt K mg) (W : Def P w K mg base "is_whole" ["thing"] 1 (spWholeG K) g gd) : FnOk P w K mg base CX0 2 f fd ["thing"] (spInputsG K) := by
  refine F.ok scInputs (fun vs H Q E h => ?_) (fun cdv A outer s H vs Q E hr h => ?_)
  · obtain ⟨v, d, rfl, _⟩ := h
    rfl
  obtain ⟨v, d, rfl, hk, hz, q⟩ := h
  have nd := scInputs.nd
  refine ⟨_, pss_one (ps_ret (pe_and (pe_callB call_isi (by rfl) T.isi boot_isinstance (pa_cons (pv 0) (pa_cons (pe_bltn (v := .ty "tuple") (by rfl) T.tuple boot_tuple rfl) pa_nil)))
    (pe_and (pe_cmpR op_eq (pe_callB call_len_seq (by rfl) T.len PySem.boot_len (pa_cons (pv 0) pa_nil)) pe_int (nomark _))
    (pe_one (pe_callB (cr_all rfl) (by rfl) T.all (by decide +kernel) (pa_cons
      (pe_lc (own := [("a", 1)]) (g := gName 1) (tt := tYes) (te := tAndV (tCall (spWholeG K) [] E0 (tCons (tVar 1) tNil)) (tOp (rI0 fun i j => .bl (decide (i ≥ j))) (tVar 1) (tC (.int 0)))) rfl nd (pi_tup (pv 0)) (blkOk_by (N := ["thing", "a"]) (sc := defScope sInputs) (by decide +kernel)) (fun _ _ _ _ _ => pg_name (i := 1) nd rfl (Or.inl rfl)) (fun _ _ _ _ _ => pts_nil)
        (fun _ _ _ _ _ => (by refine pe_and ?_ (pe_one ?_); (exact pe_call W.G hr rfl W.m W.k W.b .nil pass0 (pa_cons (pv 1) pa_nil)); (exact pe_cmpR op_ge (pv 1) pe_int (nomark _))))) pa_nil)))))), ?_⟩
  by_cases ht : ∃ ds, d = .tuple ds
  · obtain ⟨ds, rfl⟩ := ht
    obtain ⟨t, vs, rfl, hS, hD⟩ : ∃ t vs, v = .ref t ∧ SqT K H t vs ∧ DpAll K H vs ds := by
      cases hk with
      | dp h =>
        cases h with
        | tup a b => exact ⟨_, _, rfl, a, b⟩
    have hl := dpAll_len hD
    have hds := hz ds rfl
    refine ⟨_, rfl, .ref t, .ty "tuple", _, _, true, rfl, .ty "tuple", sqT_ty hS, kit_ty (by decide +kernel), true, rfl, iteT ?_⟩
    refine ⟨_, rfl, t, _, rfl, .inr hS, rfl, _, rfl, ?_⟩
    have e2 : decide (V.int ((vs.length : Nat) : Int) = V.int 2) = decide (ds.length = 2) := by
      rw [hl]
      by_cases c : ds.length = 2
      · rw [decide_eq_true c, c]; rfl
      · rw [decide_eq_false c]
        exact decide_eq_false (fun e => by injection e with e; omega)
    show if decide (V.int ((vs.length : Nat) : Int) = V.int 2) = true then _ else _
    rw [e2]
    by_cases c : ds.length = 2
    · rw [decide_eq_true c]
      refine iteT ⟨_, rfl, t, rfl, ⟨_, hS⟩, fun D hD' => ?_⟩
      refine tup_turns (xs := vs) (fun i H' => Same H H' ∧ H' D = some (.lst (((ds.map elemOk).take i).map V.bl))) ⟨same_new hD' _, upd_same⟩ (fun i H' _ h => seqT_mono h.1 hS) ?_ ?_
      · rintro i x H' hx ⟨s1, h1⟩
        obtain ⟨di, hdi, hxi⟩ := dpAll_get hD hx
        have hi : i < ds.length := (List.getElem?_eq_some_iff.mp hdi).1
        have hb : (ds.map elemOk)[i]? = some (elemOk di) := by rw [List.getElem?_map, hdi]; rfl
        have fin : ∀ b, b = elemOk di → ∃ acc, H' D = some (.lst acc) ∧ acc.length < sizeLine ∧ Same H (upd H' D (.lst (acc ++ [V.bl b]))) ∧ (upd H' D (.lst (acc ++ [V.bl b]))) D = some (.lst (((ds.map elemOk).take (i + 1)).map V.bl)) := fun b e => by
          subst e
          refine ⟨_, h1, ?_, same_upd s1 hD', by rw [upd_same, take_bl _ hb]⟩
          rw [List.length_map]
          exact Nat.lt_of_le_of_lt (List.length_take_le _ _) (Nat.lt_of_lt_of_le hi (Nat.le_trans hds (by decide)))
        refine ⟨rfl, _, rfl, x, di, rfl, .dp (dp_mono s1 _ _ hxi), isWholeD di, rfl, ?_⟩
        cases di with
        | int n =>
          cases hxi
          exact iteT ⟨_, rfl, _, _, rfl, rfl, fin _ rfl⟩
        | none => exact iteF (fin _ rfl)
        | bool b => exact iteF (fin _ rfl)
        | str b => exact iteF (fin _ rfl)
        | list b => exact iteF (fin _ rfl)
        | tuple b => exact iteF (fin _ rfl)
        | dict b => exact iteF (fin _ rfl)
      · rintro H' ⟨s1, h1⟩
        rw [hl, ← List.length_map (f := elemOk), List.take_length] at h1
        refine ⟨D, _, rfl, SqL.of h1, q _ _ s1 ?_⟩
        rw [← two_ok, decide_eq_true c, Bool.true_and]
    · rw [decide_eq_false c]
      refine iteF (q _ _ (Same.refl H) ⟨fun e => (by cases e), fun h => ?_⟩)
      have := two_ok.mpr h
      rw [decide_eq_false c] at this
      cases this
  · have hq : ∀ {b : Bool}, b = false → (b = true ↔ IOk d) := fun e => ⟨fun e2 => (by rw [e] at e2; cases e2), fun ⟨a, b, e2, _⟩ => absurd ⟨_, e2⟩ ht⟩
    have kit : PySem.W.kitOne K (.type (tyN d)) (.type "tuple") = some false := by
      cases d with
      | none => exact kit_ty (a := "NoneType") (b := "tuple") (by decide +kernel)
      | bool b => exact kit_ty (a := "bool") (b := "tuple") (by decide +kernel)
      | int b => exact kit_ty (a := "int") (b := "tuple") (by decide +kernel)
      | str b => exact kit_ty (a := "str") (b := "tuple") (by decide +kernel)
      | list b => exact kit_ty (a := "list") (b := "tuple") (by decide +kernel)
      | tuple b => exact absurd ⟨b, rfl⟩ ht
      | dict b => exact kit_ty (a := "dict") (b := "tuple") (by decide +kernel)
    exact ⟨_, rfl, v, .ty "tuple", _, _, false, rfl, .ty "tuple", hk.ty, kit, false, rfl, iteF (q _ _ (Same.refl H) (hq rfl))⟩
theorem ok_weavingG {f g : Addr} {fd gd : FuncData} (F : Fun K "is_weaving" "is_weaving" sWeaving f fd) (T : Txt K mg) (U : Txt2 K mg) (W : Def P w K mg base "is_hand" ["thing"] 3 (spHandG K) g gd) : FnOk P w K mg base CX0 4 f fd ["thing", "rounds"] (spWeavingG K) := by
  refine F.ok scWeaving (fun vs H Q E h => ?_) (fun cdv A outer s H vs Q E hr h => ?_)
  · obtain ⟨v, d, deep, rfl, _⟩ := h
    rfl
  obtain ⟨v, d, deep, rfl, hk, hz, q⟩ := h
  obtain ⟨t2, m2⟩ := U.two
  obtain ⟨hA, mH, hH⟩ := U.hands
  have nd := scWeaving.nd
  refine ⟨_, pss_one (ps_ret (pe_and (pe_callB call_isi (by rfl) T.isi boot_isinstance (pa_cons (pv 0) (pa_cons (pe_bltn (v := .ty "list") (by rfl) T.list boot_list rfl) pa_nil)))
    (pe_and (pe_callB (cr_all rfl) (by rfl) T.all (by decide +kernel) (pa_cons
      (pe_lc (own := [("hand", 2)]) (g := gName 2) (tt := tYes) (te := tCall (spHandG K) [] E0 (tCons (tVar 2) tNil)) rfl nd (pi_list (pv 0)) (blkOk_by (N := ["thing", "rounds", "hand"]) (sc := defScope sWeaving) (by decide +kernel)) (fun _ _ _ _ _ => pg_name (i := 2) nd rfl (Or.inl rfl)) (fun _ _ _ _ _ => pts_nil)
        (fun _ _ _ _ _ => (by exact pe_call W.G hr rfl W.m W.k W.b .nil pass0 (pa_cons (pv 2) pa_nil)))) pa_nil))
    (pe_one (pe_callB (cr_all rfl) (by rfl) T.all (by decide +kernel) (pa_cons
      (pe_lc (own := [("hand", 2)]) (g := gName 2) (tt := tYes) (te := tOp (rI0 fun i j => .bl (decide (i ≤ j))) (tBM K "list" (rCntI K) (tVar 0) (tCons (tVar 2) tNil)) (tOp (rI CMul fun i j => .int (i * j)) (tC (.int 2)) (tVar 1))) rfl nd (pi_tup (pe_glob (v := .ref hA) rfl mH rfl)) (blkOk_by (N := ["thing", "rounds", "hand"]) (sc := defScope sWeaving) (by decide +kernel)) (fun _ _ _ _ _ => pg_name (i := 2) nd rfl (Or.inl rfl)) (fun _ _ _ _ _ => pts_nil)
        (fun _ _ _ _ _ => (by refine pe_cmpR op_le ?_ (pe_op op_mul ?_ (pv 1)) (nomark _); (exact pe_bm PySem.F.plainAttrs_list PySem.F.slot_list_count PySem.F.type_list_count mt_lcount (pv 0) (pa_cons (pv 2) pa_nil)); (exact pe_glob (v := .int 2) rfl m2 ⟨_, rfl⟩)))) pa_nil)))))), ?_⟩
  by_cases ht : ∃ ds, d = .list ds
  · obtain ⟨ds, rfl⟩ := ht
    obtain ⟨p, vs, rfl, hS, hD⟩ : ∃ t vs, v = .ref t ∧ SqL K H t vs ∧ DpAll K H vs ds := by
      cases hk with
      | dp h =>
        cases h with
        | lst a b => exact ⟨_, _, rfl, a, b⟩
    have hl := dpAll_len hD
    have hds := hz ds rfl
    refine ⟨_, rfl, .ref p, .ty "list", _, _, true, rfl, .ty "list", sqL_ty hS, kit_ty (by decide +kernel), true, rfl, iteT ?_⟩
    refine ⟨_, rfl, p, rfl, ⟨_, hS⟩, fun D hD' => ?_⟩
    refine list_turns (xs := vs) (fun i H' => Same H H' ∧ H' D = some (.lst (((ds.map fun d => within d 0 1).take i).map V.bl))) ⟨same_new hD' _, upd_same⟩ (fun i H' _ h => h.1.seq hS) ?_ ?_
    · rintro i x H' hx ⟨s1, h1⟩
      obtain ⟨di, hdi, hxi⟩ := dpAll_get hD hx
      have hi : i < ds.length := (List.getElem?_eq_some_iff.mp hdi).1
      have hb : (ds.map fun d => within d 0 1)[i]? = some (within di 0 1) := by rw [List.getElem?_map, hdi]; rfl
      refine ⟨rfl, _, rfl, x, di, rfl, .dp (dp_mono s1 _ _ hxi), _, h1, ?_, same_upd s1 hD', by rw [upd_same, take_bl _ hb]⟩
      rw [List.length_map]
      exact Nat.lt_of_le_of_lt (List.length_take_le _ _) (Nat.lt_of_lt_of_le hi (Nat.le_trans hds (by decide)))
    · rintro H1 ⟨s1, h1⟩
      rw [hl, ← List.length_map (f := fun d => within d 0 1), List.take_length] at h1
      refine ⟨D, _, rfl, SqL.of h1, _, rfl, ?_⟩
      by_cases c : (ds.map fun d => within d 0 1).all id = true
      · rw [c]
        refine iteT ?_
        obtain ⟨hs, rfl, hh⟩ := hands_ok c
        have hvs : vs = (hs.map fun h : Nat => (h : Int)).map V.int := by
          clear hS hl h1 hk q hz hds c hh
          induction hs generalizing vs with
          | nil => cases hD; rfl
          | cons h r ih =>
            cases hD with
            | cons a b =>
              cases a
              rw [ih _ b]
              rfl
        rw [hvs] at hS
        refine ⟨hA, rfl, ⟨_, hH _⟩, fun D2 hD2 => ?_⟩
        refine tup_turns (xs := [V.int 0, V.int 1]) (fun i H' => Same H1 H' ∧ H' D2 = some (.lst ((([decide (hs.count 0 ≤ 2 * deep), decide (hs.count 1 ≤ 2 * deep)]).take i).map V.bl))) ⟨same_new hD2 _, upd_same⟩ (fun i H' _ h => hH _) ?_ ?_
        · rintro i x H' hx ⟨s2, h2⟩
          obtain ⟨rfl, hi⟩ := nat_two hx
          have hS2 := s2.seq (s1.seq hS)
          have hb := two_get (fun i => decide (hs.count i ≤ 2 * deep)) hi
          refine ⟨rfl, _, rfl, .inl ⟨rfl, _, hS2⟩, _, rfl, p, hs.map fun h : Nat => (h : Int), (i : Int), rfl, rfl, hS2, _, rfl, _, _, rfl, rfl, .inl ⟨by decide, by decide⟩, _, _, rfl, rfl, _, h2, ?_, same_upd s2 hD2, ?_⟩
          · rw [List.length_map]
            exact Nat.lt_of_le_of_lt (List.length_take_le _ _) (Nat.lt_of_lt_of_le hi (by decide))
          · rw [upd_same, ← take_bl _ hb, hl_count]
            have e : decide (((hs.count i : Nat) : Int) ≤ 2 * (deep : Int)) = decide (hs.count i ≤ 2 * deep) := by
              by_cases c : hs.count i ≤ 2 * deep
              · rw [decide_eq_true c, decide_eq_true (by omega)]
              · rw [decide_eq_false c, decide_eq_false (by omega)]
            rw [← e]
        · rintro H2 ⟨s2, h2⟩
          refine ⟨D2, _, rfl, SqL.of h2, q _ _ (s1.trans s2) ?_⟩
          constructor
          · intro h
            have e : hs.count 0 ≤ 2 * deep ∧ hs.count 1 ≤ 2 * deep := by simpa using h
            refine ⟨hs, rfl, hh, fun h h2 => ?_⟩
            obtain rfl | rfl : h = 0 ∨ h = 1 := by omega
            · exact e.1
            · exact e.2
          · rintro ⟨hs2, e, _, h2⟩
            injection e with e
            have e' : hs = hs2 := by
              have := congrArg (List.map fun d => match d with | PyData.int n => n.toNat | _ => 0) e
              simpa [List.map_map, Function.comp_def] using this
            subst e'
            have a := h2 0 (by decide)
            have b := h2 1 (by decide)
            simp [a, b]
      · have c' : (ds.map fun d => within d 0 1).all id = false := Bool.eq_false_iff.mpr c
        rw [c']
        refine iteF (q _ _ s1 ⟨fun e => (by cases e), fun ⟨hs, e, hh, _⟩ => ?_⟩)
        injection e with e
        subst e
        exfalso
        refine c (List.all_eq_true.mpr fun b hb => ?_)
        obtain ⟨x, hx, rfl⟩ := List.mem_map.mp hb
        obtain ⟨h, hm, rfl⟩ := List.mem_map.mp hx
        have := hh h hm
        exact decide_eq_true (by omega)
  · have hq : ∀ {b : Bool}, b = false → (b = true ↔ WOk deep d) := fun e => ⟨fun e2 => (by rw [e] at e2; cases e2), fun ⟨a, e2, _⟩ => absurd ⟨_, e2⟩ ht⟩
    have kit : PySem.W.kitOne K (.type (tyN d)) (.type "list") = some false := by
      cases d with
      | none => exact kit_ty (a := "NoneType") (b := "list") (by decide +kernel)
      | bool b => exact kit_ty (a := "bool") (b := "list") (by decide +kernel)
      | int b => exact kit_ty (a := "int") (b := "list") (by decide +kernel)
      | str b => exact kit_ty (a := "str") (b := "list") (by decide +kernel)
      | list b => exact absurd ⟨b, rfl⟩ ht
      | tuple b => exact kit_ty (a := "tuple") (b := "list") (by decide +kernel)
      | dict b => exact kit_ty (a := "dict") (b := "list") (by decide +kernel)
    exact ⟨_, rfl, v, .ty "list", _, _, false, rfl, .ty "list", hk.ty, kit, false, rfl, iteF (q _ _ (Same.refl H) (hq rfl))⟩
end
end TB

set_option Elab.async false
set_option maxRecDepth 100000
set_option maxHeartbeats 4000000
namespace TB
open PySem L2 PyProof.Rows
set_option linter.unusedVariables false
def spKnownX (K : PySem.W.Frag) (cR cI cW : Addr) : Sp := fun vs H Q E => ∃ (iv wv dv : V) (di dw dd : PyData), vs = [iv, wv, dv] ∧ Kd K H iv di ∧ Kd K H wv dw ∧ Kd K H dv dd ∧ (∀ ds, di = .tuple ds → ds.length ≤ 1000) ∧ (∀ ds, dw = .list ds → ds.length ≤ 1000) ∧
  (within dd 0 5 = false → ∀ H', Same H H' → E (.ref cR) none H') ∧ (within dd 0 5 = true → ¬ IOk di → ∀ H', Same H H' → E (.ref cI) none H') ∧
  (∀ d : Nat, dd = .int (d : Int) → d ≤ 5 → IOk di → ¬ WOk d dw → ∀ H', Same H H' → E (.ref cW) none H') ∧
  (∀ d : Nat, dd = .int (d : Int) → d ≤ 5 → IOk di → WOk d dw → ∀ (o : Addr) (H' : Hp), Same H H' → Q (.ref o) H')
theorem vs_ints {K : PySem.W.Frag} {H : Hp} : ∀ {hs : List Nat} {vs : List V}, DpAll K H vs (hs.map fun h : Nat => PyData.int (h : Int)) → vs = hl hs
  | [], _, h => by cases h; rfl
  | x :: r, _, h => by
    cases h with
    | cons a b =>
      cases a
      rw [vs_ints b]
      rfl
section
variable {P : Program} {w : World} {K : PySem.W.Frag} {mg : Str → Option Value} {base : Heap}
theorem ok_knownX {f g1 g2 g3 g4 cR cI cW : Addr} {fd d1 d2 d3 d4 : FuncData} (F : Fun K "known" "known" sKnown f fd) (T : Txt K mg) (U : Txt2 K mg) (R1 : RaiseC K mg "NoRounds" cR) (R2 : RaiseC K mg "NoInputs" cI) (R3 : RaiseC K mg "NoWeaving" cW) (W1 : Def P w K mg base "is_whole_within" ["thing", "least", "most"] 2 (spWithinG K) g1 d1)
    (W2 : Def P w K mg base "is_inputs" ["thing"] 2 (spInputsG K) g2 d2) (W3 : Def P w K mg base "is_weaving" ["thing", "rounds"] 4 (spWeavingG K) g3 d3) (W4 : Def P w K mg base "put_in" ["cells", "at"] 1 (spPut K) g4 d4) :
    FnOk P w K mg base (L2.CX P w) 5 f fd ["inputs", "weaving", "rounds"] (spKnownX K cR cI cW) := by
  refine F.okX scKnown (fun vs H Q E h => ?_) (fun cdv A outer s H vs Q E hr h => ?_)
  · obtain ⟨iv, wv, dv, di, dw, dd, rfl, _⟩ := h
    rfl
  obtain ⟨iv, wv, dv, di, dw, dd, rfl, ki, kw, kd, zi, zw, q1, q2, q3, q4⟩ := h
  obtain ⟨t5, m5⟩ := U.five
  obtain ⟨hA, mH, hH⟩ := U.hands
  have nd := scKnown.nd
  refine ⟨_, pss_cons (ps_if (pt_not (pt_val (pe_call W1.G (hr.mono (by decide)) rfl W1.m W1.k W1.b .nil pass0 (pa_cons (pv 2) (pa_cons pe_int (pa_cons (pe_glob (v := .int 5) rfl m5 ⟨_, rfl⟩) pa_nil)))))) (pss_one (ps_raise rfl (takes_of rfl rfl rfl rfl) (pmk_own PySem.F.excBase_ValueError R1.x R1.m R1.k (raises_own R1.b R1.t) (by exact rfl)))) pss_nil)
    (pss_cons (ps_if (pt_not (pt_val (pe_call W2.G (hr.mono (by decide)) rfl W2.m W2.k W2.b .nil pass0 (pa_cons (pv 0) pa_nil)))) (pss_one (ps_raise rfl (takes_of rfl rfl rfl rfl) (pmk_own PySem.F.excBase_ValueError R2.x R2.m R2.k (raises_own R2.b R2.t) (by exact rfl)))) pss_nil)
    (pss_cons (ps_if (pt_not (pt_val (pe_call W3.G (hr.mono (by decide)) rfl W3.m W3.k W3.b .nil pass0 (pa_cons (pv 1) (pa_cons (pv 2) pa_nil))))) (pss_one (ps_raise rfl (takes_of rfl rfl rfl rfl) (pmk_own PySem.F.excBase_ValueError R3.x R3.m R3.k (raises_own R3.b R3.t) (by exact rfl)))) pss_nil)
    (PSs.nox (pss_cons (ps_set (i := 3) nd rfl (Or.inr rfl) (pe_callTy call_list_of (by rfl) T.list boot_list (pa_cons (pv 0) pa_nil)))
    (pss_cons (ps_set (i := 4) nd rfl (Or.inl rfl) (pe_lst (pa_cons (pe_lst pa_nil) (pa_cons (pe_lst pa_nil) pa_nil))))
    (pss_cons (ps_set (i := 5) nd rfl (Or.inr rfl) (pe_lst (pa_cons pe_int (pa_cons pe_int pa_nil))))
    (pss_cons (ps_for PassesOwn.never rfl (pi_list (pv 1)) (pg_name (i := 6) nd rfl (Or.inl rfl))
      (pss_one (ps_if (pt_cmpR op_gt (pe_callB call_len_seq (by rfl) T.len PySem.boot_len (pa_cons (pe_ix ix_list (pv 4) (pv 6) (fun _ _ => rfl)) pa_nil)) (pe_ix ix_list (pv 5) (pv 6) (fun _ _ => rfl)) (nomark _))
        (pss_cons (ps_asg (pe_tup (pa_cons (pe_ix ix_list (pv 3) (pv 6) (fun _ _ => rfl)) (pa_cons (pe_call W4.G (hr.mono (by decide)) rfl W4.m W4.k W4.b .nil pass0 (pa_cons (pe_ix ix_list (pv 4) (pe_op op_sub pe_int (pv 6)) (fun _ _ => rfl)) (pa_cons (pe_ix ix_list (pv 5) (pv 6) (fun _ _ => rfl)) pa_nil))) pa_nil))) (pg_sub (pv 3) (pv 6) set_list))
          (pss_one (ps_augS (pv 5) (pv 6) get_list pe_int ip_add set_list)))
        (pss_one (ps_expr (pe_bm PySem.F.plainAttrs_list PySem.F.slot_list_append PySem.F.type_list_append mt_append (pe_ix ix_list (pv 4) (pv 6) (fun _ _ => rfl)) (pa_cons (pe_ix ix_list (pv 3) (pv 6) (fun _ _ => rfl)) pa_nil)))))))
    (pss_one (ps_ret (pe_lc (own := [("hand", 6)]) (g := gName 6) (tt := tYes) (te := tIf (tTest (tOp rEq (tOp (rIxL K) (tVar 5) (tVar 6)) (tVar 2))) (tOp (rIxL K) (tVar 3) (tVar 6)) (tC .non)) rfl nd (pi_tup (pe_glob (v := .ref hA) rfl mH rfl)) (blkOk_by (N := nKnown) (sc := defScope sKnown) (by decide +kernel)) (fun _ _ _ _ _ => pg_name (i := 6) nd rfl (Or.inl rfl)) (fun _ _ _ _ _ => pts_nil)
      (fun _ _ _ _ _ => (by refine pe_ifExp ?_ ?_ pe_non; (refine pt_cmpR op_eq ?_ (pv 2) (nomark _); exact pe_ix ix_list (pv 5) (pv 6) (fun _ _ => rfl)); (exact pe_ix ix_list (pv 3) (pv 6) (fun _ _ => rfl)))))))))))))), ?_⟩
  have bf : ∀ {b : Bool} {P : Prop}, (b = true ↔ P) → ¬ P → b = false := fun h n => Bool.eq_false_iff.mpr (fun e => n (h.mp e))
  refine ⟨_, rfl, dv, dd, 0, 5, rfl, kd, within dd 0 5, rfl, ?_⟩
  by_cases w0 : within dd 0 5 = true
  case neg =>
    rw [Bool.eq_false_iff.mpr w0]
    exact iteT (q1 (Bool.eq_false_iff.mpr w0) _ (Same.refl H))
  obtain ⟨d, rfl, hd⟩ : ∃ d : Nat, dd = .int (d : Int) ∧ d ≤ 5 := by
    cases dd with
    | int n =>
      have := of_decide_eq_true (show decide ((0 : Int) ≤ n ∧ n ≤ 5) = true from w0)
      exact ⟨n.toNat, by rw [show ((n.toNat : Nat) : Int) = n by omega], by omega⟩
    | _ => exact Bool.noConfusion (show false = true from w0)
  have edv : dv = .int (d : Int) := by
    cases kd with
    | dp h => cases h; rfl
  subst edv
  rw [w0]
  refine iteF ⟨_, rfl, iv, di, rfl, ki, zi, fun b1 H1 s1 hb1 => ⟨b1, rfl, ?_⟩⟩
  by_cases io : IOk di
  case neg =>
    rw [bf hb1 io]
    exact iteT (q2 w0 io _ s1)
  rw [hb1.mpr io]
  refine iteF ⟨_, rfl, _, rfl, wv, dw, d, rfl, kd_mono s1 kw, zw, fun b2 H2 s2 hb2 => ⟨b2, rfl, ?_⟩⟩
  have s12 := s1.trans s2
  by_cases wo : WOk d dw
  case neg =>
    rw [bf hb2 wo]
    exact iteT (q3 d rfl hd io wo _ s12)
  rw [hb2.mpr wo]
  refine iteF ?_
  have q := q4 d rfl hd io wo
  obtain ⟨a, b, rfl, ha, hb⟩ := io
  obtain ⟨hs, rfl, hh, hc⟩ := wo
  obtain ⟨t, rfl, ht⟩ : ∃ t, iv = .ref t ∧ SqT K H t [.int a, .int b] := by
    cases ki with
    | dp h =>
      cases h with
      | tup x y =>
        cases y with
        | cons y1 y2 =>
          cases y2 with
          | cons y2 y3 =>
            cases y1; cases y2; cases y3
            exact ⟨_, rfl, x⟩
  obtain ⟨p, rfl, hS⟩ : ∃ p, wv = .ref p ∧ SqL K H p (hl hs) := by
    cases kw with
    | dp h =>
      cases h with
      | lst x y =>
        have e := vs_ints y
        rw [e] at x
        exact ⟨_, rfl, x⟩
  have hz : hs.length ≤ 40 := by
    have := len_counts hs hh
    have := hc 0 (by decide)
    have := hc 1 (by decide)
    omega
  refine ⟨_, rfl, t, _, rfl, .inr (seqT_mono s12 ht), fun kn hkn => ?_⟩
  refine ⟨Nat.zero_le _, fun c0 hc0 => ⟨Nat.zero_le _, fun c1 hc1 => ⟨(by show 2 ≤ sizeLine; decide), fun ce hce => ?_⟩⟩⟩
  refine ⟨(by show 2 ≤ sizeLine; decide), fun lo hlo => ?_⟩
  have sa := same_new hkn (.lst [V.int a, V.int b])
  have sb := sa.trans (same_new hc0 (.lst []))
  have sc := sb.trans (same_new hc1 (.lst []))
  have sd := sc.trans (same_new hce (.lst [V.ref c0, V.ref c1]))
  have se := sd.trans (same_new hlo (.lst [V.int 0, V.int 0]))
  have K0 : KS H2 (upd (upd (upd (upd (upd H2 kn (.lst [V.int a, V.int b])) c0 (.lst [])) c1 (.lst [])) ce (.lst [V.ref c0, V.ref c1])) lo (.lst [V.int 0, V.int 0])) kn ce lo (fun i => if i = 0 then c0 else c1) (M0 a b) := by
    have q1 := upd_same (H := H2) (a := kn) (o := .lst [V.int a, V.int b])
    have q2 := upd_same (H := upd H2 kn (.lst [V.int a, V.int b])) (a := c0) (o := .lst [])
    have q3 := upd_same (H := upd (upd H2 kn (.lst [V.int a, V.int b])) c0 (.lst [])) (a := c1) (o := .lst [])
    have q4 := upd_same (H := upd (upd (upd H2 kn (.lst [V.int a, V.int b])) c0 (.lst [])) c1 (.lst [])) (a := ce) (o := .lst [V.ref c0, V.ref c1])
    have b2 := same_new hc0 (.lst [])
    have b3 := same_new hc1 (.lst [])
    have b4 := same_new hce (.lst [V.ref c0, V.ref c1])
    have b5 := same_new hlo (.lst [V.int 0, V.int 0])
    have two : ∀ {R : Addr → Prop}, R c0 → R c1 → ∀ h < 2, R ((fun i : Nat => if i = 0 then c0 else c1) h) := fun r0 r1 h hh => by
      rcases h with _ | _ | h
      · exact r0
      · exact r1
      · omega
    refine { same := se, f1 := hkn, f2 := sc.free hce, f3 := sd.free hlo, f4 := two (R := fun c => H2 c = none) (sa.free hc0) (sb.free hc1), n1 := ne_of_none (b3 _ _ (b2 _ _ q1)) hce, n2 := ne_of_none (b4 _ _ (b3 _ _ (b2 _ _ q1))) hlo, n3 := two (R := fun c => kn ≠ c) (ne_of_none q1 hc0) (ne_of_none (b2 _ _ q1) hc1), n4 := ne_of_none q4 hlo, n5 := two (R := fun c => ce ≠ c) (ne_of_none (b3 _ _ q2) hce).symm (ne_of_none q3 hce).symm, n6 := two (R := fun c => lo ≠ c) (ne_of_none (b4 _ _ (b3 _ _ q2)) hlo).symm (ne_of_none (b4 _ _ q3) hlo).symm, n7 := ne_of_none q2 hc1, hk := ⟨fun i => if i = 0 then .int a else .int b, b5 _ _ (b4 _ _ (b3 _ _ (b2 _ _ q1))), fun h hh => ?_⟩, he := b5 _ _ q4, ho := upd_same, hc := ?_ }
    · rcases h with _ | _ | h
      · exact .int a
      · exact .int b
      · omega
    · intro h hh
      rcases h with _ | _ | h
      · exact ⟨[], b5 _ _ (b4 _ _ (b3 _ _ q2)), .nil⟩
      · exact ⟨[], b5 _ _ (b4 _ _ q3), .nil⟩
      · omega
  generalize (fun i : Nat => if i = 0 then c0 else c1) = cs at K0
  have lenH : (hl hs).length = hs.length := List.length_map _
  refine ⟨_, rfl, p, rfl, ⟨_, (s12.trans se).seq hS⟩, for_list (K := K) (a := p) (xs := hl hs) (fun i σ Hc => ∃ g, σ = [some (.ref t), some (.ref p), some (.int (d : Int)), some (.ref kn), some (.ref ce), some (.ref lo), g] ∧ KS H2 Hc kn ce lo cs ((M0 a b).run (hs.take i))) ⟨none, rfl, K0⟩ ?_ ?_ ?_⟩
  · rintro i σ Hc _ ⟨g, _, S⟩
    exact (s12.trans S.same).seq hS
  · rintro i x σ Hc hx ⟨g, rfl, S⟩
    obtain ⟨z, rfl, hz1⟩ := hl_at hx
    have hz2 : z < 2 := hh z (List.mem_of_getElem? hz1)
    have er : (M0 a b).run (hs.take (i + 1)) = ((M0 a b).run (hs.take i)).step z := by
      rw [List.take_add_one, hz1]
      exact M.run_snoc _ _ _
    rw [er]
    have hdn : ((M0 a b).run (hs.take i)).done z ≤ 40 := by
      rw [M.done_run]
      have h1 := List.count_le_length (a := z) (l := hs.take i)
      rw [List.length_take] at h1
      show 0 + 0 + _ ≤ 40
      omega
    generalize (M0 a b).run (hs.take i) = m at S hdn ⊢
    obtain ⟨v, hk, hkn'⟩ := S.hk
    obtain ⟨ws, hw, hwa⟩ := S.hc z hz2
    have hwl := hwa.len
    have he2 := at_two (fun i => V.ref (cs i)) hz2
    have ho2 := at_two (fun i => V.int ((m.l i : Nat) : Int)) hz2
    refine ⟨_, rfl, _, rfl, ce, _, _, _, rfl, rfl, SqL.of S.he, he2, cs z, ws, rfl, .inl (SqL.of hw), _, rfl, _, rfl, lo, _, _, _, rfl, rfl, SqL.of S.ho, ho2, _, _, rfl, rfl, _, rfl, ?_⟩
    refine ite2 (fun c1 => ?_) (fun c1 => ?_)
    · have c2 : ((m.l z : Nat) : Int) < ((ws.length : Nat) : Int) := of_decide_eq_true c1
      have c3 : m.l z < (m.c z).length := by omega
      obtain ⟨ws2, hw2, hwa2⟩ := S.hc (1 - z) (by omega)
      have he3 : atI [V.ref (cs 0), V.ref (cs 1)] ((1 : Int) - (z : Int)) = some (.ref (cs (1 - z))) := by
        rw [show (1 : Int) - (z : Int) = ((1 - z : Nat) : Int) by omega]
        exact at_two (fun i => V.ref (cs i)) (by omega)
      refine ⟨_, rfl, _, rfl, kn, _, _, _, rfl, rfl, SqL.of hk, at_two v hz2, _, rfl, _, rfl, _, _, rfl, rfl, ce, _, _, _, rfl, rfl, SqL.of S.he, he3, _, rfl, _, rfl, lo, _, _, _, rfl, rfl, SqL.of S.ho, ho2, cs (1 - z), ws2, m.l z, rfl, SqL.of hw2, (by show 2 ≤ sizeLine; decide), fun q0 hq0 => ?_⟩
      have n1 := ne_of_none hk hq0
      have n2 := ne_of_none S.ho hq0
      refine ⟨_, rfl, _, rfl, kn, [v 0, v 1], _, z, rfl, rfl, by rw [upd_ne n1]; exact hk, ixN_two hz2, ?_⟩
      have ho3 : (upd (upd Hc q0 (.tup [v z, ws2.getD (m.l z) .non])) kn (.lst ([v 0, v 1].set z (.ref q0)))) lo = some (.lst [.int (m.l 0 : Nat), .int (m.l 1 : Nat)]) := by
        rw [upd_ne S.n2.symm, upd_ne n2]
        exact S.ho
      refine ⟨_, rfl, _, rfl, lo, _, z, _, rfl, rfl, SqL.of ho3, two_get (fun i => V.int ((m.l i : Nat) : Int)) hz2, _, _, rfl, rfl, lo, [.int (m.l 0 : Nat), .int (m.l 1 : Nat)], _, z, rfl, rfl, ho3, ixN_two hz2, ?_⟩
      refine ⟨_, rfl, ?_⟩
      have r := S.look hz2 c3 hk hkn' (hwa2.getD (m.l z)) hq0
      rw [← two_set v hz2, ← ints_set m.l hz2] at r
      exact r
    · have c2 : ¬ ((m.l z : Nat) : Int) < ((ws.length : Nat) : Int) := of_decide_eq_false (Bool.eq_false_iff.mpr c1)
      have c3 : ¬ m.l z < (m.c z).length := by omega
      have hsz : ws.length < sizeLine := by
        unfold M.done at hdn
        exact Nat.lt_of_le_of_lt (show ws.length ≤ 40 by omega) (by decide)
      refine ⟨_, rfl, _, rfl, ce, _, _, _, rfl, rfl, SqL.of S.he, he2, .inl ⟨rfl, _, SqL.of hw⟩, _, rfl, _, rfl, kn, _, _, _, rfl, rfl, SqL.of hk, at_two v hz2, cs z, ws, _, rfl, rfl, hw, hsz, ?_⟩
      exact ⟨_, rfl, S.put hz2 c3 hw hwa (hkn' z hz2)⟩
  · rintro σ Hc ⟨g, rfl, S⟩
    rw [lenH, List.take_length] at S
    have wf := M.wf_run (M.wf0 a b) hh
    have dn : ∀ h < 2, ((M0 a b).run hs).done h ≤ 2 * d := fun h h2 => by
      rw [M.done_run]
      have := hc h h2
      show 0 + 0 + _ ≤ _
      omega
    generalize (M0 a b).run hs = m at S wf dn ⊢
    obtain ⟨v, hk, hkn'⟩ := S.hk
    refine ⟨hA, rfl, ⟨_, hH _⟩, fun D hD => ?_⟩
    refine tup_turns (xs := [V.int 0, V.int 1]) (fun i H' => Same Hc H' ∧ H' D = some (.lst ([outs m d v 0, outs m d v 1].take i))) ⟨same_new hD _, upd_same⟩ (fun i H' _ h => hH _) ?_ ?_
    · rintro i x H' hx ⟨s3, h3⟩
      obtain ⟨rfl, hi⟩ := nat_two hx
      have fin : ∀ H'', Same H' H'' → ∃ acc, H'' D = some (.lst acc) ∧ acc.length < sizeLine ∧ (Same Hc (upd H'' D (.lst (acc ++ [outs m d v i]))) ∧ (upd H'' D (.lst (acc ++ [outs m d v i]))) D = some (.lst ([outs m d v 0, outs m d v 1].take (i + 1)))) := fun H'' s4 => by
        refine ⟨_, s4 _ _ h3, Nat.lt_of_le_of_lt (List.length_take_le i _) (Nat.lt_of_lt_of_le hi (by decide)), same_upd (s3.trans s4) hD, ?_⟩
        rw [upd_same, List.take_add_one, two_get (outs m d v) hi]
        all_goals rfl
      refine ⟨rfl, _, rfl, _, rfl, lo, _, _, _, rfl, rfl, SqL.of (s3 _ _ S.ho), at_two (fun i => V.int ((m.l i : Nat) : Int)) hi, _, rfl, rfl, _, rfl, ?_⟩
      refine ite2 (fun c1 => ?_) (fun c1 => ?_)
      · have c2 : m.l i = d := int_eq.mp (of_decide_eq_true c1)
        have r := fin H' (Same.refl _)
        rw [show outs m d v i = v i by unfold outs; rw [if_pos c2]] at r
        exact ⟨_, rfl, _, rfl, kn, _, _, _, rfl, rfl, SqL.of (s3 _ _ hk), at_two v hi, r⟩
      · have c2 : ¬ m.l i = d := fun e => c1 (decide_eq_true (int_eq.mpr e))
        have r := fin H' (Same.refl _)
        rw [show outs m d v i = .non by unfold outs; rw [if_neg c2]] at r
        exact r
    · rintro H' ⟨s3, h3⟩
      have sH := s12.trans (S.same.trans s3)
      exact q D H' sH
end
end TB

set_option Elab.async false
set_option maxRecDepth 100000
set_option maxHeartbeats 4000000
namespace TA
open PySem L2 PyProof.Rows
set_option linter.unusedVariables false
def top (i : Nat) : Stmt := PySem.Challenge.pw_twoalone_k32_what_cannot_be_told.main.body.getD i (.Pass ⟨0, 0, 0, 0⟩)
abbrev sWhole : Stmt := top 2
abbrev sWithin : Stmt := top 3
abbrev sHand : Stmt := top 4
abbrev s_is_rising : Stmt := top 5
abbrev s_AloneError : Stmt := top 7
abbrev s_NoTask : Stmt := top 8
abbrev s_NoHand : Stmt := top 9
abbrev s_NoRounds : Stmt := top 10
abbrev s_NoInputs : Stmt := top 11
abbrev s_NoWeaving : Stmt := top 12
abbrev s_NoKnown : Stmt := top 13
abbrev s_NoProtocol : Stmt := top 14
abbrev sInputs : Stmt := top 18
abbrev sWeaving : Stmt := top 19
abbrev sPut : Stmt := top 20
abbrev sKnown : Stmt := top 21
abbrev s_rounds_behind : Stmt := top 24
abbrev s_agrees : Stmt := top 25
abbrev s_met : Stmt := top 26
abbrev s_standing : Stmt := top 27
abbrev sPlace : Stmt := top 28
abbrev s_is_output : Stmt := top 31
abbrev s_is_outputs : Stmt := top 32
abbrev s_is_rows : Stmt := top 33
abbrev s_is_alone : Stmt := top 34
abbrev s_is_output_pair : Stmt := top 35
abbrev s_is_let : Stmt := top 36
abbrev s_is_input_pair : Stmt := top 37
abbrev s_each_comes : Stmt := top 38
abbrev s_is_both : Stmt := top 39
abbrev s_Task : Stmt := top 40
abbrev s_is_pair : Stmt := top 41
abbrev s_is_row : Stmt := top 43
abbrev s_is_chosen : Stmt := top 44
abbrev s_is_walks : Stmt := top 45
abbrev s_is_protocol : Stmt := top 46
abbrev s_output_of : Stmt := top 47
abbrev s_tell : Stmt := top 48
abbrev sCell : Stmt := top 50
abbrev s__law_digit : Stmt := top 51
abbrev s__law_of : Stmt := top 52
abbrev s__law_rising : Stmt := top 53
abbrev s__law_outs : Stmt := top 54
abbrev s__law_parts : Stmt := top 55
abbrev s__law_walk : Stmt := top 56
abbrev s__law_scheme : Stmt := top 57
abbrev sLawWeav : Stmt := top 58
abbrev s__law_spots : Stmt := top 59
abbrev s__law_odd_rows : Stmt := top 60
abbrev s__law_odd_walks : Stmt := top 61
abbrev s__law_odd : Stmt := top 62
abbrev s__law_refused : Stmt := top 63
abbrev s__law_odd_pair : Stmt := top 64
abbrev s__law_odd_weaving : Stmt := top 65
abbrev sLaw : Stmt := top 66
structure Def (P : Program) (w : World) (K : PySem.W.Frag) (mg : Str → Option Value) (base : Heap) (x : Str) (ps : List Str) (k : Nat) (sp : Sp) (f : Addr) (fd : FuncData) : Prop where
  G : FnOk P w K mg base CX0 k f fd ps sp
  b : Binds K fd ps []
  k : PySem.W.keepIn K (.ref f) = true
  m : mg x = some (.ref f)
def isN : PyData → Bool
  | .none => true
  | _ => false
structure Txt (K : PySem.W.Frag) (mg : Str → Option Value) : Prop where
  isi : mg "isinstance" = none
  int : mg "int" = none
  bool : mg "bool" = none
  len : mg "len" = none
  range : mg "range" = none
  list : mg "list" = none
  tuple : mg "tuple" = none
  all : mg "all" = none
  sum : mg "sum" = none
  min : mg "min" = none
theorem same_new {H : Hp} {p : Addr} (h : H p = none) (o : HO) : Same H (upd H p o) := fun b u q => by rw [upd_ne (ne_of_none q h)]; exact q

theorem iteT' {c : Bool} {A B : Prop} (e : c = true) (a : A) : if c = true then A else B := by rw [if_pos e]; exact a
theorem iteF' {c : Bool} {A B : Prop} (e : c = false) (b : B) : if c = true then A else B := by rw [e]; exact b
theorem join2 {b : Bool} {X : Prop} {R : L2.St → Hp → Prop} {σ : L2.St} {H : Hp} (Iv : L2.St → Hp → Prop) (h0 : Iv σ H) (k : ∀ σ Hc, Iv σ Hc → R σ Hc) (h1 : b = true → (∀ σ Hc, Iv σ Hc → R σ Hc) → X) : if b = true then X else R σ H := by
  cases b with
  | false => exact iteF (k σ H h0)
  | true => exact iteT (h1 rfl k)
/-! things of any kind, by their data -/
def tyN : PyData → String
  | .none => "NoneType"
  | .bool _ => "bool"
  | .int _ => "int"
  | .str _ => "str"
  | .list _ => "list"
  | .tuple _ => "tuple"
  | .dict _ => "dict"
theorem sqT_ty {K : PySem.W.Frag} {H : Hp} {a : Addr} {xs : List V} (h : SqT K H a xs) : TyX K H (.ref a) (.type "tuple") := by
  rcases h with h | ⟨o, its, n, h1, h2, _⟩
  · rcases h with h | ⟨o, h⟩
    · exact .base (.tup h)
    · exact .fTuple h
  · exact .kTuple h1 h2
theorem sqL_ty {K : PySem.W.Frag} {H : Hp} {a : Addr} {xs : List V} (h : SqL K H a xs) : TyX K H (.ref a) (.type "list") := by
  rcases h with h | ⟨o, its, n, h1, h2, _⟩
  · rcases h with h | ⟨o, h⟩
    · exact .base (.lst h)
    · exact .base (.frz h)
  · exact .kList h1 h2
theorem dp_ty {K : PySem.W.Frag} {H : Hp} {v : V} {d : PyData} (h : Dp K H v d) : TyX K H v (.type (tyN d)) := by
  cases h with
  | non => exact .base .non
  | bl b => exact .base (.bl b)
  | int i => exact .base (.int i)
  | str x => exact .base (.str x)
  | lst h _ => exact sqL_ty h
  | tup h _ => exact sqT_ty h
theorem dp_non {K : PySem.W.Frag} {H : Hp} {v : V} {d : PyData} (h : Dp K H v d) : decide (v = .non) = isN d := by
  cases h <;> rfl
def isWholeD : PyData → Bool
  | .int _ => true
  | _ => false
def isTupD : PyData → Bool
  | .tuple _ => true
  | _ => false
def within : PyData → Int → Int → Bool
  | .int n, lo, hi => decide (lo ≤ n ∧ n ≤ hi)
  | _, _, _ => false
theorem kit_int (d : PyData) {K : PySem.W.Frag} : ∃ b1 b2, PySem.W.kitOne K (.type (tyN d)) (.type "int") = some b1 ∧ PySem.W.kitOne K (.type (tyN d)) (.type "bool") = some b2 ∧ isWholeD d = (b1 && !b2) := by
  cases d with
  | none => exact ⟨false, false, kit_ty (a := "NoneType") (b := "int") (by decide +kernel), kit_ty (a := "NoneType") (b := "bool") (by decide +kernel), rfl⟩
  | bool b => exact ⟨true, true, kit_ty (a := "bool") (b := "int") (by decide +kernel), kit_ty (a := "bool") (b := "bool") (by decide +kernel), rfl⟩
  | int i => exact ⟨true, false, kit_ty (a := "int") (b := "int") (by decide +kernel), kit_ty (a := "int") (b := "bool") (by decide +kernel), rfl⟩
  | str s => exact ⟨false, false, kit_ty (a := "str") (b := "int") (by decide +kernel), kit_ty (a := "str") (b := "bool") (by decide +kernel), rfl⟩
  | list l => exact ⟨false, false, kit_ty (a := "list") (b := "int") (by decide +kernel), kit_ty (a := "list") (b := "bool") (by decide +kernel), rfl⟩
  | tuple l => exact ⟨false, false, kit_ty (a := "tuple") (b := "int") (by decide +kernel), kit_ty (a := "tuple") (b := "bool") (by decide +kernel), rfl⟩
  | dict l => exact ⟨false, false, kit_ty (a := "dict") (b := "int") (by decide +kernel), kit_ty (a := "dict") (b := "bool") (by decide +kernel), rfl⟩
theorem kit_tup (d : PyData) {K : PySem.W.Frag} : PySem.W.kitOne K (.type (tyN d)) (.type "tuple") = some (isTupD d) := by
  cases d with
  | none => exact (show PySem.W.kitOne K (.type "NoneType") (.type "tuple") = some false from kit_ty (a := "NoneType") (b := "tuple") (by decide +kernel))
  | bool b => exact (show PySem.W.kitOne K (.type "bool") (.type "tuple") = some false from kit_ty (a := "bool") (b := "tuple") (by decide +kernel))
  | int i => exact (show PySem.W.kitOne K (.type "int") (.type "tuple") = some false from kit_ty (a := "int") (b := "tuple") (by decide +kernel))
  | str s => exact (show PySem.W.kitOne K (.type "str") (.type "tuple") = some false from kit_ty (a := "str") (b := "tuple") (by decide +kernel))
  | list l => exact (show PySem.W.kitOne K (.type "list") (.type "tuple") = some false from kit_ty (a := "list") (b := "tuple") (by decide +kernel))
  | tuple l => exact (show PySem.W.kitOne K (.type "tuple") (.type "tuple") = some true from kit_ty (a := "tuple") (b := "tuple") (by decide +kernel))
  | dict l => exact (show PySem.W.kitOne K (.type "dict") (.type "tuple") = some false from kit_ty (a := "dict") (b := "tuple") (by decide +kernel))
theorem dp_tup {K : PySem.W.Frag} {H : Hp} {v : V} {ds : List PyData} (h : Dp K H v (.tuple ds)) : ∃ a xs, v = .ref a ∧ SqT K H a xs ∧ DpAll K H xs ds := by
  cases h with
  | tup h1 h2 => exact ⟨_, _, rfl, h1, h2⟩
theorem dpAll_len {K : PySem.W.Frag} {H : Hp} : ∀ {vs : List V} {ds : List PyData}, DpAll K H vs ds → vs.length = ds.length
  | _, _, .nil => rfl
  | _, _, .cons _ b => congrArg (· + 1) (dpAll_len b)
theorem rd_mono {H H' : Hp} (s : Same H H') {a : Addr} {o : HO} (h : Rd H a o) : Rd H' a o := by
  rcases h with h | ⟨ob, h⟩
  · exact .inl (s _ _ h)
  · exact .inr ⟨ob, s _ _ h⟩
theorem seqT_mono {K : PySem.W.Frag} {H H' : Hp} (s : Same H H') {a : Addr} {xs : List V} (h : SqT K H a xs) : SqT K H' a xs := by
  rcases h with h | h
  · exact .inl (rd_mono s h)
  · exact .inr h
mutual
theorem dp_mono {K : PySem.W.Frag} {H H' : Hp} (s : Same H H') : ∀ (d : PyData) (v : V), Dp K H v d → Dp K H' v d
  | .none, _, h => by cases h; exact .non
  | .bool b, _, h => by cases h; exact .bl b
  | .int i, _, h => by cases h; exact .int i
  | .str x, _, h => by cases h; exact .str x
  | .list ds, _, h => by
    cases h with
    | lst a b => exact .lst (s.seq a) (dpAll_mono s ds _ b)
  | .tuple ds, _, h => by
    cases h with
    | tup a b => exact .tup (seqT_mono s a) (dpAll_mono s ds _ b)
  | .dict _, _, h => by cases h
theorem dpAll_mono {K : PySem.W.Frag} {H H' : Hp} (s : Same H H') : ∀ (ds : List PyData) (vs : List V), DpAll K H vs ds → DpAll K H' vs ds
  | [], _, h => by cases h; exact .nil
  | d :: ds, _, h => by
    cases h with
    | cons a b => exact .cons (dp_mono s d _ a) (dpAll_mono s ds _ b)
end
def spWholeG (K : PySem.W.Frag) : Sp := fun vs H Q _ => ∃ (v : V) (d : PyData), vs = [v] ∧ Dp K H v d ∧ Q (.bl (isWholeD d)) H
def spWithinG (K : PySem.W.Frag) : Sp := fun vs H Q _ => ∃ (v : V) (d : PyData) (lo hi : Int), vs = [v, .int lo, .int hi] ∧ Dp K H v d ∧ Q (.bl (within d lo hi)) H
def spHandG (K : PySem.W.Frag) : Sp := fun vs H Q _ => ∃ (v : V) (d : PyData), vs = [v] ∧ Dp K H v d ∧ Q (.bl (within d 0 1)) H
/-! a walk of n turns, whatever is walked: the word Pv is kept from turn to turn -/
theorem turns {J : It} (n : Nat) {H0 : Hp} {Qd : Hp → Prop} {B : (Hp → Prop) → V → Hp → Prop} (Pv : Nat → Hp → Prop) (start : Pv 0 H0) (last : ∀ H, Pv n H → J.stop n H ∧ Qd H)
    (turn : ∀ i H, i < n → Pv i H → J.go i H ∧ ∀ x H', J.yld i H x H' → B (Pv (i + 1)) x H') :
    ∃ W : Nat → Nat → Hp → Prop, (∃ m, W 0 m H0) ∧ ∀ i m H, W i m H →
      (J.stop i H ∧ Qd H) ∨ (J.go i H ∧ ∃ Nx : Hp → Prop, (∀ H', Nx H' → ∃ m', m' < m ∧ W (i + 1) m' H') ∧ ∀ x H', J.yld i H x H' → B Nx x H') := by
  refine ⟨fun i m H => i + m = n ∧ Pv i H, ⟨n, by omega, start⟩, fun i m H h => ?_⟩
  obtain ⟨hm, word⟩ := h
  cases m with
  | zero =>
    have hin : i = n := by omega
    rw [hin] at word ⊢
    exact Or.inl (last H word)
  | succ m =>
    obtain ⟨go, step⟩ := turn i H (by omega) word
    exact Or.inr ⟨go, Pv (i + 1), fun H' w' => ⟨m, by omega, by omega, w'⟩, step⟩
theorem list_turns {K : PySem.W.Frag} {a : Addr} {xs : List V} {H0 : Hp} {Qd : Hp → Prop} {B : (Hp → Prop) → V → Hp → Prop} (Pv : Nat → Hp → Prop) (start : Pv 0 H0) (still : ∀ i H, i ≤ xs.length → Pv i H → SqL K H a xs)
    (turn : ∀ i x H, xs[i]? = some x → Pv i H → B (Pv (i + 1)) x H) (last : ∀ H, Pv xs.length H → Qd H) :
    ∃ W : Nat → Nat → Hp → Prop, (∃ m, W 0 m H0) ∧ ∀ i m H, W i m H →
      ((Itl K a).stop i H ∧ Qd H) ∨ ((Itl K a).go i H ∧ ∃ Nx : Hp → Prop, (∀ H', Nx H' → ∃ m', m' < m ∧ W (i + 1) m' H') ∧ ∀ x H', (Itl K a).yld i H x H' → B Nx x H') :=
  turns xs.length Pv start (fun H w => ⟨⟨xs, still _ H (Nat.le_refl _) w, Nat.le_refl _⟩, last H w⟩) fun i H hi w =>
    have there := still i H (Nat.le_of_lt hi) w
    ⟨⟨xs, xs[i], there, List.getElem?_eq_getElem hi⟩, fun x H' ⟨same, given⟩ => by rw [same]; exact turn i x H (given xs there) w⟩
theorem tup_turns {K : PySem.W.Frag} {a : Addr} {xs : List V} {H0 : Hp} {Qd : Hp → Prop} {B : (Hp → Prop) → V → Hp → Prop} (Pv : Nat → Hp → Prop) (start : Pv 0 H0) (still : ∀ i H, i ≤ xs.length → Pv i H → SqT K H a xs)
    (turn : ∀ i x H, xs[i]? = some x → Pv i H → B (Pv (i + 1)) x H) (last : ∀ H, Pv xs.length H → Qd H) :
    ∃ W : Nat → Nat → Hp → Prop, (∃ m, W 0 m H0) ∧ ∀ i m H, W i m H →
      ((Itt K a).stop i H ∧ Qd H) ∨ ((Itt K a).go i H ∧ ∃ Nx : Hp → Prop, (∀ H', Nx H' → ∃ m', m' < m ∧ W (i + 1) m' H') ∧ ∀ x H', (Itt K a).yld i H x H' → B Nx x H') :=
  turns xs.length Pv start (fun H w => ⟨⟨xs, still _ H (Nat.le_refl _) w, Nat.le_refl _⟩, last H w⟩) fun i H hi w =>
    have there := still i H (Nat.le_of_lt hi) w
    ⟨⟨xs, xs[i], there, List.getElem?_eq_getElem hi⟩, fun x H' ⟨same, given⟩ => by rw [same]; exact turn i x H (given xs there) w⟩
theorem range_turns {lo : Int} {n : Nat} {H0 : Hp} {Qd : Hp → Prop} {B : (Hp → Prop) → V → Hp → Prop} (Pv : Nat → Hp → Prop) (start : Pv 0 H0)
    (turn : ∀ i H, i < n → Pv i H → B (Pv (i + 1)) (.int (lo + i)) H) (last : ∀ H, Pv n H → Qd H) :
    ∃ W : Nat → Nat → Hp → Prop, (∃ m, W 0 m H0) ∧ ∀ i m H, W i m H →
      ((Itr lo n).stop i H ∧ Qd H) ∨ ((Itr lo n).go i H ∧ ∃ Nx : Hp → Prop, (∀ H', Nx H' → ∃ m', m' < m ∧ W (i + 1) m' H') ∧ ∀ x H', (Itr lo n).yld i H x H' → B Nx x H') :=
  turns n Pv start (fun H w => ⟨Nat.le_refl _, last H w⟩) fun i H hi w => ⟨hi, fun x H' ⟨same, given⟩ => by rw [same, given]; exact turn i H hi w⟩
theorem small13 {n : Nat} (h : n ≤ 100000) : n ≤ sizeLine := Nat.le_trans h (by decide)

section
variable {P : Program} {w : World} {K : PySem.W.Frag} {mg : Str → Option Value} {base : Heap}
theorem scWhole : FnScope ["thing"] ["thing"] (defScope sWhole) := ⟨rfl, rfl, rfl, by decide +kernel, rfl, by decide +kernel, by decide +kernel⟩
theorem scWithin : FnScope ["thing", "least", "most"] ["thing", "least", "most"] (defScope sWithin) := ⟨rfl, rfl, rfl, by decide +kernel, rfl, by decide +kernel, by decide +kernel⟩
theorem scHand : FnScope ["thing"] ["thing"] (defScope sHand) := ⟨rfl, rfl, rfl, by decide +kernel, rfl, by decide +kernel, by decide +kernel⟩
theorem ok_wholeG {f : Addr} {fd : FuncData} (F : Fun K "is_whole" "is_whole" sWhole f fd) (T : Txt K mg) : FnOk P w K mg base CX0 1 f fd ["thing"] (spWholeG K) := by
  refine F.ok scWhole (fun vs H Q E h => ?_) (fun cdv A outer s H vs Q E hr h => ?_)
  · obtain ⟨v, d, rfl, _⟩ := h
    rfl
  obtain ⟨v, d, rfl, hk, q⟩ := h
  refine ⟨_, pss_one (ps_ret (pe_and (pe_callB call_isi (by rfl) T.isi boot_isinstance (pa_cons (pv 0) (pa_cons (pe_bltn (v := .ty "int") (by rfl) T.int boot_int rfl) pa_nil)))
    (pe_one (pe_not (pe_callB call_isi (by rfl) T.isi boot_isinstance (pa_cons (pv 0) (pa_cons (pe_bltn (v := .ty "bool") (by rfl) T.bool boot_bool rfl) pa_nil))))))), ?_⟩
  obtain ⟨b1, b2, e1, e2, e3⟩ := kit_int d (K := K)
  rw [e3] at q
  refine ⟨_, rfl, v, V.ty "int", _, _, b1, rfl, .ty "int", (dp_ty hk), e1, b1, rfl, ?_⟩
  cases b1 with
  | false => exact iteF q
  | true => exact iteT ⟨_, rfl, v, V.ty "bool", _, _, b2, rfl, .ty "bool", (dp_ty hk), e2, b2, rfl, q⟩
theorem ok_withinG {f g : Addr} {fd gd : FuncData} (F : Fun K "is_whole_within" "is_whole_within" sWithin f fd) (W : Def P w K mg base "is_whole" ["thing"] 1 (spWholeG K) g gd) : FnOk P w K mg base CX0 2 f fd ["thing", "least", "most"] (spWithinG K) := by
  refine F.ok scWithin (fun vs H Q E h => ?_) (fun cdv A outer s H vs Q E hr h => ?_)
  · obtain ⟨v, d, lo, hi, rfl, _⟩ := h
    rfl
  obtain ⟨v, d, lo, hi, rfl, hk, q⟩ := h
  refine ⟨_, pss_one (ps_ret (pe_and (pe_call W.G hr rfl W.m W.k W.b .nil pass0 (pa_cons (pv 0) pa_nil)) (pe_one (pe_chain op_le op_le (pv 1) (pv 0) (pv 2))))), ?_⟩
  refine ⟨_, rfl, v, d, rfl, hk, isWholeD d, rfl, ?_⟩
  by_cases hw : ∃ n, d = .int n
  · obtain ⟨n, rfl⟩ := hw
    have ev : v = .int n := by
      cases hk; rfl
    subst ev
    refine iteT ⟨_, rfl, _, rfl, _, _, rfl, rfl, _, rfl, ?_⟩
    by_cases h1 : lo ≤ n
    · rw [decide_eq_true h1]
      refine iteT ⟨_, rfl, _, _, rfl, rfl, ?_⟩
      have e : within (.int n) lo hi = decide (n ≤ hi) := by unfold within; simp [h1]
      rw [e] at q
      exact q
    · rw [decide_eq_false h1]
      refine iteF ?_
      have e : within (.int n) lo hi = false := by unfold within; simp [h1]
      rw [e] at q
      exact q
  · have e1 : isWholeD d = false := by
      cases d with
      | int n => exact absurd ⟨n, rfl⟩ hw
      | _ => rfl
    have e2 : within d lo hi = false := by
      cases d with
      | int n => exact absurd ⟨n, rfl⟩ hw
      | _ => rfl
    rw [e1]
    rw [e2] at q
    exact iteF q
theorem ok_handG {f g : Addr} {fd gd : FuncData} (F : Fun K "is_hand" "is_hand" sHand f fd) (W : Def P w K mg base "is_whole_within" ["thing", "least", "most"] 2 (spWithinG K) g gd) : FnOk P w K mg base CX0 3 f fd ["thing"] (spHandG K) := by
  refine F.ok scHand (fun vs H Q E h => ?_) (fun cdv A outer s H vs Q E hr h => ?_)
  · obtain ⟨v, d, rfl, _⟩ := h
    rfl
  obtain ⟨v, d, rfl, hk, q⟩ := h
  refine ⟨_, pss_one (ps_ret (pe_call W.G hr rfl W.m W.k W.b .nil pass0 (pa_cons (pv 0) (pa_cons pe_int (pa_cons pe_int pa_nil))))), ?_⟩
  exact ⟨_, rfl, v, d, 0, 1, rfl, hk, q⟩
end
end TA

set_option Elab.async false
set_option maxRecDepth 100000
set_option maxHeartbeats 4000000
namespace TA
open PySem L2 PyProof.Rows
set_option linter.unusedVariables false
/-! a task's parts, of any data -/
theorem dpAll_get {K : PySem.W.Frag} {H : Hp} : ∀ {vs : List V} {ds : List PyData} {i : Nat} {x : V}, DpAll K H vs ds → vs[i]? = some x → ∃ d, ds[i]? = some d ∧ Dp K H x d
  | _, _, _, _, .nil, e => by simp at e
  | _, _, 0, _, .cons a b, e => ⟨_, rfl, by simp at e; rw [← e]; exact a⟩
  | _, _, i + 1, x, .cons a b, e => by
    obtain ⟨d, h1, h2⟩ := dpAll_get (i := i) (x := x) b (by simpa using e)
    exact ⟨d, by simpa using h1, h2⟩
theorem same_upd {H0 H : Hp} {p : Addr} {o : HO} (s : Same H0 H) (f : H0 p = none) : Same H0 (upd H p o) := fun b u e => by
  rw [upd_ne (ne_of_none e f)]
  exact s _ _ e
theorem take_bl (bs : List Bool) {i : Nat} {b : Bool} (h : bs[i]? = some b) : (bs.take i).map V.bl ++ [V.bl b] = (bs.take (i + 1)).map V.bl := by
  rw [List.take_add_one, h, List.map_append]
  rfl
def isLstD : PyData → Bool
  | .list _ => true
  | _ => false
theorem kit_lst (d : PyData) {K : PySem.W.Frag} : PySem.W.kitOne K (.type (tyN d)) (.type "list") = some (isLstD d) := by
  cases d with
  | none => exact (show PySem.W.kitOne K (.type "NoneType") (.type "list") = some false from kit_ty (by decide +kernel))
  | bool b => exact (show PySem.W.kitOne K (.type "bool") (.type "list") = some false from kit_ty (by decide +kernel))
  | int b => exact (show PySem.W.kitOne K (.type "int") (.type "list") = some false from kit_ty (by decide +kernel))
  | str b => exact (show PySem.W.kitOne K (.type "str") (.type "list") = some false from kit_ty (by decide +kernel))
  | list b => exact (show PySem.W.kitOne K (.type "list") (.type "list") = some true from kit_ty (by decide +kernel))
  | tuple b => exact (show PySem.W.kitOne K (.type "tuple") (.type "list") = some false from kit_ty (by decide +kernel))
  | dict b => exact (show PySem.W.kitOne K (.type "dict") (.type "list") = some false from kit_ty (by decide +kernel))
/-- what stands in a list of ints, one behind the other -/
def risI (ns : List Int) : Bool := ((List.range (ns.length - 1)).map fun i => decide (ns.getD i 0 < ns.getD (i + 1) 0)).all id
def intsOf : List PyData → List Int := List.map fun d => match d with
  | .int i => i
  | _ => 0
def outB (d : PyData) : Bool := within d 0 63
def outsB : PyData → Bool
  | .list ds => decide (0 < ds.length) && ((ds.map outB).all id && risI (intsOf ds))
  | _ => false
def rowsB : PyData → Bool
  | .list ds => decide (0 < ds.length) && (ds.map outsB).all id
  | _ => false
def aloneB : PyData → Bool
  | .list ds => decide (ds.length = 2) && (ds.map rowsB).all id
  | _ => false
theorem outs_ints {K : PySem.W.Frag} {H : Hp} : ∀ {ds : List PyData} {vs : List V}, DpAll K H vs ds → (ds.map outB).all id = true → vs = (intsOf ds).map V.int
  | [], _, h, _ => by cases h; rfl
  | d :: ds, _, h, a => by
    rw [List.map_cons, List.all_cons] at a
    obtain ⟨a1, a2⟩ := Bool.and_eq_true_iff.mp a
    cases h with
    | cons h1 h2 =>
      cases d with
      | int i =>
        cases h1
        rw [outs_ints h2 a2]
        rfl
      | _ => exact Bool.noConfusion (show false = true from a1)
def spOut (K : PySem.W.Frag) : Sp := fun vs H Q _ => ∃ (v : V) (d : PyData), vs = [v] ∧ Dp K H v d ∧ Q (.bl (outB d)) H
def spRisI (K : PySem.W.Frag) : Sp := fun vs H Q _ => ∃ (p : Addr) (ns : List Int), vs = [.ref p] ∧ SqL K H p (ns.map V.int) ∧ 1 ≤ ns.length ∧ ns.length ≤ 1000 ∧ ∀ H', Same H H' → Q (.bl (risI ns)) H'
def small (d : PyData) : Prop := ∀ ds, d = .list ds → ds.length ≤ 1000
def spOuts (K : PySem.W.Frag) : Sp := fun vs H Q _ => ∃ (v : V) (d : PyData), vs = [v] ∧ Dp K H v d ∧ small d ∧ ∀ H', Same H H' → Q (.bl (outsB d)) H'
def spRows (K : PySem.W.Frag) : Sp := fun vs H Q _ => ∃ (v : V) (d : PyData), vs = [v] ∧ Dp K H v d ∧ small d ∧ (∀ ds, d = .list ds → ∀ e ∈ ds, small e) ∧ ∀ H', Same H H' → Q (.bl (rowsB d)) H'
def spAlone (K : PySem.W.Frag) : Sp := fun vs H Q _ => ∃ (v : V) (d : PyData), vs = [v] ∧ Dp K H v d ∧ small d ∧ (∀ ds, d = .list ds → ∀ e ∈ ds, small e ∧ ∀ es, e = .list es → ∀ g ∈ es, small g) ∧ ∀ H', Same H H' → Q (.bl (aloneB d)) H'
section
variable {P : Program} {w : World} {K : PySem.W.Frag} {mg : Str → Option Value} {base : Heap}
theorem scOut : FnScope ["thing"] ["thing"] (defScope s_is_output) := ⟨rfl, rfl, rfl, by decide +kernel, rfl, by decide +kernel, by decide +kernel⟩
theorem ok_out {f g : Addr} {fd gd : FuncData} {t63 : Tok} (F : Fun K "is_output" "is_output" s_is_output f fd) (m63 : mg "MOST_OUTPUT" = some (.int 63 t63)) (W : Def P w K mg base "is_whole_within" ["thing", "least", "most"] 2 (spWithinG K) g gd) : FnOk P w K mg base CX0 3 f fd ["thing"] (spOut K) := by
  refine F.ok scOut (fun vs H Q E h => ?_) (fun cdv A outer s H vs Q E hr h => ?_)
  · obtain ⟨v, d, rfl, _⟩ := h
    rfl
  obtain ⟨v, d, rfl, hk, q⟩ := h
  refine ⟨_, pss_one (ps_ret (pe_call W.G hr rfl W.m W.k W.b .nil pass0 (pa_cons (pv 0) (pa_cons pe_int (pa_cons (pe_glob (v := .int 63) rfl m63 ⟨_, rfl⟩) pa_nil))))), ?_⟩
  exact ⟨_, rfl, v, d, 0, 63, rfl, hk, q⟩
theorem scRis : FnScope ["things", "at"] ["things"] (defScope s_is_rising) := ⟨rfl, rfl, rfl, by decide +kernel, rfl, by decide +kernel, by decide +kernel⟩
theorem ok_risI {f : Addr} {fd : FuncData} (F : Fun K "is_rising" "is_rising" s_is_rising f fd) (T : Txt K mg) : FnOk P w K mg base CX0 1 f fd ["things"] (spRisI K) := by
  refine F.ok scRis (fun vs H Q E h => ?_) (fun cdv A outer s H vs Q E hr h => ?_)
  · obtain ⟨p, ns, rfl, _⟩ := h
    rfl
  obtain ⟨p, ns, rfl, hS, n1, n2, q⟩ := h
  have nd := scRis.nd
  refine ⟨_, pss_one (ps_ret (pe_callB (cr_all rfl) (by rfl) T.all (by decide +kernel) (pa_cons
      (pe_lc (own := [("at", 1)]) (g := gName 1) (tt := tYes) (te := tOp (rI0 fun i j => .bl (decide (i < j))) (tOp (rIxL K) (tVar 0) (tVar 1)) (tOp (rIxL K) (tVar 0) (tOp (rI0 fun i j => .int (i + j)) (tVar 1) (tC (.int 1))))) rfl nd
        (pi_range1 (by rfl) T.range (pa_cons (pe_op op_sub (pe_callB call_len_seq (by rfl) T.len PySem.boot_len (pa_cons (pv 0) pa_nil)) pe_int) pa_nil))
        (blkOk_by (N := ["things", "at"]) (sc := defScope s_is_rising) (by decide +kernel)) (fun _ _ _ _ _ => pg_name (i := 1) nd rfl (Or.inl rfl)) (fun _ _ _ _ _ => pts_nil)
        (fun _ _ _ _ _ => (by refine pe_cmpR op_lt ?_ ?_ (nomark _); (exact pe_ix ix_list (pv 0) (pv 1) (fun _ _ => rfl)); (exact pe_ix ix_list (pv 0) (pe_op op_add (pv 1) pe_int) (fun _ _ => rfl))))) pa_nil))), ?_⟩
  refine ⟨_, rfl, p, _, rfl, .inl hS, _, _, rfl, rfl, ?_⟩
  rw [List.length_map]
  have e1 : ((ns.length : Nat) : Int) - 1 = ((ns.length - 1 : Nat) : Int) := by omega
  refine ⟨((ns.length - 1 : Nat) : Int), congrArg (fun z => [V.int z]) e1, by omega, by omega, fun D hD => ?_⟩
  refine range_turns (n := ns.length - 1) (fun i H' => Same H H' ∧ H' D = some (.lst ((((List.range (ns.length - 1)).map fun i => decide (ns.getD i 0 < ns.getD (i + 1) 0)).take i).map V.bl))) ⟨same_new hD _, upd_same⟩ ?_ ?_
  · rintro i H' hi ⟨s1, h1⟩
    have ei : (0 : Int) + (i : Int) = (i : Int) := by omega
    rw [ei]
    have g0 : ns[i]? = some (ns.getD i 0) := by rw [List.getD_eq_getElem?_getD, List.getElem?_eq_getElem (by omega)]; rfl
    have g1 : ns[i + 1]? = some (ns.getD (i + 1) 0) := by rw [List.getD_eq_getElem?_getD, List.getElem?_eq_getElem (by omega)]; rfl
    have hb : ((List.range (ns.length - 1)).map fun i => decide (ns.getD i 0 < ns.getD (i + 1) 0))[i]? = some (decide (ns.getD i 0 < ns.getD (i + 1) 0)) := by
      rw [List.getElem?_map, List.getElem?_range hi]; rfl
    refine ⟨rfl, _, rfl, _, rfl, p, _, _, _, rfl, rfl, s1.seq hS, atI_nat (by rw [List.getElem?_map, g0]; rfl), _, rfl, _, rfl, _, _, rfl, rfl, p, _, _, _, rfl, rfl, s1.seq hS, (by rw [show (i : Int) + 1 = ((i + 1 : Nat) : Int) by omega]; exact atI_nat (by rw [List.getElem?_map, g1]; rfl)), _, _, rfl, rfl, _, h1, ?_, same_upd s1 hD, by rw [upd_same, take_bl _ hb]⟩
    rw [List.length_map]
    exact Nat.lt_of_le_of_lt (List.length_take_le _ _) (Nat.lt_of_lt_of_le hi (Nat.le_trans (by omega) (show 1000 ≤ sizeLine by decide)))
  · rintro H' ⟨s1, h1⟩
    rw [List.take_of_length_le (by rw [List.length_map, List.length_range]; exact Nat.le_refl _)] at h1
    exact ⟨D, _, rfl, SqL.of h1, q _ s1⟩
theorem scOuts : FnScope ["thing", "x"] ["thing"] (defScope s_is_outputs) := ⟨rfl, rfl, rfl, by decide +kernel, rfl, by decide +kernel, by decide +kernel⟩
theorem ok_outs {f g1 g2 : Addr} {fd d1 d2 : FuncData} (F : Fun K "is_outputs" "is_outputs" s_is_outputs f fd) (T : Txt K mg) (W : Def P w K mg base "is_output" ["thing"] 3 (spOut K) g1 d1) (R : Def P w K mg base "is_rising" ["things"] 1 (spRisI K) g2 d2) : FnOk P w K mg base CX0 4 f fd ["thing"] (spOuts K) := by
  refine F.ok scOuts (fun vs H Q E h => ?_) (fun cdv A outer s H vs Q E hr h => ?_)
  · obtain ⟨v, d, rfl, _⟩ := h
    rfl
  obtain ⟨v, d, rfl, hk, hz, q⟩ := h
  have nd := scOuts.nd
  refine ⟨_, pss_one (ps_ret (pe_and (pe_callB call_isi (by rfl) T.isi boot_isinstance (pa_cons (pv 0) (pa_cons (pe_bltn (v := .ty "list") (by rfl) T.list boot_list rfl) pa_nil)))
    (pe_and (pe_cmpR op_gt (pe_callB call_len_seq (by rfl) T.len PySem.boot_len (pa_cons (pv 0) pa_nil)) pe_int (nomark _))
    (pe_and (pe_callB (cr_all rfl) (by rfl) T.all (by decide +kernel) (pa_cons
      (pe_lc (own := [("x", 1)]) (g := gName 1) (tt := tYes) (te := tCall (spOut K) [] E0 (tCons (tVar 1) tNil)) rfl nd (pi_list (pv 0)) (blkOk_by (N := ["thing", "x"]) (sc := defScope s_is_outputs) (by decide +kernel)) (fun _ _ _ _ _ => pg_name (i := 1) nd rfl (Or.inl rfl)) (fun _ _ _ _ _ => pts_nil)
        (fun _ _ _ _ _ => (by exact pe_call W.G hr rfl W.m W.k W.b .nil pass0 (pa_cons (pv 1) pa_nil)))) pa_nil))
    (pe_one (pe_call R.G (hr.mono (by decide)) rfl R.m R.k R.b .nil pass0 (pa_cons (pv 0) pa_nil))))))), ?_⟩
  refine ⟨_, rfl, v, .ty "list", _, _, isLstD d, rfl, .ty "list", dp_ty hk, kit_lst d, _, rfl, ?_⟩
  cases cl : isLstD d with
  | false =>
    have : outsB d = false := by cases d <;> first | rfl | cases cl
    rw [this] at q
    exact iteF (q _ (Same.refl H))
  | true =>
    obtain ⟨ds, rfl⟩ : ∃ ds, d = .list ds := by cases d <;> first | exact ⟨_, rfl⟩ | cases cl
    obtain ⟨p, vs, rfl, hS, hD⟩ : ∃ t vs, v = .ref t ∧ SqL K H t vs ∧ DpAll K H vs ds := by
      cases hk with
      | lst a b => exact ⟨_, _, rfl, a, b⟩
    have hl := dpAll_len hD
    have hds := hz ds rfl
    have eO : outsB (.list ds) = (decide (0 < ds.length) && ((ds.map outB).all id && risI (intsOf ds))) := rfl
    refine iteT ⟨_, rfl, p, _, rfl, .inl hS, _, _, rfl, rfl, ?_⟩
    by_cases c : 0 < ds.length
    case neg =>
      rw [eO, decide_eq_false c, Bool.false_and] at q
      refine ⟨_, rfl, iteF' (decide_eq_false (by omega)) ?_⟩
      exact q _ (Same.refl H)
    rw [eO, decide_eq_true c, Bool.true_and] at q
    refine ⟨_, rfl, iteT' (decide_eq_true (by omega)) ?_⟩
    refine ⟨_, rfl, p, rfl, ⟨_, hS⟩, fun D hD' => ?_⟩
    refine list_turns (xs := vs) (fun i H' => Same H H' ∧ H' D = some (.lst (((ds.map outB).take i).map V.bl))) ⟨same_new hD' _, upd_same⟩ (fun i H' _ h => h.1.seq hS) ?_ ?_
    · rintro i x H' hx ⟨s1, h1⟩
      obtain ⟨di, hdi, hxi⟩ := dpAll_get hD hx
      have hi : i < ds.length := (List.getElem?_eq_some_iff.mp hdi).1
      have hb : (ds.map outB)[i]? = some (outB di) := by rw [List.getElem?_map, hdi]; rfl
      refine ⟨rfl, _, rfl, x, di, rfl, dp_mono s1 _ _ hxi, _, h1, ?_, same_upd s1 hD', by rw [upd_same, take_bl _ hb]⟩
      rw [List.length_map]
      exact Nat.lt_of_le_of_lt (List.length_take_le _ _) (Nat.lt_of_lt_of_le hi (Nat.le_trans hds (by decide)))
    · rintro H1 ⟨s1, h1⟩
      rw [hl, ← List.length_map (f := outB), List.take_length] at h1
      refine ⟨D, _, rfl, SqL.of h1, _, rfl, ?_⟩
      cases ca : (ds.map outB).all id with
      | false =>
        rw [ca, Bool.false_and] at q
        exact iteF (q _ s1)
      | true =>
        rw [ca, Bool.true_and] at q
        have ev := outs_ints hD ca
        have hS' : SqL K H1 p ((intsOf ds).map V.int) := by rw [← ev]; exact s1.seq hS
        have li : (intsOf ds).length = ds.length := List.length_map _
        exact iteT ⟨_, rfl, p, intsOf ds, rfl, hS', by omega, by omega, fun H2 s2 => q _ (s1.trans s2)⟩
theorem sc_rows : FnScope ["thing", "outputs"] ["thing"] (defScope s_is_rows) := ⟨rfl, rfl, rfl, by decide +kernel, rfl, by decide +kernel, by decide +kernel⟩
theorem ok_rows {f g1 : Addr} {fd d1 : FuncData} (F : Fun K "is_rows" "is_rows" s_is_rows f fd) (T : Txt K mg) (W : Def P w K mg base "is_outputs" ["thing"] 4 (spOuts K) g1 d1) : FnOk P w K mg base CX0 5 f fd ["thing"] (spRows K) := by
  refine F.ok sc_rows (fun vs H Q E h => ?_) (fun cdv A outer s H vs Q E hr h => ?_)
  · obtain ⟨v, d, rfl, _⟩ := h
    rfl
  obtain ⟨v, d, rfl, hk, hz, hin, q⟩ := h
  have nd := sc_rows.nd
  refine ⟨_, pss_one (ps_ret (pe_and (pe_callB call_isi (by rfl) T.isi boot_isinstance (pa_cons (pv 0) (pa_cons (pe_bltn (v := .ty "list") (by rfl) T.list boot_list rfl) pa_nil)))
    (pe_and (pe_cmpR op_gt (pe_callB call_len_seq (by rfl) T.len PySem.boot_len (pa_cons (pv 0) pa_nil)) pe_int (nomark _))
    (pe_one (pe_callB (cr_all rfl) (by rfl) T.all (by decide +kernel) (pa_cons
      (pe_lc (own := [("outputs", 1)]) (g := gName 1) (tt := tYes) (te := tCall (spOuts K) [] E0 (tCons (tVar 1) tNil)) rfl nd (pi_list (pv 0)) (blkOk_by (N := ["thing", "outputs"]) (sc := defScope s_is_rows) (by decide +kernel)) (fun _ _ _ _ _ => pg_name (i := 1) nd rfl (Or.inl rfl)) (fun _ _ _ _ _ => pts_nil)
        (fun _ _ _ _ _ => (by exact pe_call W.G hr rfl W.m W.k W.b .nil pass0 (pa_cons (pv 1) pa_nil)))) pa_nil)))))), ?_⟩
  refine ⟨_, rfl, v, .ty "list", _, _, isLstD d, rfl, .ty "list", dp_ty hk, kit_lst d, _, rfl, ?_⟩
  cases cl : isLstD d with
  | false =>
    have : rowsB d = false := by cases d <;> first | rfl | cases cl
    rw [this] at q
    exact iteF (q _ (Same.refl H))
  | true =>
    obtain ⟨ds, rfl⟩ : ∃ ds, d = .list ds := by cases d <;> first | exact ⟨_, rfl⟩ | cases cl
    obtain ⟨p, vs, rfl, hS, hD⟩ : ∃ t vs, v = .ref t ∧ SqL K H t vs ∧ DpAll K H vs ds := by
      cases hk with
      | lst a b => exact ⟨_, _, rfl, a, b⟩
    have hl := dpAll_len hD
    have hds := hz ds rfl
    have eO : rowsB (.list ds) = (decide (0 < ds.length) && (ds.map outsB).all id) := rfl
    refine iteT ⟨_, rfl, p, _, rfl, .inl hS, _, _, rfl, rfl, ?_⟩
    by_cases c : 0 < ds.length
    case neg =>
      rw [eO, decide_eq_false c, Bool.false_and] at q
      refine ⟨_, rfl, iteF' (decide_eq_false (by omega)) ?_⟩
      exact q _ (Same.refl H)
    rw [eO, decide_eq_true c, Bool.true_and] at q
    refine ⟨_, rfl, iteT' (decide_eq_true (by omega)) ?_⟩
    refine ⟨_, rfl, p, rfl, ⟨_, hS⟩, fun D hD' => ?_⟩
    refine list_turns (xs := vs) (fun i H' => Same H H' ∧ H' D = some (.lst (((ds.map outsB).take i).map V.bl))) ⟨same_new hD' _, upd_same⟩ (fun i H' _ h => h.1.seq hS) ?_ ?_
    · rintro i x H' hx ⟨s1, h1⟩
      obtain ⟨di, hdi, hxi⟩ := dpAll_get hD hx
      have hi : i < ds.length := (List.getElem?_eq_some_iff.mp hdi).1
      have hb : (ds.map outsB)[i]? = some (outsB di) := by rw [List.getElem?_map, hdi]; rfl
      refine ⟨rfl, _, rfl, x, di, rfl, dp_mono s1 _ _ hxi, hin ds rfl di (List.mem_of_getElem? hdi), fun H2 s2 => ⟨_, s2 _ _ h1, ?_, same_upd (s1.trans s2) hD', by rw [upd_same, take_bl _ hb]⟩⟩
      rw [List.length_map]
      exact Nat.lt_of_le_of_lt (List.length_take_le _ _) (Nat.lt_of_lt_of_le hi (Nat.le_trans hds (by decide)))
    · rintro H1 ⟨s1, h1⟩
      rw [hl, ← List.length_map (f := outsB), List.take_length] at h1
      exact ⟨D, _, rfl, SqL.of h1, q _ s1⟩
theorem sc_alone : FnScope ["thing", "rows"] ["thing"] (defScope s_is_alone) := ⟨rfl, rfl, rfl, by decide +kernel, rfl, by decide +kernel, by decide +kernel⟩
theorem ok_alone {f g1 : Addr} {fd d1 : FuncData} (F : Fun K "is_alone" "is_alone" s_is_alone f fd) (T : Txt K mg) (W : Def P w K mg base "is_rows" ["thing"] 5 (spRows K) g1 d1) : FnOk P w K mg base CX0 6 f fd ["thing"] (spAlone K) := by
  refine F.ok sc_alone (fun vs H Q E h => ?_) (fun cdv A outer s H vs Q E hr h => ?_)
  · obtain ⟨v, d, rfl, _⟩ := h
    rfl
  obtain ⟨v, d, rfl, hk, hz, hin, q⟩ := h
  have nd := sc_alone.nd
  refine ⟨_, pss_one (ps_ret (pe_and (pe_callB call_isi (by rfl) T.isi boot_isinstance (pa_cons (pv 0) (pa_cons (pe_bltn (v := .ty "list") (by rfl) T.list boot_list rfl) pa_nil)))
    (pe_and (pe_cmpR op_eq (pe_callB call_len_seq (by rfl) T.len PySem.boot_len (pa_cons (pv 0) pa_nil)) pe_int (nomark _))
    (pe_one (pe_callB (cr_all rfl) (by rfl) T.all (by decide +kernel) (pa_cons
      (pe_lc (own := [("rows", 1)]) (g := gName 1) (tt := tYes) (te := tCall (spRows K) [] E0 (tCons (tVar 1) tNil)) rfl nd (pi_list (pv 0)) (blkOk_by (N := ["thing", "rows"]) (sc := defScope s_is_alone) (by decide +kernel)) (fun _ _ _ _ _ => pg_name (i := 1) nd rfl (Or.inl rfl)) (fun _ _ _ _ _ => pts_nil)
        (fun _ _ _ _ _ => (by exact pe_call W.G hr rfl W.m W.k W.b .nil pass0 (pa_cons (pv 1) pa_nil)))) pa_nil)))))), ?_⟩
  refine ⟨_, rfl, v, .ty "list", _, _, isLstD d, rfl, .ty "list", dp_ty hk, kit_lst d, _, rfl, ?_⟩
  cases cl : isLstD d with
  | false =>
    have : aloneB d = false := by cases d <;> first | rfl | cases cl
    rw [this] at q
    exact iteF (q _ (Same.refl H))
  | true =>
    obtain ⟨ds, rfl⟩ : ∃ ds, d = .list ds := by cases d <;> first | exact ⟨_, rfl⟩ | cases cl
    obtain ⟨p, vs, rfl, hS, hD⟩ : ∃ t vs, v = .ref t ∧ SqL K H t vs ∧ DpAll K H vs ds := by
      cases hk with
      | lst a b => exact ⟨_, _, rfl, a, b⟩
    have hl := dpAll_len hD
    have hds := hz ds rfl
    have eO : aloneB (.list ds) = (decide (ds.length = 2) && (ds.map rowsB).all id) := rfl
    refine iteT ⟨_, rfl, p, _, rfl, .inl hS, rfl, _, rfl, ?_⟩
    by_cases c : ds.length = 2
    case neg =>
      rw [eO, decide_eq_false c, Bool.false_and] at q
      refine iteF' (decide_eq_false fun e => by injection e with e; omega) ?_
      exact q _ (Same.refl H)
    rw [eO, decide_eq_true c, Bool.true_and] at q
    refine iteT' (decide_eq_true (by rw [hl, c]; rfl)) ?_
    refine ⟨_, rfl, p, rfl, ⟨_, hS⟩, fun D hD' => ?_⟩
    refine list_turns (xs := vs) (fun i H' => Same H H' ∧ H' D = some (.lst (((ds.map rowsB).take i).map V.bl))) ⟨same_new hD' _, upd_same⟩ (fun i H' _ h => h.1.seq hS) ?_ ?_
    · rintro i x H' hx ⟨s1, h1⟩
      obtain ⟨di, hdi, hxi⟩ := dpAll_get hD hx
      have hi : i < ds.length := (List.getElem?_eq_some_iff.mp hdi).1
      have hb : (ds.map rowsB)[i]? = some (rowsB di) := by rw [List.getElem?_map, hdi]; rfl
      refine ⟨rfl, _, rfl, x, di, rfl, dp_mono s1 _ _ hxi, (hin ds rfl di (List.mem_of_getElem? hdi)).1, (hin ds rfl di (List.mem_of_getElem? hdi)).2, fun H2 s2 => ⟨_, s2 _ _ h1, ?_, same_upd (s1.trans s2) hD', by rw [upd_same, take_bl _ hb]⟩⟩
      rw [List.length_map]
      exact Nat.lt_of_le_of_lt (List.length_take_le _ _) (Nat.lt_of_lt_of_le hi (Nat.le_trans hds (by decide)))
    · rintro H1 ⟨s1, h1⟩
      rw [hl, ← List.length_map (f := rowsB), List.take_length] at h1
      exact ⟨D, _, rfl, SqL.of h1, q _ s1⟩
end
end TA

set_option Elab.async false
set_option maxRecDepth 100000
set_option maxHeartbeats 4000000
namespace TA
open PySem L2 PyProof.Rows
set_option linter.unusedVariables false
def pairB : PyData → Bool
  | .tuple ds => decide (ds.length = 2) && (ds.map outB).all id
  | _ => false
def pairOf : PyData → List Int
  | .tuple ds => intsOf ds
  | _ => []
def risP (ps : List (List Int)) : Bool := ((List.range (ps.length - 1)).map fun i => HT.lexLt (ps.getD i []) (ps.getD (i + 1) [])).all id
def letB : PyData → Bool
  | .list ds => decide (0 < ds.length) && ((ds.map pairB).all id && risP (ds.map pairOf))
  | _ => false
def spPairB (K : PySem.W.Frag) : Sp := fun vs H Q _ => ∃ (v : V) (d : PyData), vs = [v] ∧ Dp K H v d ∧ ∀ H', Same H H' → Q (.bl (pairB d)) H'
/-- pairs of ints stand at these places -/
def PairsAt (K : PySem.W.Frag) (H : Hp) (xs : List V) (ps : List (List Int)) : Prop := xs.length = ps.length ∧ ∀ i : Nat, i < ps.length → ∃ a, xs[i]? = some (.ref a) ∧ SqT K H a ((ps.getD i []).map V.int)
def spRisP (K : PySem.W.Frag) : Sp := fun vs H Q _ => ∃ (p : Addr) (xs : List V) (ps : List (List Int)), vs = [.ref p] ∧ SqL K H p xs ∧ PairsAt K H xs ps ∧ 1 ≤ ps.length ∧ ps.length ≤ 1000 ∧ ∀ H', Same H H' → Q (.bl (risP ps)) H'
def spLetB (K : PySem.W.Frag) : Sp := fun vs H Q _ => ∃ (v : V) (d : PyData), vs = [v] ∧ Dp K H v d ∧ small d ∧ ∀ H', Same H H' → Q (.bl (letB d)) H'
theorem pairs_at {K : PySem.W.Frag} {H : Hp} {ds : List PyData} {vs : List V} (h : DpAll K H vs ds) (a : (ds.map pairB).all id = true) : PairsAt K H vs (ds.map pairOf) := by
  refine ⟨by rw [List.length_map]; exact dpAll_len h, fun i hi => ?_⟩
  rw [List.length_map] at hi
  have hl := dpAll_len h
  obtain ⟨d, hd, hx⟩ := dpAll_get h (List.getElem?_eq_getElem (show i < vs.length by omega))
  have hb : pairB d = true := by
    have := List.all_eq_true.mp a (pairB d) (List.mem_map.mpr ⟨d, List.mem_of_getElem? hd, rfl⟩)
    exact this
  cases d with
  | tuple es =>
    obtain ⟨_, b2⟩ := Bool.and_eq_true_iff.mp (show (decide (es.length = 2) && (es.map outB).all id) = true from hb)
    obtain ⟨t, xs, ex, ht, hes⟩ := dp_tup hx
    refine ⟨t, by rw [List.getElem?_eq_getElem (show i < vs.length by omega), ex], ?_⟩
    have e : (ds.map pairOf).getD i [] = intsOf es := by
      rw [List.getD_eq_getElem?_getD, List.getElem?_map, hd]; rfl
    rw [e, ← outs_ints hes b2]
    exact ht
  | _ => cases hb
section
variable {P : Program} {w : World} {K : PySem.W.Frag} {mg : Str → Option Value} {base : Heap}
theorem sc_outpair : FnScope ["thing", "x"] ["thing"] (defScope s_is_output_pair) := ⟨rfl, rfl, rfl, by decide +kernel, rfl, by decide +kernel, by decide +kernel⟩
theorem ok_outpair {f g1 : Addr} {fd d1 : FuncData} (F : Fun K "is_output_pair" "is_output_pair" s_is_output_pair f fd) (T : Txt K mg) (W : Def P w K mg base "is_output" ["thing"] 3 (spOut K) g1 d1) : FnOk P w K mg base CX0 4 f fd ["thing"] (spPairB K) := by
  refine F.ok sc_outpair (fun vs H Q E h => ?_) (fun cdv A outer s H vs Q E hr h => ?_)
  · obtain ⟨v, d, rfl, _⟩ := h
    rfl
  obtain ⟨v, d, rfl, hk, q⟩ := h
  have nd := sc_outpair.nd
  refine ⟨_, pss_one (ps_ret (pe_and (pe_callB call_isi (by rfl) T.isi boot_isinstance (pa_cons (pv 0) (pa_cons (pe_bltn (v := .ty "tuple") (by rfl) T.tuple boot_tuple rfl) pa_nil)))
    (pe_and (pe_cmpR op_eq (pe_callB call_len_seq (by rfl) T.len PySem.boot_len (pa_cons (pv 0) pa_nil)) pe_int (nomark _))
    (pe_one (pe_callB (cr_all rfl) (by rfl) T.all (by decide +kernel) (pa_cons
      (pe_lc (own := [("x", 1)]) (g := gName 1) (tt := tYes) (te := tCall (spOut K) [] E0 (tCons (tVar 1) tNil)) rfl nd (pi_tup (pv 0)) (blkOk_by (N := ["thing", "x"]) (sc := defScope s_is_output_pair) (by decide +kernel)) (fun _ _ _ _ _ => pg_name (i := 1) nd rfl (Or.inl rfl)) (fun _ _ _ _ _ => pts_nil)
        (fun _ _ _ _ _ => (by exact pe_call W.G hr rfl W.m W.k W.b .nil pass0 (pa_cons (pv 1) pa_nil)))) pa_nil)))))), ?_⟩
  refine ⟨_, rfl, v, .ty "tuple", _, _, isTupD d, rfl, .ty "tuple", dp_ty hk, kit_tup d, _, rfl, ?_⟩
  cases cl : isTupD d with
  | false =>
    have : pairB d = false := by cases d <;> first | rfl | cases cl
    rw [this] at q
    exact iteF (q _ (Same.refl H))
  | true =>
    obtain ⟨ds, rfl⟩ : ∃ ds, d = .tuple ds := by cases d <;> first | exact ⟨_, rfl⟩ | cases cl
    obtain ⟨p, vs, rfl, hS, hD⟩ := dp_tup hk
    have hl := dpAll_len hD
    have eO : pairB (.tuple ds) = (decide (ds.length = 2) && (ds.map outB).all id) := rfl
    refine iteT ⟨_, rfl, p, _, rfl, .inr hS, rfl, _, rfl, ?_⟩
    by_cases c : ds.length = 2
    case neg =>
      rw [eO, decide_eq_false c, Bool.false_and] at q
      refine iteF' (decide_eq_false fun e => by injection e with e; omega) ?_
      exact q _ (Same.refl H)
    rw [eO, decide_eq_true c, Bool.true_and] at q
    refine iteT' (decide_eq_true (by rw [hl, c]; rfl)) ?_
    refine ⟨_, rfl, p, rfl, ⟨_, hS⟩, fun D hD' => ?_⟩
    refine tup_turns (xs := vs) (fun i H' => Same H H' ∧ H' D = some (.lst (((ds.map outB).take i).map V.bl))) ⟨same_new hD' _, upd_same⟩ (fun i H' _ h => seqT_mono h.1 hS) ?_ ?_
    · rintro i x H' hx ⟨s1, h1⟩
      obtain ⟨di, hdi, hxi⟩ := dpAll_get hD hx
      have hi : i < ds.length := (List.getElem?_eq_some_iff.mp hdi).1
      have hb : (ds.map outB)[i]? = some (outB di) := by rw [List.getElem?_map, hdi]; rfl
      refine ⟨rfl, _, rfl, x, di, rfl, dp_mono s1 _ _ hxi, _, h1, ?_, same_upd s1 hD', by rw [upd_same, take_bl _ hb]⟩
      rw [List.length_map]
      exact Nat.lt_of_le_of_lt (List.length_take_le _ _) (Nat.lt_of_lt_of_le hi (by rw [c]; decide))
    · rintro H1 ⟨s1, h1⟩
      rw [hl, ← List.length_map (f := outB), List.take_length] at h1
      exact ⟨D, _, rfl, SqL.of h1, q _ s1⟩
theorem ok_risP {f : Addr} {fd : FuncData} (F : Fun K "is_rising" "is_rising" s_is_rising f fd) (T : Txt K mg) : FnOk P w K mg base CX0 1 f fd ["things"] (spRisP K) := by
  refine F.ok scRis (fun vs H Q E h => ?_) (fun cdv A outer s H vs Q E hr h => ?_)
  · obtain ⟨p, xs, ps, rfl, _⟩ := h
    rfl
  obtain ⟨p, xs, ps, rfl, hS, ⟨hl, hp⟩, n1, n2, q⟩ := h
  have nd := scRis.nd
  refine ⟨_, pss_one (ps_ret (pe_callB (cr_all rfl) (by rfl) T.all (by decide +kernel) (pa_cons
      (pe_lc (own := [("at", 1)]) (g := gName 1) (tt := tYes) (te := tOp (rLtT K) (tOp (rIxL K) (tVar 0) (tVar 1)) (tOp (rIxL K) (tVar 0) (tOp (rI0 fun i j => .int (i + j)) (tVar 1) (tC (.int 1))))) rfl nd
        (pi_range1 (by rfl) T.range (pa_cons (pe_op op_sub (pe_callB call_len_seq (by rfl) T.len PySem.boot_len (pa_cons (pv 0) pa_nil)) pe_int) pa_nil))
        (blkOk_by (N := ["things", "at"]) (sc := defScope s_is_rising) (by decide +kernel)) (fun _ _ _ _ _ => pg_name (i := 1) nd rfl (Or.inl rfl)) (fun _ _ _ _ _ => pts_nil)
        (fun _ _ _ _ _ => (by refine pe_cmpR (op_ltT ?_) ?_ ?_ (nomark _); (have := hr.un; show (A.deeper (envOfC "is_rising" (defScope s_is_rising) s.heap.objs.size f cdv)).units < cLine; omega); (exact pe_ix ix_list (pv 0) (pv 1) (fun _ _ => rfl)); (exact pe_ix ix_list (pv 0) (pe_op op_add (pv 1) pe_int) (fun _ _ => rfl))))) pa_nil))), ?_⟩
  refine ⟨_, rfl, p, _, rfl, .inl hS, _, _, rfl, rfl, ?_⟩
  rw [hl]
  have e1 : ((ps.length : Nat) : Int) - 1 = ((ps.length - 1 : Nat) : Int) := by omega
  refine ⟨((ps.length - 1 : Nat) : Int), congrArg (fun z => [V.int z]) e1, by omega, by omega, fun D hD => ?_⟩
  refine range_turns (n := ps.length - 1) (fun i H' => Same H H' ∧ H' D = some (.lst ((((List.range (ps.length - 1)).map fun i => HT.lexLt (ps.getD i []) (ps.getD (i + 1) [])).take i).map V.bl))) ⟨same_new hD _, upd_same⟩ ?_ ?_
  · rintro i H' hi ⟨s1, h1⟩
    have ei : (0 : Int) + (i : Int) = (i : Int) := by omega
    rw [ei]
    obtain ⟨a0, g0, t0⟩ := hp i (by omega)
    obtain ⟨a1, g1, t1⟩ := hp (i + 1) (by omega)
    have hb : ((List.range (ps.length - 1)).map fun i => HT.lexLt (ps.getD i []) (ps.getD (i + 1) []))[i]? = some (HT.lexLt (ps.getD i []) (ps.getD (i + 1) [])) := by
      rw [List.getElem?_map, List.getElem?_range hi]; rfl
    refine ⟨rfl, _, rfl, _, rfl, p, _, _, _, rfl, rfl, s1.seq hS, atI_nat g0, _, rfl, _, rfl, _, _, rfl, rfl, p, _, _, _, rfl, rfl, s1.seq hS, (by rw [show (i : Int) + 1 = ((i + 1 : Nat) : Int) by omega]; exact atI_nat g1), a0, a1, _, _, rfl, rfl, seqT_mono s1 t0, seqT_mono s1 t1, _, h1, ?_, same_upd s1 hD, by rw [upd_same, take_bl _ hb]⟩
    rw [List.length_map]
    exact Nat.lt_of_le_of_lt (List.length_take_le _ _) (Nat.lt_of_lt_of_le hi (Nat.le_trans (by omega) (show 1000 ≤ sizeLine by decide)))
  · rintro H' ⟨s1, h1⟩
    rw [List.take_of_length_le (by rw [List.length_map, List.length_range]; exact Nat.le_refl _)] at h1
    exact ⟨D, _, rfl, SqL.of h1, q _ s1⟩
end
end TA

set_option Elab.async false
set_option maxRecDepth 100000
set_option maxHeartbeats 4000000
namespace TA
open PySem L2 PyProof.Rows
set_option linter.unusedVariables false
section
variable {P : Program} {w : World} {K : PySem.W.Frag} {mg : Str → Option Value} {base : Heap}
theorem sc_let : FnScope ["thing", "x"] ["thing"] (defScope s_is_let) := ⟨rfl, rfl, rfl, by decide +kernel, rfl, by decide +kernel, by decide +kernel⟩
theorem ok_let {f g1 g2 : Addr} {fd d1 d2 : FuncData} (F : Fun K "is_let" "is_let" s_is_let f fd) (T : Txt K mg) (W : Def P w K mg base "is_output_pair" ["thing"] 4 (spPairB K) g1 d1) (R : Def P w K mg base "is_rising" ["things"] 1 (spRisP K) g2 d2) : FnOk P w K mg base CX0 5 f fd ["thing"] (spLetB K) := by
  refine F.ok sc_let (fun vs H Q E h => ?_) (fun cdv A outer s H vs Q E hr h => ?_)
  · obtain ⟨v, d, rfl, _⟩ := h
    rfl
  obtain ⟨v, d, rfl, hk, hz, q⟩ := h
  have nd := sc_let.nd
  refine ⟨_, pss_one (ps_ret (pe_and (pe_callB call_isi (by rfl) T.isi boot_isinstance (pa_cons (pv 0) (pa_cons (pe_bltn (v := .ty "list") (by rfl) T.list boot_list rfl) pa_nil)))
    (pe_and (pe_cmpR op_gt (pe_callB call_len_seq (by rfl) T.len PySem.boot_len (pa_cons (pv 0) pa_nil)) pe_int (nomark _))
    (pe_and (pe_callB (cr_all rfl) (by rfl) T.all (by decide +kernel) (pa_cons
      (pe_lc (own := [("x", 1)]) (g := gName 1) (tt := tYes) (te := tCall (spPairB K) [] E0 (tCons (tVar 1) tNil)) rfl nd (pi_list (pv 0)) (blkOk_by (N := ["thing", "x"]) (sc := defScope s_is_let) (by decide +kernel)) (fun _ _ _ _ _ => pg_name (i := 1) nd rfl (Or.inl rfl)) (fun _ _ _ _ _ => pts_nil)
        (fun _ _ _ _ _ => (by exact pe_call W.G hr rfl W.m W.k W.b .nil pass0 (pa_cons (pv 1) pa_nil)))) pa_nil))
    (pe_one (pe_call R.G (hr.mono (by decide)) rfl R.m R.k R.b .nil pass0 (pa_cons (pv 0) pa_nil))))))), ?_⟩
  refine ⟨_, rfl, v, .ty "list", _, _, isLstD d, rfl, .ty "list", dp_ty hk, kit_lst d, _, rfl, ?_⟩
  cases cl : isLstD d with
  | false =>
    have : letB d = false := by cases d <;> first | rfl | cases cl
    rw [this] at q
    exact iteF (q _ (Same.refl H))
  | true =>
    obtain ⟨ds, rfl⟩ : ∃ ds, d = .list ds := by cases d <;> first | exact ⟨_, rfl⟩ | cases cl
    obtain ⟨p, vs, rfl, hS, hD⟩ : ∃ t vs, v = .ref t ∧ SqL K H t vs ∧ DpAll K H vs ds := by
      cases hk with
      | lst a b => exact ⟨_, _, rfl, a, b⟩
    have hl := dpAll_len hD
    have hds := hz ds rfl
    have eO : letB (.list ds) = (decide (0 < ds.length) && ((ds.map pairB).all id && risP (ds.map pairOf))) := rfl
    refine iteT ⟨_, rfl, p, _, rfl, .inl hS, _, _, rfl, rfl, ?_⟩
    by_cases c : 0 < ds.length
    case neg =>
      rw [eO, decide_eq_false c, Bool.false_and] at q
      refine ⟨_, rfl, iteF' (decide_eq_false (by omega)) ?_⟩
      exact q _ (Same.refl H)
    rw [eO, decide_eq_true c, Bool.true_and] at q
    refine ⟨_, rfl, iteT' (decide_eq_true (by omega)) ?_⟩
    refine ⟨_, rfl, p, rfl, ⟨_, hS⟩, fun D hD' => ?_⟩
    refine list_turns (xs := vs) (fun i H' => Same H H' ∧ H' D = some (.lst (((ds.map pairB).take i).map V.bl))) ⟨same_new hD' _, upd_same⟩ (fun i H' _ h => h.1.seq hS) ?_ ?_
    · rintro i x H' hx ⟨s1, h1⟩
      obtain ⟨di, hdi, hxi⟩ := dpAll_get hD hx
      have hi : i < ds.length := (List.getElem?_eq_some_iff.mp hdi).1
      have hb : (ds.map pairB)[i]? = some (pairB di) := by rw [List.getElem?_map, hdi]; rfl
      refine ⟨rfl, _, rfl, x, di, rfl, dp_mono s1 _ _ hxi, fun H2 s2 => ⟨_, s2 _ _ h1, ?_, same_upd (s1.trans s2) hD', by rw [upd_same, take_bl _ hb]⟩⟩
      rw [List.length_map]
      exact Nat.lt_of_le_of_lt (List.length_take_le _ _) (Nat.lt_of_lt_of_le hi (Nat.le_trans hds (by decide)))
    · rintro H1 ⟨s1, h1⟩
      rw [hl, ← List.length_map (f := pairB), List.take_length] at h1
      refine ⟨D, _, rfl, SqL.of h1, _, rfl, ?_⟩
      cases ca : (ds.map pairB).all id with
      | false =>
        rw [ca, Bool.false_and] at q
        exact iteF (q _ s1)
      | true =>
        rw [ca, Bool.true_and] at q
        have hp := pairs_at (dpAll_mono s1 _ _ hD) ca
        have li : (ds.map pairOf).length = ds.length := List.length_map _
        exact iteT ⟨_, rfl, p, vs, ds.map pairOf, rfl, s1.seq hS, hp, by omega, by omega, fun H2 s2 => q _ (s1.trans s2)⟩
end
end TA

set_option Elab.async false
set_option maxRecDepth 100000
set_option maxHeartbeats 4000000
namespace TA
open PySem L2 PyProof.Rows
set_option linter.unusedVariables false
/-- a pair of inputs, so many of each hand -/
def inB (n0 n1 : Nat) : PyData → Bool
  | .tuple [x, y] => within x 0 ((n0 : Int) - 1) && within y 0 ((n1 : Int) - 1)
  | _ => false
theorem inB_no {n0 n1 : Nat} {d : PyData} (h : ∀ x y, d ≠ .tuple [x, y]) : inB n0 n1 d = false := by
  match d, h with
  | .tuple [x, y], h => exact absurd rfl (h x y)
  | .tuple [], _ | .tuple [_], _ | .tuple (_ :: _ :: _ :: _), _ | .none, _ | .bool _, _ | .int _, _ | .str _, _ | .list _, _ | .dict _, _ => rfl
theorem tup_cases (d : PyData) : (∃ x y, d = .tuple [x, y]) ∨ (∀ x y, d ≠ .tuple [x, y]) := by
  match d with
  | .tuple [x, y] => exact .inl ⟨x, y, rfl⟩
  | .tuple [] | .tuple [_] | .tuple (_ :: _ :: _ :: _) | .none | .bool _ | .int _ | .str _ | .list _ | .dict _ => exact .inr (fun x y e => by cases e)
theorem dp_pair {K : PySem.W.Frag} {H : Hp} {v : V} {d : PyData} (h : Dp K H v d) : (∃ a x y e f, v = .ref a ∧ d = .tuple [e, f] ∧ SqT K H a [x, y] ∧ Dp K H x e ∧ Dp K H y f) ∨ ((∀ x y, d ≠ .tuple [x, y]) ∧ (isTupD d = false ∨ (isTupD d = true ∧ ∃ a xs, v = .ref a ∧ SqT K H a xs ∧ xs.length ≠ 2))) := by
  rcases tup_cases d with ⟨e, f, rfl⟩ | hn
  · left
    obtain ⟨a, xs, rfl, hs, ha⟩ := dp_tup h
    cases ha with
    | cons h1 h2 =>
      cases h2 with
      | cons h2 h3 =>
        cases h3
        exact ⟨_, _, _, _, _, rfl, rfl, hs, h1, h2⟩
  · right
    refine ⟨hn, ?_⟩
    cases h with
    | @tup a xs ds h1 h2 =>
      refine .inr ⟨rfl, a, xs, rfl, h1, fun e => ?_⟩
      have el := dpAll_len h2
      rw [e] at el
      match ds, el, hn with
      | [x, y], _, hn => exact hn x y rfl
    | _ => exact .inl rfl
/-- the outputs let alone, as two lists of rows -/
structure AloneAt (K : PySem.W.Frag) (H : Hp) (al : Addr) (n0 n1 : Nat) : Prop where
  ex : ∃ (r0 r1 : Addr) (xs0 xs1 : List V), SqL K H al [.ref r0, .ref r1] ∧ SqL K H r0 xs0 ∧ SqL K H r1 xs1 ∧ xs0.length = n0 ∧ xs1.length = n1
theorem AloneAt.mono {K : PySem.W.Frag} {H H' : Hp} {al : Addr} {n0 n1 : Nat} (s : Same H H') (h : AloneAt K H al n0 n1) : AloneAt K H' al n0 n1 := by
  obtain ⟨r0, r1, xs0, xs1, a, b, c, d⟩ := h.ex
  exact ⟨r0, r1, xs0, xs1, s.seq a, s.seq b, s.seq c, d⟩
def spInp (K : PySem.W.Frag) : Sp := fun vs H Q _ => ∃ (v : V) (d : PyData) (al : Addr) (n0 n1 : Nat), vs = [v, .ref al] ∧ Dp K H v d ∧ AloneAt K H al n0 n1 ∧ ∀ H', Same H H' → Q (.bl (inB n0 n1 d)) H'
structure TxtH (K : PySem.W.Frag) (mg : Str → Option Value) : Prop where
  hands : ∃ hA, mg "HANDS" = some (.ref hA) ∧ ∀ H, SqT K H hA [.int 0, .int 1]
section
variable {P : Program} {w : World} {K : PySem.W.Frag} {mg : Str → Option Value} {base : Heap}
abbrev nInp : List Str := ["thing", "alone", "hand"]
theorem sc_inp : FnScope nInp ["thing", "alone"] (defScope s_is_input_pair) := ⟨rfl, rfl, rfl, by decide +kernel, rfl, by decide +kernel, by decide +kernel⟩
theorem ok_inp {f g1 : Addr} {fd d1 : FuncData} (F : Fun K "is_input_pair" "is_input_pair" s_is_input_pair f fd) (T : Txt K mg) (U : TxtH K mg) (W : Def P w K mg base "is_whole_within" ["thing", "least", "most"] 2 (spWithinG K) g1 d1) : FnOk P w K mg base CX0 3 f fd ["thing", "alone"] (spInp K) := by
  refine F.ok sc_inp (fun vs H Q E h => ?_) (fun cdv A outer s H vs Q E hr h => ?_)
  · obtain ⟨v, d, al, n0, n1, rfl, _⟩ := h
    rfl
  obtain ⟨v, d, al, n0, n1, rfl, hk, hA, q⟩ := h
  obtain ⟨hT, mH, hH⟩ := U.hands
  have nd := sc_inp.nd
  refine ⟨_, pss_one (ps_ret (pe_and (pe_callB call_isi (by rfl) T.isi boot_isinstance (pa_cons (pv 0) (pa_cons (pe_bltn (v := .ty "tuple") (by rfl) T.tuple boot_tuple rfl) pa_nil)))
    (pe_and (pe_cmpR op_eq (pe_callB call_len_seq (by rfl) T.len PySem.boot_len (pa_cons (pv 0) pa_nil)) pe_int (nomark _))
    (pe_one (pe_callB (cr_all rfl) (by rfl) T.all (by decide +kernel) (pa_cons
      (pe_lc (own := [("hand", 2)]) (g := gName 2) (tt := tYes) (te := tCall (spWithinG K) [] E0 (tCons (tOp (rIxT K) (tVar 0) (tVar 2)) (tCons (tC (.int 0)) (tCons (tOp (rI0 fun i j => .int (i - j)) (tCB (fun xs H Q => ∃ p ys, xs = [.ref p] ∧ (SqL K H p ys ∨ SqT K H p ys) ∧ Q (.int ys.length) H) (tCons (tOp (rIxL K) (tVar 1) (tVar 2)) tNil)) (tC (.int 1))) tNil)))) rfl nd
        (pi_tup (pe_glob (v := .ref hT) rfl mH rfl)) (blkOk_by (N := nInp) (sc := defScope s_is_input_pair) (by decide +kernel)) (fun _ _ _ _ _ => pg_name (i := 2) nd rfl (Or.inl rfl)) (fun _ _ _ _ _ => pts_nil)
        (fun _ _ _ _ _ => (by refine pe_call W.G hr rfl W.m W.k W.b .nil pass0 (pa_cons ?_ (pa_cons pe_int (pa_cons (pe_op op_sub ?_ pe_int) pa_nil))); (exact pe_ix ix_tup (pv 0) (pv 2) (fun _ _ => rfl)); (refine pe_callB call_len_seq (by rfl) T.len PySem.boot_len (pa_cons ?_ pa_nil); (exact pe_ix ix_list (pv 1) (pv 2) (fun _ _ => rfl)))))) pa_nil)))))), ?_⟩
  rcases dp_pair hk with ⟨a, x, y, e, g, rfl, rfl, ha, hx, hy⟩ | ⟨hn, c2 | ⟨c2, a, xs, rfl, ha, hl⟩⟩
  case inr.inl =>
    rw [inB_no hn] at q
    exact ⟨_, rfl, v, V.ty "tuple", _, _, false, rfl, .ty "tuple", dp_ty hk, (by rw [kit_tup, c2]), _, rfl, iteF (q _ (Same.refl H))⟩
  case inr.inr =>
    rw [inB_no hn] at q
    refine ⟨_, rfl, V.ref a, V.ty "tuple", _, _, true, rfl, .ty "tuple", dp_ty hk, (by rw [kit_tup, c2]), _, rfl, iteT ?_⟩
    refine ⟨_, rfl, a, _, rfl, .inr ha, rfl, _, rfl, iteF' (decide_eq_false fun e => hl (by injection e with e; omega)) ?_⟩
    exact q _ (Same.refl H)
  refine ⟨_, rfl, V.ref a, V.ty "tuple", _, _, true, rfl, .ty "tuple", dp_ty hk, kit_tup _, _, rfl, iteT ?_⟩
  refine ⟨_, rfl, a, _, rfl, .inr ha, rfl, _, rfl, iteT ?_⟩
  obtain ⟨r0, r1, xs0, xs1, k1, k2, k3, rfl, rfl⟩ := hA.ex
  refine ⟨hT, rfl, ⟨_, hH H⟩, fun D hD => ?_⟩
  refine tup_turns (xs := [V.int 0, V.int 1]) (fun i H' => Same H H' ∧ H' D = some (.lst (([within e 0 ((xs0.length : Int) - 1), within g 0 ((xs1.length : Int) - 1)].take i).map V.bl))) ⟨same_new hD _, upd_same⟩ (fun i H' _ _ => hH H') ?_ ?_
  · rintro i z H' hz ⟨s1, h1⟩
    rcases i with _ | _ | i
    · obtain rfl : z = .int 0 := by simpa using hz.symm
      exact ⟨rfl, _, rfl, _, rfl, a, _, _, _, rfl, rfl, seqT_mono s1 ha, (by rfl), _, rfl, _, rfl, al, _, _, _, rfl, rfl, s1.seq k1, (by rfl), r0, _, rfl, .inl (s1.seq k2), _, _, rfl, rfl, x, e, 0, _, rfl, dp_mono s1 _ _ hx, _, h1, (by show 0 < sizeLine; decide), same_upd s1 hD, by rw [upd_same]; rfl⟩
    · obtain rfl : z = .int 1 := by simpa using hz.symm
      exact ⟨rfl, _, rfl, _, rfl, a, _, _, _, rfl, rfl, seqT_mono s1 ha, (by rfl), _, rfl, _, rfl, al, _, _, _, rfl, rfl, s1.seq k1, (by rfl), r1, _, rfl, .inl (s1.seq k3), _, _, rfl, rfl, y, g, 0, _, rfl, dp_mono s1 _ _ hy, _, h1, (by show 1 < sizeLine; decide), same_upd s1 hD, by rw [upd_same]; rfl⟩
    · simp at hz
  · rintro H' ⟨s1, h1⟩
    refine ⟨D, _, rfl, SqL.of h1, ?_⟩
    have z := q _ s1
    have e2 : inB xs0.length xs1.length (.tuple [e, g]) = (within e 0 ((xs0.length : Int) - 1) && within g 0 ((xs1.length : Int) - 1)) := rfl
    rw [e2] at z
    show Q (.bl (_ && (_ && true))) H'
    rw [Bool.and_true]
    exact z
end
end TA

set_option Elab.async false
set_option maxRecDepth 100000
set_option maxHeartbeats 4000000
namespace TA
open PySem L2 PyProof.Rows
set_option linter.unusedVariables false
/-! a task's things in the heap -/
inductive A2 {α β : Type} (R : α → β → Prop) : List α → List β → Prop
  | nil : A2 R [] []
  | cons {x y xs ys} : R x y → A2 R xs ys → A2 R (x :: xs) (y :: ys)
theorem A2.len {α β : Type} {R : α → β → Prop} : ∀ {xs : List α} {ys : List β}, A2 R xs ys → xs.length = ys.length
  | _, _, .nil => rfl
  | _, _, .cons _ b => congrArg (· + 1) b.len
theorem A2.imp {α β : Type} {R S : α → β → Prop} (f : ∀ x y, R x y → S x y) : ∀ {xs : List α} {ys : List β}, A2 R xs ys → A2 S xs ys
  | _, _, .nil => .nil
  | _, _, .cons a b => .cons (f _ _ a) (b.imp f)
theorem A2.get {α β : Type} {R : α → β → Prop} : ∀ {xs : List α} {ys : List β} {i : Nat} {x : α}, A2 R xs ys → xs[i]? = some x → ∃ y, ys[i]? = some y ∧ R x y
  | _, _, i, _, .nil, e => by simp at e
  | _, _, 0, _, .cons a _, e => ⟨_, rfl, by simp at e; rw [← e]; exact a⟩
  | _, _, i + 1, x, .cons _ b, e => by
    obtain ⟨y, h1, h2⟩ := A2.get (i := i) (x := x) b (by simpa using e)
    exact ⟨y, by simpa using h1, h2⟩
theorem A2.at {α β : Type} {R : α → β → Prop} {xs : List α} {ys : List β} {i : Nat} {y : β} (h : A2 R xs ys) (e : ys[i]? = some y) : ∃ x, xs[i]? = some x ∧ R x y := by
  have hi : i < xs.length := by rw [h.len]; exact (List.getElem?_eq_some_iff.mp e).1
  obtain ⟨y', h1, h2⟩ := h.get (List.getElem?_eq_getElem hi)
  rw [e] at h1
  cases h1
  exact ⟨_, List.getElem?_eq_getElem hi, h2⟩
theorem A2.snoc {α β : Type} {R : α → β → Prop} : ∀ {xs : List α} {ys : List β} {x : α} {y : β}, A2 R xs ys → R x y → A2 R (xs ++ [x]) (ys ++ [y])
  | _, _, _, _, .nil, h => .cons h .nil
  | _, _, _, _, .cons a b, h => .cons a (b.snoc h)
theorem A2.mem {α β : Type} {R : α → β → Prop} {xs : List α} {ys : List β} {x : α} (h : A2 R xs ys) (m : x ∈ xs) : ∃ y, y ∈ ys ∧ R x y := by
  obtain ⟨i, e⟩ := List.getElem?_of_mem m
  obtain ⟨y, e2, r⟩ := h.get e
  exact ⟨y, List.mem_of_getElem? e2, r⟩
theorem A2.ofMap {α β γ : Type} {R : α → β → Prop} (f : γ → α) (g : γ → β) : ∀ (zs : List γ), (∀ z ∈ zs, R (f z) (g z)) → A2 R (zs.map f) (zs.map g)
  | [], _ => .nil
  | z :: zs, h => .cons (h z List.mem_cons_self) (A2.ofMap f g zs fun x m => h x (List.mem_cons_of_mem _ m))
/-- a pair of ints, a list of ints, rows of these, what is let alone, pairs let -/
def TpAt (H : Hp) (v : V) (p : Int × Int) : Prop := ∃ t, v = .ref t ∧ H t = some (.tup [.int p.1, .int p.2])
def RowAt (H : Hp) (v : V) (row : List Int) : Prop := ∃ t, v = .ref t ∧ H t = some (.lst (row.map .int))
def RowsAt (H : Hp) (v : V) (rows : List (List Int)) : Prop := ∃ t xs, v = .ref t ∧ H t = some (.lst xs) ∧ A2 (RowAt H) xs rows
def AlAt (H : Hp) (v : V) (al : Nat → List (List Int)) : Prop := ∃ t x0 x1, v = .ref t ∧ H t = some (.lst [x0, x1]) ∧ RowsAt H x0 (al 0) ∧ RowsAt H x1 (al 1)
def LetAt (H : Hp) (v : V) (l : List (Int × Int)) : Prop := ∃ t xs, v = .ref t ∧ H t = some (.lst xs) ∧ A2 (TpAt H) xs l
/-- pairs of inputs -/
abbrev IP := Nat × Nat
def kI (p : IP) : List Key := [.inl (p.1 : Int), .inl (p.2 : Int)]
def iI (p : IP) : Int × Int := ((p.1 : Int), (p.2 : Int))
abbrev BD := List (IP × List (Int × Int))
def EnAt (H : Hp) (e : List Key × V) (b : IP × List (Int × Int)) : Prop := e.1 = kI b.1 ∧ LetAt H e.2 b.2
def BoAt (H : Hp) (d : Addr) (bo : BD) : Prop := ∃ kvs, H d = some (.dT kvs) ∧ A2 (EnAt H) kvs bo
/-- what is no dict stands as it stood -/
def flatO (o : HO) : Prop := (∃ xs, o = .lst xs) ∨ (∃ xs, o = .tup xs)
def Kp (H H' : Hp) : Prop := ∀ b o, flatO o → H b = some o → H' b = some o
theorem Kp.lst {H H' : Hp} (s : Kp H H') {b xs} (e : H b = some (.lst xs)) : H' b = some (.lst xs) := s _ _ (.inl ⟨_, rfl⟩) e
theorem Kp.tup {H H' : Hp} (s : Kp H H') {b xs} (e : H b = some (.tup xs)) : H' b = some (.tup xs) := s _ _ (.inr ⟨_, rfl⟩) e
theorem Kp.refl (H : Hp) : Kp H H := fun _ _ _ e => e
theorem Kp.trans {H H1 H2 : Hp} (s : Kp H H1) (t : Kp H1 H2) : Kp H H2 := fun b o f e => t b o f (s b o f e)
theorem Kp.same {H H' : Hp} (s : Same H H') : Kp H H' := fun b o _ e => s b o e
theorem Kp.put {H : Hp} {d : Addr} {u : HO} {o : HO} (e : H d = some u) (n : ¬ flatO u) : Kp H (upd H d o) := fun b x f h => by
  by_cases c : b = d
  · subst c
    rw [e] at h
    cases h
    exact absurd f n
  · rw [upd_ne c]; exact h
theorem nf_dT {k : List (List Key × V)} : ¬ flatO (.dT k) := by rintro (⟨_, h⟩ | ⟨_, h⟩) <;> cases h
theorem nf_frz {o u} : ¬ flatO (.frz o u) := by rintro (⟨_, h⟩ | ⟨_, h⟩) <;> cases h
theorem TpAt.mono {H H' : Hp} (s : Kp H H') {v : V} {p : Int × Int} (h : TpAt H v p) : TpAt H' v p := by
  obtain ⟨t, e, h⟩ := h
  exact ⟨t, e, s.tup h⟩
theorem RowAt.mono {H H' : Hp} (s : Kp H H') {v : V} {p} (h : RowAt H v p) : RowAt H' v p := by
  obtain ⟨t, e, h⟩ := h
  exact ⟨t, e, s.lst h⟩
theorem RowsAt.mono {H H' : Hp} (s : Kp H H') {v : V} {p} (h : RowsAt H v p) : RowsAt H' v p := by
  obtain ⟨t, xs, e, h, a⟩ := h
  exact ⟨t, xs, e, s.lst h, a.imp fun _ _ r => r.mono s⟩
theorem AlAt.mono {H H' : Hp} (s : Kp H H') {v : V} {p} (h : AlAt H v p) : AlAt H' v p := by
  obtain ⟨t, x0, x1, e, h, a, b⟩ := h
  exact ⟨t, x0, x1, e, s.lst h, a.mono s, b.mono s⟩
theorem LetAt.mono {H H' : Hp} (s : Kp H H') {v : V} {p} (h : LetAt H v p) : LetAt H' v p := by
  obtain ⟨t, xs, e, h, a⟩ := h
  exact ⟨t, xs, e, s.lst h, a.imp fun _ _ r => r.mono s⟩
theorem EnAt.mono {H H' : Hp} (s : Kp H H') {v} {p} (h : EnAt H v p) : EnAt H' v p := ⟨h.1, h.2.mono s⟩
theorem BoAt.mono {H H' : Hp} (s : Same H H') {v} {p} (h : BoAt H v p) : BoAt H' v p := by
  obtain ⟨kvs, h, a⟩ := h
  exact ⟨kvs, s _ _ h, a.imp fun _ _ r => r.mono (.same s)⟩
def But (a : Addr) (H H' : Hp) : Prop := ∀ b o, b ≠ a → H b = some o → H' b = some o
theorem But.trans {a : Addr} {H H1 H2 : Hp} (h : But a H H1) (g : But a H1 H2) : But a H H2 := fun b o e q => g b o e (h b o e q)
theorem But.same {a : Addr} {H H' : Hp} (s : Same H H') : But a H H' := fun b o _ q => s b o q
theorem But.at {a : Addr} {H : Hp} {o : HO} : But a H (upd H a o) := fun b u nb e => by rw [upd_ne nb]; exact e
theorem But.kp {d : Addr} {H H' : Hp} {u : HO} (e : H d = some u) (n : ¬ flatO u) (s : But d H H') : Kp H H' := fun b x f h => s b x (fun c => by subst c; rw [e] at h; cases h; exact n f) h
/-- a dict that was locked and is unlocked again -/
theorem But.unlock {d : Addr} {H H' : Hp} {u : HO} (e : H d = some u) (s : But d H H') : Same H (upd H' d u) := fun b x h => by
  by_cases c : b = d
  · subst c
    rw [e] at h
    cases h
    exact upd_same
  · rw [upd_ne c]; exact s b x c h
theorem But.new {d p : Addr} {H0 H : Hp} {o : HO} (s : But d H0 H) (f : H0 p = none) : But d H0 (upd H p o) := fun b u nb e => by
  rw [upd_ne (ne_of_none e f)]
  exact s b u nb e
/-! the same as data -/
def pairD (p : Int × Int) : PyData := .tuple [.int p.1, .int p.2]
def rowD (row : List Int) : PyData := .list (row.map .int)
def rowsD (rows : List (List Int)) : PyData := .list (rows.map rowD)
def alD (al : Nat → List (List Int)) : PyData := .list [rowsD (al 0), rowsD (al 1)]
def letD (l : List (Int × Int)) : PyData := .list (l.map pairD)
theorem dp_ints {K : PySem.W.Frag} {H : Hp} : ∀ (row : List Int), DpAll K H (row.map V.int) (row.map PyData.int)
  | [] => .nil
  | i :: r => .cons (.int i) (dp_ints r)
theorem A2.dp {K : PySem.W.Frag} {H : Hp} {α : Type} {R : V → α → Prop} (f : α → PyData) (g : ∀ x y, R x y → Dp K H x (f y)) : ∀ {xs : List V} {ys : List α}, A2 R xs ys → DpAll K H xs (ys.map f)
  | _, _, .nil => .nil
  | _, _, .cons a b => .cons (g _ _ a) (b.dp f g)
theorem TpAt.dp {K : PySem.W.Frag} {H : Hp} {v : V} {p} (h : TpAt H v p) : Dp K H v (pairD p) := by
  obtain ⟨t, rfl, h⟩ := h
  exact .tup (SqT.of h) (.cons (.int _) (.cons (.int _) .nil))
theorem RowAt.dp {K : PySem.W.Frag} {H : Hp} {v : V} {p} (h : RowAt H v p) : Dp K H v (rowD p) := by
  obtain ⟨t, rfl, h⟩ := h
  exact .lst (SqL.of h) (dp_ints p)
theorem RowsAt.dp {K : PySem.W.Frag} {H : Hp} {v : V} {p} (h : RowsAt H v p) : Dp K H v (rowsD p) := by
  obtain ⟨t, xs, rfl, h, a⟩ := h
  exact .lst (SqL.of h) (a.dp rowD fun _ _ r => r.dp)
theorem AlAt.dp {K : PySem.W.Frag} {H : Hp} {v : V} {p} (h : AlAt H v p) : Dp K H v (alD p) := by
  obtain ⟨t, x0, x1, rfl, h, a, b⟩ := h
  exact .lst (SqL.of h) (.cons a.dp (.cons b.dp .nil))
theorem LetAt.dp {K : PySem.W.Frag} {H : Hp} {v : V} {p} (h : LetAt H v p) : Dp K H v (letD p) := by
  obtain ⟨t, xs, rfl, h, a⟩ := h
  exact .lst (SqL.of h) (a.dp pairD fun _ _ r => r.dp)
/-! what is drawn -/
def ltP (p q : Int × Int) : Prop := p.1 < q.1 ∨ (p.1 = q.1 ∧ p.2 < q.2)
def ltN (p q : IP) : Prop := p.1 < q.1 ∨ (p.1 = q.1 ∧ p.2 < q.2)
def okOut (x : Int) : Prop := 0 ≤ x ∧ x ≤ 63
def okRow (row : List Int) : Prop := 1 ≤ row.length ∧ row.length ≤ 60 ∧ row.Pairwise (· < ·) ∧ ∀ x ∈ row, okOut x
def okLet (l : List (Int × Int)) : Prop := 1 ≤ l.length ∧ l.length ≤ 60 ∧ l.Pairwise ltP ∧ ∀ p ∈ l, okOut p.1 ∧ okOut p.2
structure TD where
  al : Nat → List (List Int)
  bo : BD
structure WF (T : TD) : Prop where
  n0 : ∀ h, h < 2 → 1 ≤ (T.al h).length ∧ (T.al h).length ≤ 20
  row : ∀ h, h < 2 → ∀ r ∈ T.al h, okRow r
  srt : (T.bo.map (·.1)).Pairwise (· ≠ ·)
  rng : ∀ e ∈ T.bo, e.1.1 < (T.al 0).length ∧ e.1.2 < (T.al 1).length
  lets : ∀ e ∈ T.bo, okLet e.2
  com0 : ∀ a, a < (T.al 0).length → ∃ e ∈ T.bo, e.1.1 = a
  com1 : ∀ a, a < (T.al 1).length → ∃ e ∈ T.bo, e.1.2 = a
  many : T.bo.length ≤ 60
/-! the checks say yes to what is drawn -/
theorem risI_yes {ns : List Int} (h : ns.Pairwise (· < ·)) : risI ns = true := by
  unfold risI
  rw [List.all_eq_true]
  intro b hb
  obtain ⟨i, hi, rfl⟩ := List.mem_map.mp hb
  have hi := List.mem_range.mp hi
  have h1 : i < ns.length := by omega
  have h2 : i + 1 < ns.length := by omega
  show decide _ = true
  rw [decide_eq_true_eq, List.getD_eq_getElem?_getD, List.getD_eq_getElem?_getD, List.getElem?_eq_getElem h1, List.getElem?_eq_getElem h2]
  exact List.pairwise_iff_getElem.mp h i (i + 1) h1 h2 (by omega)
theorem out_yes {x : Int} (h : okOut x) : outB (.int x) = true := by
  unfold outB within
  exact decide_eq_true h
theorem intsOf_ints : ∀ row : List Int, intsOf (row.map PyData.int) = row
  | [] => rfl
  | x :: r => by
    have := intsOf_ints r
    unfold intsOf at this ⊢
    rw [List.map_cons, List.map_cons, this]
theorem outs_yes {row : List Int} (h : okRow row) : outsB (rowD row) = true := by
  show (decide (0 < (row.map PyData.int).length) && (((row.map PyData.int).map outB).all id && risI (intsOf (row.map PyData.int)))) = true
  rw [intsOf_ints, risI_yes h.2.2.1, List.length_map, decide_eq_true (show 0 < row.length by have := h.1; omega), Bool.and_true, Bool.true_and, List.all_eq_true]
  intro b hb
  obtain ⟨d, hd, rfl⟩ := List.mem_map.mp hb
  obtain ⟨x, hx, rfl⟩ := List.mem_map.mp hd
  exact out_yes (h.2.2.2 x hx)
theorem rows_yes {rows : List (List Int)} (h0 : 1 ≤ rows.length) (h : ∀ r ∈ rows, okRow r) : rowsB (rowsD rows) = true := by
  show (decide (0 < (rows.map rowD).length) && ((rows.map rowD).map outsB).all id) = true
  rw [List.length_map, decide_eq_true (show 0 < rows.length by omega), Bool.true_and, List.all_eq_true]
  intro b hb
  obtain ⟨d, hd, rfl⟩ := List.mem_map.mp hb
  obtain ⟨x, hx, rfl⟩ := List.mem_map.mp hd
  exact outs_yes (h x hx)
theorem alone_yes {T : TD} (W : WF T) : aloneB (alD T.al) = true := by
  show (decide (2 = 2) && [rowsB (rowsD (T.al 0)), rowsB (rowsD (T.al 1))].all id) = true
  rw [rows_yes (W.n0 0 (by decide)).1 (W.row 0 (by decide)), rows_yes (W.n0 1 (by decide)).1 (W.row 1 (by decide))]
  rfl
theorem lex_yes {p q : Int × Int} (h : ltP p q) : HT.lexLt [p.1, p.2] [q.1, q.2] = true := by
  rcases h with h | ⟨h1, h2⟩
  · have : ¬ p.1 = q.1 := by omega
    simp [HT.lexLt, h, this]
  · have : ¬ p.2 = q.2 := by omega
    simp [HT.lexLt, h1, h2, this]
theorem risP_yes {l : List (Int × Int)} (h : l.Pairwise ltP) : risP ((l.map pairD).map pairOf) = true := by
  unfold risP
  rw [List.all_eq_true]
  intro b hb
  obtain ⟨i, hi, rfl⟩ := List.mem_map.mp hb
  have hi := List.mem_range.mp hi
  rw [List.length_map, List.length_map] at hi
  have h1 : i < l.length := by omega
  have h2 : i + 1 < l.length := by omega
  have e : ∀ j (hj : j < l.length), ((l.map pairD).map pairOf).getD j [] = [l[j].1, l[j].2] := fun j hj => by
    rw [List.getD_eq_getElem?_getD, List.getElem?_map, List.getElem?_map, List.getElem?_eq_getElem hj]
    rfl
  show HT.lexLt _ _ = true
  rw [e i h1, e (i + 1) h2]
  exact lex_yes (List.pairwise_iff_getElem.mp h i (i + 1) h1 h2 (by omega))
theorem pair_yes {p : Int × Int} (h : okOut p.1 ∧ okOut p.2) : pairB (pairD p) = true := by
  show (decide (2 = 2) && [outB (.int p.1), outB (.int p.2)].all id) = true
  rw [out_yes h.1, out_yes h.2]
  rfl
theorem let_yes {l : List (Int × Int)} (h : okLet l) : letB (letD l) = true := by
  show (decide (0 < (l.map pairD).length) && (((l.map pairD).map pairB).all id && risP ((l.map pairD).map pairOf))) = true
  rw [risP_yes h.2.2.1, List.length_map, decide_eq_true (show 0 < l.length by have := h.1; omega), Bool.and_true, Bool.true_and, List.all_eq_true]
  intro b hb
  obtain ⟨d, hd, rfl⟩ := List.mem_map.mp hb
  obtain ⟨x, hx, rfl⟩ := List.mem_map.mp hd
  exact pair_yes (h.2.2.2 x hx)
theorem in_yes {n0 n1 : Nat} {p : IP} (h : p.1 < n0 ∧ p.2 < n1) : inB n0 n1 (pairD (iI p)) = true := by
  show (decide ((0 : Int) ≤ (p.1 : Int) ∧ (p.1 : Int) ≤ (n0 : Int) - 1) && decide ((0 : Int) ≤ (p.2 : Int) ∧ (p.2 : Int) ≤ (n1 : Int) - 1)) = true
  rw [decide_eq_true (show (0 : Int) ≤ (p.1 : Int) ∧ (p.1 : Int) ≤ (n0 : Int) - 1 by omega), decide_eq_true (show (0 : Int) ≤ (p.2 : Int) ∧ (p.2 : Int) ≤ (n1 : Int) - 1 by omega)]
  rfl
theorem small_row {row : List Int} (h : okRow row) : small (rowD row) := fun ds e => by
  cases e
  rw [List.length_map]
  have := h.2.1
  omega
end TA

set_option Elab.async false
set_option maxRecDepth 100000
set_option maxHeartbeats 4000000
namespace TA
open PySem L2 PyProof.Rows
set_option linter.unusedVariables false
structure Txt2 (K : PySem.W.Frag) (mg : Str → Option Value) : Prop where
  sorted : mg "sorted" = none
  set : mg "set" = none
  max : mg "max" = none
  zip : mg "zip" = none
  dict : mg "dict" = none
theorem hu65_of {A : Around} {k : Nat} (hr : Room k A) : A.units + 65 < cLine := by have := hr.un; omega
theorem keyT_turns {d : Addr} {o : Obj} {kvs : List (List Key × V)} {H0 : Hp} {Qd : Hp → Prop} {B : (Hp → Prop) → V → Hp → Prop} (Pv : Nat → Hp → Prop) (start : Pv 0 H0) (still : ∀ i H, Pv i H → H d = some (.frz o (.dT kvs)))
    (turn : ∀ i k v q H, kvs[i]? = some (k, v) → H q = some (.tup (k.map kV)) → Pv i H → B (Pv (i + 1)) (.ref q) H) (last : ∀ H, Pv kvs.length H → Qd H) :
    ∃ W : Nat → Nat → Hp → Prop, (∃ m, W 0 m H0) ∧ ∀ i m H, W i m H →
      ((Itkt d o kvs).stop i H ∧ Qd H) ∨ ((Itkt d o kvs).go i H ∧ ∃ Nx : Hp → Prop, (∀ H', Nx H' → ∃ m', m' < m ∧ W (i + 1) m' H') ∧ ∀ x H', (Itkt d o kvs).yld i H x H' → B Nx x H') :=
  turns kvs.length Pv start (fun H w => ⟨⟨still _ H w, Nat.le_refl _⟩, last H w⟩) fun i H hi w => ⟨⟨still i H w, hi⟩, fun x H' ⟨e, k, v, q, e1, e2, e3⟩ => by rw [e, e2]; exact turn i k v q H e1 e3 w⟩
theorem itemT_turns {d : Addr} {o : Obj} {kvs : List (List Key × V)} {H0 : Hp} {Qd : Hp → Prop} {B : (Hp → Prop) → V → Hp → Prop} (Pv : Nat → Hp → Prop) (start : Pv 0 H0) (still : ∀ i H, Pv i H → H d = some (.frz o (.dT kvs)))
    (turn : ∀ i k v q T H, kvs[i]? = some (k, v) → H q = some (.tup (k.map kV)) → H T = none → Pv i H → B (Pv (i + 1)) (.ref T) (upd H T (.tup [.ref q, v]))) (last : ∀ H, Pv kvs.length H → Qd H) :
    ∃ W : Nat → Nat → Hp → Prop, (∃ m, W 0 m H0) ∧ ∀ i m H, W i m H →
      ((Itit d o kvs).stop i H ∧ Qd H) ∨ ((Itit d o kvs).go i H ∧ ∃ Nx : Hp → Prop, (∀ H', Nx H' → ∃ m', m' < m ∧ W (i + 1) m' H') ∧ ∀ x H', (Itit d o kvs).yld i H x H' → B Nx x H') :=
  turns kvs.length Pv start (fun H w => ⟨⟨still _ H w, Nat.le_refl _⟩, last H w⟩) fun i H hi w => ⟨⟨still i H w, hi⟩, fun x H' ⟨T, q, k, v, e1, e2, e3, e4, e5⟩ => by rw [e3, e5]; exact turn i k v q T H e1 e2 e4 w⟩
/-! what comes, each once -/
def sel (h : Nat) (p : IP) : Nat := if h = 0 then p.1 else p.2
def distStep (acc : List Int) (x : Int) : List Int := if x ∈ acc then acc else acc ++ [x]
def dist (l : List Int) : List Int := l.foldl distStep []
theorem dist_snoc (l : List Int) (x : Int) : dist (l ++ [x]) = distStep (dist l) x := by
  unfold dist
  rw [List.foldl_append]
  rfl
theorem dist_mem_aux (x : Int) : ∀ (l acc : List Int), x ∈ l.foldl distStep acc ↔ x ∈ acc ∨ x ∈ l
  | [], acc => by simp
  | y :: l, acc => by
    rw [List.foldl_cons, dist_mem_aux x l]
    unfold distStep
    split
    · rename_i h
      constructor
      · rintro (a | a)
        · exact .inl a
        · exact .inr (List.mem_cons_of_mem _ a)
      · rintro (a | a)
        · exact .inl a
        · rcases List.mem_cons.mp a with rfl | a
          · exact .inl h
          · exact .inr a
    · rw [List.mem_append, List.mem_singleton, List.mem_cons]
      constructor
      · rintro ((a | a) | a)
        · exact .inl a
        · exact .inr (.inl a)
        · exact .inr (.inr a)
      · rintro (a | a | a)
        · exact .inl (.inl a)
        · exact .inl (.inr a)
        · exact .inr a
theorem dist_mem {l : List Int} {x : Int} : x ∈ dist l ↔ x ∈ l := by
  unfold dist
  rw [dist_mem_aux]
  simp
theorem dist_nd_aux : ∀ (l acc : List Int), acc.Nodup → (l.foldl distStep acc).Nodup
  | [], _, h => h
  | y :: l, acc, h => by
    rw [List.foldl_cons]
    refine dist_nd_aux l _ ?_
    unfold distStep
    split
    · exact h
    · rename_i c
      exact List.nodup_append.mpr ⟨h, by simp, fun a ha b hb e => by rw [List.mem_singleton] at hb; subst hb; subst e; exact c ha⟩
theorem dist_nd (l : List Int) : (dist l).Nodup := dist_nd_aux l [] List.nodup_nil
theorem nodup_sub : ∀ {xs ys : List Int}, xs.Nodup → (∀ x ∈ xs, x ∈ ys) → xs.length ≤ ys.length
  | [], _, _, _ => Nat.zero_le _
  | x :: xs, ys, h, s => by
    have hx := s x List.mem_cons_self
    obtain ⟨h1, h2⟩ := List.nodup_cons.mp h
    have r := nodup_sub (xs := xs) (ys := ys.erase x) h2 fun y hy => by
      have ne : y ≠ x := fun e => h1 (e ▸ hy)
      exact (List.mem_erase_of_ne ne).mpr (s y (List.mem_cons_of_mem _ hy))
    rw [List.length_erase_of_mem hx] at r
    have : 0 < ys.length := List.length_pos_of_mem hx
    rw [List.length_cons]
    omega
/-- all below n come, nothing else does -/
theorem dist_all {l : List Int} {n : Nat} (h1 : ∀ x ∈ l, ∃ a : Nat, a < n ∧ x = (a : Int)) (h2 : ∀ a : Nat, a < n → (a : Int) ∈ l) : (dist l).length = n := by
  have e : ((List.range n).map fun (a : Nat) => (a : Int)).length = n := by rw [List.length_map, List.length_range]
  have nd : ((List.range n).map fun (a : Nat) => (a : Int)).Nodup := List.Pairwise.map _ (fun a b (h : a ≠ b) => by show (a : Int) ≠ (b : Int); omega) List.nodup_range
  refine Nat.le_antisymm ?_ ?_
  · rw [← e]
    refine nodup_sub (dist_nd l) fun x hx => ?_
    obtain ⟨a, ha, rfl⟩ := h1 x (dist_mem.mp hx)
    exact List.mem_map.mpr ⟨a, List.mem_range.mpr ha, rfl⟩
  · have r := nodup_sub (xs := (List.range n).map fun (a : Nat) => (a : Int)) (ys := dist l) nd fun x hx => by
      obtain ⟨a, ha, rfl⟩ := List.mem_map.mp hx
      exact dist_mem.mpr (h2 a (List.mem_range.mp ha))
    rw [e] at r
    exact r
theorem dist_len_le (l : List Int) : (dist l).length ≤ l.length := nodup_sub (dist_nd l) fun x hx => dist_mem.mp hx
/-- row h of what is let alone -/
theorem AlAt.row {H : Hp} {v : V} {al : Nat → List (List Int)} (h : AlAt H v al) : ∃ t x0 x1, v = .ref t ∧ H t = some (.lst [x0, x1]) ∧ ∀ k, k < 2 → ∃ x, ([x0, x1] : List V)[k]? = some x ∧ RowsAt H x (al k) := by
  obtain ⟨t, x0, x1, e, h, a, b⟩ := h
  refine ⟨t, x0, x1, e, h, fun k hk => ?_⟩
  obtain rfl | rfl : k = 0 ∨ k = 1 := by omega
  · exact ⟨x0, rfl, a⟩
  · exact ⟨x1, rfl, b⟩
theorem kI_at {p : IP} {h : Nat} (hh : h < 2) : ((kI p).map kV)[h]? = some (.int (sel h p : Int)) := by
  obtain rfl | rfl : h = 0 ∨ h = 1 := by omega
  · rfl
  · rfl
theorem dec_nat {a b : Nat} : decide (V.int (a : Int) = V.int (b : Int)) = decide (a = b) := by
  by_cases c : a = b
  · rw [decide_eq_true c, c]; exact decide_eq_true rfl
  · rw [decide_eq_false c]; exact decide_eq_false fun e => by injection e with e; omega
def spEach (K : PySem.W.Frag) : Sp := fun vs H Q _ => ∃ (d : Addr) (v : V) (h : Nat) (kvs : List (List Key × V)) (ips : List IP) (al : Nat → List (List Int)), vs = [.ref d, v, .int (h : Int)] ∧ h < 2 ∧ H d = some (.dT kvs) ∧ kvs.map (·.1) = ips.map kI ∧ AlAt H v al ∧ ips.length ≤ 60 ∧
  ∀ H', Same H H' → Q (.bl (decide ((dist (ips.map fun p => ((sel h p : Nat) : Int))).length = (al h).length))) H'
section
variable {P : Program} {w : World} {K : PySem.W.Frag} {mg : Str → Option Value} {base : Heap}
abbrev nEach : List Str := ["both", "alone", "hand", "pair"]
theorem sc_each : FnScope nEach ["both", "alone", "hand"] (defScope s_each_comes) := ⟨rfl, rfl, rfl, by decide +kernel, rfl, by decide +kernel, by decide +kernel⟩
theorem ok_each {f : Addr} {fd : FuncData} (F : Fun K "each_comes" "each_comes" s_each_comes f fd) (T : Txt K mg) (T2 : Txt2 K mg) : FnOk P w K mg base CX0 1 f fd ["both", "alone", "hand"] (spEach K) := by
  refine F.ok sc_each (fun vs H Q E h => ?_) (fun cdv A outer s H vs Q E hr h => ?_)
  · obtain ⟨d, v, h, kvs, ips, al, rfl, _⟩ := h
    rfl
  obtain ⟨d, v, h, kvs, ips, al, rfl, hh, hd, hk, hA, hn, q⟩ := h
  have nd := sc_each.nd
  refine ⟨_, (pss_one (ps_ret (pe_cmpR op_eq (pe_callB call_len_SI (by rfl) T.len PySem.boot_len (pa_cons (pe_lock (pe_scI (own := [("pair", 3)]) (g := (gName 3)) (tt := tYes) (te := (tOp (rIxT K) (tVar 3) (tVar 2))) rfl nd (pi_keys (pv 0)) (blkOk_by (N := nEach) (sc := defScope s_each_comes) (by decide +kernel)) (fun _ _ _ _ _ => (by exact (pg_name (i := 3) nd rfl (Or.inl rfl)))) (fun _ _ _ _ _ => pts_nil) (fun _ _ _ _ _ => (by exact (pe_ix ix_tup (pv 3) (pv 2) (fun _ _ => rfl)))))) pa_nil)) (pe_callB call_len_seq (by rfl) T.len PySem.boot_len (pa_cons (pe_ix ix_list (pv 1) (pv 2) (fun _ _ => rfl)) pa_nil)) (nomark _)))), ?_⟩
  have hkl : kvs.length = ips.length := by
    have := congrArg List.length hk
    rwa [List.length_map, List.length_map] at this
  refine ⟨d, _, hd, trivial, fun od => ?_⟩
  have hd1 : (upd H d (.frz od (.dT kvs))) d = some (.frz od (.dT kvs)) := upd_same
  refine ⟨_, rfl, d, od, rfl, .inr ⟨kvs, hd1, fun D hD => ?_⟩⟩
  have nD : d ≠ D := ne_of_none hd1 hD
  refine keyT_turns (fun i H' => But d H H' ∧ H' d = some (.frz od (.dT kvs)) ∧ H' D = some (SetO w D (fun j => decide (j ∈ dist ((ips.take i).map fun p => ((sel h p : Nat) : Int)))) (dist ((ips.take i).map fun p => ((sel h p : Nat) : Int))).length)) ?_ (fun i H' h => h.2.1) ?_ ?_
  · refine ⟨But.at.trans (.same (same_new hD _)), by rw [upd_ne nD]; exact hd1, ?_⟩
    rw [upd_same]
    exact congrArg (fun z => some (SetO w D z 0)) (funext fun j => by simp [dist])
  · rintro i k v' qa H' hi hq ⟨b1, e1, e2⟩
    have hi2 : i < ips.length := by rw [← hkl]; exact (List.getElem?_eq_some_iff.mp hi).1
    have ek : k = kI ips[i] := by
      have z : (kvs.map (·.1))[i]? = some k := by rw [List.getElem?_map, hi]; rfl
      rw [hk, List.getElem?_map, List.getElem?_eq_getElem hi2] at z
      exact (Option.some.inj z).symm
    subst ek
    refine ⟨rfl, _, rfl, _, rfl, qa, _, _, _, rfl, rfl, SqT.of hq, atI_nat (kI_at hh), _, _, _, rfl, e2, ?_, ?_⟩
    · have := dist_len_le ((ips.take i).map fun p => ((sel h p : Nat) : Int))
      rw [List.length_map, List.length_take] at this
      unfold scanBound
      omega
    · have hDn : H D = none := by
        cases e : H D with
        | none => rfl
        | some o =>
          have z := But.at (H := H) (o := .frz od (.dT kvs)) D o (Ne.symm nD) e
          rw [z] at hD
          cases hD
      refine ⟨b1.new hDn, by rw [upd_ne nD]; exact e1, ?_⟩
      have et : (ips.take (i + 1)).map (fun p => ((sel h p : Nat) : Int)) = (ips.take i).map (fun p => ((sel h p : Nat) : Int)) ++ [((sel h ips[i] : Nat) : Int)] := by
        rw [List.take_add_one, List.getElem?_eq_getElem hi2, List.map_append]
        rfl
      rw [upd_same, et, dist_snoc]
      generalize dist ((ips.take i).map fun p => ((sel h p : Nat) : Int)) = L
      generalize ((sel h ips[i] : Nat) : Int) = x
      unfold distStep
      by_cases c : x ∈ L
      · rw [if_pos c, if_pos (decide_eq_true c)]
        refine congrArg (fun z => some (SetO w D z L.length)) (funext fun j => ?_)
        by_cases cj : j = x
        · subst cj; simp [c]
        · simp [cj]
      · rw [if_neg c, if_neg (by simp [c])]
        rw [List.length_append]
        refine congrArg (fun z => some (SetO w D z (L.length + 1))) (funext fun j => ?_)
        by_cases cj : j = x
        · subst cj; simp
        · simp [cj]
  · rintro H1 ⟨b1, e1, e2⟩
    rw [hkl, List.take_length] at e2
    have s1 : Same H (upd H1 d (.dT kvs)) := b1.unlock hd
    refine ⟨e1, D, _, _, rfl, (by rw [upd_ne (Ne.symm nD)]; exact e2), ?_⟩
    obtain ⟨t, x0, x1, rfl, ht, hrow⟩ := hA.row
    obtain ⟨x, hx, r, xs, rfl, hr2, ha2⟩ := hrow h hh
    refine ⟨_, rfl, _, rfl, t, _, _, _, rfl, rfl, SqL.of (s1 _ _ ht), atI_nat hx, r, xs, rfl, .inl (SqL.of (s1 _ _ hr2)), rfl, ?_⟩
    rw [dec_nat, ha2.len]
    exact q _ s1
end
end TA

set_option Elab.async false
set_option maxRecDepth 100000
set_option maxHeartbeats 4000000
namespace TA
open PySem L2 PyProof.Rows
set_option linter.unusedVariables false
theorem AlAt.at2 {K : PySem.W.Frag} {H : Hp} {v : V} {al : Nat → List (List Int)} (h : AlAt H v al) : ∃ t, v = .ref t ∧ AloneAt K H t (al 0).length (al 1).length := by
  obtain ⟨t, x0, x1, e, h, ⟨r0, xs0, rfl, h0, a0⟩, ⟨r1, xs1, rfl, h1, a1⟩⟩ := h
  exact ⟨t, e, ⟨r0, r1, xs0, xs1, SqL.of h, SqL.of h0, SqL.of h1, a0.len, a1.len⟩⟩
theorem all_true (n : Nat) : (List.replicate n true).all id = true := by
  rw [List.all_eq_true]
  intro b hb
  exact (List.mem_replicate.mp hb).2
theorem rep_snoc {n : Nat} : (List.replicate n true).map V.bl ++ [V.bl true] = (List.replicate (n + 1) true).map V.bl := by
  rw [List.replicate_succ', List.map_append]
  rfl
theorem comes_all {T : TD} (W : WF T) {h : Nat} (hh : h < 2) : (dist ((T.bo.map (·.1)).map fun p => ((sel h p : Nat) : Int))).length = (T.al h).length := by
  refine dist_all (fun x hx => ?_) (fun a ha => ?_)
  · obtain ⟨p, hp, rfl⟩ := List.mem_map.mp hx
    obtain ⟨e, he, rfl⟩ := List.mem_map.mp hp
    refine ⟨_, ?_, rfl⟩
    obtain ⟨r1, r2⟩ := W.rng e he
    obtain rfl | rfl : h = 0 ∨ h = 1 := by omega
    · exact r1
    · exact r2
  · obtain rfl | rfl : h = 0 ∨ h = 1 := by omega
    · obtain ⟨e, he, rfl⟩ := W.com0 a ha
      exact List.mem_map.mpr ⟨e.1, List.mem_map.mpr ⟨e, he, rfl⟩, rfl⟩
    · obtain ⟨e, he, rfl⟩ := W.com1 a ha
      exact List.mem_map.mpr ⟨e.1, List.mem_map.mpr ⟨e, he, rfl⟩, rfl⟩
theorem small_let {l : List (Int × Int)} (h : okLet l) : small (letD l) := fun ds e => by
  cases e
  rw [List.length_map]
  have := h.2.1
  omega
theorem keys_of {H : Hp} : ∀ {kvs : List (List Key × V)} {bo : BD}, A2 (EnAt H) kvs bo → kvs.map (·.1) = (bo.map (·.1)).map kI
  | _, _, .nil => rfl
  | _, _, .cons a b => by rw [List.map_cons, List.map_cons, List.map_cons, keys_of b, a.1]
theorem kI_tp {H : Hp} {q : Addr} {p : IP} (h : H q = some (.tup ((kI p).map kV))) : TpAt H (.ref q) (iI p) := ⟨q, rfl, h⟩
def spBoth (K : PySem.W.Frag) : Sp := fun vs H Q _ => ∃ (d : Addr) (v : V) (T : TD), vs = [.ref d, v] ∧ BoAt H d T.bo ∧ AlAt H v T.al ∧ WF T ∧ ∀ H', Same H H' → Q (.bl true) H'
section
variable {P : Program} {w : World} {K : PySem.W.Frag} {mg : Str → Option Value} {base : Heap}
abbrev nBoth : List Str := ["thing", "alone", "pair", "let", "hand"]
theorem sc_both : FnScope nBoth ["thing", "alone"] (defScope s_is_both) := ⟨rfl, rfl, rfl, by decide +kernel, rfl, by decide +kernel, by decide +kernel⟩
theorem ok_both {f g1 g2 g3 : Addr} {fd d1 d2 d3 : FuncData} (F : Fun K "is_both" "is_both" s_is_both f fd) (T : Txt K mg) (T2 : Txt2 K mg) (U : TxtH K mg) (W1 : Def P w K mg base "is_input_pair" ["thing", "alone"] 3 (spInp K) g1 d1)
    (W2 : Def P w K mg base "is_let" ["thing"] 5 (spLetB K) g2 d2) (W3 : Def P w K mg base "each_comes" ["both", "alone", "hand"] 1 (spEach K) g3 d3) : FnOk P w K mg base CX0 6 f fd ["thing", "alone"] (spBoth K) := by
  refine F.ok sc_both (fun vs H Q E h => ?_) (fun cdv A outer s H vs Q E hr h => ?_)
  · obtain ⟨d, v, D, rfl, _⟩ := h
    rfl
  obtain ⟨d, v, D, rfl, ⟨kvs, hd, ha⟩, hA, hW, q⟩ := h
  obtain ⟨hT, mH, hH⟩ := U.hands
  have nd := sc_both.nd
  refine ⟨_, (pss_one (ps_ret (pe_and (pe_callB call_isi (by rfl) T.isi boot_isinstance (pa_cons (pv 0) (pa_cons (pe_bltn (v := .ty "dict") (by rfl) T2.dict boot_dict rfl) pa_nil))) (pe_and (pe_callB (cr_all rfl) (by rfl) T.all (by decide +kernel) (pa_cons (pe_lock (pe_lc (own := [("pair", 2), ("let", 3)]) (g := (gTup K 2 (gCons (gName 2) (gCons (gName 3) gNil)))) (tt := tYes) (te := (tAndV (tCall (spInp K) [] E0 (tCons (tVar 2) (tCons (tVar 1) tNil))) (tCall (spLetB K) [] E0 (tCons (tVar 3) tNil)))) rfl nd (pi_itemsT (pv 0)) (blkOk_by (N := nBoth) (sc := defScope s_is_both) (by decide +kernel)) (fun _ _ _ _ _ => (by exact (pg_tup (by rfl) (pgs_cons (pg_name (i := 2) nd rfl (Or.inl rfl)) (pgs_cons (pg_name (i := 3) nd rfl (Or.inl rfl)) pgs_nil))))) (fun _ _ _ _ _ => pts_nil) (fun _ _ _ _ _ => (by exact (pe_and (pe_call W1.G (hr.mono (by decide)) rfl W1.m W1.k W1.b .nil pass0 (pa_cons (pv 2) (pa_cons (pv 1) pa_nil))) (pe_one (pe_call W2.G (hr.mono (by decide)) rfl W2.m W2.k W2.b .nil pass0 (pa_cons (pv 3) pa_nil)))))))) pa_nil)) (pe_one (pe_callB (cr_all rfl) (by rfl) T.all (by decide +kernel) (pa_cons (pe_lc (own := [("hand", 4)]) (g := (gName 4)) (tt := tYes) (te := (tCall (spEach K) [] E0 (tCons (tVar 0) (tCons (tVar 1) (tCons (tVar 4) tNil))))) rfl nd (pi_tup (pe_glob (v := .ref hT) rfl mH rfl)) (blkOk_by (N := nBoth) (sc := defScope s_is_both) (by decide +kernel)) (fun _ _ _ _ _ => (by exact (pg_name (i := 4) nd rfl (Or.inl rfl)))) (fun _ _ _ _ _ => pts_nil) (fun _ _ _ _ _ => (by exact (pe_call W3.G (hr.mono (by decide)) rfl W3.m W3.k W3.b .nil pass0 (pa_cons (pv 0) (pa_cons (pv 1) (pa_cons (pv 4) pa_nil))))))) pa_nil))))))), ?_⟩
  have hkl := ha.len
  refine ⟨_, rfl, V.ref d, .ty "dict", .type "dict", .type "dict", true, rfl, .ty "dict", .base (.dT hd), kit_ty (by decide +kernel), _, rfl, iteT ?_⟩
  refine ⟨d, _, hd, trivial, fun od => ?_⟩
  have hd1 : (upd H d (.frz od (.dT kvs))) d = some (.frz od (.dT kvs)) := upd_same
  refine ⟨_, rfl, d, od, kvs, rfl, hd1, fun L hL => ?_⟩
  have nL : d ≠ L := ne_of_none hd1 hL
  have hLn : H L = none := by
    cases e : H L with
    | none => rfl
    | some o =>
      have z := But.at (H := H) (o := .frz od (.dT kvs)) L o (Ne.symm nL) e
      rw [z] at hL
      cases hL
  refine itemT_turns (fun i H' => But d H H' ∧ H' d = some (.frz od (.dT kvs)) ∧ H' L = some (.lst ((List.replicate i true).map V.bl))) ⟨But.at.trans (.same (same_new hL _)), by rw [upd_ne nL]; exact hd1, upd_same⟩ (fun i H' h => h.2.1) ?_ ?_
  · rintro i k x qa Tt H' hi hq hTn ⟨b1, e1, e2⟩
    obtain ⟨eb, hbi, ek, hx⟩ := ha.get hi
    have hm := List.mem_of_getElem? hbi
    dsimp only at ek hx
    subst ek
    have s1 := same_new hTn (.tup [V.ref qa, x])
    have kp : Kp H (upd H' Tt (.tup [V.ref qa, x])) := (b1.kp hd nf_dT).trans (.same s1)
    obtain ⟨al, rfl, hAl⟩ := (hA.mono kp).at2 (K := K)
    have hi2 : i < kvs.length := (List.getElem?_eq_some_iff.mp hi).1
    refine ⟨Tt, _, rfl, SqT.of upd_same, rfl, _, _, rfl, _, _, rfl, rfl, rfl, _, rfl, _, rfl, _, _, al, _, _, rfl, (kI_tp (s1 _ _ hq)).dp, hAl, fun H2 s2 => ?_⟩
    rw [in_yes (hW.rng eb hm)]
    refine ⟨_, rfl, iteT ⟨_, rfl, _, _, rfl, ((hx.mono kp).mono (.same s2)).dp, small_let (hW.lets eb hm), fun H3 s3 => ?_⟩⟩
    rw [let_yes (hW.lets eb hm)]
    have s13 := (s1.trans s2).trans s3
    refine ⟨_, s13 _ _ e2, ?_, (b1.trans (.same s13)).new hLn, by rw [upd_ne nL]; exact s13 _ _ e1, by rw [upd_same, rep_snoc]⟩
    rw [List.length_map, List.length_replicate]
    have := hW.many
    exact Nat.lt_of_lt_of_le (show i < 100 by omega) (by decide)
  · rintro H1 ⟨b1, e1, e2⟩
    have s1 : Same H (upd H1 d (.dT kvs)) := b1.unlock hd
    refine ⟨e1, L, _, rfl, SqL.of (by rw [upd_ne (Ne.symm nL)]; exact e2), ?_⟩
    rw [all_true]
    refine ⟨_, rfl, iteT ⟨hT, rfl, ⟨_, hH _⟩, fun L2 hL2 => ?_⟩⟩
    generalize upd H1 d (.dT kvs) = H2 at s1 hL2 ⊢
    refine tup_turns (xs := [V.int 0, V.int 1]) (fun i H' => Same H H' ∧ H' L2 = some (.lst ((List.replicate i true).map V.bl))) ⟨s1.trans (same_new hL2 _), upd_same⟩ (fun i H' _ _ => hH H') ?_ ?_
    · rintro i z H' hz ⟨s3, h3⟩
      have hi : i < 2 := (List.getElem?_eq_some_iff.mp hz).1
      obtain rfl : z = .int (i : Int) := by
        obtain rfl | rfl : i = 0 ∨ i = 1 := by omega
        · simpa using hz.symm
        · simpa using hz.symm
      obtain ⟨al, x0, x1, rfl, _⟩ := id hA
      refine ⟨rfl, _, rfl, _, rfl, _, rfl, d, _, i, kvs, D.bo.map (·.1), D.al, rfl, hi, s3 _ _ hd, keys_of ha, hA.mono (.same s3), by rw [List.length_map]; exact hW.many, fun H4 s4 => ?_⟩
      rw [comes_all hW hi, decide_eq_true rfl]
      have hL2n : H L2 = none := by
        cases e : H L2 with
        | none => rfl
        | some o => rw [s1 _ _ e] at hL2; cases hL2
      refine ⟨_, s4 _ _ h3, ?_, same_upd (s3.trans s4) hL2n, by rw [upd_same, rep_snoc]⟩
      rw [List.length_map, List.length_replicate]
      exact Nat.lt_of_lt_of_le (show i < 100 by omega) (by decide)
    · rintro H3 ⟨s3, h3⟩
      refine ⟨L2, _, rfl, SqL.of h3, ?_⟩
      rw [all_true]
      exact q _ s3
end
end TA

set_option Elab.async false
set_option maxRecDepth 100000
set_option maxHeartbeats 4000000
namespace TA
open PySem L2 PyProof.Rows
set_option linter.unusedVariables false
abbrev s_init : Stmt := inClass s_Task 0
abbrev s_eq : Stmt := inClass s_Task 1
abbrev s_inputs : Stmt := inClass s_Task 2
abbrev s_pairs : Stmt := inClass s_Task 3
theorem kfld : ¬ (("alone" : Str) = "both") := by decide +kernel
/-- a task's fields -/
def flds (a d : Addr) : List (Str × V) := putF "both" (.ref d) (putF "alone" (.ref a) [])
theorem flds_eq (a d : Addr) : flds a d = ([("alone", V.ref a), ("both", V.ref d)] : List (Str × V)) := by
  show (if ("alone" : Str) = "both" then [(("alone" : Str), V.ref d)] else (("alone" : Str), V.ref a) :: putF "both" (V.ref d) []) = ([("alone", V.ref a), ("both", V.ref d)] : List (Str × V))
  rw [if_neg kfld]
  all_goals rfl
theorem flds_alone (a d : Addr) : (flds a d).lookup ("alone" : Str) = some (.ref a) := by
  unfold flds
  rw [lookup_putF, if_neg kfld, lookup_putF, if_pos rfl]
theorem flds_both (a d : Addr) : (flds a d).lookup ("both" : Str) = some (.ref d) := by
  unfold flds
  rw [lookup_putF, if_pos rfl]
theorem flds_no (a d : Addr) {m : Str} (h1 : ¬ m = "both") (h2 : ¬ m = "alone") : (flds a d).lookup m = none := by
  unfold flds
  rw [lookup_putF, if_neg h1, lookup_putF, if_neg h2]
  all_goals rfl
/-- a task stands at p -/
def TaskAt (C : Addr) (H : Hp) (p : Addr) (T : TD) : Prop := ∃ dx a d, H p = some (.ins C dx (flds a d)) ∧ AlAt H (.ref a) T.al ∧ BoAt H d T.bo
theorem TaskAt.mono {C : Addr} {H H' : Hp} (s : Same H H') {p : Addr} {T : TD} (h : TaskAt C H p T) : TaskAt C H' p T := by
  obtain ⟨dx, a, d, h1, h2, h3⟩ := h
  exact ⟨dx, a, d, s _ _ h1, h2.mono (.same s), h3.mono s⟩
/-- a task whose dict is perhaps walked just now -/
def BoR (H : Hp) (d : Addr) (bo : BD) : Prop := ∃ kvs, Rd H d (.dT kvs) ∧ A2 (EnAt H) kvs bo
def TaskR (C : Addr) (H : Hp) (p : Addr) (T : TD) : Prop := ∃ dx a d, H p = some (.ins C dx (flds a d)) ∧ AlAt H (.ref a) T.al ∧ BoR H d T.bo
theorem rd_same {H H' : Hp} (s : Same H H') {a : Addr} {u : HO} (h : Rd H a u) : Rd H' a u := by
  rcases h with h | ⟨o, h⟩
  · exact .inl (s _ _ h)
  · exact .inr ⟨o, s _ _ h⟩
theorem rd_some {H : Hp} {a : Addr} {u : HO} (h : Rd H a u) : H a ≠ none := by
  rcases h with h | ⟨o, h⟩ <;> rw [h] <;> exact fun c => by cases c
theorem BoR.mono {H H' : Hp} (s : Same H H') {v} {p} (h : BoR H v p) : BoR H' v p := by
  obtain ⟨kvs, h, a⟩ := h
  exact ⟨kvs, rd_same s h, a.imp fun _ _ r => r.mono (.same s)⟩
theorem TaskAt.r {C : Addr} {H : Hp} {p : Addr} {T : TD} (h : TaskAt C H p T) : TaskR C H p T := by
  obtain ⟨dx, a, d, h1, h2, kvs, h3, h4⟩ := h
  exact ⟨dx, a, d, h1, h2, kvs, .inl h3, h4⟩
theorem TaskR.mono {C : Addr} {H H' : Hp} (s : Same H H') {p : Addr} {T : TD} (h : TaskR C H p T) : TaskR C H' p T := by
  obtain ⟨dx, a, d, h1, h2, h3⟩ := h
  exact ⟨dx, a, d, s _ _ h1, h2.mono (.same s), h3.mono s⟩
theorem dget_rd {H : Hp} {a b : Addr} {kvs : List (List Key × V)} {k : List Key} (e : Rd H a (.dT kvs)) (eb : H b = some (.tup (k.map kV))) : DGet H a (.ref b) (valV kvs k) := .inr ⟨kvs, k, b, e, rfl, eb, rfl⟩
def rLenTR : List V → Hp → VK → Prop := fun xs H Q => ∃ (p : Addr) (kvs : List (List Key × V)), xs = [.ref p] ∧ Rd H p (.dT kvs) ∧ Q (.int ((kvs.length : Nat) : Int)) H
theorem len_dTR {X : Cx} : CallR X (.builtin "len") rLenTR := by
  intro pins s σ H xs us Q I r h
  obtain ⟨p, kvs, rfl, hp, q⟩ := h
  obtain ⟨u, rfl, rx⟩ := vals1 r
  obtain rfl : u = .ref p := rx
  obtain ⟨z, hd, ys, rel, dd⟩ := dt_rd I.hok hp
  have hl : kvs.length = ys.length := Paired.length rel
  refine call_len_dictH hd dd (by rw [← hl]; rw [sizeLine_eq] at z; omega) ?_
  rw [← hl]
  exact ⟨.int ((kvs.length : Nat) : Int), H, I.tok _, ⟨_, rfl⟩, q⟩
structure TxtC (K : PySem.W.Frag) (mg : Str → Option Value) (C : Addr) : Prop where
  cl : Cls K C
  nA : NoAttr K C "alone"
  nB : NoAttr K C "both"
  mg : mg "Task" = some (.ref C)
structure MDef (P : Program) (w : World) (K : PySem.W.Frag) (mg : Str → Option Value) (base : Heap) (C : Addr) (m : Str) (ps : List Str) (k : Nat) (sp : Sp) (f : Addr) (fd : FuncData) : Prop where
  G : FnOk P w K mg base CX0 k f fd ps sp
  b : Binds K fd ps []
  M : Meth K C m f
/-- what is new in H' behind H0, but for D -/
def nwx (H0 : Hp) (D : Addr) (H' : Hp) : Hp := fun b => if H0 b = none ∧ b ≠ D then H' b else none
theorem nwx_some {H0 : Hp} {D : Addr} {H' : Hp} {b : Addr} {o : HO} (h : nwx H0 D H' b = some o) : H0 b = none ∧ b ≠ D ∧ H' b = some o := by
  unfold nwx at h
  split at h
  · rename_i c
    exact ⟨c.1, c.2, h⟩
  · cases h
theorem nwx_put {H0 : Hp} {D : Addr} {H' : Hp} {b : Addr} {o : HO} (h0 : H0 b = none) (hD : b ≠ D) (h : H' b = some o) : nwx H0 D H' b = some o := by
  unfold nwx
  rw [if_pos ⟨h0, hD⟩, h]
theorem kp_nwx {H0 : Hp} {D : Addr} {H' : Hp} : Kp (nwx H0 D H') H' := fun b o _ h => (nwx_some h).2.2
theorem kp_nwx_but {H0 : Hp} {D : Addr} {H H' : Hp} (s : But D H H') : Kp (nwx H0 D H) (nwx H0 D H') := fun b o _ h => by
  obtain ⟨h1, h2, h3⟩ := nwx_some h
  exact nwx_put h1 h2 (s b o h2 h3)
theorem none_of_same {H H' : Hp} (s : Same H H') {b : Addr} (h : H' b = none) : H b = none := by
  cases e : H b with
  | none => rfl
  | some o => rw [s _ _ e] at h; cases h
theorem none_of_but {d : Addr} {H H' : Hp} (s : But d H H') {b : Addr} (n : b ≠ d) (h : H' b = none) : H b = none := by
  cases e : H b with
  | none => rfl
  | some o => rw [s _ _ n e] at h; cases h
theorem kp_nwx_in {H0 H1 : Hp} {D D1 : Addr} {H2 : Hp} (s : Same H0 H1) {o1 : HO} (e1 : H1 D1 = some o1) : Kp (nwx H1 D H2) (nwx H0 D1 H2) := fun b o _ h => by
  obtain ⟨h1, h2, h3⟩ := nwx_some h
  exact nwx_put (none_of_same s h1) (fun c => by subst c; rw [e1] at h1; cases h1) h3
/-- pairs let in a new list, the pairs' tuples anywhere -/
def Let2 (Hl H : Hp) (v : V) (l : List (Int × Int)) : Prop := ∃ t xs, v = .ref t ∧ Hl t = some (.lst xs) ∧ A2 (TpAt H) xs l
theorem Let2.mono {Hl Hl' H H' : Hp} (s : Kp Hl Hl') (s' : Kp H H') {v : V} {p} (h : Let2 Hl H v p) : Let2 Hl' H' v p := by
  obtain ⟨t, xs, e, h, a⟩ := h
  exact ⟨t, xs, e, s.lst h, a.imp fun _ _ r => r.mono s'⟩
def En2 (Hl H : Hp) (e : List Key × V) (b : IP × List (Int × Int)) : Prop := e.1 = kI b.1 ∧ Let2 Hl H e.2 b.2
theorem En2.mono {Hl Hl' H H' : Hp} (s : Kp Hl Hl') (s' : Kp H H') {v} {p} (h : En2 Hl H v p) : En2 Hl' H' v p := ⟨h.1, h.2.mono s s'⟩
theorem En2.en {Hl H : Hp} (s : Kp Hl H) {v} {p} (h : En2 Hl H v p) : EnAt H v p := by
  obtain ⟨e, t, xs, e2, h, a⟩ := h
  exact ⟨e, t, xs, e2, s.lst h, a⟩
theorem kI_inj {p q : IP} (h : kI p = kI q) : p = q := by
  unfold kI at h
  injection h with h1 h2
  injection h2 with h2 _
  injection h1 with h1
  injection h2 with h2
  have a : p.1 = q.1 := by omega
  have b : p.2 = q.2 := by omega
  exact Prod.ext a b
theorem valV_noneP : ∀ {kvs : List (List Key × V)} {k : List Key}, (∀ e ∈ kvs, e.1 ≠ k) → valV kvs k = none
  | [], _, _ => rfl
  | e :: r, k, h => by
    rw [valV_neg (h e List.mem_cons_self)]
    exact valV_noneP fun x hx => h x (List.mem_cons_of_mem _ hx)
theorem ltN_ne {p q : IP} (h : ltN p q) : p ≠ q := by
  rintro rfl
  rcases h with h | ⟨_, h⟩ <;> omega
/-- what a new task holds: its lists are new, all of them -/
def NewAt (C : Addr) (H H' : Hp) (p : Addr) (T : TD) : Prop := ∃ dx a d kvs, H' p = some (.ins C dx (flds a d)) ∧ AlAt (nwx H p H') (.ref a) T.al ∧ H d = none ∧ H' d = some (.dT kvs) ∧ A2 (En2 (nwx H p H') H') kvs T.bo
theorem NewAt.task {C : Addr} {H H' : Hp} {p : Addr} {T : TD} (h : NewAt C H H' p T) : TaskAt C H' p T := by
  obtain ⟨dx, a, d, kvs, h1, h2, _, h3, h4⟩ := h
  exact ⟨dx, a, d, h1, h2.mono kp_nwx, kvs, h3, h4.imp fun _ _ r => r.en kp_nwx⟩
def spInit (K : PySem.W.Frag) (C : Addr) : Sp := fun vs H Q _ => ∃ (p dx a d : Addr) (T : TD), vs = [.ref p, .ref a, .ref d] ∧ H p = some (.ins C dx []) ∧ AlAt H (.ref a) T.al ∧ BoAt H d T.bo ∧ WF T ∧
  ∀ H', But p H H' → NewAt C H H' p T → Q .non H'
theorem al_rows {H : Hp} {v : V} {al : Nat → List (List Int)} (h : AlAt H v al) : ∃ t xs, v = .ref t ∧ H t = some (.lst xs) ∧ A2 (RowsAt H) xs [al 0, al 1] := by
  obtain ⟨t, x0, x1, e, h, a, b⟩ := h
  exact ⟨t, _, e, h, .cons a (.cons b .nil)⟩
theorem al_of {H : Hp} {t : Addr} {xs : List V} {al : Nat → List (List Int)} (h : H t = some (.lst xs)) (a : A2 (RowsAt H) xs [al 0, al 1]) : AlAt H (.ref t) al := by
  cases a with
  | cons a b =>
    cases b with
    | cons b c =>
      cases c
      exact ⟨t, _, _, rfl, h, a, b⟩
theorem small_rows {T : TD} (W : WF T) {h : Nat} (hh : h < 2) : ∀ e ∈ (T.al h).map rowD, small e := fun e he => by
  obtain ⟨r, hr, rfl⟩ := List.mem_map.mp he
  exact small_row (W.row h hh r hr)
theorem take_get {α : Type} {l : List α} {i : Nat} {x : α} (h : l[i]? = some x) : l.take (i + 1) = l.take i ++ [x] := by
  rw [List.take_add_one, h]
  rfl
section
variable {P : Program} {w : World} {K : PySem.W.Frag} {mg : Str → Option Value} {base : Heap}
abbrev nInit : List Str := ["self", "alone", "both", "rows", "outputs", "pair", "let"]
theorem sc_init : FnScope nInit ["self", "alone", "both"] (defScope s_init) := ⟨rfl, rfl, rfl, by decide +kernel, rfl, by decide +kernel, by decide +kernel⟩
theorem ok_init {f g4 g5 C : Addr} {fd d4 d5 : FuncData} (F : Fun K "__init__" "Task.__init__" s_init f fd) (T : Txt K mg) (T2 : Txt2 K mg) (Z : TxtC K mg C) (W4 : Def P w K mg base "is_alone" ["thing"] 6 (spAlone K) g4 d4)
    (W5 : Def P w K mg base "is_both" ["thing", "alone"] 6 (spBoth K) g5 d5) : FnOk P w K mg base CX0 7 f fd ["self", "alone", "both"] (spInit K C) := by
  refine F.ok sc_init (fun vs H Q E h => ?_) (fun cdv A outer s H vs Q E hr h => ?_)
  · obtain ⟨p, dx, a, d, D, rfl, _⟩ := h
    rfl
  obtain ⟨p, dx, a, d, D, rfl, hp, hA, hB, hW, q⟩ := h
  have nd := sc_init.nd
  have hu := hu_of hr
  refine ⟨_, (pss_cons (ps_if (pt_not (pt_val (pe_call W4.G (hr.mono (by decide)) rfl W4.m W4.k W4.b .nil pass0 (pa_cons (pv 1) pa_nil))))
      pss_never
      pss_nil)
    (pss_cons (ps_if (pt_not (pt_val (pe_call W5.G (hr.mono (by decide)) rfl W5.m W5.k W5.b .nil pass0 (pa_cons (pv 2) (pa_cons (pv 1) pa_nil)))))
      pss_never
      pss_nil)
    (pss_cons (ps_fld (pv 0) (pe_lc (own := [("rows", 3)]) (g := (gName 3)) (tt := tYes) (te := (tLc (iList K (tVar 3)) (gName 4) tYes (tCB (fun xs H Q => ∃ p ys, xs = [.ref p] ∧ (SqL K H p ys ∨ SqT K H p ys) ∧ ∀ l, H l = none → Q (.ref l) (upd H l (.lst ys))) (tCons (tVar 4) tNil)) [4])) rfl nd (pi_list (pv 1)) (blkOk_by (N := nInit) (sc := defScope s_init) (by decide +kernel)) (fun _ _ _ _ _ => (by exact (pg_name (i := 3) nd rfl (Or.inl rfl)))) (fun _ _ _ _ _ => pts_nil) (fun _ _ _ _ _ => (by exact (pe_lc (own := [("outputs", 4)]) (g := (gName 4)) (tt := tYes) (te := (tCB (fun xs H Q => ∃ p ys, xs = [.ref p] ∧ (SqL K H p ys ∨ SqT K H p ys) ∧ ∀ l, H l = none → Q (.ref l) (upd H l (.lst ys))) (tCons (tVar 4) tNil))) rfl nd (pi_list (pv 3)) (blkOk_by (N := nInit)  (by kernel_rfl)) (fun _ _ _ _ _ => (by exact (pg_name (i := 4) nd rfl (Or.inl rfl)))) (fun _ _ _ _ _ => pts_nil) (fun _ _ _ _ _ => (by exact (pe_callTy call_list_of (by rfl) T.list boot_list (pa_cons (pv 4) pa_nil)))))))) rfl)
    (pss_one (ps_fld (pv 0) (pe_lock (pe_dcT (own := [("pair", 5), ("let", 6)]) (g := (gTup K 2 (gCons (gName 5) (gCons (gName 6) gNil)))) (tt := tYes) (tk := (tVar 5)) (tv := (tCB (fun xs H Q => ∃ p ys, xs = [.ref p] ∧ (SqL K H p ys ∨ SqT K H p ys) ∧ ∀ l, H l = none → Q (.ref l) (upd H l (.lst ys))) (tCons (tVar 6) tNil))) hu rfl nd (pi_itemsT (pv 2)) (blkOk_by (N := nInit) (sc := defScope s_init) (by decide +kernel)) (fun _ _ _ _ _ => (by exact (pg_tup (by rfl) (pgs_cons (pg_name (i := 5) nd rfl (Or.inl rfl)) (pgs_cons (pg_name (i := 6) nd rfl (Or.inl rfl)) pgs_nil))))) (fun _ _ _ _ _ => pts_nil) (fun _ _ _ _ _ => (by exact (pv 5))) (fun _ _ _ _ _ => (by exact (pe_callTy call_list_of (by rfl) T.list boot_list (pa_cons (pv 6) pa_nil)))))) rfl))))), ?_⟩
  refine ⟨_, rfl, _, _, rfl, hA.dp, (fun ds e => by cases e; exact (by decide : 2 ≤ 1000)), ?_, fun H1 s1 => ?_⟩
  · rintro ds e z hz
    cases e
    rcases List.mem_cons.mp hz with rfl | hz
    · refine ⟨fun es e => ?_, fun es e => ?_⟩
      · cases e
        rw [List.length_map]
        have := hW.n0 0 (by decide); omega
      · cases e
        exact small_rows hW (by decide)
    · obtain rfl := List.mem_singleton.mp hz
      refine ⟨fun es e => ?_, fun es e => ?_⟩
      · cases e
        rw [List.length_map]
        have := hW.n0 1 (by decide); omega
      · cases e
        exact small_rows hW (by decide)
  rw [alone_yes hW]
  refine ⟨true, rfl, iteF ?_⟩
  refine ⟨_, rfl, _, rfl, d, _, D, rfl, hB.mono s1, hA.mono (.same s1), hW, fun H2 s2 => ⟨true, rfl, iteF ?_⟩⟩
  have s12 := s1.trans s2
  obtain ⟨al, xs, e, hal, hrows⟩ := al_rows (hA.mono (.same s12))
  obtain rfl : a = al := by injection e
  clear e
  refine ⟨_, rfl, a, rfl, ⟨_, SqL.of hal⟩, fun D1 hD1 => ?_⟩
  have hD1n : H D1 = none := none_of_same s12 hD1
  refine list_turns (xs := xs) (fun i H' => Same H2 H' ∧ ∃ ys, H' D1 = some (.lst ys) ∧ A2 (RowsAt (nwx H2 D1 H')) ys ([D.al 0, D.al 1].take i)) ⟨same_new hD1 _, [], upd_same, .nil⟩ (fun i H' _ h => h.1.seq (SqL.of hal)) ?_ ?_
  · rintro i x H' hx ⟨s3, ys, hy, ay⟩
    obtain ⟨rows, hr1, t, zs, rfl, ht, az⟩ := hrows.get hx
    have ht3 := s3 _ _ ht
    have hsz : rows.length ≤ 20 := by
      have hi : i < 2 := (List.getElem?_eq_some_iff.mp hr1).1
      obtain rfl | rfl : i = 0 ∨ i = 1 := by omega
      · obtain rfl : D.al 0 = rows := by simpa using hr1
        exact (hW.n0 0 (by decide)).2
      · obtain rfl : D.al 1 = rows := by simpa using hr1
        exact (hW.n0 1 (by decide)).2
    refine ⟨rfl, _, rfl, t, rfl, ⟨_, SqL.of ht3⟩, fun D2 hD2 => ?_⟩
    refine list_turns (xs := zs) (fun j H4 => Same H' H4 ∧ ∃ us, H4 D2 = some (.lst us) ∧ A2 (RowAt (nwx H' D2 H4)) us (rows.take j)) ⟨same_new hD2 _, [], upd_same, .nil⟩ (fun j H4 _ h => h.1.seq (SqL.of ht3)) ?_ ?_
    · rintro j z H4 hz ⟨s4, us, hu4, au⟩
      obtain ⟨row, hr2, tt, rfl, htt⟩ := az.get hz
      have htt4 := s4 _ _ (s3 _ _ htt)
      refine ⟨rfl, _, rfl, tt, _, rfl, .inl (SqL.of htt4), fun l hl => ?_⟩
      have s5 := same_new hl (.lst (row.map V.int))
      have nl : l ≠ D2 := (ne_of_none hu4 hl).symm
      have hjr : us.length < rows.length := by
        rw [au.len, List.length_take]
        have := (List.getElem?_eq_some_iff.mp hr2).1
        omega
      refine ⟨us, s5 _ _ hu4, Nat.lt_of_lt_of_le (show us.length < 100 by omega) (by decide), ?_⟩
      refine ⟨same_upd (s4.trans s5) hD2, _, upd_same, ?_⟩
      rw [take_get hr2]
      refine A2.snoc (au.imp fun _ _ r => r.mono (kp_nwx_but ((But.same s5).trans But.at))) ⟨l, rfl, nwx_put (none_of_same s4 hl) nl ?_⟩
      rw [upd_ne nl]
      exact upd_same
    · rintro H4 ⟨s4, us, hu4, au⟩
      have hzl := az.len
      rw [hzl, List.take_length] at au
      have ne : D2 ≠ D1 := (ne_of_none hy hD2).symm
      refine ⟨ys, s4 _ _ hy, ?_, ?_⟩
      · rw [ay.len, List.length_take]
        exact Nat.lt_of_le_of_lt (Nat.min_le_right _ _) (by show 2 < sizeLine; decide)
      refine ⟨same_upd (s3.trans s4) hD1, _, upd_same, ?_⟩
      rw [take_get hr1]
      refine A2.snoc (ay.imp fun _ _ r => r.mono (kp_nwx_but ((But.same s4).trans But.at))) ?_
      have r0 : RowsAt (nwx H2 D1 H4) (.ref D2) rows := ⟨D2, us, rfl, nwx_put (none_of_same s3 hD2) ne hu4, au.imp fun _ _ r => r.mono (kp_nwx_in s3 hy)⟩
      exact r0.mono (kp_nwx_but But.at)
  · rintro H3 ⟨s3, ys, hy, ay⟩
    have hxl := hrows.len
    rw [hxl, List.take_length] at ay
    have hp3 := s3 _ _ (s12 _ _ hp)
    refine ⟨_, rfl, p, C, dx, _, rfl, hp3, Z.cl, Z.nA, (by show 0 < 1000; decide), ?_⟩
    have npD1 : D1 ≠ p := (ne_of_none (s12 _ _ hp) hD1).symm
    generalize hH5 : upd H3 p (.ins C dx (putF "alone" (.ref D1) [])) = H5
    have b5 : But p H H5 := by rw [← hH5]; exact (But.same (s12.trans s3)).trans But.at
    have hp5 : H5 p = some (.ins C dx (putF "alone" (.ref D1) [])) := by rw [← hH5]; exact upd_same
    have hD15 : H5 D1 = some (.lst ys) := by rw [← hH5, upd_ne npD1]; exact hy
    have ay5 : A2 (RowsAt (nwx H p H5)) ys [D.al 0, D.al 1] := ay.imp fun _ _ r => r.mono fun b o _ h => by
      obtain ⟨h1, h2, h3⟩ := nwx_some h
      have hb : b ≠ p := fun c => by subst c; rw [s12 _ _ hp] at h1; cases h1
      refine nwx_put (none_of_same s12 h1) hb ?_
      rw [← hH5, upd_ne hb]; exact h3
    obtain ⟨kvs, hd, ha⟩ := hB
    have ndp : d ≠ p := ne_of hd hp (fun z => by cases z)
    have hd5 : H5 d = some (.dT kvs) := b5 _ _ ndp hd
    have ha5 : A2 (EnAt H5) kvs D.bo := ha.imp fun _ _ r => r.mono (b5.kp hp (by rintro (⟨_, h⟩ | ⟨_, h⟩) <;> cases h))
    refine ⟨d, _, hd5, trivial, fun od => ?_⟩
    have hd6 : (upd H5 d (.frz od (.dT kvs))) d = some (.frz od (.dT kvs)) := upd_same
    refine ⟨_, rfl, d, od, kvs, rfl, hd6, fun L hL => ?_⟩
    have nL : d ≠ L := ne_of_none hd6 hL
    have hLn : H5 L = none := none_of_but But.at (Ne.symm nL) hL
    refine itemT_turns (fun i H' => But d H5 H' ∧ H' d = some (.frz od (.dT kvs)) ∧ ∃ ks, H' L = some (.dT ks) ∧ A2 (En2 (nwx H5 L H') H') ks (D.bo.take i)) ⟨But.at.trans (.same (same_new hL _)), by rw [upd_ne nL]; exact hd6, [], upd_same, .nil⟩ (fun i H' h => h.2.1) ?_ ?_
    · rintro i k x qa Tt H' hi hq hTn ⟨b1, e1, ks, e2, as⟩
      obtain ⟨eb, hbi, ek, hx⟩ := ha5.get hi
      dsimp only at ek hx
      subst ek
      have s1 := same_new hTn (.tup [V.ref qa, x])
      have kp : Kp H5 (upd H' Tt (.tup [V.ref qa, x])) := (b1.kp hd5 nf_dT).trans (.same s1)
      obtain ⟨t, xs2, rfl, ht, at2⟩ := hx.mono kp
      refine ⟨Tt, _, rfl, SqT.of upd_same, rfl, _, _, rfl, _, _, rfl, rfl, rfl, _, rfl, _, rfl, t, _, rfl, .inl (SqL.of ht), fun l hl => ?_⟩
      have s2 := same_new hl (.lst xs2)
      have hil : i < D.bo.length := (List.getElem?_eq_some_iff.mp hbi).1
      have hks : ks.length < 100 := by
        rw [as.len, List.length_take]
        have := hW.many
        omega
      refine ⟨ks, _, qa, rfl, s2 _ _ (s1 _ _ hq), s2 _ _ (s1 _ _ e2), Nat.lt_of_lt_of_le hks (by decide), ?_⟩
      have nl : l ≠ L := (ne_of_none (s1 _ _ e2) hl).symm
      have hvn : valV ks (kI eb.1) = none := valV_noneP fun e he c => by
        obtain ⟨y, hy1, hy2, _⟩ := as.mem he
        rw [hy2] at c
        have c := kI_inj c
        obtain ⟨j, hj⟩ := List.getElem?_of_mem hy1
        have hjl : j < i := by
          have := (List.getElem?_eq_some_iff.mp hj).1
          rw [List.length_take] at this
          omega
        rw [List.getElem?_take_of_lt hjl] at hj
        have sr := List.pairwise_iff_getElem.mp hW.srt j i (by rw [List.length_map]; omega) (by rw [List.length_map]; exact hil) hjl
        rw [List.getElem_map, List.getElem_map, (List.getElem?_eq_some_iff.mp hj).2, (List.getElem?_eq_some_iff.mp hbi).2] at sr
        exact sr c
      rw [putK_new _ hvn]
      have s12' := s1.trans s2
      have kpl : Kp (upd (upd H' Tt (.tup [V.ref qa, V.ref t])) l (.lst xs2)) (upd (upd (upd H' Tt (.tup [V.ref qa, V.ref t])) l (.lst xs2)) L (.dT (ks ++ [(kI eb.1, V.ref l)]))) := .put (s12' _ _ e2) nf_dT
      refine ⟨(b1.trans (.same s12')).new hLn, by rw [upd_ne nL]; exact s12' _ _ e1, _, upd_same, ?_⟩
      rw [take_get hbi]
      refine A2.snoc (as.imp fun _ _ r => r.mono (kp_nwx_but ((But.same s12').trans But.at)) ((Kp.same s12').trans kpl)) ⟨rfl, l, xs2, rfl, nwx_put ?_ nl ?_, at2.imp fun _ _ r => r.mono ((Kp.same s2).trans kpl)⟩
      · refine none_of_but (b1.trans (.same s1)) (fun c => ?_) hl
        subst c
        rw [s1 _ _ e1] at hl
        cases hl
      · rw [upd_ne nl]; exact upd_same
    · rintro H6 ⟨b1, e1, ks, e2, as⟩
      rw [ha5.len, List.take_length] at as
      have s6 : Same H5 (upd H6 d (.dT kvs)) := b1.unlock hd5
      generalize hH7 : upd H6 d (.dT kvs) = H7 at s6
      have e27 : H7 L = some (.dT ks) := by rw [← hH7, upd_ne (Ne.symm nL)]; exact e2
      have kp67 : Kp H6 H7 := by rw [← hH7]; exact .put e1 nf_frz
      refine ⟨e1, ?_⟩
      have hp7 := s6 _ _ hp5
      refine ⟨_, rfl, p, C, dx, _, rfl, hp7, Z.cl, Z.nB, (by show 1 < 1000; decide), ?_⟩
      have npL : L ≠ p := fun c => by subst c; rw [hp5] at hLn; cases hLn
      have nLp : H L = none := none_of_but b5 npL hLn
      have b7 : But p H (upd H7 p (.ins C dx (flds D1 L))) := (b5.trans (.same s6)).trans But.at
      refine q _ b7 ⟨dx, D1, L, ks, upd_same, al_of (nwx_put hD1n npD1 ?_) (ay5.imp fun _ _ r => r.mono (kp_nwx_but ((But.same s6).trans But.at))), nLp, ?_, as.imp fun _ _ r => r.mono (fun b o _ h => ?_) ?_⟩
      · rw [upd_ne npD1]; exact s6 _ _ hD15
      · rw [upd_ne npL]; exact e27
      · obtain ⟨h1, h2, h3⟩ := nwx_some h
        have hb : b ≠ p := fun c => by subst c; rw [hp5] at h1; cases h1
        have hbd : b ≠ d := fun c => by subst c; rw [hd5] at h1; cases h1
        refine nwx_put (none_of_but b5 hb h1) hb ?_
        rw [upd_ne hb, ← hH7, upd_ne hbd]
        exact h3
      · exact kp67.trans (.put hp7 (by rintro (⟨_, h⟩ | ⟨_, h⟩) <;> cases h))
end
end TA

set_option Elab.async false
set_option maxRecDepth 100000
set_option maxHeartbeats 4000000
namespace TA
open PySem L2 PyProof.Rows
set_option linter.unusedVariables false
theorem inV_int (x : Int) (fs : List Int) : inV (.int x) (fs.map V.int) = decide (x ∈ fs) := by
  induction fs with
  | nil => rfl
  | cons y r ih =>
    show (eqV (.int y) (.int x) || inV (.int x) (r.map V.int)) = _
    rw [ih]
    by_cases c : y = x
    · subst c
      rw [show eqV (.int y) (.int y) = true from by simp [eqV]]
      simp
    · rw [show eqV (.int y) (.int x) = false from by simp [eqV, c]]
      by_cases m : x ∈ r
      · simp [m]
      · have : ¬ x = y := fun e => c e.symm
        simp [m, this]
theorem flat_ints (fs : List Int) : (fs.map V.int).all flatV = true := by
  rw [List.all_eq_true]
  intro v hv
  obtain ⟨x, _, rfl⟩ := List.mem_map.mp hv
  rfl
def hasK (bo : BD) (xy : Int × Int) : Bool := bo.any fun e => decide (iI e.1 = xy)
theorem hasK_yes {bo : BD} {e : IP × List (Int × Int)} (h : e ∈ bo) : hasK bo (iI e.1) = true := List.any_eq_true.mpr ⟨e, h, decide_eq_true rfl⟩
def k2 (xy : Int × Int) : List Key := [.inl xy.1, .inl xy.2]
theorem k2_iff {p : IP} {xy : Int × Int} : kI p = k2 xy ↔ iI p = xy := by
  unfold kI k2 iI
  constructor
  · intro h
    injection h with h1 h2
    injection h2 with h2 _
    injection h1 with h1
    injection h2 with h2
    exact Prod.ext h1 h2
  · intro h
    rw [← h]
theorem some_hasK {H : Hp} : ∀ {kvs : List (List Key × V)} {bo : BD}, A2 (EnAt H) kvs bo → ∀ xy, (valV kvs (k2 xy)).isSome = hasK bo xy
  | _, _, .nil, _ => rfl
  | (k, v) :: kvs, b :: bo, .cons a r, xy => by
    obtain ⟨ek, _⟩ := a
    dsimp only at ek
    subst ek
    show _ = (decide (iI b.1 = xy) || hasK bo xy)
    by_cases c : iI b.1 = xy
    · rw [valV_pos (k2_iff.mpr c), decide_eq_true c]
      rfl
    · rw [valV_neg (fun h => c (k2_iff.mp h)), some_hasK r xy, decide_eq_false c, Bool.false_or]
theorem iI_inj {p q : IP} (h : iI p = iI q) : p = q := by
  unfold iI at h
  injection h with h1 h2
  exact Prod.ext (by omega) (by omega)
/-- what the dict holds at a pair that comes -/
theorem val_at {H : Hp} : ∀ {kvs : List (List Key × V)} {bo : BD}, A2 (EnAt H) kvs bo → (bo.map (·.1)).Pairwise (· ≠ ·) → ∀ e ∈ bo, ∃ v, valV kvs (kI e.1) = some v ∧ LetAt H v e.2
  | _, _, .nil, _, e, m => by cases m
  | (k, v) :: kvs, b :: bo, .cons a r, s, e, m => by
    obtain ⟨ek, hl⟩ := a
    dsimp only at ek hl
    subst ek
    rw [List.map_cons, List.pairwise_cons] at s
    rcases List.mem_cons.mp m with rfl | m
    · exact ⟨v, valV_pos rfl, hl⟩
    · rw [valV_neg (fun h => s.1 _ (List.mem_map.mpr ⟨e, m, rfl⟩) (kI_inj h))]
      exact val_at r s.2 e m
/-- the pairs in order -/
def leN (p q : IP × List (Int × Int)) : Bool := decide (p.1.1 < q.1.1 ∨ (p.1.1 = q.1.1 ∧ p.1.2 ≤ q.1.2))
def sb (T : TD) : BD := T.bo.mergeSort leN
theorem sb_perm (T : TD) : (sb T).Perm T.bo := List.mergeSort_perm _ _
theorem sb_mem {T : TD} {e : IP × List (Int × Int)} : e ∈ sb T ↔ e ∈ T.bo := (sb_perm T).mem_iff
theorem sb_sorted (T : TD) : (sb T).Pairwise fun a b => leN a b = true := by
  refine List.pairwise_mergeSort (fun a b c h1 h2 => ?_) (fun a b => ?_) _
  · have h1 := of_decide_eq_true h1
    have h2 := of_decide_eq_true h2
    refine decide_eq_true ?_
    omega
  · unfold leN
    rw [Bool.or_eq_true, decide_eq_true_eq, decide_eq_true_eq]
    omega
def rowB (d : PyData) (m : Nat) : Bool := match d with
  | .list ds => decide (ds.length = m) && (ds.map outB).all id
  | _ => false
def chosenB (d : PyData) (n0 n1 : Nat) : Bool := match d with
  | .list [d0, d1] => rowB d0 n0 && rowB d1 n1
  | _ => false
def okA (T : TD) (ch : Nat → List Int) (h a : Nat) : Prop := (ch h).getD a 0 ∈ (T.al h).getD a []
instance {T : TD} {ch : Nat → List Int} {h a : Nat} : Decidable (okA T ch h a) := by unfold okA; exact inferInstance
def spInputs (K : PySem.W.Frag) (C : Addr) : Sp := fun vs H Q _ => ∃ (p : Addr) (h : Nat) (T : TD), vs = [.ref p, .int (h : Int)] ∧ h < 2 ∧ TaskR C H p T ∧ Q (.int ((T.al h).length : Int)) H
def spPairs (K : PySem.W.Frag) (C : Addr) : Sp := fun vs H Q _ => ∃ (p : Addr) (T : TD), vs = [.ref p] ∧ TaskAt C H p T ∧ WF T ∧ ∀ (r : Addr) (xs : List V), H r = none → A2 (TpAt H) xs ((sb T).map fun e => iI e.1) → Q (.ref r) (upd H r (.lst xs))
def spPair (K : PySem.W.Frag) (C : Addr) : Sp := fun vs H Q _ => ∃ (p : Addr) (v : V) (T : TD) (xy : Int × Int), vs = [.ref p, v] ∧ TaskR C H p T ∧ WF T ∧ TpAt H v xy ∧ ∀ H', Same H H' → Q (.bl (hasK T.bo xy)) H'
def spRow (K : PySem.W.Frag) : Sp := fun vs H Q _ => ∃ (v : V) (d : PyData) (m : Nat), vs = [v, .int (m : Int)] ∧ Dp K H v d ∧ small d ∧ ∀ H', Same H H' → Q (.bl (rowB d m)) H'
def spChosen (K : PySem.W.Frag) (C : Addr) : Sp := fun vs H Q _ => ∃ (p : Addr) (v : V) (d : PyData) (T : TD), vs = [.ref p, v] ∧ TaskR C H p T ∧ Dp K H v d ∧ (∀ ds, d = .list ds → ∀ e ∈ ds, small e) ∧ ∀ H', Same H H' → Q (.bl (chosenB d (T.al 0).length (T.al 1).length)) H'
/-- what alone_fault tells -/
def AloneRes (T : TD) (ch : Nat → List Int) (fv : V) (H' : Hp) : Prop := (fv = .non ∧ ∀ h a, h < 2 → a < (T.al h).length → okA T ch h a) ∨
  ∃ r h a, fv = .ref r ∧ H' r = some (.tup [.str "alone", .int ((h : Nat) : Int), .int ((a : Nat) : Int)]) ∧ h < 2 ∧ a < (T.al h).length ∧ ¬ okA T ch h a ∧ ∀ h' a', h' < 2 → a' < (T.al h').length → (h' < h ∨ (h' = h ∧ a' < a)) → okA T ch h' a'
def spAloneF (K : PySem.W.Frag) (C : Addr) : Sp := fun vs H Q _ => ∃ (p : Addr) (v : V) (T : TD) (ch : Nat → List Int), vs = [.ref p, v] ∧ TaskAt C H p T ∧ WF T ∧ RowsAt H v [ch 0, ch 1] ∧ (∀ h, h < 2 → (ch h).length = (T.al h).length) ∧
  ∀ fv H', Same H H' → AloneRes T ch fv H' → Q fv H'
section
variable {P : Program} {w : World} {K : PySem.W.Frag} {mg : Str → Option Value} {base : Heap}
abbrev nInputs : List Str := ["self", "hand"]
theorem sc_inputs : FnScope nInputs nInputs (defScope s_inputs) := ⟨rfl, rfl, rfl, by decide +kernel, rfl, by decide +kernel, by decide +kernel⟩
theorem within_hand {h : Nat} (hh : h < 2) : within (.int (h : Int)) 0 1 = true := by
  show decide ((0 : Int) ≤ (h : Int) ∧ (h : Int) ≤ 1) = true
  exact decide_eq_true (by omega)
theorem ok_inputs {f g C : Addr} {fd gd : FuncData} (F : Fun K "inputs" "Task.inputs" s_inputs f fd) (T : Txt K mg) (Z : TxtC K mg C) (WH : Def P w K mg base "is_hand" ["thing"] 3 (spHandG K) g gd) : FnOk P w K mg base CX0 4 f fd nInputs (spInputs K C) := by
  refine F.ok sc_inputs (fun vs H Q E h => ?_) (fun cdv A outer s H vs Q E hr h => ?_)
  · obtain ⟨p, h, D, rfl, _⟩ := h
    rfl
  obtain ⟨p, h, D, rfl, hh, hT, q⟩ := h
  refine ⟨_, (pss_cons (ps_if (pt_not (pt_val (pe_call WH.G (hr.mono (by decide)) rfl WH.m WH.k WH.b .nil pass0 (pa_cons (pv 1) pa_nil))))
      pss_never
      pss_nil)
    (pss_one (ps_ret (pe_callB call_len_seq (by rfl) T.len PySem.boot_len (pa_cons (pe_ix ix_list (pe_fld (pv 0) rfl) (pv 1) (fun _ _ => rfl)) pa_nil))))), ?_⟩
  obtain ⟨dx, a, d, hp, hA, _⟩ := hT
  obtain ⟨t, x0, x1, e, ht, hrow⟩ := hA.row
  obtain rfl : a = t := by injection e
  obtain ⟨x, hx, r, xs, rfl, hr2, ha2⟩ := hrow h hh
  refine ⟨_, rfl, _, _, rfl, .int _, ?_⟩
  rw [within_hand hh]
  refine ⟨true, rfl, iteF ?_⟩
  refine ⟨_, rfl, p, C, dx, _, _, rfl, hp, Z.cl, Z.nA, flds_alone _ _, _, rfl, a, _, _, _, rfl, rfl, SqL.of ht, atI_nat hx, r, xs, rfl, .inl (SqL.of hr2), ?_⟩
  rw [ha2.len]
  exact q
abbrev nPairs : List Str := ["self"]
theorem sc_pairs : FnScope nPairs nPairs (defScope s_pairs) := ⟨rfl, rfl, rfl, by decide +kernel, rfl, by decide +kernel, by decide +kernel⟩
theorem keys_sorted {T : TD} (W : WF T) {L : List (Addr × List Int)} (h1 : (L.map (·.2)).Perm (T.bo.map fun e => [((e.1.1 : Nat) : Int), ((e.1.2 : Nat) : Int)])) (h2 : L.Pairwise (fun q r => TS.code 64 q.2 ≤ TS.code 64 r.2)) :
    L.map (·.2) = (sb T).map fun e => [((e.1.1 : Nat) : Int), ((e.1.2 : Nat) : Int)] := by
  have n0 := (W.n0 0 (by decide)).2
  have n1 := (W.n0 1 (by decide)).2
  have bd : ∀ x ∈ T.bo.map (fun e => [((e.1.1 : Nat) : Int), ((e.1.2 : Nat) : Int)]), ∃ a b : Nat, a < 20 ∧ b < 20 ∧ x = [(a : Int), (b : Int)] := fun x hx => by
    obtain ⟨e, he, rfl⟩ := List.mem_map.mp hx
    have := W.rng e he
    exact ⟨e.1.1, e.1.2, by omega, by omega, rfl⟩
  have hp := (sb_perm T).map (fun e => [((e.1.1 : Nat) : Int), ((e.1.2 : Nat) : Int)])
  have h3 := h1.trans hp.symm
  refine List.Perm.eq_of_pairwise (le := fun a b => TS.code 64 a ≤ TS.code 64 b) (fun a b ha hb h h' => ?_) (List.pairwise_map.mpr h2) ?_ h3
  · obtain ⟨a1, a2, _, _, rfl⟩ := bd a (h1.mem_iff.mp ha)
    obtain ⟨b1, b2, _, _, rfl⟩ := bd b (hp.mem_iff.mp hb)
    rw [code_pair, code_pair] at h h'
    have e1 : a1 = b1 := by omega
    have e2 : a2 = b2 := by omega
    rw [e1, e2]
  · rw [List.pairwise_map]
    refine (sb_sorted T).imp_of_mem fun {a b} ha hb h => ?_
    have := W.rng a (sb_mem.mp ha)
    have := W.rng b (sb_mem.mp hb)
    rw [code_pair, code_pair]
    have h := of_decide_eq_true h
    rcases h with h | ⟨h, h'⟩
    · omega
    · omega
theorem ok_pairs {f C : Addr} {fd : FuncData} (F : Fun K "pairs" "Task.pairs" s_pairs f fd) (T2 : Txt2 K mg) (Z : TxtC K mg C) : FnOk P w K mg base CX0 1 f fd nPairs (spPairs K C) := by
  refine F.ok sc_pairs (fun vs H Q E h => ?_) (fun cdv A outer s H vs Q E hr h => ?_)
  · obtain ⟨p, D, rfl, _⟩ := h
    rfl
  obtain ⟨p, D, rfl, hT, hW, q⟩ := h
  refine ⟨_, (pss_one (ps_ret (pe_callB (cr_sortedDT (d := 2) (B := 64) (by decide) rfl) (by rfl) T2.sorted (by decide +kernel) (pa_cons (pe_fld (pv 0) rfl) pa_nil)))), ?_⟩
  obtain ⟨dx, a, d, hp, hA, kvs, hd, ha⟩ := hT
  refine ⟨_, rfl, p, C, dx, _, _, rfl, hp, Z.cl, Z.nB, flds_both _ _, d, kvs, D.bo.map (fun e => [((e.1.1 : Nat) : Int), ((e.1.2 : Nat) : Int)]), rfl, .inl hd, ?_, ?_, ?_, fun L r h1 h2 h3 hr0 => ?_⟩
  · rw [keys_of ha, List.map_map, List.map_map]
    rfl
  · rw [List.length_map]
    have := hW.many
    omega
  · intro ns hns
    obtain ⟨e, he, rfl⟩ := List.mem_map.mp hns
    have := hW.rng e he
    have := (hW.n0 0 (by decide)).2
    have := (hW.n0 1 (by decide)).2
    refine ⟨rfl, fun m hm => ?_⟩
    rcases List.mem_cons.mp hm with rfl | hm
    · omega
    · obtain rfl := List.mem_singleton.mp hm
      omega
  · refine q r _ hr0 ?_
    have e := keys_sorted hW h1 h2
    clear h1 h2 q
    generalize sb D = bo at e
    induction L generalizing bo with
    | nil =>
      cases bo with
      | nil => exact .nil
      | cons _ _ => cases e
    | cons x L ih =>
      cases bo with
      | nil => cases e
      | cons b bo =>
        rw [List.map_cons, List.map_cons] at e
        injection e with e1 e2
        refine .cons ⟨x.1, rfl, ?_⟩ (ih (fun y hy => h3 y (List.mem_cons_of_mem _ hy)) bo e2)
        rw [h3 x List.mem_cons_self, e1]
        rfl
abbrev nIsPair : List Str := ["task", "thing"]
theorem sc_ispair : FnScope nIsPair nIsPair (defScope s_is_pair) := ⟨rfl, rfl, rfl, by decide +kernel, rfl, by decide +kernel, by decide +kernel⟩
theorem inB_hasK {T : TD} (W : WF T) {xy : Int × Int} (h : inB (T.al 0).length (T.al 1).length (pairD xy) = false) : hasK T.bo xy = false := by
  cases c : hasK T.bo xy with
  | false => rfl
  | true =>
    obtain ⟨e, he, h1⟩ := List.any_eq_true.mp c
    have h2 := of_decide_eq_true h1
    rw [← h2, in_yes (W.rng e he)] at h
    cases h
theorem ok_ispair {f g C : Addr} {fd gd : FuncData} (F : Fun K "is_pair" "is_pair" s_is_pair f fd) (T : Txt K mg) (Z : TxtC K mg C) (W1 : Def P w K mg base "is_input_pair" ["thing", "alone"] 3 (spInp K) g gd) : FnOk P w K mg base CX0 4 f fd nIsPair (spPair K C) := by
  refine F.ok sc_ispair (fun vs H Q E h => ?_) (fun cdv A outer s H vs Q E hr h => ?_)
  · obtain ⟨p, v, D, xy, rfl, _⟩ := h
    rfl
  obtain ⟨p, v, D, xy, rfl, hT, hW, hv, q⟩ := h
  have hu := hu_of hr
  refine ⟨_, (pss_one (ps_ret (pe_and (pe_call W1.G (hr.mono (by decide)) rfl W1.m W1.k W1.b .nil pass0 (pa_cons (pv 1) (pa_cons (pe_fld (pv 0) rfl) pa_nil))) (pe_one (pe_cmp (pc_din hu (pv 1) (pe_fld (pv 0) rfl)) rfl))))), ?_⟩
  obtain ⟨dx, a, d, hp, hA, hB⟩ := hT
  obtain ⟨al, e, hal⟩ := hA.at2 (K := K)
  obtain rfl : a = al := by injection e
  refine ⟨_, rfl, _, rfl, p, C, dx, _, _, rfl, hp, Z.cl, Z.nA, flds_alone _ _, v, _, a, _, _, rfl, hv.dp, hal, fun H1 s1 => ⟨_, rfl, ?_⟩⟩
  cases c : inB (D.al 0).length (D.al 1).length (pairD xy) with
  | false =>
    rw [inB_hasK hW c] at q
    exact iteF (q _ s1)
  | true =>
    obtain ⟨kvs, hd, ha⟩ := hB.mono s1
    obtain ⟨t, rfl, ht⟩ := hv.mono (.same s1)
    refine iteT ⟨_, rfl, _, rfl, p, C, dx, _, _, rfl, s1 _ _ hp, Z.cl, Z.nB, flds_both _ _, d, _, rfl, dget_rd (k := k2 xy) hd ht, ?_⟩
    rw [some_hasK ha]
    exact q _ s1
abbrev nRow : List Str := ["thing", "many", "x"]
theorem sc_row : FnScope nRow ["thing", "many"] (defScope s_is_row) := ⟨rfl, rfl, rfl, by decide +kernel, rfl, by decide +kernel, by decide +kernel⟩
theorem ok_row {f g : Addr} {fd gd : FuncData} (F : Fun K "is_row" "is_row" s_is_row f fd) (T : Txt K mg) (WO : Def P w K mg base "is_output" ["thing"] 3 (spOut K) g gd) : FnOk P w K mg base CX0 4 f fd ["thing", "many"] (spRow K) := by
  refine F.ok sc_row (fun vs H Q E h => ?_) (fun cdv A outer s H vs Q E hr h => ?_)
  · obtain ⟨v, d, m, rfl, _⟩ := h
    rfl
  obtain ⟨v, d, m, rfl, hk, hz, q⟩ := h
  have nd := sc_row.nd
  refine ⟨_, (pss_one (ps_ret (pe_and (pe_callB call_isi (by rfl) T.isi boot_isinstance (pa_cons (pv 0) (pa_cons (pe_bltn (v := .ty "list") (by rfl) T.list boot_list rfl) pa_nil))) (pe_and (pe_cmpR op_eq (pe_callB call_len_seq (by rfl) T.len PySem.boot_len (pa_cons (pv 0) pa_nil)) (pv 1) (nomark _)) (pe_one (pe_callB (cr_all rfl) (by rfl) T.all (by decide +kernel) (pa_cons (pe_lc (own := [("x", 2)]) (g := (gName 2)) (tt := tYes) (te := (tCall (spOut K) [] E0 (tCons (tVar 2) tNil))) rfl nd (pi_list (pv 0)) (blkOk_by (N := nRow) (sc := defScope s_is_row) (by decide +kernel)) (fun _ _ _ _ _ => (by exact (pg_name (i := 2) nd rfl (Or.inl rfl)))) (fun _ _ _ _ _ => pts_nil) (fun _ _ _ _ _ => (by exact (pe_call WO.G (hr.mono (by decide)) rfl WO.m WO.k WO.b .nil pass0 (pa_cons (pv 2) pa_nil))))) pa_nil))))))), ?_⟩
  refine ⟨_, rfl, v, .ty "list", _, _, isLstD d, rfl, .ty "list", dp_ty hk, kit_lst d, _, rfl, ?_⟩
  cases cl : isLstD d with
  | false =>
    have : rowB d m = false := by cases d <;> first | rfl | cases cl
    rw [this] at q
    exact iteF (q _ (Same.refl H))
  | true =>
    obtain ⟨ds, rfl⟩ : ∃ ds, d = .list ds := by cases d <;> first | exact ⟨_, rfl⟩ | cases cl
    obtain ⟨p, vs, rfl, hS, hD⟩ : ∃ t vs, v = .ref t ∧ SqL K H t vs ∧ DpAll K H vs ds := by
      cases hk with
      | lst a b => exact ⟨_, _, rfl, a, b⟩
    have hl := dpAll_len hD
    have hds := hz ds rfl
    have eO : rowB (.list ds) m = (decide (ds.length = m) && (ds.map outB).all id) := rfl
    refine iteT ⟨_, rfl, p, _, rfl, .inl hS, _, rfl, rfl, _, rfl, ?_⟩
    rw [hl, dec_nat]
    by_cases c : ds.length = m
    case neg =>
      rw [eO, decide_eq_false c, Bool.false_and] at q
      refine iteF' (decide_eq_false c) ?_
      exact q _ (Same.refl H)
    rw [eO, decide_eq_true c, Bool.true_and] at q
    refine iteT' (decide_eq_true c) ?_
    refine ⟨_, rfl, p, rfl, ⟨_, hS⟩, fun D hD' => ?_⟩
    refine list_turns (xs := vs) (fun i H' => Same H H' ∧ H' D = some (.lst (((ds.map outB).take i).map V.bl))) ⟨same_new hD' _, upd_same⟩ (fun i H' _ h => h.1.seq hS) ?_ ?_
    · rintro i x H' hx ⟨s1, h1⟩
      obtain ⟨di, hdi, hxi⟩ := dpAll_get hD hx
      have hi : i < ds.length := (List.getElem?_eq_some_iff.mp hdi).1
      have hb : (ds.map outB)[i]? = some (outB di) := by rw [List.getElem?_map, hdi]; rfl
      refine ⟨rfl, _, rfl, x, di, rfl, dp_mono s1 _ _ hxi, _, h1, ?_, same_upd s1 hD', by rw [upd_same, take_bl _ hb]⟩
      rw [List.length_map]
      exact Nat.lt_of_le_of_lt (List.length_take_le _ _) (Nat.lt_of_lt_of_le hi (Nat.le_trans hds (by decide)))
    · rintro H1 ⟨s1, h1⟩
      rw [hl, ← List.length_map (f := outB), List.take_length] at h1
      exact ⟨D, _, rfl, SqL.of h1, q _ s1⟩
end
end TA

set_option Elab.async false
set_option maxRecDepth 100000
set_option maxHeartbeats 4000000
namespace TA
open PySem L2 PyProof.Rows
set_option linter.unusedVariables false
theorem two_cases (ds : List PyData) : (∃ x y, ds = [x, y]) ∨ ds.length ≠ 2 := by
  match ds with
  | [x, y] => exact .inl ⟨x, y, rfl⟩
  | [] | [_] | _ :: _ :: _ :: _ => exact .inr (by simp)
theorem chosen_no {ds : List PyData} {n0 n1 : Nat} (h : ds.length ≠ 2) : chosenB (.list ds) n0 n1 = false := by
  match ds, h with
  | [x, y], h => exact absurd rfl h
  | [], _ | [_], _ | _ :: _ :: _ :: _, _ => rfl
theorem hand_at {i : Nat} {z : V} (h : ([V.int 0, V.int 1] : List V)[i]? = some z) : i < 2 ∧ z = .int (i : Int) := by
  have hi : i < 2 := (List.getElem?_eq_some_iff.mp h).1
  refine ⟨hi, ?_⟩
  obtain rfl | rfl : i = 0 ∨ i = 1 := by omega
  · simpa using h.symm
  · simpa using h.symm
section
variable {P : Program} {w : World} {K : PySem.W.Frag} {mg : Str → Option Value} {base : Heap}
abbrev nChosen : List Str := ["task", "thing", "hand"]
theorem sc_chosen : FnScope nChosen ["task", "thing"] (defScope s_is_chosen) := ⟨rfl, rfl, rfl, by decide +kernel, rfl, by decide +kernel, by decide +kernel⟩
theorem ok_chosen {f g1 g2 C : Addr} {fd d1 d2 : FuncData} (F : Fun K "is_chosen" "is_chosen" s_is_chosen f fd) (T : Txt K mg) (U : TxtH K mg) (Z : TxtC K mg C) (WR : Def P w K mg base "is_row" ["thing", "many"] 4 (spRow K) g1 d1)
    (Inp : MDef P w K mg base C "inputs" nInputs 4 (spInputs K C) g2 d2) : FnOk P w K mg base CX0 5 f fd ["task", "thing"] (spChosen K C) := by
  refine F.ok sc_chosen (fun vs H Q E h => ?_) (fun cdv A outer s H vs Q E hr h => ?_)
  · obtain ⟨p, v, d, D, rfl, _⟩ := h
    rfl
  obtain ⟨p, v, d, D, rfl, hTk, hk, hz, q⟩ := h
  obtain ⟨hT, mH, hH⟩ := U.hands
  have nd := sc_chosen.nd
  refine ⟨_, (pss_one (ps_ret (pe_and (pe_callB call_isi (by rfl) T.isi boot_isinstance (pa_cons (pv 1) (pa_cons (pe_bltn (v := .ty "list") (by rfl) T.list boot_list rfl) pa_nil))) (pe_and (pe_cmpR op_eq (pe_callB call_len_seq (by rfl) T.len PySem.boot_len (pa_cons (pv 1) pa_nil)) pe_int (nomark _)) (pe_one (pe_callB (cr_all rfl) (by rfl) T.all (by decide +kernel) (pa_cons (pe_lc (own := [("hand", 2)]) (g := (gName 2)) (tt := tYes) (te := (tCall (spRow K) [] E0 (tCons (tOp (rIxL K) (tVar 1) (tVar 2)) (tCons (tMeth C "inputs" (spInputs K C) [] E0 (tVar 0) (tCons (tVar 2) tNil)) tNil)))) rfl nd (pi_tup (pe_glob (v := .ref hT) rfl mH rfl)) (blkOk_by (N := nChosen) (sc := defScope s_is_chosen) (by decide +kernel)) (fun _ _ _ _ _ => (by exact (pg_name (i := 2) nd rfl (Or.inl rfl)))) (fun _ _ _ _ _ => pts_nil) (fun _ _ _ _ _ => (by exact (pe_call WR.G (hr.mono (by decide)) rfl WR.m WR.k WR.b .nil pass0 (pa_cons (pe_ix ix_list (pv 1) (pv 2) (fun _ _ => rfl)) (pa_cons (pe_meth (pv 0) Z.cl Inp.M Inp.G (hr.mono (by decide)) Inp.b .nil pass0 (pa_cons (pv 2) pa_nil)) pa_nil)))))) pa_nil))))))), ?_⟩
  refine ⟨_, rfl, v, .ty "list", _, _, isLstD d, rfl, .ty "list", dp_ty hk, kit_lst d, _, rfl, ?_⟩
  cases cl : isLstD d with
  | false =>
    have : chosenB d (D.al 0).length (D.al 1).length = false := by cases d <;> first | rfl | cases cl
    rw [this] at q
    exact iteF (q _ (Same.refl H))
  | true =>
    obtain ⟨ds, rfl⟩ : ∃ ds, d = .list ds := by cases d <;> first | exact ⟨_, rfl⟩ | cases cl
    obtain ⟨t, vs, rfl, hS, hD⟩ : ∃ t vs, v = .ref t ∧ SqL K H t vs ∧ DpAll K H vs ds := by
      cases hk with
      | lst a b => exact ⟨_, _, rfl, a, b⟩
    have hl := dpAll_len hD
    refine iteT ⟨_, rfl, t, _, rfl, .inl hS, rfl, _, rfl, ?_⟩
    rcases two_cases ds with ⟨x, y, rfl⟩ | c
    case inr =>
      rw [chosen_no c] at q
      refine iteF' (decide_eq_false fun e => c (by injection e with e; omega)) ?_
      exact q _ (Same.refl H)
    refine iteT' (decide_eq_true (by rw [hl]; rfl)) ?_
    cases hD with
    | cons hx hD =>
    cases hD with
    | cons hy hD =>
    cases hD
    rename_i vx vy
    refine ⟨hT, rfl, ⟨_, hH _⟩, fun L hL => ?_⟩
    refine tup_turns (xs := [V.int 0, V.int 1]) (fun i H' => Same H H' ∧ H' L = some (.lst (([rowB x (D.al 0).length, rowB y (D.al 1).length].take i).map V.bl))) ⟨same_new hL _, upd_same⟩ (fun i H' _ _ => hH H') ?_ ?_
    · rintro i z H' hz' ⟨s3, h3⟩
      obtain ⟨hi, rfl⟩ := hand_at hz'
      obtain ⟨u, e, hu1, hu2, hu3⟩ : ∃ u e, ([vx, vy] : List V)[i]? = some u ∧ ([x, y] : List PyData)[i]? = some e ∧ Dp K H u e := by
        obtain rfl | rfl : i = 0 ∨ i = 1 := by omega
        · exact ⟨vx, x, rfl, rfl, hx⟩
        · exact ⟨vy, y, rfl, rfl, hy⟩
      obtain ⟨dx, a, d, hp, hA, hB⟩ := hTk.mono s3
      refine ⟨rfl, _, rfl, _, rfl, t, _, _, _, rfl, rfl, s3.seq hS, atI_nat hu1, ?_⟩
      refine ⟨_, rfl, p, dx, _, rfl, hp, flds_no _ _ (by decide +kernel) (by decide +kernel), _, rfl, p, i, D, rfl, hi, ⟨dx, a, d, hp, hA, hB⟩, ?_⟩
      refine ⟨u, e, (D.al i).length, rfl, dp_mono s3 _ _ hu3, hz _ rfl _ (List.mem_of_getElem? hu2), fun H4 s4 => ?_⟩
      have hb : [rowB x (D.al 0).length, rowB y (D.al 1).length][i]? = some (rowB e (D.al i).length) := by
        obtain rfl | rfl : i = 0 ∨ i = 1 := by omega
        · obtain rfl : x = e := by simpa using hu2
          rfl
        · obtain rfl : y = e := by simpa using hu2
          rfl
      refine ⟨_, s4 _ _ h3, ?_, same_upd (s3.trans s4) hL, by rw [upd_same, take_bl _ hb]⟩
      rw [List.length_map]
      exact Nat.lt_of_le_of_lt (List.length_take_le _ _) (Nat.lt_of_lt_of_le hi (by decide))
    · rintro H3 ⟨s3, h3⟩
      refine ⟨L, _, rfl, SqL.of h3, ?_⟩
      have e1 : chosenB (.list [x, y]) (D.al 0).length (D.al 1).length = (([rowB x (D.al 0).length, rowB y (D.al 1).length].take [V.int 0, V.int 1].length).all id) := by
        show (rowB x _ && rowB y _) = (rowB x _ && (rowB y _ && true))
        rw [Bool.and_true]
      rw [e1] at q
      exact q _ s3
end
end TA

set_option Elab.async false
set_option maxRecDepth 100000
set_option maxHeartbeats 4000000
namespace TA
open PySem L2 PyProof.Rows
set_option linter.unusedVariables false
/-! data that may be compared -/
def Ok (n : Nat) (d : PyData) : Prop := d.canLay0 = true ∧ d.depth ≤ n
theorem Ok.shaped {n : Nat} {d : PyData} (h : Ok n d) (e : n ≤ 64) : SeqAt.shaped d = true := by
  unfold SeqAt.shaped
  rw [h.1, decide_eq_true (Nat.le_trans h.2 e)]
  rfl
theorem ok_int {n : Nat} (i : Int) : Ok (n + 1) (.int i) := ⟨by simp [PyData.canLay0], by simp [PyData.depth]⟩
theorem ok_non {n : Nat} : Ok (n + 1) .none := ⟨by simp [PyData.canLay0], by simp [PyData.depth]⟩
theorem ok_all {n : Nat} : ∀ {ds : List PyData}, (∀ d ∈ ds, Ok n d) → PyData.canLayAll0 ds = true ∧ PyData.depthAll ds ≤ n
  | [], _ => ⟨rfl, by simp [PyData.depthAll]⟩
  | d :: ds, q => by
    obtain ⟨a, b⟩ := ok_all (ds := ds) (fun x hx => q x (List.mem_cons_of_mem _ hx))
    obtain ⟨c, e⟩ := q d List.mem_cons_self
    refine ⟨by simp [PyData.canLayAll0, a, c], ?_⟩
    simp only [PyData.depthAll]
    omega
theorem ok_list {n : Nat} {ds : List PyData} (q : ∀ d ∈ ds, Ok n d) : Ok (n + 1) (.list ds) := by
  obtain ⟨a, b⟩ := ok_all q
  refine ⟨by simpa [PyData.canLay0] using a, ?_⟩
  simp only [PyData.depth]
  omega
theorem ok_tuple {n : Nat} {ds : List PyData} (q : ∀ d ∈ ds, Ok n d) : Ok (n + 1) (.tuple ds) := by
  obtain ⟨a, b⟩ := ok_all q
  refine ⟨by simpa [PyData.canLay0] using a, ?_⟩
  simp only [PyData.depth]
  omega
theorem okD_pair (p : Int × Int) : Ok 2 (pairD p) := ok_tuple fun d hd => by
  rcases List.mem_cons.mp hd with rfl | hd
  · exact ok_int _
  · obtain rfl := List.mem_singleton.mp hd
    exact ok_int _
theorem okD_pairs (l : List (Int × Int)) : Ok 3 (.list (l.map pairD)) := ok_list fun d hd => by
  obtain ⟨p, _, rfl⟩ := List.mem_map.mp hd
  exact okD_pair p
theorem eqv_pair (p q : Int × Int) : PyData.eqv (pairD p) (pairD q) = decide (p = q) := by
  show ((p.1 == q.1) && ((p.2 == q.2) && true)) = decide (p = q)
  rw [Bool.and_true]
  by_cases h : p = q
  · subst h
    simp
  · rw [decide_eq_false h]
    by_cases h1 : p.1 = q.1
    · have : ¬ p.2 = q.2 := fun h2 => h (Prod.ext h1 h2)
      simp [this]
    · simp [h1]
theorem any_pair (l : List (Int × Int)) (p : Int × Int) : ((l.map pairD).any fun z => PyData.eqv z (pairD p)) = decide (p ∈ l) := by
  rw [List.any_map]
  by_cases h : p ∈ l
  · rw [decide_eq_true h, List.any_eq_true]
    exact ⟨p, h, by show PyData.eqv (pairD p) (pairD p) = true; rw [eqv_pair, decide_eq_true rfl]⟩
  · rw [decide_eq_false h, List.any_eq_false]
    intro q hq c
    have c : PyData.eqv (pairD q) (pairD p) = true := c
    rw [eqv_pair] at c
    exact h (of_decide_eq_true c ▸ hq)
/-- a task at p whose dict is not the one at d -/
def TaskX (C : Addr) (H : Hp) (p : Addr) (T : TD) (d : Addr) : Prop := ∃ dx a d', H p = some (.ins C dx (flds a d')) ∧ AlAt H (.ref a) T.al ∧ BoR H d' T.bo ∧ d' ≠ d
theorem TaskX.task {C : Addr} {H : Hp} {p : Addr} {T : TD} {d : Addr} (h : TaskX C H p T d) : TaskR C H p T := by
  obtain ⟨dx, a, d', h1, h2, h3, _⟩ := h
  exact ⟨dx, a, d', h1, h2, h3⟩
theorem TaskX.mono {C : Addr} {H H' : Hp} (s : Same H H') {p : Addr} {T : TD} {d : Addr} (h : TaskX C H p T d) : TaskX C H' p T d := by
  obtain ⟨dx, a, d', h1, h2, h3, h4⟩ := h
  exact ⟨dx, a, d', s _ _ h1, h2.mono (.same s), h3.mono s, h4⟩
theorem TaskX.new {C : Addr} {H H' : Hp} (s : Same H H') {p : Addr} {T : TD} {d : Addr} (h : TaskR C H p T) (n : H d = none) : TaskX C H' p T d := by
  obtain ⟨dx, a, d', h1, h2, h3⟩ := h
  refine ⟨dx, a, d', s _ _ h1, h2.mono (.same s), h3.mono s, fun c => ?_⟩
  subst c
  obtain ⟨kvs, h3, _⟩ := h3
  exact rd_some h3 n
theorem TaskX.but {C : Addr} {H H' : Hp} {d : Addr} {k : List (List Key × V)} (e : H d = some (.dT k)) (s : But d H H') {p : Addr} {T : TD} (h : TaskX C H p T d) : TaskR C H' p T := by
  obtain ⟨dx, a, d', h1, h2, ⟨kvs, h3, h5⟩, h4⟩ := h
  have kp := s.kp e nf_dT
  exact ⟨dx, a, d', s _ _ (ne_of h1 e (fun z => by cases z)) h1, h2.mono kp, kvs, h3.imp (s _ _ h4) (fun ⟨o, z⟩ => ⟨o, s _ _ h4 z⟩), h5.imp fun _ _ r => r.mono kp⟩
theorem row_yes {c : List Int} {n : Nat} (h : c.length = n) (o : ∀ x ∈ c, okOut x) : rowB (rowD c) n = true := by
  show (decide ((c.map PyData.int).length = n) && ((c.map PyData.int).map outB).all id) = true
  rw [List.length_map, decide_eq_true h, Bool.true_and, List.all_eq_true]
  intro b hb
  obtain ⟨d, hd, rfl⟩ := List.mem_map.mp hb
  obtain ⟨x, hx, rfl⟩ := List.mem_map.mp hd
  exact out_yes (o x hx)
/-- a for over the keys of a locked dict -/
theorem forT_turns {d : Addr} {o : Obj} {kvs : List (List Key × V)} {g : TG} {tb : TS} {D : Ends} {σ0 : L2.St} {H0 : Hp} (Pv : Nat → L2.St → Hp → Prop) (start : Pv 0 σ0 H0) (still : ∀ i σ H, Pv i σ H → H d = some (.frz o (.dT kvs)))
    (turn : ∀ i k v q σ H, kvs[i]? = some (k, v) → H q = some (.tup (k.map kV)) → Pv i σ H → g (.ref q) σ H fun σ2 H2 => tb { D with nx := Pv (i + 1), ct := Pv (i + 1), bk := D.nx } σ2 H2) (last : ∀ σ H, Pv kvs.length σ H → D.nx σ H) :
    ∃ W : Nat → Nat → L2.St → Hp → Prop, (∃ m, W 0 m σ0 H0) ∧ ∀ i m σ H, W i m σ H →
      ((Itkt d o kvs).stop i H ∧ D.nx σ H) ∨ ((Itkt d o kvs).go i H ∧ ∃ N : L2.St → Hp → Prop, (∀ σ' H', N σ' H' → ∃ m', m' < m ∧ W (i + 1) m' σ' H') ∧ ∀ x H', (Itkt d o kvs).yld i H x H' → g x σ H' fun σ2 H2 => tb { D with nx := N, ct := N, bk := D.nx } σ2 H2) := by
  refine ⟨fun i m σ H => i + m = kvs.length ∧ Pv i σ H, ⟨kvs.length, by omega, start⟩, fun i m σ H h => ?_⟩
  obtain ⟨hm, word⟩ := h
  cases m with
  | zero =>
    have hin : i = kvs.length := by omega
    rw [hin] at word ⊢
    exact Or.inl ⟨⟨still _ _ _ word, Nat.le_refl _⟩, last σ H word⟩
  | succ m =>
    refine Or.inr ⟨⟨still _ _ _ word, by omega⟩, Pv (i + 1), fun σ' H' w' => ⟨m, by omega, by omega, w'⟩, fun x H' y => ?_⟩
    obtain ⟨e, k, v, q, e1, e2, e3⟩ := y
    rw [e, e2]
    exact turn i k v q σ H e1 e3 word

/-! protocols -/
structure TxtP (K : PySem.W.Frag) (mg : Str → Option Value) : Prop where
  last : ∃ a, mg "LAST_PLACES" = some (.ref a) ∧ ∀ H, SqT K H a [.int 1, .int 3, .int 9, .int 27, .int 81, .int 243]
  five : ∃ t, mg "MOST_ROUNDS" = some (.int 5 t)
theorem last_at {r : Nat} (h : r ≤ 5) : ([V.int 1, .int 3, .int 9, .int 27, .int 81, .int 243] : List V)[r]? = some (.int (((3 ^ r : Nat) : Int))) := by
  obtain rfl | rfl | rfl | rfl | rfl | rfl : r = 0 ∨ r = 1 ∨ r = 2 ∨ r = 3 ∨ r = 4 ∨ r = 5 := by omega
  all_goals rfl
theorem pow_le {r : Nat} (h : r ≤ 5) : 3 ^ r ≤ 243 := by
  obtain rfl | rfl | rfl | rfl | rfl | rfl : r = 0 ∨ r = 1 ∨ r = 2 ∨ r = 3 ∨ r = 4 ∨ r = 5 := by omega
  all_goals decide
abbrev EB := IP × List (Int × Int)
def WkAt (H : Hp) (wk : EB → List Int) (kv : List Key × V) (e : EB) : Prop := kv.1 = kI e.1 ∧ RowAt H kv.2 (wk e)
theorem WkAt.mono {H H' : Hp} (s : Kp H H') {wk kv e} (h : WkAt H wk kv e) : WkAt H' wk kv e := ⟨h.1, h.2.mono s⟩
structure PrF (C : Addr) (H : Hp) (p t : Addr) (T : TD) (r : Nat) (ch : Nat → List Int) (wk : EB → List Int) (al wd : Addr) (kvs : List (List Key × V)) : Prop where
  ht : H t = some (.tup [.int (r : Int), .ref al, .ref wd])
  hal : RowsAt H (.ref al) [ch 0, ch 1]
  hwd : H wd = some (.dT kvs)
  hwk : A2 (WkAt H wk) kvs T.bo
  x : TaskX C H p T wd
  rr : r ≤ 5
  len : ∀ h, h < 2 → (ch h).length = (T.al h).length
  outc : ∀ h, h < 2 → ∀ x ∈ ch h, okOut x
  wlen : ∀ e ∈ T.bo, (wk e).length = 3 ^ r + 1
  wout : ∀ e ∈ T.bo, ∀ x ∈ wk e, okOut x
theorem PrF.mono {C : Addr} {H H' : Hp} (s : Same H H') {p t : Addr} {T : TD} {r ch wk al wd kvs} (b : PrF C H p t T r ch wk al wd kvs) : PrF C H' p t T r ch wk al wd kvs :=
  ⟨s _ _ b.ht, b.hal.mono (.same s), s _ _ b.hwd, b.hwk.imp fun _ _ z => z.mono (.same s), b.x.mono s, b.rr, b.len, b.outc, b.wlen, b.wout⟩
def spIsWalks (K : PySem.W.Frag) (C : Addr) : Sp := fun vs H Q _ => ∃ (p wd : Addr) (m : Nat) (T : TD) (wk : EB → List Int) (kvs : List (List Key × V)), vs = [.ref p, .ref wd, .int (m : Int)] ∧ TaskX C H p T wd ∧ WF T ∧ H wd = some (.dT kvs) ∧ A2 (WkAt H wk) kvs T.bo ∧ m ≤ 900 ∧ (∀ e ∈ T.bo, (wk e).length = m) ∧ (∀ e ∈ T.bo, ∀ x ∈ wk e, okOut x) ∧ ∀ H', Same H H' → Q (.bl true) H'
def spIsPr (K : PySem.W.Frag) (C : Addr) : Sp := fun vs H Q _ => ∃ (p t : Addr) (T : TD) (r : Nat) (ch : Nat → List Int) (wk : EB → List Int) (al wd : Addr) (kvs : List (List Key × V)), vs = [.ref p, .ref t] ∧ WF T ∧ PrF C H p t T r ch wk al wd kvs ∧ ∀ H', Same H H' → Q (.bl true) H'
section
variable {P : Program} {w : World} {K : PySem.W.Frag} {mg : Str → Option Value} {base : Heap}
abbrev nIsWalks : List Str := ["task", "thing", "many", "pair", "row"]
theorem sc_iswalks : FnScope nIsWalks ["task", "thing", "many"] (defScope s_is_walks) := ⟨rfl, rfl, rfl, by decide +kernel, rfl, by decide +kernel, by decide +kernel⟩
theorem ok_iswalks {f g1 g2 C : Addr} {fd d1 d2 : FuncData} (F : Fun K "is_walks" "is_walks" s_is_walks f fd) (T : Txt K mg) (T2 : Txt2 K mg) (Z : TxtC K mg C) (WP : Def P w K mg base "is_pair" ["task", "thing"] 4 (spPair K C) g1 d1)
    (WR : Def P w K mg base "is_row" ["thing", "many"] 4 (spRow K) g2 d2) : FnOk P w K mg base CX0 5 f fd ["task", "thing", "many"] (spIsWalks K C) := by
  refine F.ok sc_iswalks (fun vs H Q E h => ?_) (fun cdv A outer s H vs Q E hr h => ?_)
  · obtain ⟨p, d, m, D, wk, kvs, rfl, _⟩ := h
    rfl
  obtain ⟨p, d, m, D, wk, kw, rfl, hX, hW, hd, hwk, hm9, hwl, hwo, q⟩ := h
  have nd := sc_iswalks.nd
  refine ⟨_, (pss_one (ps_ret (pe_and (pe_callB call_isi (by rfl) T.isi boot_isinstance (pa_cons (pv 1) (pa_cons (pe_bltn (v := .ty "dict") (by rfl) T2.dict boot_dict rfl) pa_nil))) (pe_and (pe_cmpR op_eq (pe_callB call_len_dT (by rfl) T.len PySem.boot_len (pa_cons (pv 1) pa_nil)) (pe_callB len_dTR (by rfl) T.len PySem.boot_len (pa_cons (pe_fld (pv 0) rfl) pa_nil)) (nomark _)) (pe_one (pe_callB (cr_all rfl) (by rfl) T.all (by decide +kernel) (pa_cons (pe_lock (pe_lc (own := [("pair", 3), ("row", 4)]) (g := (gTup K 2 (gCons (gName 3) (gCons (gName 4) gNil)))) (tt := tYes) (te := (tAndV (tCall (spPair K C) [] E0 (tCons (tVar 0) (tCons (tVar 3) tNil))) (tCall (spRow K) [] E0 (tCons (tVar 4) (tCons (tVar 2) tNil))))) rfl nd (pi_itemsT (pv 1)) (blkOk_by (N := nIsWalks) (sc := defScope s_is_walks) (by decide +kernel)) (fun _ _ _ _ _ => (by exact (pg_tup (by rfl) (pgs_cons (pg_name (i := 3) nd rfl (Or.inl rfl)) (pgs_cons (pg_name (i := 4) nd rfl (Or.inl rfl)) pgs_nil))))) (fun _ _ _ _ _ => pts_nil) (fun _ _ _ _ _ => (by exact (pe_and (pe_call WP.G (hr.mono (by decide)) rfl WP.m WP.k WP.b .nil pass0 (pa_cons (pv 0) (pa_cons (pv 3) pa_nil))) (pe_one (pe_call WR.G (hr.mono (by decide)) rfl WR.m WR.k WR.b .nil pass0 (pa_cons (pv 4) (pa_cons (pv 2) pa_nil))))))))) pa_nil))))))), ?_⟩
  obtain ⟨dx, a, d', hp, hA, ⟨kvs, hd', ha⟩, hne⟩ := id hX
  refine ⟨_, rfl, V.ref d, .ty "dict", .type "dict", .type "dict", true, rfl, .ty "dict", .base (.dT hd), kit_ty (by decide +kernel), _, rfl, iteT ?_⟩
  refine ⟨_, rfl, d, _, rfl, hd, _, rfl, p, C, dx, _, _, rfl, hp, Z.cl, Z.nB, flds_both _ _, d', kvs, rfl, hd', rfl, _, rfl, ?_⟩
  refine iteT' (by rw [dec_nat]; exact decide_eq_true (by rw [hwk.len, ha.len])) ?_
  refine ⟨d, _, hd, trivial, fun od => ?_⟩
  have hd1 : (upd H d (.frz od (.dT kw))) d = some (.frz od (.dT kw)) := upd_same
  refine ⟨_, rfl, d, od, _, rfl, hd1, fun L hL => ?_⟩
  have nL : d ≠ L := ne_of_none hd1 hL
  have hLn : H L = none := none_of_but But.at (Ne.symm nL) hL
  refine itemT_turns (fun i H' => But d H H' ∧ H' d = some (.frz od (.dT kw)) ∧ H' L = some (.lst ((List.replicate i true).map V.bl))) ⟨But.at.trans (.same (same_new hL _)), by rw [upd_ne nL]; exact hd1, upd_same⟩ (fun i H' h => h.2.1) ?_ ?_
  · rintro i k x qa Tt H' hi hq hTn ⟨b1, e1, e2⟩
    obtain ⟨eb, hbi, ek, hrow⟩ := hwk.get hi
    dsimp only at ek hrow
    subst ek
    have hm := List.mem_of_getElem? hbi
    have s1 := same_new hTn (.tup [V.ref qa, x])
    have hi2 : i < D.bo.length := (List.getElem?_eq_some_iff.mp hbi).1
    refine ⟨Tt, _, rfl, SqT.of upd_same, rfl, _, _, rfl, _, _, rfl, rfl, rfl, _, rfl, _, rfl, p, _, D, iI eb.1, rfl, hX.but hd (b1.trans (.same s1)), hW, kI_tp (s1 _ _ hq), fun H2 s2 => ?_⟩
    rw [hasK_yes hm]
    have s13 := s1.trans s2
    have hrow2 := hrow.mono (b1.kp hd nf_dT |>.trans (.same s13))
    refine ⟨_, rfl, iteT ⟨_, rfl, _, rfl, _, _, m, rfl, hrow2.dp, ?_, fun H3 s3 => ?_⟩⟩
    · intro ds e
      cases e
      rw [List.length_map, hwl eb hm]
      omega
    rw [row_yes (hwl eb hm) (hwo eb hm)]
    have s14 := s13.trans s3
    refine ⟨_, s14 _ _ e2, ?_, (b1.trans (.same s14)).new hLn, by rw [upd_ne nL]; exact s14 _ _ e1, by rw [upd_same, rep_snoc]⟩
    rw [List.length_map, List.length_replicate]
    have := hW.many
    exact Nat.lt_of_lt_of_le (show i < 100 by omega) (by decide)
  · rintro H1 ⟨b1, e1, e2⟩
    have s1 : Same H (upd H1 d (.dT kw)) := b1.unlock hd
    refine ⟨e1, L, _, rfl, SqL.of (by rw [upd_ne (Ne.symm nL)]; exact e2), ?_⟩
    rw [all_true]
    exact q _ s1
abbrev nIsPr : List Str := ["task", "thing"]
theorem sc_ispr : FnScope nIsPr ["task", "thing"] (defScope s_is_protocol) := ⟨rfl, rfl, rfl, by decide +kernel, rfl, by decide +kernel, by decide +kernel⟩
theorem PrF.chosen {C : Addr} {H : Hp} {p t : Addr} {T : TD} {r ch wk al wd kvs} (b : PrF C H p t T r ch wk al wd kvs) : chosenB (rowsD [ch 0, ch 1]) (T.al 0).length (T.al 1).length = true := by
  show (rowB (rowD (ch 0)) _ && rowB (rowD (ch 1)) _) = true
  rw [row_yes (b.len 0 (by decide)) (b.outc 0 (by decide)), row_yes (b.len 1 (by decide)) (b.outc 1 (by decide))]
  rfl
theorem ok_ispr {f g1 g2 g3 C : Addr} {fd d1 d2 d3 : FuncData} (F : Fun K "is_protocol" "is_protocol" s_is_protocol f fd) (T : Txt K mg) (U : TxtP K mg) (Z : TxtC K mg C) (WW : Def P w K mg base "is_whole_within" ["thing", "least", "most"] 2 (spWithinG K) g1 d1)
    (WC : Def P w K mg base "is_chosen" ["task", "thing"] 5 (spChosen K C) g2 d2) (WWk : Def P w K mg base "is_walks" ["task", "thing", "many"] 5 (spIsWalks K C) g3 d3) : FnOk P w K mg base CX0 6 f fd ["task", "thing"] (spIsPr K C) := by
  refine F.ok sc_ispr (fun vs H Q E h => ?_) (fun cdv A outer s H vs Q E hr h => ?_)
  · obtain ⟨p, t, D, r, ch, wk, al, wd, kvs, rfl, _⟩ := h
    rfl
  obtain ⟨p, t, D, r, ch, wk, al, wd, kvs, rfl, hW, B, q⟩ := h
  have nd := sc_ispr.nd
  obtain ⟨lpT, mLP, hLP⟩ := U.last
  obtain ⟨t5, m5⟩ := U.five
  refine ⟨_, (pss_one (ps_ret (pe_and (pe_callB call_isi (by rfl) T.isi boot_isinstance (pa_cons (pv 1) (pa_cons (pe_bltn (v := .ty "tuple") (by rfl) T.tuple boot_tuple rfl) pa_nil))) (pe_and (pe_cmpR op_eq (pe_callB call_len_seq (by rfl) T.len PySem.boot_len (pa_cons (pv 1) pa_nil)) pe_int (nomark _)) (pe_and (pe_call WW.G (hr.mono (by decide)) rfl WW.m WW.k WW.b .nil pass0 (pa_cons (pe_ix ix_tup (pv 1) pe_int (fun _ _ => rfl)) (pa_cons pe_int (pa_cons (pe_glob (v := .int 5) rfl m5 ⟨_, rfl⟩) pa_nil)))) (pe_and (pe_call WC.G (hr.mono (by decide)) rfl WC.m WC.k WC.b .nil pass0 (pa_cons (pv 0) (pa_cons (pe_ix ix_tup (pv 1) pe_int (fun _ _ => rfl)) pa_nil))) (pe_one (pe_call WWk.G (hr.mono (by decide)) rfl WWk.m WWk.k WWk.b .nil pass0 (pa_cons (pv 0) (pa_cons (pe_ix ix_tup (pv 1) pe_int (fun _ _ => rfl)) (pa_cons (pe_op op_add (pe_ix ix_tup (pe_glob (v := .ref lpT) rfl mLP rfl) (pe_ix ix_tup (pv 1) pe_int (fun _ _ => rfl)) (fun _ _ => rfl)) pe_int) pa_nil))))))))))), ?_⟩
  refine ⟨_, rfl, V.ref t, .ty "tuple", .type "tuple", .type "tuple", true, rfl, .ty "tuple", .base (.tup B.ht), kit_ty (by decide +kernel), _, rfl, iteT ?_⟩
  refine ⟨_, rfl, t, _, rfl, .inr (SqT.of B.ht), rfl, _, rfl, iteT ?_⟩
  refine ⟨_, rfl, t, _, _, _, rfl, rfl, SqT.of B.ht, (by rfl), _, _, 0, 5, rfl, .int _, _, rfl, ?_⟩
  have hrr := B.rr
  have hwi : within (.int (r : Int)) 0 5 = true := decide_eq_true (by omega)
  refine iteT' hwi ?_
  refine ⟨_, rfl, _, rfl, t, _, _, _, rfl, rfl, SqT.of B.ht, (by rfl), p, _, _, D, rfl, B.x.task, B.hal.dp, ?_, fun H1 s1 => ?_⟩
  · rintro ds e z hz
    cases e
    rcases List.mem_cons.mp hz with rfl | hz
    · intro es e
      cases e
      rw [List.length_map, B.len 0 (by decide)]
      have := hW.n0 0 (by decide); omega
    · obtain rfl := List.mem_singleton.mp hz
      intro es e
      cases e
      rw [List.length_map, B.len 1 (by decide)]
      have := hW.n0 1 (by decide); omega
  rw [B.chosen]
  have B1 := B.mono s1
  refine ⟨_, rfl, iteT ?_⟩
  refine ⟨_, rfl, _, rfl, t, _, _, _, rfl, rfl, SqT.of B1.ht, (by rfl), _, rfl, t, _, _, _, rfl, rfl, SqT.of B1.ht, (by rfl), lpT, _, _, _, rfl, rfl, hLP _, atI_nat (last_at B.rr), _, _, rfl, rfl, ?_⟩
  have hp := pow_le B.rr
  refine ⟨p, wd, 3 ^ r + 1, D, wk, kvs, ?_, B1.x, hW, B1.hwd, B1.hwk, by omega, B.wlen, B.wout, fun H2 s2 => q _ (s1.trans s2)⟩
  rfl
end
theorem fnOr {P : Program} {w : World} {K : PySem.W.Frag} {mg : Str → Option Value} {base : Heap} {CX : CXT} {k : Nat} {f : Addr} {fd : FuncData} {ps : List Str} {sp sp' : Sp} (F : FnOk P w K mg base CX k f fd ps sp) (G : FnOk P w K mg base CX k f fd ps sp') :
    FnOk P w K mg base CX k f fd ps (fun vs H Q E => sp vs H Q E ∨ sp' vs H Q E) :=
  ⟨fun vs H Q E q => q.elim (F.len vs H Q E) (G.len vs H Q E), fun A outer s H args us vs Q E hr he hb hv hs => hs.elim (F.run A outer s H args us vs Q E hr he hb hv) (G.run A outer s H args us vs Q E hr he hb hv)⟩
def spPairN (K : PySem.W.Frag) (C : Addr) : Sp := fun vs H Q _ => ∃ (p : Addr) (v : V) (T : TD) (d : PyData), vs = [.ref p, v] ∧ TaskR C H p T ∧ Dp K H v d ∧ inB (T.al 0).length (T.al 1).length d = false ∧ ∀ H', Same H H' → Q (.bl false) H'
def spPairX (K : PySem.W.Frag) (C : Addr) : Sp := fun vs H Q E => spPair K C vs H Q E ∨ spPairN K C vs H Q E
/-- data that stays where lists and tuples stay -/
def DpK (K : PySem.W.Frag) (H : Hp) (v : V) (d : PyData) : Prop := ∀ G, Kp H G → Dp K G v d
theorem DpK.mono {K : PySem.W.Frag} {H H' : Hp} (s : Kp H H') {v : V} {d : PyData} (h : DpK K H v d) : DpK K H' v d := fun G g => h G (s.trans g)
theorem DpK.dp {K : PySem.W.Frag} {H : Hp} {v : V} {d : PyData} (h : DpK K H v d) : Dp K H v d := h H (Kp.refl H)
theorem dpk_non {K : PySem.W.Frag} {H : Hp} : DpK K H .non .none := fun _ _ => .non
theorem dpk_int {K : PySem.W.Frag} {H : Hp} (i : Int) : DpK K H (.int i) (.int i) := fun _ _ => .int i
theorem dpk_bl {K : PySem.W.Frag} {H : Hp} (b : Bool) : DpK K H (.bl b) (.bool b) := fun _ _ => .bl b
theorem dpk_str {K : PySem.W.Frag} {H : Hp} (x : Str) : DpK K H (.str x) (.str x) := fun _ _ => .str x
theorem dpk_row {K : PySem.W.Frag} {H : Hp} {v : V} {row : List Int} (h : RowAt H v row) : DpK K H v (rowD row) := fun G g => (h.mono g).dp
def DpKs (K : PySem.W.Frag) (H : Hp) : List V → List PyData → Prop := A2 (DpK K H)
theorem dpks {K : PySem.W.Frag} {H G : Hp} (g : Kp H G) : ∀ {xs : List V} {ds : List PyData}, DpKs K H xs ds → DpAll K G xs ds := fun h => by
  induction h with
  | nil => exact .nil
  | cons a _ ih => exact .cons (a G g) ih
theorem dpk_lst {K : PySem.W.Frag} {H : Hp} {a : Addr} {xs : List V} {ds : List PyData} (e : H a = some (.lst xs)) (h : DpKs K H xs ds) : DpK K H (.ref a) (.list ds) := fun G g => .lst (SqL.of (g.lst e)) (dpks g h)
theorem dpk_tup {K : PySem.W.Frag} {H : Hp} {a : Addr} {xs : List V} {ds : List PyData} (e : H a = some (.tup xs)) (h : DpKs K H xs ds) : DpK K H (.ref a) (.tuple ds) := fun G g => .tup (SqT.of (g.tup e)) (dpks g h)
/-- an entry of walks as the program looks at it -/
def itemB (T : TD) (m : Nat) (k : List Key) (d : PyData) : Bool := match k with
  | [.inl x, .inl y] => hasK T.bo (x, y) && rowB d m
  | _ => false
/-- what is no walks of so many outputs -/
inductive OddWk (K : PySem.W.Frag) (C : Addr) (H : Hp) (p : Addr) (T : TD) (m : Nat) : V → Prop
  | notd {v : V} {d : PyData} : Dp K H v d → OddWk K C H p T m v
  | lst {a : Addr} {xs : List V} : H a = some (.lst xs) → OddWk K C H p T m (.ref a)
  | len {wd : Addr} {kvs : List (List Key × V)} : H wd = some (.dT kvs) → kvs.length ≠ T.bo.length → OddWk K C H p T m (.ref wd)
  | bad {wd : Addr} {kvs : List (List Key × V)} {dat : List Key × V → PyData} : H wd = some (.dT kvs) → kvs.length ≤ 61 → TaskX C H p T wd → (∀ kv ∈ kvs, IntK kv.1 ∧ DpK K H kv.2 (dat kv) ∧ small (dat kv)) → (∃ kv ∈ kvs, itemB T m kv.1 (dat kv) = false) → OddWk K C H p T m (.ref wd)
/-- walks with a key that is no tuple -/
structure OddWkO (K : PySem.W.Frag) (H : Hp) (wd : Addr) : Prop where
  ex : ∃ (kvs : List (List Key × V)) (k v : V) (dat : List Key × V → PyData), OddAt H wd kvs k v ∧ kvs.length ≤ 61 ∧ ∀ kv ∈ kvs, IntK kv.1 ∧ DpK K H kv.2 (dat kv) ∧ small (dat kv)
def spIsWalksN (K : PySem.W.Frag) (C : Addr) : Sp := fun vs H Q _ => ∃ (p : Addr) (v : V) (m : Nat) (T : TD), vs = [.ref p, v, .int (m : Int)] ∧ TaskR C H p T ∧ WF T ∧ m ≤ 900 ∧ OddWk K C H p T m v ∧ ∀ H', Same H H' → Q (.bl false) H'
def spIsWalksO (K : PySem.W.Frag) (C : Addr) : Sp := fun vs H Q _ => ∃ (p wd : Addr) (m : Nat) (T : TD), vs = [.ref p, .ref wd, .int (m : Int)] ∧ TaskR C H p T ∧ WF T ∧ m ≤ 900 ∧ OddWkO K H wd ∧ ∀ H', Same H H' → Q (.bl false) H'
def spIsWalksX (K : PySem.W.Frag) (C : Addr) : Sp := fun vs H Q E => spIsWalks K C vs H Q E ∨ spIsWalksN K C vs H Q E ∨ spIsWalksO K C vs H Q E
section
variable {P : Program} {w : World} {K : PySem.W.Frag} {mg : Str → Option Value} {base : Heap}
theorem Def.imp {x : Str} {ps : List Str} {k : Nat} {sp sp' : Sp} {f : Addr} {fd : FuncData} (D : Def P w K mg base x ps k sp f fd) (h : ∀ vs H Q E, sp' vs H Q E → sp vs H Q E) : Def P w K mg base x ps k sp' f fd := ⟨D.G.imp h, D.b, D.k, D.m⟩
theorem ok_ispairX {f g C : Addr} {fd gd : FuncData} (F : Fun K "is_pair" "is_pair" s_is_pair f fd) (T : Txt K mg) (Z : TxtC K mg C) (W1 : Def P w K mg base "is_input_pair" ["thing", "alone"] 3 (spInp K) g gd) : FnOk P w K mg base CX0 4 f fd nIsPair (spPairX K C) := by
  refine fnOr (ok_ispair F T Z W1) (F.ok sc_ispair (fun vs H Q E h => ?_) (fun cdv A outer s H vs Q E hr h => ?_))
  · obtain ⟨p, v, D, d, rfl, _⟩ := h
    rfl
  obtain ⟨p, v, D, dv, rfl, hT, hv, hi, q⟩ := h
  have hu := hu_of hr
  refine ⟨_, (pss_one (ps_ret (pe_and (pe_call W1.G (hr.mono (by decide)) rfl W1.m W1.k W1.b .nil pass0 (pa_cons (pv 1) (pa_cons (pe_fld (pv 0) rfl) pa_nil))) (pe_one (pe_cmp (pc_din hu (pv 1) (pe_fld (pv 0) rfl)) rfl))))), ?_⟩
  obtain ⟨dx, a, d, hp, hA, hB⟩ := hT
  obtain ⟨al, e, hal⟩ := hA.at2 (K := K)
  obtain rfl : a = al := by injection e
  refine ⟨_, rfl, _, rfl, p, C, dx, _, _, rfl, hp, Z.cl, Z.nA, flds_alone _ _, v, _, a, _, _, rfl, hv, hal, fun H1 s1 => ⟨_, rfl, ?_⟩⟩
  rw [hi]
  exact iteF (q _ s1)
end
end TA

set_option Elab.async false
set_option maxRecDepth 100000
set_option maxHeartbeats 4000000
namespace TA
open PySem L2 PyProof.Rows
set_option linter.unusedVariables false
def isDctD : PyData → Bool
  | .dict _ => true
  | _ => false
theorem kit_dct (d : PyData) {K : PySem.W.Frag} : PySem.W.kitOne K (.type (tyN d)) (.type "dict") = some (isDctD d) := by
  cases d with
  | none => exact (show PySem.W.kitOne K (.type "NoneType") (.type "dict") = some false from kit_ty (by decide +kernel))
  | bool b => exact (show PySem.W.kitOne K (.type "bool") (.type "dict") = some false from kit_ty (by decide +kernel))
  | int b => exact (show PySem.W.kitOne K (.type "int") (.type "dict") = some false from kit_ty (by decide +kernel))
  | str b => exact (show PySem.W.kitOne K (.type "str") (.type "dict") = some false from kit_ty (by decide +kernel))
  | list b => exact (show PySem.W.kitOne K (.type "list") (.type "dict") = some false from kit_ty (by decide +kernel))
  | tuple b => exact (show PySem.W.kitOne K (.type "tuple") (.type "dict") = some false from kit_ty (by decide +kernel))
  | dict b => exact (show PySem.W.kitOne K (.type "dict") (.type "dict") = some true from kit_ty (by decide +kernel))
theorem dp_nodict {K : PySem.W.Frag} {H : Hp} {v : V} {d : PyData} (h : Dp K H v d) : isDctD d = false := by cases h <;> rfl
theorem itemO_turns {o : Obj} {d : Addr} {kvs : List (List Key × V)} {k v : V} {H0 : Hp} {Qd : Hp → Prop} {B : (Hp → Prop) → V → Hp → Prop} (Pv : Nat → Hp → Prop) (start : Pv 0 H0) (still : ∀ i H, Pv i H → OddW o H d kvs k v)
    (turn : ∀ i k' x q T H, kvs[i]? = some (k', x) → H q = some (.tup (k'.map kV)) → H T = none → Pv i H → B (Pv (i + 1)) (.ref T) (upd H T (.tup [.ref q, x])))
    (turnO : ∀ T H, H T = none → Pv kvs.length H → B (Pv (kvs.length + 1)) (.ref T) (upd H T (.tup [k, v]))) (last : ∀ H, Pv (kvs.length + 1) H → Qd H) :
    ∃ W : Nat → Nat → Hp → Prop, (∃ m, W 0 m H0) ∧ ∀ i m H, W i m H →
      ((ItO o d kvs k v).stop i H ∧ Qd H) ∨ ((ItO o d kvs k v).go i H ∧ ∃ Nx : Hp → Prop, (∀ H', Nx H' → ∃ m', m' < m ∧ W (i + 1) m' H') ∧ ∀ x H', (ItO o d kvs k v).yld i H x H' → B Nx x H') :=
  turns (J := ItO o d kvs k v) (kvs.length + 1) Pv start (fun H h => ⟨⟨still _ _ h, Nat.le_refl _⟩, last H h⟩) fun i H hi h => ⟨⟨still _ _ h, hi⟩, fun x H' y => by
    obtain ⟨T, a, b, rfl, hT, rfl, ⟨q, k', e1, e2, rfl⟩ | ⟨rfl, rfl, rfl⟩⟩ := y
    · exact turn i k' b q T H e1 e2 hT h
    · exact turnO T H hT h⟩
theorem oddV_dp {K : PySem.W.Frag} {H : Hp} {y : V} (h : OddV y) : ∃ d, Dp K H y d ∧ ∀ n0 n1, inB n0 n1 d = false := by
  rcases h with rfl | ⟨i, rfl⟩ | ⟨x, rfl, _⟩
  · exact ⟨.none, .non, fun _ _ => rfl⟩
  · exact ⟨.int i, .int i, fun _ _ => rfl⟩
  · exact ⟨.str x, .str x, fun _ _ => rfl⟩
/-- a key of ints, looked at as a pair of inputs -/
theorem key_look {K : PySem.W.Frag} {C : Addr} {H : Hp} {p q : Addr} {T : TD} {k : List Key} {Q : VK} (hT : TaskR C H p T) (hW : WF T) (hk : IntK k) (hq : H q = some (.tup (k.map kV))) (h1 : ∀ x y, k = [.inl x, .inl y] → ∀ H', Same H H' → Q (.bl (hasK T.bo (x, y))) H') (h2 : (∀ x y, k ≠ [.inl x, .inl y]) → ∀ H', Same H H' → Q (.bl false) H') (E : XK) : spPairX K C [.ref p, .ref q] H Q E := by
  by_cases c : ∃ x y, k = [.inl x, .inl y]
  · obtain ⟨x, y, rfl⟩ := c
    exact .inl ⟨p, _, T, (x, y), rfl, hT, hW, ⟨q, rfl, hq⟩, fun H' s => h1 x y rfl H' s⟩
  · refine .inr ⟨p, _, T, keyD k, rfl, hT, .tup (SqT.of hq) (keyD1_dp k), inB_no (fun x y e => c ?_), fun H' s => h2 (fun x y e => c ⟨x, y, e⟩) H' s⟩
    unfold keyD at e
    injection e with e
    match k, hk, e with
    | [a, b], hk, e =>
      obtain ⟨i, rfl⟩ := hk a List.mem_cons_self
      obtain ⟨j, rfl⟩ := hk b (List.mem_cons_of_mem _ List.mem_cons_self)
      exact ⟨i, j, rfl⟩
section
variable {P : Program} {w : World} {K : PySem.W.Frag} {mg : Str → Option Value} {base : Heap}
theorem ok_iswalksN {f g1 g2 C : Addr} {fd d1 d2 : FuncData} (F : Fun K "is_walks" "is_walks" s_is_walks f fd) (T : Txt K mg) (T2 : Txt2 K mg) (Z : TxtC K mg C) (WP : Def P w K mg base "is_pair" ["task", "thing"] 4 (spPairX K C) g1 d1)
    (WR : Def P w K mg base "is_row" ["thing", "many"] 4 (spRow K) g2 d2) : FnOk P w K mg base CX0 5 f fd ["task", "thing", "many"] (spIsWalksN K C) := by
  refine F.ok sc_iswalks (fun vs H Q E h => ?_) (fun cdv A outer s H vs Q E hr h => ?_)
  · obtain ⟨p, v, m, D, rfl, _⟩ := h
    rfl
  obtain ⟨p, v, m, D, rfl, hX0, hW, hm9, hO, q⟩ := h
  have nd := sc_iswalks.nd
  refine ⟨_, (pss_one (ps_ret (pe_and (pe_callB call_isi (by rfl) T.isi boot_isinstance (pa_cons (pv 1) (pa_cons (pe_bltn (v := .ty "dict") (by rfl) T2.dict boot_dict rfl) pa_nil))) (pe_and (pe_cmpR op_eq (pe_callB call_len_dT (by rfl) T.len PySem.boot_len (pa_cons (pv 1) pa_nil)) (pe_callB len_dTR (by rfl) T.len PySem.boot_len (pa_cons (pe_fld (pv 0) rfl) pa_nil)) (nomark _)) (pe_one (pe_callB (cr_all rfl) (by rfl) T.all (by decide +kernel) (pa_cons (pe_lock (pe_lc (own := [("pair", 3), ("row", 4)]) (g := (gTup K 2 (gCons (gName 3) (gCons (gName 4) gNil)))) (tt := tYes) (te := (tAndV (tCall (spPairX K C) [] E0 (tCons (tVar 0) (tCons (tVar 3) tNil))) (tCall (spRow K) [] E0 (tCons (tVar 4) (tCons (tVar 2) tNil))))) rfl nd (pi_itemsT (pv 1)) (blkOk_by (N := nIsWalks) (sc := defScope s_is_walks) (by decide +kernel)) (fun _ _ _ _ _ => (by exact (pg_tup (by rfl) (pgs_cons (pg_name (i := 3) nd rfl (Or.inl rfl)) (pgs_cons (pg_name (i := 4) nd rfl (Or.inl rfl)) pgs_nil))))) (fun _ _ _ _ _ => pts_nil) (fun _ _ _ _ _ => (by exact (pe_and (pe_call WP.G (hr.mono (by decide)) rfl WP.m WP.k WP.b .nil pass0 (pa_cons (pv 0) (pa_cons (pv 3) pa_nil))) (pe_one (pe_call WR.G (hr.mono (by decide)) rfl WR.m WR.k WR.b .nil pass0 (pa_cons (pv 4) (pa_cons (pv 2) pa_nil))))))))) pa_nil))))))), ?_⟩
  obtain ⟨dx, a, d', hp, hA, ⟨kvs0, hd', ha⟩⟩ := id hX0
  cases hO with
  | @notd v dv hv =>
    refine ⟨_, rfl, v, .ty "dict", _, _, isDctD dv, rfl, .ty "dict", dp_ty hv, kit_dct dv, _, rfl, ?_⟩
    rw [dp_nodict hv]
    exact iteF (q _ (Same.refl H))
  | @lst l xs hl => exact ⟨_, rfl, V.ref l, .ty "dict", .type "list", .type "dict", false, rfl, .ty "dict", .base (.lst hl), kit_ty (by decide +kernel), _, rfl, iteF (q _ (Same.refl H))⟩
  | @len d kw hd hne =>
    refine ⟨_, rfl, V.ref d, .ty "dict", .type "dict", .type "dict", true, rfl, .ty "dict", .base (.dT hd), kit_ty (by decide +kernel), _, rfl, iteT ?_⟩
    refine ⟨_, rfl, d, _, rfl, hd, _, rfl, p, C, dx, _, _, rfl, hp, Z.cl, Z.nB, flds_both _ _, d', kvs0, rfl, hd', rfl, _, rfl, ?_⟩
    exact iteF' (by rw [dec_nat]; exact decide_eq_false (by rw [ha.len]; exact hne)) (q _ (Same.refl H))
  | @bad d kw dat hd hkl hX hall hbad =>
    refine ⟨_, rfl, V.ref d, .ty "dict", .type "dict", .type "dict", true, rfl, .ty "dict", .base (.dT hd), kit_ty (by decide +kernel), _, rfl, iteT ?_⟩
    refine ⟨_, rfl, d, _, rfl, hd, _, rfl, p, C, dx, _, _, rfl, hp, Z.cl, Z.nB, flds_both _ _, d', kvs0, rfl, hd', rfl, _, rfl, ?_⟩
    rw [dec_nat]
    by_cases hlen : kw.length = kvs0.length
    case neg => exact iteF' (decide_eq_false hlen) (q _ (Same.refl H))
    refine iteT' (decide_eq_true hlen) ?_
    have hX : TaskX C H p D d := hX
    refine ⟨d, _, hd, trivial, fun od => ?_⟩
    have hd1 : (upd H d (.frz od (.dT kw))) d = some (.frz od (.dT kw)) := upd_same
    refine ⟨_, rfl, d, od, _, rfl, hd1, fun L hL => ?_⟩
    have nL : d ≠ L := ne_of_none hd1 hL
    have hLn : H L = none := none_of_but But.at (Ne.symm nL) hL
    refine itemT_turns (fun i H' => But d H H' ∧ H' d = some (.frz od (.dT kw)) ∧ H' L = some (.lst (((kw.map fun kv => itemB D m kv.1 (dat kv)).take i).map V.bl))) ⟨But.at.trans (.same (same_new hL _)), by rw [upd_ne nL]; exact hd1, upd_same⟩ (fun i H' h => h.2.1) ?_ ?_
    · rintro i k x qa Tt H' hi hq hTn ⟨b1, e1, e2⟩
      have hm := List.mem_of_getElem? hi
      have hi2 : i < kw.length := (List.getElem?_eq_some_iff.mp hi).1
      obtain ⟨ik, hdx, hsm⟩ := hall _ hm
      dsimp only at ik hdx hsm
      have s1 := same_new hTn (.tup [V.ref qa, x])
      have fin : ∀ b, b = itemB D m k (dat (k, x)) → ∀ H4, Same H' H4 → ∃ zs, H4 L = some (.lst zs) ∧ zs.length < sizeLine ∧ (But d H (upd H4 L (.lst (zs ++ [V.bl b]))) ∧ (upd H4 L (.lst (zs ++ [V.bl b]))) d = some (.frz od (.dT kw)) ∧ (upd H4 L (.lst (zs ++ [V.bl b]))) L = some (.lst (((kw.map fun kv => itemB D m kv.1 (dat kv)).take (i + 1)).map V.bl))) := fun b hb H4 s4 => by
        refine ⟨_, s4 _ _ e2, ?_, (b1.trans (.same s4)).new hLn, by rw [upd_ne nL]; exact s4 _ _ e1, by rw [upd_same, take_bl _ (by rw [List.getElem?_map, hi, hb]; rfl)]⟩
        rw [List.length_map]
        exact Nat.lt_of_le_of_lt (List.length_take_le _ _) (Nat.lt_of_lt_of_le (show i < 100 by omega) (by decide))
      refine ⟨Tt, _, rfl, SqT.of upd_same, rfl, _, _, rfl, _, _, rfl, rfl, rfl, _, rfl, _, rfl, ?_⟩
      refine key_look (hX.but hd (b1.trans (.same s1))) hW ik (s1 _ _ hq) (fun a b ek H2 s2 => ?_) (fun hno H2 s2 => ?_) _
      · have s13 := s1.trans s2
        cases cb : hasK D.bo (a, b) with
        | false =>
          refine ⟨_, rfl, iteF (fin false ?_ _ s13)⟩
          rw [ek]
          show false = (hasK D.bo (a, b) && rowB (dat _) m)
          rw [cb]
          rfl
        | true =>
          have hd2 := hdx.mono ((b1.kp hd nf_dT).trans (.same s13))
          refine ⟨_, rfl, iteT ⟨_, rfl, _, rfl, _, _, m, rfl, hd2.dp, hsm, fun H3 s3 => fin _ ?_ _ (s13.trans s3)⟩⟩
          rw [ek]
          show rowB _ m = (hasK D.bo (a, b) && rowB (dat _) m)
          rw [cb]
          rfl
      · refine ⟨_, rfl, iteF (fin false ?_ _ (s1.trans s2))⟩
        unfold itemB
        split
        · exact absurd rfl (hno _ _)
        · rfl
    · rintro H1 ⟨b1, e1, e2⟩
      have s1 : Same H (upd H1 d (.dT kw)) := b1.unlock hd
      rw [← List.length_map (fun kv => itemB D m kv.1 (dat kv)), List.take_length] at e2
      refine ⟨e1, L, _, rfl, SqL.of (by rw [upd_ne (Ne.symm nL)]; exact e2), ?_⟩
      have e0 : ((kw.map fun kv => itemB D m kv.1 (dat kv)).all id) = false := by
        obtain ⟨kv, h1, h2⟩ := hbad
        rw [List.all_eq_false]
        refine ⟨_, List.mem_map.mpr ⟨kv, h1, rfl⟩, ?_⟩
        rw [h2]
        exact Bool.false_ne_true
      rw [e0]
      exact q _ s1
theorem ok_iswalksO {f g1 g2 C : Addr} {fd d1 d2 : FuncData} (F : Fun K "is_walks" "is_walks" s_is_walks f fd) (T : Txt K mg) (T2 : Txt2 K mg) (Z : TxtC K mg C) (WP : Def P w K mg base "is_pair" ["task", "thing"] 4 (spPairX K C) g1 d1)
    (WR : Def P w K mg base "is_row" ["thing", "many"] 4 (spRow K) g2 d2) : FnOk P w K mg base CX0 5 f fd ["task", "thing", "many"] (spIsWalksO K C) := by
  refine F.ok sc_iswalks (fun vs H Q E h => ?_) (fun cdv A outer s H vs Q E hr h => ?_)
  · obtain ⟨p, v, m, D, rfl, _⟩ := h
    rfl
  obtain ⟨p, d, m, D, rfl, hX0, hW, hm9, ⟨kw, k, v, dat, hO, hkl, hall⟩, q⟩ := h
  have nd := sc_iswalks.nd
  refine ⟨_, (pss_one (ps_ret (pe_and (pe_callB call_isiO (by rfl) T.isi boot_isinstance (pa_cons (pv 1) (pa_cons (pe_bltn (v := .ty "dict") (by rfl) T2.dict boot_dict rfl) pa_nil))) (pe_and (pe_cmpR op_eq (pe_callB call_len_O (by rfl) T.len PySem.boot_len (pa_cons (pv 1) pa_nil)) (pe_callB len_dTR (by rfl) T.len PySem.boot_len (pa_cons (pe_fld (pv 0) rfl) pa_nil)) (nomark _)) (pe_one (pe_callB (cr_all rfl) (by rfl) T.all (by decide +kernel) (pa_cons (pe_lc (own := [("pair", 3), ("row", 4)]) (g := (gTup K 2 (gCons (gName 3) (gCons (gName 4) gNil)))) (tt := tYes) (te := (tAndV (tCall (spPairX K C) [] E0 (tCons (tVar 0) (tCons (tVar 3) tNil))) (tCall (spRow K) [] E0 (tCons (tVar 4) (tCons (tVar 2) tNil))))) rfl nd (pi_itemsO (pv 1)) (blkOk_by (N := nIsWalks) (sc := defScope s_is_walks) (by decide +kernel)) (fun _ _ _ _ _ => (by exact (pg_tup (by rfl) (pgs_cons (pg_name (i := 3) nd rfl (Or.inl rfl)) (pgs_cons (pg_name (i := 4) nd rfl (Or.inl rfl)) pgs_nil))))) (fun _ _ _ _ _ => pts_nil) (fun _ _ _ _ _ => (by exact (pe_and (pe_call WP.G (hr.mono (by decide)) rfl WP.m WP.k WP.b .nil pass0 (pa_cons (pv 0) (pa_cons (pv 3) pa_nil))) (pe_one (pe_call WR.G (hr.mono (by decide)) rfl WR.m WR.k WR.b .nil pass0 (pa_cons (pv 4) (pa_cons (pv 2) pa_nil)))))))) pa_nil))))))), ?_⟩
  obtain ⟨dx, a, d', hp, hA, ⟨kvs0, hd', ha⟩⟩ := id hX0
  refine ⟨_, rfl, d, kw, k, v, .ty "dict", .type "dict", true, rfl, hO, .ty "dict", kit_ty (by decide +kernel), _, rfl, iteT ?_⟩
  refine ⟨_, rfl, d, kw, k, v, rfl, hO, _, rfl, p, C, dx, _, _, rfl, hp, Z.cl, Z.nB, flds_both _ _, d', kvs0, rfl, hd', rfl, _, rfl, ?_⟩
  rw [dec_nat]
  by_cases hlen : kw.length + 1 = kvs0.length
  case neg => exact iteF' (decide_eq_false hlen) (q _ (Same.refl H))
  refine iteT' (decide_eq_true hlen) ?_
  obtain ⟨o, hw⟩ := hO
  refine ⟨_, rfl, d, o, kw, k, v, rfl, hw, fun L hL => ?_⟩
  refine itemO_turns (fun i H' => Same H H' ∧ H' L = some (.lst ((((kw.map fun kv => itemB D m kv.1 (dat kv)) ++ [false]).take i).map V.bl))) ⟨same_new hL _, upd_same⟩ (fun i H' h => hw.mono h.1) ?_ ?_ ?_
  · rintro i k' x qa Tt H' hi hq hTn ⟨b1, e2⟩
    have hm := List.mem_of_getElem? hi
    have hi2 : i < kw.length := (List.getElem?_eq_some_iff.mp hi).1
    obtain ⟨ik, hdx, hsm⟩ := hall _ hm
    dsimp only at ik hdx hsm
    have s1 := same_new hTn (.tup [V.ref qa, x])
    have fin : ∀ b, b = itemB D m k' (dat (k', x)) → ∀ H4, Same H' H4 → ∃ zs, H4 L = some (.lst zs) ∧ zs.length < sizeLine ∧ (Same H (upd H4 L (.lst (zs ++ [V.bl b]))) ∧ (upd H4 L (.lst (zs ++ [V.bl b]))) L = some (.lst ((((kw.map fun kv => itemB D m kv.1 (dat kv)) ++ [false]).take (i + 1)).map V.bl))) := fun b hb H4 s4 => by
      refine ⟨_, s4 _ _ e2, ?_, same_upd (b1.trans s4) hL, by rw [upd_same, take_bl _ (by rw [List.getElem?_append_left (by rw [List.length_map]; exact hi2), List.getElem?_map, hi, hb]; rfl)]⟩
      rw [List.length_map]
      exact Nat.lt_of_le_of_lt (List.length_take_le _ _) (Nat.lt_of_lt_of_le (show i < 100 by omega) (by decide))
    refine ⟨Tt, _, rfl, SqT.of upd_same, rfl, _, _, rfl, _, _, rfl, rfl, rfl, _, rfl, _, rfl, ?_⟩
    refine key_look (hX0.mono (b1.trans s1)) hW ik (s1 _ _ hq) (fun a b ek H2 s2 => ?_) (fun hno H2 s2 => ?_) _
    · have s13 := s1.trans s2
      cases cb : hasK D.bo (a, b) with
      | false =>
        refine ⟨_, rfl, iteF (fin false ?_ _ s13)⟩
        rw [ek]
        show false = (hasK D.bo (a, b) && rowB (dat _) m)
        rw [cb]
        rfl
      | true =>
        have hd2 := hdx.mono (.same (b1.trans s13))
        refine ⟨_, rfl, iteT ⟨_, rfl, _, rfl, _, _, m, rfl, hd2.dp, hsm, fun H3 s3 => fin _ ?_ _ (s13.trans s3)⟩⟩
        rw [ek]
        show rowB _ m = (hasK D.bo (a, b) && rowB (dat _) m)
        rw [cb]
        rfl
    · refine ⟨_, rfl, iteF (fin false ?_ _ (s1.trans s2))⟩
      unfold itemB
      split
      · exact absurd rfl (hno _ _)
      · rfl
  · rintro Tt H' hTn ⟨b1, e2⟩
    have s1 := same_new hTn (.tup [k, v])
    obtain ⟨dk, hdk, hno⟩ := oddV_dp (K := K) (H := upd H' Tt (.tup [k, v])) hw.key
    refine ⟨Tt, _, rfl, SqT.of upd_same, rfl, _, _, rfl, _, _, rfl, rfl, rfl, _, rfl, _, rfl, ?_⟩
    refine .inr ⟨p, _, D, dk, rfl, hX0.mono (b1.trans s1), hdk, hno _ _, fun H2 s2 => ⟨_, rfl, iteF ?_⟩⟩
    have s12 := s1.trans s2
    refine ⟨_, s12 _ _ e2, ?_, same_upd (b1.trans s12) hL, by rw [upd_same, take_bl _ (by rw [List.getElem?_append_right (by rw [List.length_map]; exact Nat.le_refl _), List.length_map, Nat.sub_self]; rfl)]⟩
    rw [List.length_map]
    exact Nat.lt_of_le_of_lt (List.length_take_le _ _) (Nat.lt_of_lt_of_le (show kw.length < 100 by omega) (by decide))
  · rintro H1 ⟨b1, e2⟩
    have el : ((kw.map fun kv => itemB D m kv.1 (dat kv)) ++ [false]).length = kw.length + 1 := by rw [List.length_append, List.length_map]; rfl
    rw [← el, List.take_length] at e2
    refine ⟨L, _, rfl, SqL.of e2, ?_⟩
    have e0 : (((kw.map fun kv => itemB D m kv.1 (dat kv)) ++ [false]).all id) = false := by
      rw [List.all_append]
      exact Bool.and_false _
    rw [e0]
    exact q _ b1
theorem ok_iswalksX {f g1 g2 C : Addr} {fd d1 d2 : FuncData} (F : Fun K "is_walks" "is_walks" s_is_walks f fd) (T : Txt K mg) (T2 : Txt2 K mg) (Z : TxtC K mg C) (WP : Def P w K mg base "is_pair" ["task", "thing"] 4 (spPairX K C) g1 d1)
    (WR : Def P w K mg base "is_row" ["thing", "many"] 4 (spRow K) g2 d2) : FnOk P w K mg base CX0 5 f fd ["task", "thing", "many"] (spIsWalksX K C) :=
  fnOr (ok_iswalks F T T2 Z (WP.imp fun _ _ _ _ h => .inl h) WR) (fnOr (ok_iswalksN F T T2 Z WP WR) (ok_iswalksO F T T2 Z WP WR))
end
end TA

set_option Elab.async false
set_option maxRecDepth 100000
set_option maxHeartbeats 4000000
namespace TA
open PySem L2 PyProof.Rows
set_option linter.unusedVariables false
/-- rows that choose an output for each input -/
structure GoodC (H : Hp) (T : TD) (al : Addr) (ch : Nat → List Int) : Prop where
  hal : RowsAt H (.ref al) [ch 0, ch 1]
  len : ∀ h, h < 2 → (ch h).length = (T.al h).length
  outc : ∀ h, h < 2 → ∀ x ∈ ch h, okOut x
theorem GoodC.mono {H H' : Hp} (s : Same H H') {T : TD} {al : Addr} {ch : Nat → List Int} (g : GoodC H T al ch) : GoodC H' T al ch := ⟨g.hal.mono (.same s), g.len, g.outc⟩
theorem GoodC.yes {H : Hp} {T : TD} {al : Addr} {ch : Nat → List Int} (g : GoodC H T al ch) : chosenB (rowsD [ch 0, ch 1]) (T.al 0).length (T.al 1).length = true := by
  show (rowB (rowD (ch 0)) _ && rowB (rowD (ch 1)) _) = true
  rw [row_yes (g.len 0 (by decide)) (g.outc 0 (by decide)), row_yes (g.len 1 (by decide)) (g.outc 1 (by decide))]
  rfl
theorem GoodC.sm {H : Hp} {T : TD} {al : Addr} {ch : Nat → List Int} (g : GoodC H T al ch) (hW : WF T) : ∀ ds, rowsD [ch 0, ch 1] = .list ds → ∀ e ∈ ds, small e := by
  rintro ds e z hz
  cases e
  rcases List.mem_cons.mp hz with rfl | hz
  · intro es e
    cases e
    rw [List.length_map, g.len 0 (by decide)]
    have := hW.n0 0 (by decide); omega
  · obtain rfl := List.mem_singleton.mp hz
    intro es e
    cases e
    rw [List.length_map, g.len 1 (by decide)]
    have := hW.n0 1 (by decide); omega
/-- what is no protocol by its form -/
inductive OddPr (K : PySem.W.Frag) (C : Addr) (H : Hp) (p : Addr) (T : TD) : V → Prop
  | nt {v : V} {d : PyData} : Dp K H v d → isTupD d = false → OddPr K C H p T v
  | lst {a : Addr} {xs : List V} : H a = some (.lst xs) → OddPr K C H p T (.ref a)
  | dic {a : Addr} {k : List (List Key × V)} : H a = some (.dT k) → OddPr K C H p T (.ref a)
  | tlen {a : Addr} {xs : List V} : H a = some (.tup xs) → xs.length ≠ 3 → OddPr K C H p T (.ref a)
  | rnd {t : Addr} {x y z : V} {d : PyData} : H t = some (.tup [x, y, z]) → Dp K H x d → within d 0 5 = false → OddPr K C H p T (.ref t)
  | cho {t : Addr} {r : Nat} {y z : V} {d : PyData} : H t = some (.tup [.int (r : Int), y, z]) → r ≤ 5 → Dp K H y d → (∀ ds, d = .list ds → ∀ e ∈ ds, small e) → chosenB d (T.al 0).length (T.al 1).length = false → OddPr K C H p T (.ref t)
  | wlk {t al : Addr} {r : Nat} {z : V} {ch : Nat → List Int} : H t = some (.tup [.int (r : Int), .ref al, z]) → r ≤ 5 → GoodC H T al ch → (OddWk K C H p T (3 ^ r + 1) z ∨ ∃ wd, z = .ref wd ∧ OddWkO K H wd) → OddPr K C H p T (.ref t)
theorem OddWk.mono {K : PySem.W.Frag} {C : Addr} {H H' : Hp} (s : Same H H') {p : Addr} {T : TD} {m : Nat} {v : V} (h : OddWk K C H p T m v) : OddWk K C H' p T m v := by
  cases h with
  | notd h => exact .notd (dp_mono s _ _ h)
  | lst h => exact .lst (s _ _ h)
  | len h a => exact .len (s _ _ h) a
  | bad h a b c d => exact .bad (s _ _ h) a (b.mono s) (fun kv hkv => ⟨(c kv hkv).1, (c kv hkv).2.1.mono (.same s), (c kv hkv).2.2⟩) d
theorem OddWkO.mono {K : PySem.W.Frag} {H H' : Hp} (s : Same H H') {wd : Addr} (h : OddWkO K H wd) : OddWkO K H' wd := by
  obtain ⟨kvs, k, v, dat, ⟨o, hO⟩, a, c⟩ := h
  exact ⟨kvs, k, v, dat, ⟨o, hO.mono s⟩, a, fun kv hkv => ⟨(c kv hkv).1, (c kv hkv).2.1.mono (.same s), (c kv hkv).2.2⟩⟩
theorem OddPr.mono {K : PySem.W.Frag} {C : Addr} {H H' : Hp} (s : Same H H') {p : Addr} {T : TD} {v : V} (h : OddPr K C H p T v) : OddPr K C H' p T v := by
  cases h with
  | nt h a => exact .nt (dp_mono s _ _ h) a
  | lst h => exact .lst (s _ _ h)
  | dic h => exact .dic (s _ _ h)
  | tlen h a => exact .tlen (s _ _ h) a
  | rnd h a b => exact .rnd (s _ _ h) (dp_mono s _ _ a) b
  | cho h a b c d => exact .cho (s _ _ h) a (dp_mono s _ _ b) c d
  | wlk h a b c => exact .wlk (s _ _ h) a (b.mono s) (c.imp (·.mono s) fun ⟨wd, e, o⟩ => ⟨wd, e, o.mono s⟩)
def spIsPrN (K : PySem.W.Frag) (C : Addr) : Sp := fun vs H Q _ => ∃ (p : Addr) (v : V) (T : TD), vs = [.ref p, v] ∧ WF T ∧ TaskR C H p T ∧ OddPr K C H p T v ∧ ∀ H', Same H H' → Q (.bl false) H'
def spIsPrX (K : PySem.W.Frag) (C : Addr) : Sp := fun vs H Q E => spIsPr K C vs H Q E ∨ spIsPrN K C vs H Q E
section
variable {P : Program} {w : World} {K : PySem.W.Frag} {mg : Str → Option Value} {base : Heap}
theorem ok_isprX {f g1 g2 g3 C : Addr} {fd d1 d2 d3 : FuncData} (F : Fun K "is_protocol" "is_protocol" s_is_protocol f fd) (T : Txt K mg) (U : TxtP K mg) (Z : TxtC K mg C) (WW : Def P w K mg base "is_whole_within" ["thing", "least", "most"] 2 (spWithinG K) g1 d1)
    (WC : Def P w K mg base "is_chosen" ["task", "thing"] 5 (spChosen K C) g2 d2) (WWk : Def P w K mg base "is_walks" ["task", "thing", "many"] 5 (spIsWalksX K C) g3 d3) : FnOk P w K mg base CX0 6 f fd ["task", "thing"] (spIsPrX K C) := by
  refine fnOr (ok_ispr F T U Z WW WC (WWk.imp fun _ _ _ _ h => .inl h)) (F.ok sc_ispr (fun vs H Q E h => ?_) (fun cdv A outer s H vs Q E hr h => ?_))
  · obtain ⟨p, v, D, rfl, _⟩ := h
    rfl
  obtain ⟨p, v, D, rfl, hW, hX, hO, q⟩ := h
  have nd := sc_ispr.nd
  obtain ⟨lpT, mLP, hLP⟩ := U.last
  obtain ⟨t5, m5⟩ := U.five
  refine ⟨_, (pss_one (ps_ret (pe_and (pe_callB call_isi (by rfl) T.isi boot_isinstance (pa_cons (pv 1) (pa_cons (pe_bltn (v := .ty "tuple") (by rfl) T.tuple boot_tuple rfl) pa_nil))) (pe_and (pe_cmpR op_eq (pe_callB call_len_seq (by rfl) T.len PySem.boot_len (pa_cons (pv 1) pa_nil)) pe_int (nomark _)) (pe_and (pe_call WW.G (hr.mono (by decide)) rfl WW.m WW.k WW.b .nil pass0 (pa_cons (pe_ix ix_tup (pv 1) pe_int (fun _ _ => rfl)) (pa_cons pe_int (pa_cons (pe_glob (v := .int 5) rfl m5 ⟨_, rfl⟩) pa_nil)))) (pe_and (pe_call WC.G (hr.mono (by decide)) rfl WC.m WC.k WC.b .nil pass0 (pa_cons (pv 0) (pa_cons (pe_ix ix_tup (pv 1) pe_int (fun _ _ => rfl)) pa_nil))) (pe_one (pe_call WWk.G (hr.mono (by decide)) rfl WWk.m WWk.k WWk.b .nil pass0 (pa_cons (pv 0) (pa_cons (pe_ix ix_tup (pv 1) pe_int (fun _ _ => rfl)) (pa_cons (pe_op op_add (pe_ix ix_tup (pe_glob (v := .ref lpT) rfl mLP rfl) (pe_ix ix_tup (pv 1) pe_int (fun _ _ => rfl)) (fun _ _ => rfl)) pe_int) pa_nil))))))))))), ?_⟩
  cases hO with
  | @nt v d hv ht =>
    refine ⟨_, rfl, v, .ty "tuple", _, _, isTupD d, rfl, .ty "tuple", dp_ty hv, kit_tup d, _, rfl, ?_⟩
    rw [ht]
    exact iteF (q _ (Same.refl H))
  | @lst a xs ha => exact ⟨_, rfl, V.ref a, .ty "tuple", .type "list", .type "tuple", false, rfl, .ty "tuple", .base (.lst ha), kit_ty (by decide +kernel), _, rfl, iteF (q _ (Same.refl H))⟩
  | @dic a k ha => exact ⟨_, rfl, V.ref a, .ty "tuple", .type "dict", .type "tuple", false, rfl, .ty "tuple", .base (.dT ha), kit_ty (by decide +kernel), _, rfl, iteF (q _ (Same.refl H))⟩
  | @tlen t xs ht hn =>
    refine ⟨_, rfl, V.ref t, .ty "tuple", .type "tuple", .type "tuple", true, rfl, .ty "tuple", .base (.tup ht), kit_ty (by decide +kernel), _, rfl, iteT ?_⟩
    exact ⟨_, rfl, t, _, rfl, .inr (SqT.of ht), rfl, _, rfl, iteF' (decide_eq_false fun e => hn (by injection e with e; omega)) (q _ (Same.refl H))⟩
  | @rnd t x y z d ht hx hn =>
    refine ⟨_, rfl, V.ref t, .ty "tuple", .type "tuple", .type "tuple", true, rfl, .ty "tuple", .base (.tup ht), kit_ty (by decide +kernel), _, rfl, iteT ?_⟩
    refine ⟨_, rfl, t, _, rfl, .inr (SqT.of ht), rfl, _, rfl, iteT ?_⟩
    exact ⟨_, rfl, t, _, _, _, rfl, rfl, SqT.of ht, (by rfl), _, _, 0, 5, rfl, hx, _, rfl, iteF' hn (q _ (Same.refl H))⟩
  | @cho t r y z d ht hr5 hy hs hn =>
    have hwi : within (.int (r : Int)) 0 5 = true := decide_eq_true (by omega)
    refine ⟨_, rfl, V.ref t, .ty "tuple", .type "tuple", .type "tuple", true, rfl, .ty "tuple", .base (.tup ht), kit_ty (by decide +kernel), _, rfl, iteT ?_⟩
    refine ⟨_, rfl, t, _, rfl, .inr (SqT.of ht), rfl, _, rfl, iteT ?_⟩
    refine ⟨_, rfl, t, _, _, _, rfl, rfl, SqT.of ht, (by rfl), _, _, 0, 5, rfl, .int _, _, rfl, iteT' hwi ?_⟩
    refine ⟨_, rfl, _, rfl, t, _, _, _, rfl, rfl, SqT.of ht, (by rfl), p, _, d, D, rfl, hX, hy, hs, fun H1 s1 => ?_⟩
    rw [hn]
    exact ⟨_, rfl, iteF (q _ s1)⟩
  | @wlk t al r z ch ht hr5 g hw =>
    have hwi : within (.int (r : Int)) 0 5 = true := decide_eq_true (by omega)
    refine ⟨_, rfl, V.ref t, .ty "tuple", .type "tuple", .type "tuple", true, rfl, .ty "tuple", .base (.tup ht), kit_ty (by decide +kernel), _, rfl, iteT ?_⟩
    refine ⟨_, rfl, t, _, rfl, .inr (SqT.of ht), rfl, _, rfl, iteT ?_⟩
    refine ⟨_, rfl, t, _, _, _, rfl, rfl, SqT.of ht, (by rfl), _, _, 0, 5, rfl, .int _, _, rfl, iteT' hwi ?_⟩
    refine ⟨_, rfl, _, rfl, t, _, _, _, rfl, rfl, SqT.of ht, (by rfl), p, _, _, D, rfl, hX, g.hal.dp, g.sm hW, fun H1 s1 => ?_⟩
    rw [g.yes]
    refine ⟨_, rfl, iteT ?_⟩
    have ht1 := s1 _ _ ht
    refine ⟨_, rfl, _, rfl, t, _, _, _, rfl, rfl, SqT.of ht1, (by rfl), _, rfl, t, _, _, _, rfl, rfl, SqT.of ht1, (by rfl), lpT, _, _, _, rfl, rfl, hLP _, atI_nat (last_at hr5), _, _, rfl, rfl, ?_⟩
    have hp := pow_le hr5
    rcases hw with hw | ⟨wd, rfl, hw⟩
    · exact .inr (.inl ⟨p, z, 3 ^ r + 1, D, rfl, hX.mono s1, hW, by omega, hw.mono s1, fun H2 s2 => q _ (s1.trans s2)⟩)
    · exact .inr (.inr ⟨p, wd, 3 ^ r + 1, D, rfl, hX.mono s1, hW, by omega, hw.mono s1, fun H2 s2 => q _ (s1.trans s2)⟩)
end
end TA

set_option Elab.async false
set_option maxRecDepth 100000
set_option maxHeartbeats 4000000
namespace TA
open PySem L2 PyProof.Rows
set_option linter.unusedVariables false
theorem iI_at {h : Nat} (hh : h < 2) (p : IP) : ([V.int (iI p).1, V.int (iI p).2] : List V)[h]? = some (.int ((sel h p : Nat) : Int)) := by
  obtain rfl | rfl : h = 0 ∨ h = 1 := by omega
  · rfl
  · rfl
def chO (ch : Nat → List Int) (h : Nat) (p : IP) : Int := (ch h).getD (sel h p) 0
theorem wk_at {H : Hp} {wk : EB → List Int} : ∀ {kvs : List (List Key × V)} {bo : BD}, A2 (WkAt H wk) kvs bo → (bo.map (·.1)).Pairwise (· ≠ ·) → ∀ e ∈ bo, ∃ v, valV kvs (kI e.1) = some v ∧ RowAt H v (wk e)
  | _, _, .nil, _, e, m => by cases m
  | (k, v) :: kvs, b :: bo, .cons a r, s, e, m => by
    obtain ⟨ek, hl⟩ := a
    dsimp only at ek hl
    subst ek
    rw [List.map_cons, List.pairwise_cons] at s
    rcases List.mem_cons.mp m with rfl | m
    · exact ⟨v, valV_pos rfl, hl⟩
    · rw [valV_neg (fun h => s.1 _ (List.mem_map.mpr ⟨e, m, rfl⟩) (kI_inj h))]
      exact wk_at r s.2 e m
/-- both outputs of a step of a walk, hand 0's first -/
def stp (w : List Int) (i : Nat) : Int × Int := if i % 2 = 0 then (w.getD i 0, w.getD (i + 1) 0) else (w.getD (i + 1) 0, w.getD i 0)
theorem let_ks {H : Hp} : ∀ {xs : List V} {l : List (Int × Int)}, A2 (TpAt H) xs l → ∃ ks : List (Addr × List Int), xs = ks.map (fun p => V.ref p.1) ∧ ks.map (·.2) = l.map (fun p => [p.1, p.2]) ∧ ∀ p ∈ ks, H p.1 = some (.tup (p.2.map V.int))
  | _, _, .nil => ⟨[], rfl, rfl, fun p hp => nomatch hp⟩
  | _, _, .cons (y := y) a b => by
    obtain ⟨ks, h1, h2, h3⟩ := let_ks b
    obtain ⟨t, rfl, ht⟩ := a
    refine ⟨(t, [y.1, y.2]) :: ks, by rw [h1]; rfl, by rw [List.map_cons, List.map_cons, h2], fun p hp => ?_⟩
    rcases List.mem_cons.mp hp with rfl | hp
    · exact ht
    · exact h3 p hp
theorem mem_two {l : List (Int × Int)} {p : Int × Int} : [p.1, p.2] ∈ l.map (fun q => [q.1, q.2]) ↔ p ∈ l := by
  constructor
  · intro h
    obtain ⟨q, hq, e⟩ := List.mem_map.mp h
    injection e with e1 e2
    injection e2 with e2 _
    have : q = p := Prod.ext e1 e2
    exact this ▸ hq
  · exact fun h => List.mem_map.mpr ⟨p, h, rfl⟩
theorem atI_last {xs : List V} {v : V} (h : xs[xs.length - 1]? = some v) : atI xs (-1) = some v := by
  have hl : 0 < xs.length := by have := (List.getElem?_eq_some_iff.mp h).1; omega
  unfold atI ixN
  rw [if_neg (by decide), if_pos (by omega)]
  show xs[((-1 : Int) + (xs.length : Int)).toNat]? = _
  rw [show ((-1 : Int) + (xs.length : Int)).toNat = xs.length - 1 by omega]
  exact h
/-- both ends of a walk are what alone has -/
def endsP (ch : Nat → List Int) (e : EB) (w : List Int) (n : Nat) : Prop := w.getD 0 0 = chO ch 0 e.1 ∧ w.getD n 0 = chO ch 1 e.1
end TA

set_option Elab.async false
set_option maxRecDepth 100000
set_option maxHeartbeats 4000000
namespace TA
open PySem L2 PyProof.Rows
set_option linter.unusedVariables false
def oI : Option Int → V
  | none => .non
  | some i => .int i
/-- what a hand tells alone, what it tells at a place, behind a weaving -/
def outAt (ch : Nat → List Int) (wk : EB → List Int) (r : Nat) (e : EB) (h : Nat) (j : Int) : Int := if j = 0 ∨ j = ((3 ^ r : Nat) : Int) then chO ch h e.1 else (wk e).getD j.toNat 0
def tellP (r : Nat) (ch : Nat → List Int) (wk : EB → List Int) (e : EB) (hs : List Nat) (h : Nat) : Option Int := if hs.count h = 2 * r then some (outAt ch wk r e h ((TB.P0.run hs).cur h)) else none
theorem PrF.row {C : Addr} {H : Hp} {p t : Addr} {T : TD} {r ch wk al wd kvs} (B : PrF C H p t T r ch wk al wd kvs) (hW : WF T) {e : EB} (he : e ∈ T.bo) {h : Nat} (hh : h < 2) : ∃ xs rr, H al = some (.lst xs) ∧ xs[h]? = some (.ref rr) ∧ H rr = some (.lst ((ch h).map .int)) ∧ ((ch h).map V.int)[sel h e.1]? = some (.int (chO ch h e.1)) := by
  obtain ⟨ta, xs, ea, hta, ar⟩ := B.hal
  obtain rfl : al = ta := by injection ea
  obtain ⟨x, hx, rr, rfl, hrow⟩ := ar.at (i := h) (y := ch h) (by
    obtain rfl | rfl : h = 0 ∨ h = 1 := by omega
    · rfl
    · rfl)
  obtain ⟨rg0, rg1⟩ := hW.rng e he
  have hsl : sel h e.1 < (ch h).length := by
    rw [B.len h hh]
    obtain rfl | rfl : h = 0 ∨ h = 1 := by omega
    · exact rg0
    · exact rg1
  refine ⟨xs, rr, hta, hx, hrow, ?_⟩
  unfold chO
  rw [List.getElem?_map, List.getD_eq_getElem?_getD, List.getElem?_eq_getElem hsl]
  rfl
def spOutOf (C : Addr) : Sp := fun vs H Q _ => ∃ (p t : Addr) (T : TD) (r : Nat) (ch : Nat → List Int) (wk : EB → List Int) (al wd : Addr) (kvs : List (List Key × V)) (tt : Addr) (h : Nat) (v : V) (d : PyData) (e : EB) (o : Option Int), vs = [.ref t, .ref tt, .int (h : Int), v] ∧ WF T ∧ PrF C H p t T r ch wk al wd kvs ∧ e ∈ T.bo ∧ TpAt H (.ref tt) (iI e.1) ∧ h < 2 ∧ TB.Kn H v d ∧
  ((o = none ∧ d = .none) ∨ ∃ j : Int, o = some j ∧ TB.isN d = false ∧ TB.placeD d h = some j ∧ 0 ≤ j ∧ j ≤ ((3 ^ r : Nat) : Int)) ∧ ∀ H', Same H H' → Q (oI (o.map (outAt ch wk r e h))) H'
section
variable {P : Program} {w : World} {K : PySem.W.Frag} {mg : Str → Option Value} {base : Heap}
abbrev nOut : List Str := ["protocol", "inputs", "hand", "thing", "rounds", "alone", "walks", "at"]
theorem sc_out : FnScope nOut ["protocol", "inputs", "hand", "thing"] (defScope s_output_of) := ⟨rfl, rfl, rfl, by decide +kernel, rfl, by decide +kernel, by decide +kernel⟩
theorem ok_outof {f g C cN : Addr} {fd gd : FuncData} (F : Fun K "output_of" "output_of" s_output_of f fd) (U : TxtP K mg) (PD : TB.PDef P w K mg base cN g gd) : FnOk P w K mg base CX0 10 f fd ["protocol", "inputs", "hand", "thing"] (spOutOf C) := by
  refine F.ok sc_out (fun vs H Q E h => ?_) (fun cdv A outer s H vs Q E hr h => ?_)
  · obtain ⟨p, t, D, r, ch, wk, al, wd, kvs, tt, h, v, d, e, o, rfl, _⟩ := h
    rfl
  obtain ⟨p, t, D, r, ch, wk, al, wd, kvs, tt, h, v, d, e, o, rfl, hW, B, he, htt, hh, hk, ho, q⟩ := h
  have nd := sc_out.nd
  have hu := hu_of hr
  obtain ⟨lpT, mLP, hLP⟩ := U.last
  refine ⟨_, (pss_cons (ps_if (pt_cmpR op_isN (pv 3) pe_non (nomark _))
      (pss_one (ps_ret pe_non))
      pss_nil)
    (pss_cons (ps_asg (pv 0) (pg_tup (by rfl) (pgs_cons (pg_name (i := 4) nd rfl (Or.inl rfl)) (pgs_cons (pg_name (i := 5) nd rfl (Or.inl rfl)) (pgs_cons (pg_name (i := 6) nd rfl (Or.inl rfl)) pgs_nil)))))
    (pss_cons (ps_set (i := 7) nd rfl (Or.inl rfl) (pe_callS PD.G (hr.mono (by decide)) rfl PD.m PD.k PD.b TB.passN (pa_cons (pv 3) (pa_cons (pv 2) pa_nil))))
    (pss_cons (ps_if (PW.pt (pw_or (pt_cmpR op_eq (pv 7) pe_int (nomark _)) (pw_or1 (pt_cmpR op_eq (pv 7) (pe_ix ix_tup (pe_glob (v := .ref lpT) rfl mLP rfl) (pv 4) (fun _ _ => rfl)) (nomark _)))))
      (pss_one (ps_ret (pe_ix ix_list (pe_ix ix_list (pv 5) (pv 2) (fun _ _ => rfl)) (pe_ix ix_tup (pv 1) (pv 2) (fun _ _ => rfl)) (fun _ _ => rfl))))
      pss_nil)
    (pss_one (ps_ret (pe_ix ix_list (pe_dget hu (pv 6) (pv 1) (fun _ _ => rfl)) (pv 7) (fun _ _ => rfl)))))))), ?_⟩
  refine ⟨_, rfl, rfl, _, rfl, ?_⟩
  rw [hk.isNon]
  rcases ho with ⟨rfl, rfl⟩ | ⟨j, rfl, hn, hj, hj0, hj1⟩
  · exact iteT (q _ (Same.refl H))
  rw [hn]
  refine iteF ?_
  refine ⟨_, rfl, t, _, rfl, SqT.of B.ht, rfl, _, _, rfl, _, _, rfl, _, _, rfl, rfl, ?_⟩
  refine ⟨_, rfl, _, rfl, v, d, h, rfl, hk, hh, (fun c => by rw [hj] at c; cases c), fun j' ej H1 s1 => ?_⟩
  obtain rfl : j = j' := by rw [hj] at ej; exact Option.some.inj ej
  have B1 := B.mono s1
  obtain ⟨xs, rr, h1, h2, h3, h4⟩ := B1.row hW he hh
  obtain ⟨ttt, ett, htt'⟩ := htt.mono (.same s1)
  obtain rfl : tt = ttt := by injection ett
  have q := q H1 s1
  have low : (j = 0 ∨ j = ((3 ^ r : Nat) : Int)) → oI ((some j).map (outAt ch wk r e h)) = .int (chO ch h e.1) := fun c => by
    show V.int (outAt ch wk r e h j) = _
    unfold outAt
    rw [if_pos c]
  refine ⟨_, rfl, rfl, _, rfl, ?_⟩
  by_cases c0 : j = 0
  · subst c0
    refine iteT' (by decide +kernel) ?_
    rw [low (.inl rfl)] at q
    refine iteT ?_
    exact ⟨_, rfl, _, rfl, al, _, _, _, rfl, rfl, SqL.of h1, atI_nat h2, _, rfl, _, rfl, tt, _, _, _, rfl, rfl, SqT.of htt', atI_nat (iI_at hh e.1), rr, _, _, _, rfl, rfl, SqL.of h3, atI_nat h4, q⟩
  refine iteF' (decide_eq_false (by simp [c0])) ?_
  refine ⟨_, rfl, _, rfl, lpT, _, _, _, rfl, rfl, hLP _, atI_nat (last_at B.rr), rfl, _, rfl, ?_⟩
  by_cases c1 : j = ((3 ^ r : Nat) : Int)
  · refine iteT' (decide_eq_true (by rw [c1])) ?_
    rw [low (.inr c1)] at q
    exact ⟨_, rfl, _, rfl, al, _, _, _, rfl, rfl, SqL.of h1, atI_nat h2, _, rfl, _, rfl, tt, _, _, _, rfl, rfl, SqT.of htt', atI_nat (iI_at hh e.1), rr, _, _, _, rfl, rfl, SqL.of h3, atI_nat h4, q⟩
  refine iteF' (decide_eq_false (fun z => c1 (by injection z))) ?_
  obtain ⟨v2, hv2, rw2, rfl, hrow⟩ := wk_at B1.hwk hW.srt e he
  have hjn : j = ((j.toNat : Nat) : Int) := by omega
  have hjl : j.toNat < (wk e).length := by rw [B.wlen e he]; omega
  have gj : ((wk e).map V.int)[j.toNat]? = some (.int ((wk e).getD j.toNat 0)) := by
    rw [List.getElem?_map, List.getD_eq_getElem?_getD, List.getElem?_eq_getElem hjl]
    rfl
  have e3 : outAt ch wk r e h j = (wk e).getD j.toNat 0 := if_neg (fun z => z.elim c0 c1)
  have q : Q (.int ((wk e).getD j.toNat 0)) H1 := by
    rw [← e3]
    exact q
  refine ⟨_, rfl, _, rfl, wd, _, rfl, hv2 ▸ DGet.t (k := kI e.1) B1.hwd htt', _, rfl, rw2, _, _, _, rfl, rfl, SqL.of hrow, ?_, q⟩
  rw [hjn]
  exact atI_nat gj
end
end TA

set_option Elab.async false
set_option maxRecDepth 100000
set_option maxHeartbeats 4000000
namespace TA
open PySem L2 PyProof.Rows
set_option linter.unusedVariables false
def WellAt (H : Hp) (a : Addr) (n : Int) : Prop := ∃ x y z : Int, H a = some (.lst [.int x, .int y, .int z]) ∧ 0 ≤ x ∧ 0 ≤ y ∧ y < 2147483647 ∧ 0 ≤ z ∧ z ≤ n
theorem WellAt.same {H H' : Hp} {a : Addr} {n : Int} (s : Same H H') (w : WellAt H a n) : WellAt H' a n := by
  obtain ⟨x, y, z, h, r⟩ := w
  exact ⟨x, y, z, s _ _ h, r⟩
theorem join3 {b : Bool} {X : Prop} {R : L2.St → Hp → Prop} {σ : L2.St} {H : Hp} (Iv : L2.St → Hp → Prop) (h0 : b = false → Iv σ H) (k : ∀ σ Hc, Iv σ Hc → R σ Hc) (h1 : b = true → (∀ σ Hc, Iv σ Hc → R σ Hc) → X) : if b = true then X else R σ H := by
  cases b with
  | false => exact iteF (k σ H (h0 rfl))
  | true => exact iteT (h1 rfl k)
def spCell (K : PySem.W.Frag) : Sp := fun vs H Q _ => ∃ (a : Addr) (ns : List Int) (k : Int), vs = [.ref a, .int k] ∧ SqL K H a (ns.map V.int) ∧ ns.length ≤ 1000 ∧ 0 ≤ k ∧ ∀ c : Int, Q (.int c) H
def spDigit : Sp := fun vs H Q _ => ∃ (a : Addr) (n m : Int), vs = [.ref a, .int m] ∧ ((∃ x : Int, H a = some (.lst [.int x])) ∨ WellAt H a n) ∧ 0 ≤ n ∧ n < 999999 ∧ 0 < m ∧ m < 1000 ∧ ∀ (r : Int) (H' : Hp), 0 ≤ r → r < m → But a H H' → WellAt H' a (n + 1) → Q (.int r) H'
theorem WellAt.but {H H' : Hp} {a d : Addr} {n : Int} (w : WellAt H a n) (ne : a ≠ d) (s : But d H H') : WellAt H' a n := by
  obtain ⟨x, y, z, h, r⟩ := w
  exact ⟨x, y, z, s _ _ ne h, r⟩
theorem WellAt.up {H : Hp} {a : Addr} {n m : Int} (w : WellAt H a n) (h : n ≤ m) : WellAt H a m := by
  obtain ⟨x, y, z, h0, a1, a2, a3, a4, a5⟩ := w
  exact ⟨x, y, z, h0, a1, a2, a3, a4, by omega⟩
theorem WellAt.ne {H : Hp} {a b : Addr} {n : Int} (w : WellAt H a n) (h : H b = none) : a ≠ b := by
  obtain ⟨x, y, z, h0, _⟩ := w
  exact ne_of_none h0 h
/-- a well that is drawn from, or not yet -/
def Dr (H : Hp) (a : Addr) (n : Int) : Prop := (∃ x : Int, H a = some (.lst [.int x])) ∨ WellAt H a n

section
variable {P : Program} {w : World} {K : PySem.W.Frag} {mg : Str → Option Value} {base : Heap}
theorem scCell : FnScope ["_law_script", "_law_k"] ["_law_script", "_law_k"] (defScope sCell) := ⟨rfl, rfl, rfl, by decide +kernel, rfl, by decide +kernel, by decide +kernel⟩
theorem ok_cell {f : Addr} {fd : FuncData} (F : Fun K "_law_cell_at" "_law_cell_at" sCell f fd) (T : Txt K mg) : FnOk P w K mg base CX0 1 f fd ["_law_script", "_law_k"] (spCell K) := by
  refine F.ok scCell (fun vs H Q E h => ?_) (fun cdv A outer s H vs Q E hr h => ?_)
  · obtain ⟨a, ns, k, rfl, _⟩ := h
    rfl
  obtain ⟨a, ns, k, rfl, hS, hn, hk, q⟩ := h
  refine ⟨_, pss_cons (ps_if (pt_cmpR op_lt (pv 1) (pe_callB call_len_seq (by rfl) T.len PySem.boot_len (pa_cons (pv 0) pa_nil)) (nomark _)) (pss_one (ps_ret (pe_ix ix_list (pv 0) (pv 1) (fun _ _ => rfl)))) pss_nil)
    (pss_one (ps_ret pe_int)), ?_⟩
  refine ⟨_, rfl, _, rfl, a, _, rfl, .inl hS, _, _, rfl, rfl, _, rfl, ?_⟩
  refine ite2 (fun c => ?_) (fun c => ?_)
  · have c' : k < (((ns.map V.int).length : Nat) : Int) := of_decide_eq_true c
    rw [List.length_map] at c'
    have hk' : k.toNat < ns.length := by omega
    have ek : k = ((k.toNat : Nat) : Int) := by omega
    have g : atI (ns.map V.int) ((k.toNat : Nat) : Int) = some (.int ns[k.toNat]) := atI_nat (by rw [List.getElem?_map, List.getElem?_eq_getElem hk'] <;> rfl)
    rw [← ek] at g
    exact ⟨_, rfl, _, rfl, a, _, _, _, rfl, rfl, hS, g, q _⟩
  · exact q 0
theorem scDigit : FnScope ["_law_state", "_law_base", "_law_cell", "_law_found", "_law_mixed"] ["_law_state", "_law_base"] (defScope s__law_digit) := ⟨rfl, rfl, rfl, by decide +kernel, rfl, by decide +kernel, by decide +kernel⟩
theorem ok_digit {f : Addr} {fd : FuncData} (F : Fun K "_law_digit" "_law_digit" s__law_digit f fd) (T : Txt K mg) : FnOk P w K mg base CX0 1 f fd ["_law_state", "_law_base"] spDigit := by
  refine F.ok scDigit (fun vs H Q E h => ?_) (fun cdv A outer s H vs Q E hr h => ?_)
  · obtain ⟨a, n, m, rfl, _⟩ := h
    rfl
  obtain ⟨a, n, m, rfl, hst, hn0, hn, hm, hm2, q⟩ := h
  have nd := scDigit.nd
  have ix : ∀ {X : Cx} {e1 e2 : Expr} {t1 t2 : TE} {p : Pos}, PE X e1 t1 → PE X e2 t2 → PlainIx e2 → PE X (.Subscript e1 e2 p) (tOp (rIxL X.K) t1 t2) := fun h1 h2 h3 => pe_ix ix_list h1 h2 h3
  refine ⟨_, pss_cons (ps_if (pt_cmpR op_eq (pe_callB call_len_seq (by rfl) T.len PySem.boot_len (pa_cons (pv 0) pa_nil)) pe_int (nomark _))
      (pss_cons (ps_set (i := 2) nd rfl (Or.inl rfl) (pe_ix ix_list (pv 0) pe_int (fun _ _ => rfl)))
      (pss_cons (ps_asg (pe_ix ix_list (pe_lst (pa_cons pe_int (pa_cons (pv 2) pa_nil))) (pe_callTy call_int1 (by rfl) T.int boot_int (pa_cons (pe_cmpR op_ge (pv 2) (pe_op op_pow pe_int pe_int) (nomark _)) pa_nil)) (fun _ _ => rfl)) (pg_sub (pv 0) pe_int set_list))
      (pss_one (ps_expr (pe_bm PySem.F.plainAttrs_list PySem.F.slot_list_extend PySem.F.type_list_extend mt_extend (pv 0) (pa_cons (pe_lst (pa_cons (pe_op op_mod (pv 2) pe_int) (pa_cons pe_int pa_nil))) pa_nil)))))) pss_nil)
    (pss_cons (ps_if (pt_cmpR op_gt (pe_ix ix_list (pv 0) pe_int (fun _ _ => rfl)) pe_int (nomark _))
      (pss_cons (ps_set (i := 3) nd rfl (Or.inl rfl) (pe_op op_mod (pe_ix ix_list (pv 0) pe_int (fun _ _ => rfl)) (pv 1)))
      (pss_cons (ps_asg (pe_op op_fdiv (pe_ix ix_list (pv 0) pe_int (fun _ _ => rfl)) (pv 1)) (pg_sub (pv 0) pe_int set_list))
      (pss_one (ps_ret (pv 3))))) pss_nil)
    (pss_cons (ps_asg (pe_op op_add (pe_ix ix_list (pv 0) pe_int (fun _ _ => rfl)) pe_int) (pg_sub (pv 0) pe_int set_list))
    (pss_cons (ps_set (i := 4) nd rfl (Or.inl rfl) (pe_op op_mod (pe_op op_mul (pe_op op_add (pe_op op_add (pe_ix ix_list (pv 0) pe_int (fun _ _ => rfl)) (pe_op op_mul pe_int (pe_ix ix_list (pv 0) pe_int (fun _ _ => rfl)))) pe_int) pe_int) pe_int))
    (pss_cons (ps_set (i := 4) nd rfl (Or.inl rfl) (pe_op op_mod (pe_op op_mul (pv 4) (pe_op op_add (pe_op op_fdiv (pv 4) pe_int) pe_int)) pe_int))
    (pss_one (ps_ret (pe_op op_mod (pe_op op_mod (pe_op op_mul (pv 4) (pe_op op_add (pe_op op_fdiv (pv 4) pe_int) pe_int)) pe_int) (pv 1)))))))), ?_⟩
  obtain ⟨xs, hxs, hlen⟩ : ∃ xs, H a = some (.lst xs) ∧ ((xs.length = 1 ∧ ∃ x : Int, xs = [.int x]) ∨ (xs.length = 3 ∧ WellAt H a n)) := by
    rcases hst with ⟨x, h⟩ | ⟨x, y, z, h, r⟩
    · exact ⟨_, h, .inl ⟨rfl, x, rfl⟩⟩
    · exact ⟨_, h, .inr ⟨rfl, x, y, z, h, r⟩⟩
  refine ⟨_, rfl, a, xs, rfl, .inl (SqL.of hxs), rfl, _, rfl, ?_⟩
  refine join3 (fun σ Hc => ∃ g, σ = [some (.ref a), some (.int m), g, none, none] ∧ But a H Hc ∧ WellAt Hc a n) ?_ ?_ ?_
  · intro hb
    rcases hlen with ⟨h1, _⟩ | ⟨_, hw⟩
    · rw [h1] at hb
      cases hb
    · exact ⟨none, rfl, fun b o _ e => e, hw⟩
  · rintro σ Hc ⟨g, rfl, b, x, y, z, hL, hx, hy, hy2, hz, hz2⟩
    refine ⟨_, rfl, a, _, _, _, rfl, rfl, SqL.of hL, rfl, _, _, rfl, rfl, _, rfl, ?_⟩
    refine ite2 (fun c => ?_) (fun c => ?_)
    · refine ⟨_, rfl, a, _, _, _, rfl, rfl, SqL.of hL, rfl, _, rfl, _, _, rfl, rfl, hm, ?_⟩
      refine ⟨_, rfl, a, _, _, _, rfl, rfl, SqL.of hL, rfl, _, rfl, _, _, rfl, rfl, ⟨hm, by omega⟩, ?_⟩
      refine ⟨_, rfl, a, _, _, 0, rfl, rfl, hL, rfl, _, rfl, ?_⟩
      exact q _ _ (Int.emod_nonneg _ (by omega)) (Int.emod_lt_of_pos _ hm) (b.trans But.at) ⟨_, y, z, upd_same, Int.ediv_nonneg hx (by omega), hy, hy2, hz, by omega⟩
    · have hL2 : (upd Hc a (.lst [.int x, .int y, .int (z + 1)])) a = some (.lst [.int x, .int y, .int (z + 1)]) := upd_same
      refine ⟨_, rfl, a, _, _, _, rfl, rfl, SqL.of hL, rfl, _, _, rfl, rfl, ?_⟩
      refine ⟨_, rfl, a, _, _, 2, rfl, rfl, hL, rfl, ?_⟩
      refine ⟨_, rfl, a, _, _, _, rfl, rfl, SqL.of hL2, rfl, _, rfl, a, _, _, _, rfl, rfl, SqL.of hL2, rfl, _, _, rfl, rfl, .inl ⟨by decide, by decide⟩, _, _, rfl, rfl, _, _, rfl, rfl, _, _, rfl, rfl, .inr ⟨by decide, by decide⟩, _, _, rfl, rfl, (by show (0 : Int) < 2147483647; decide), ?_⟩
      have n0 := Int.emod_nonneg ((y + 7919 * (z + 1) + 1) * 48271) (show (2147483647 : Int) ≠ 0 by decide)
      have n1 := Int.emod_lt_of_pos ((y + 7919 * (z + 1) + 1) * 48271) (show (0 : Int) < 2147483647 by decide)
      generalize ((y + 7919 * (z + 1) + 1) * 48271) % 2147483647 = i at n0 n1 ⊢
      refine ⟨_, rfl, _, rfl, _, _, rfl, rfl, ⟨by decide, by decide⟩, _, _, rfl, rfl, _, _, rfl, rfl, .inl ⟨by omega, by omega⟩, _, _, rfl, rfl, (by show (0 : Int) < 2147483647; decide), ?_⟩
      have k0 := Int.emod_nonneg (i * (i / 1009 + 69621)) (show (2147483647 : Int) ≠ 0 by decide)
      have k1 := Int.emod_lt_of_pos (i * (i / 1009 + 69621)) (show (0 : Int) < 2147483647 by decide)
      generalize (i * (i / 1009 + 69621)) % 2147483647 = j at k0 k1 ⊢
      refine ⟨_, rfl, _, rfl, _, _, rfl, rfl, ⟨by decide, by decide⟩, _, _, rfl, rfl, _, _, rfl, rfl, .inl ⟨by omega, by omega⟩, _, _, rfl, rfl, (by show (0 : Int) < 2147483399; decide), _, rfl, _, _, rfl, rfl, hm, ?_⟩
      exact q _ _ (Int.emod_nonneg _ (by omega)) (Int.emod_lt_of_pos _ hm) (b.trans But.at) ⟨x, y, z + 1, upd_same, hx, hy, hy2, by omega, by omega⟩
  · intro hb k
    obtain ⟨x, rfl⟩ : ∃ x : Int, xs = [.int x] := by
      rcases hlen with ⟨_, h⟩ | ⟨h3, _⟩
      · exact h
      · rw [h3] at hb
        cases hb
    refine ⟨_, rfl, a, _, _, _, rfl, rfl, SqL.of hxs, rfl, ?_⟩
    refine ⟨_, rfl, (by show 2 ≤ sizeLine; decide), fun l hl => ?_⟩
    have s1 := same_new hl (.lst [V.int 0, V.int x])
    refine ⟨_, rfl, _, _, rfl, rfl, ⟨by decide, by decide, by decide⟩, _, _, rfl, rfl, .inr ⟨_, rfl, ?_⟩⟩
    obtain ⟨y, hy, y0⟩ : ∃ y : Int, atI [V.int 0, V.int x] (if decide (x ≥ 10 ^ (18 : Int).toNat) = true then 1 else 0) = some (.int y) ∧ 0 ≤ y := by
      by_cases c : x ≥ 10 ^ (18 : Int).toNat
      · rw [decide_eq_true c]
        have : (0 : Int) ≤ 10 ^ (18 : Int).toNat := by decide
        exact ⟨x, rfl, by omega⟩
      · rw [decide_eq_false c]
        exact ⟨0, rfl, Int.le_refl 0⟩
    refine ⟨l, _, _, _, rfl, rfl, SqL.of upd_same, hy, _, rfl, a, [.int x], _, 0, rfl, rfl, s1 _ _ hxs, rfl, ?_⟩
    have hL : (upd (upd H l (.lst [V.int 0, V.int x])) a (.lst ([V.int x].set 0 (.int y)))) a = some (.lst [.int y]) := upd_same
    refine ⟨_, rfl, .inl ⟨rfl, _, SqL.of hL⟩, _, rfl, _, _, rfl, rfl, (by show (0 : Int) < 2147483647; decide), (by show 2 ≤ sizeLine; decide), fun l2 hl2 => ?_⟩
    have nl : a ≠ l2 := ne_of_none hL hl2
    refine ⟨a, l2, [.int y], _, rfl, rfl, (by rw [upd_ne nl]; exact hL), upd_same, (by show 3 ≤ sizeLine; decide), ?_⟩
    refine k _ _ ⟨_, rfl, ?_, y, x % 2147483647, 0, upd_same, y0, Int.emod_nonneg _ (by decide), Int.emod_lt_of_pos _ (by decide), Int.le_refl 0, hn0⟩
    exact (((But.same s1).trans But.at).trans (But.same (same_new hl2 _))).trans But.at

end
theorem WellAt.lst {H : Hp} {a : Addr} {n : Int} (w : WellAt H a n) : ∃ zs, H a = some (.lst zs) := by
  obtain ⟨x, y, z, h, _⟩ := w
  exact ⟨_, h⟩
def spOf (K : PySem.W.Frag) : Sp := fun vs H Q _ => ∃ (a l : Addr) (n : Int) (xs : List V), vs = [.ref a, .ref l] ∧ Dr H a n ∧ 0 ≤ n ∧ n < 999000 ∧ H l = some (.lst xs) ∧ l ≠ a ∧ 0 < xs.length ∧ xs.length < 1000 ∧ ∀ (i : Nat) (x : V) (H' : Hp), xs[i]? = some x → But a H H' → WellAt H' a (n + 1) → Q x H'
/-- outputs that are drawn from -/
def okG (g : List Int) : Prop := 1 ≤ g.length ∧ g.length ≤ 10 ∧ ∀ x ∈ g, okOut x
def spRising (K : PySem.W.Frag) : Sp := fun vs H Q _ => ∃ (a l : Addr) (n m : Int) (g : List Int), vs = [.ref a, .ref l, .int m] ∧ Dr H a n ∧ 0 ≤ n ∧ n < 990000 ∧ H l = some (.lst (g.map .int)) ∧ l ≠ a ∧ okG g ∧ 0 < m ∧ m ≤ 6 ∧
  ∀ (p : Addr) (ns : List Int) (H' : Hp), But a H H' → H p = none → H' p = some (.lst (ns.map .int)) → WellAt H' a (n + 10) → okRow ns → ns.length ≤ 6 → Q (.ref p) H'
def spOutsL (K : PySem.W.Frag) : Sp := fun vs H Q _ => ∃ (a l : Addr) (n m : Int) (g : List Int), vs = [.ref a, .ref l, .int m] ∧ Dr H a n ∧ 0 ≤ n ∧ n < 990000 ∧ H l = some (.lst (g.map .int)) ∧ l ≠ a ∧ okG g ∧ 0 < m ∧ m ≤ 6 ∧
  ∀ (p : Addr) (xs : List V) (ls : List (Int × Int)) (H' : Hp), But a H H' → H p = none → H' p = some (.lst xs) → A2 (TpAt H') xs ls → WellAt H' a (n + 20) → okLet ls → ls.length ≤ 6 → Q (.ref p) H'
/-! pairs, read off the heap -/
def dec (H : Hp) : V → Int × Int
  | .ref t => match H t with
    | some (.tup [.int x, .int y]) => (x, y)
    | _ => (0, 0)
  | _ => (0, 0)
theorem dec_eq {H : Hp} {v : V} {p : Int × Int} (h : TpAt H v p) : dec H v = p := by
  obtain ⟨t, rfl, e⟩ := h
  show (match H t with
    | some (.tup [.int x, .int y]) => (x, y)
    | _ => (0, 0)) = p
  rw [e]
theorem dec_all {H : Hp} : ∀ {xs : List V} {l : List (Int × Int)}, A2 (TpAt H) xs l → l = xs.map (dec H)
  | _, _, .nil => rfl
  | _, _, .cons a b => by rw [List.map_cons, dec_eq a, ← dec_all b]
theorem dec_of {H : Hp} : ∀ {xs : List V}, (∀ v ∈ xs, TpAt H v (dec H v)) → A2 (TpAt H) xs (xs.map (dec H))
  | [], _ => .nil
  | v :: xs, h => .cons (h v List.mem_cons_self) (dec_of fun x hx => h x (List.mem_cons_of_mem _ hx))
theorem tp_perm {H : Hp} {xs ys : List V} {l : List (Int × Int)} (a : A2 (TpAt H) xs l) (p : ys.Perm xs) : A2 (TpAt H) ys (ys.map (dec H)) ∧ (ys.map (dec H)).Perm l := by
  refine ⟨dec_of fun v hv => ?_, ?_⟩
  · obtain ⟨y, _, hy⟩ := a.mem (p.mem_iff.mp hv)
    rw [dec_eq hy]
    exact hy
  · rw [dec_all a]
    exact p.map _
section
variable {P : Program} {w : World} {K : PySem.W.Frag} {mg : Str → Option Value} {base : Heap}
abbrev nOf : List Str := ["_law_state", "_law_some"]
theorem sc_of : FnScope nOf nOf (defScope s__law_of) := ⟨rfl, rfl, rfl, by decide +kernel, rfl, by decide +kernel, by decide +kernel⟩
theorem ok_of {f g : Addr} {fd gd : FuncData} (F : Fun K "_law_of" "_law_of" s__law_of f fd) (T : Txt K mg) (Dg : Def P w K mg base "_law_digit" ["_law_state", "_law_base"] 1 spDigit g gd) : FnOk P w K mg base CX0 2 f fd nOf (spOf K) := by
  refine F.ok sc_of (fun vs H Q E h => ?_) (fun cdv A outer s H vs Q E hr h => ?_)
  · obtain ⟨a, l, n, xs, rfl, _⟩ := h
    rfl
  obtain ⟨a, l, n, xs, rfl, hD, hn0, hn, hl, nla, h0, h1, q⟩ := h
  have nd := sc_of.nd
  refine ⟨_, (pss_one (ps_ret (pe_ix ix_list (pv 1) (pe_call Dg.G (hr.mono (by decide)) rfl Dg.m Dg.k Dg.b .nil pass0 (pa_cons (pv 0) (pa_cons (pe_callB call_len_seq (by rfl) T.len PySem.boot_len (pa_cons (pv 1) pa_nil)) pa_nil))) (fun _ _ => rfl)))), ?_⟩
  refine ⟨_, rfl, _, rfl, _, rfl, l, xs, rfl, .inl (SqL.of hl), a, n, (xs.length : Int), rfl, hD, hn0, by omega, by omega, by omega, fun r H1 r0 r1 b1 w1 => ?_⟩
  obtain ⟨m, rfl⟩ : ∃ m : Nat, r = (m : Int) := ⟨r.toNat, by omega⟩
  have hm : m < xs.length := by omega
  exact ⟨l, _, _, _, rfl, rfl, SqL.of (b1 _ _ nla hl), atI_nat (List.getElem?_eq_getElem hm), q m _ _ (List.getElem?_eq_getElem hm) b1 w1⟩
abbrev nRs : List Str := ["_law_state", "_law_some", "_law_most", "_law_found", "_law_turn", "_law_one"]
theorem sc_rs : FnScope nRs ["_law_state", "_law_some", "_law_most"] (defScope s__law_rising) := ⟨rfl, rfl, rfl, by decide +kernel, rfl, by decide +kernel, by decide +kernel⟩
theorem ok_rs {f g1 g2 : Addr} {fd d1 d2 : FuncData} (F : Fun K "_law_rising" "_law_rising" s__law_rising f fd) (T : Txt K mg) (T2 : Txt2 K mg) (Dg : Def P w K mg base "_law_digit" ["_law_state", "_law_base"] 1 spDigit g1 d1) (Of : Def P w K mg base "_law_of" nOf 2 (spOf K) g2 d2) : FnOk P w K mg base CX0 3 f fd ["_law_state", "_law_some", "_law_most"] (spRising K) := by
  refine F.ok sc_rs (fun vs H Q E h => ?_) (fun cdv A outer s H vs Q E hr h => ?_)
  · obtain ⟨a, l, n, m, g, rfl, _⟩ := h
    rfl
  obtain ⟨a, l, n, m, g, rfl, hD, hn0, hn, hl, nla, hg, hm0, hm, q⟩ := h
  have nd := sc_rs.nd
  obtain ⟨g1_, g2_, g3_⟩ := hg
  refine ⟨_, (pss_cons (ps_set (i := 3) nd rfl (Or.inl rfl) (pe_lst pa_nil))
    (pss_cons (ps_for PassesOwn.never (by rfl) (pi_range1 (by rfl) T.range (pa_cons (pe_op op_add pe_int (pe_call Dg.G (hr.mono (by decide)) rfl Dg.m Dg.k Dg.b .nil pass0 (pa_cons (pv 0) (pa_cons (pv 2) pa_nil)))) pa_nil)) (pg_name (i := 4) nd rfl (Or.inl rfl))
      (pss_cons (ps_set (i := 5) nd rfl (Or.inl rfl) (pe_call Of.G (hr.mono (by decide)) rfl Of.m Of.k Of.b .nil pass0 (pa_cons (pv 0) (pa_cons (pv 1) pa_nil))))
    (pss_one (ps_if (pt_cmpR op_notIn_seq (pv 5) (pv 3) (by rfl))
      (pss_one (ps_expr (pe_bm PySem.F.plainAttrs_list PySem.F.slot_list_append PySem.F.type_list_append mt_append (pv 3) (pa_cons (pv 5) pa_nil))))
      pss_nil))))
    (pss_one (ps_ret (pe_callB cr_sorted (by rfl) T2.sorted (by decide +kernel) (pa_cons (pv 3) pa_nil)))))), ?_⟩
  refine ⟨(by show 0 ≤ sizeLine; decide), fun L hL => ?_⟩
  have s1 := same_new hL (.lst [])
  have hD1 : Dr (upd H L (.lst [])) a n := by
    rcases hD with ⟨x, e⟩ | e
    · exact .inl ⟨x, s1 _ _ e⟩
    · exact .inr (e.same s1)
  have naL : a ≠ L := by
    rcases hD with ⟨x, e⟩ | ⟨x, y, z, e, _⟩
    · exact ne_of_none e hL
    · exact ne_of_none e hL
  refine ⟨_, rfl, _, rfl, a, n, m, rfl, hD1, hn0, by omega, hm0, by omega, fun r H1 r0 r1 b1 w1 => ?_⟩
  have b01 : But a H H1 := (But.same s1).trans b1
  have eL1 : H1 L = some (.lst []) := b1 _ _ (Ne.symm naL) upd_same
  refine ⟨_, _, rfl, rfl, 1 + r, rfl, by omega, by omega, for_range (n := (1 + r).toNat) (fun i σ H' => ∃ g4 g5, σ = [some (.ref a), some (.ref l), some (.int m), some (.ref L), g4, g5] ∧ But a H H' ∧ WellAt H' a (n + 1 + (i : Int)) ∧ ∃ ns : List Int, H' L = some (.lst (ns.map V.int)) ∧ ns.Nodup ∧ (∀ x ∈ ns, x ∈ g) ∧ ns.length ≤ i ∧ (0 < i → 0 < ns.length)) ⟨_, _, rfl, b01, by rw [show n + 1 + ((0 : Nat) : Int) = n + 1 by omega]; exact w1, [], eL1, .nil, (fun x hx => nomatch hx), Nat.zero_le _, fun c => absurd c (Nat.lt_irrefl _)⟩ ?_ ?_⟩
  · rintro i σ H' hi ⟨g4, g5, rfl, b2, w2, ns, hns, hnd, hin, hle, hpos⟩
    refine ⟨_, rfl, _, rfl, a, l, _, g.map V.int, rfl, .inr w2, by omega, by omega, b2 _ _ nla hl, nla, by rw [List.length_map]; omega, by rw [List.length_map]; omega, fun k x H3 hx b3 w3 => ?_⟩
    rw [List.getElem?_map] at hx
    obtain ⟨x, hx1, rfl⟩ := Option.map_eq_some_iff.mp hx
    have hxg := List.mem_of_getElem? hx1
    have hns3 := b3 _ _ (Ne.symm naL) hns
    have w4 : WellAt H3 a (n + 1 + ((i + 1 : Nat) : Int)) := by
      rw [show n + 1 + ((i + 1 : Nat) : Int) = n + 1 + (i : Int) + 1 by omega]
      exact w3
    refine ⟨_, rfl, _, rfl, L, _, rfl, .inl (SqL.of hns3), rfl, flat_ints _, _, rfl, ?_⟩
    rw [inV_int]
    by_cases c : x ∈ ns
    · refine iteF' (by rw [decide_eq_true c]; rfl) ⟨_, _, rfl, b2.trans b3, w4, ns, hns3, hnd, hin, by omega, fun _ => List.length_pos_of_mem c⟩
    · refine iteT' (by rw [decide_eq_false c]; rfl) ?_
      refine ⟨_, rfl, .inl ⟨rfl, _, SqL.of hns3⟩, _, rfl, L, _, _, rfl, rfl, hns3, ?_, ?_⟩
      · rw [List.length_map]
        exact Nat.lt_of_lt_of_le (show ns.length < 100 by omega) (by decide)
      · refine ⟨_, _, rfl, (b2.trans b3).new hL, w4.but naL But.at, ns ++ [x], by rw [upd_same, List.map_append]; rfl, ?_, ?_, by rw [List.length_append]; show ns.length + 1 ≤ i + 1; omega, fun _ => by rw [List.length_append]; show 0 < ns.length + 1; omega⟩
        · rw [List.nodup_append]
          exact ⟨hnd, by simp, fun y hy z hz e => by obtain rfl := List.mem_singleton.mp hz; subst e; exact c hy⟩
        · intro y hy
          rcases List.mem_append.mp hy with h | h
          · exact hin y h
          · obtain rfl := List.mem_singleton.mp h
            exact hxg
  · rintro σ H' ⟨g4, g5, rfl, b2, w2, ns, hns, hnd, hin, hle, hpos⟩
    have hl6 : ns.length ≤ 6 := by omega
    refine ⟨_, rfl, L, ns, rfl, SqL.of hns, by omega, fun ns' p pm pw hp => ?_⟩
    have s3 := same_new hp (.lst (ns'.map V.int))
    have hpn : H p = none := none_of_but b2 (Ne.symm (w2.ne hp)) hp
    refine q p ns' _ (b2.trans (.same s3)) hpn upd_same ((w2.same s3).up (by omega)) ⟨?_, ?_, ?_, fun x hx => g3_ x (hin x (pm.mem_iff.mp hx))⟩ (by rw [pm.length_eq]; exact hl6)
    · rw [pm.length_eq]
      exact hpos (by omega)
    · rw [pm.length_eq]
      omega
    · have nd' := pm.nodup_iff.mpr hnd
      exact List.Pairwise.imp₂ (fun a b (h1 : a ≤ b) (h2 : a ≠ b) => by omega) pw nd'
abbrev nOs : List Str := ["_law_state", "_law_some", "_law_most", "_law_found", "_law_turn", "_law_outs_here"]
theorem sc_os : FnScope nOs ["_law_state", "_law_some", "_law_most"] (defScope s__law_outs) := ⟨rfl, rfl, rfl, by decide +kernel, rfl, by decide +kernel, by decide +kernel⟩
theorem ok_os {f g1 g2 : Addr} {fd d1 d2 : FuncData} (F : Fun K "_law_outs" "_law_outs" s__law_outs f fd) (T : Txt K mg) (T2 : Txt2 K mg) (Dg : Def P w K mg base "_law_digit" ["_law_state", "_law_base"] 1 spDigit g1 d1) (Of : Def P w K mg base "_law_of" nOf 2 (spOf K) g2 d2) : FnOk P w K mg base CX0 3 f fd ["_law_state", "_law_some", "_law_most"] (spOutsL K) := by
  refine F.ok sc_os (fun vs H Q E h => ?_) (fun cdv A outer s H vs Q E hr h => ?_)
  · obtain ⟨a, l, n, m, g, rfl, _⟩ := h
    rfl
  obtain ⟨a, l, n, m, g, rfl, hD, hn0, hn, hl, nla, hg, hm0, hm, q⟩ := h
  have nd := sc_os.nd
  have hu65 := hu65_of hr
  obtain ⟨g1_, g2_, g3_⟩ := hg
  refine ⟨_, (pss_cons (ps_set (i := 3) nd rfl (Or.inl rfl) (pe_lst pa_nil))
    (pss_cons (ps_for PassesOwn.never (by rfl) (pi_range1 (by rfl) T.range (pa_cons (pe_op op_add pe_int (pe_call Dg.G (hr.mono (by decide)) rfl Dg.m Dg.k Dg.b .nil pass0 (pa_cons (pv 0) (pa_cons (pv 2) pa_nil)))) pa_nil)) (pg_name (i := 4) nd rfl (Or.inl rfl))
      (pss_cons (ps_set (i := 5) nd rfl (Or.inl rfl) (pe_tup (pa_cons (pe_call Of.G (hr.mono (by decide)) rfl Of.m Of.k Of.b .nil pass0 (pa_cons (pv 0) (pa_cons (pv 1) pa_nil))) (pa_cons (pe_call Of.G (hr.mono (by decide)) rfl Of.m Of.k Of.b .nil pass0 (pa_cons (pv 0) (pa_cons (pv 1) pa_nil))) pa_nil))))
    (pss_one (ps_if (pt_cmpR (op_notInD hu65) (pv 5) (pv 3) (by rfl))
      (pss_one (ps_expr (pe_bm PySem.F.plainAttrs_list PySem.F.slot_list_append PySem.F.type_list_append mt_append (pv 3) (pa_cons (pv 5) pa_nil))))
      pss_nil))))
    (pss_one (ps_ret (pe_callB (cr_sortT (d := 2) (B := 64) (by decide)) (by rfl) T2.sorted (by decide +kernel) (pa_cons (pv 3) pa_nil)))))), ?_⟩
  refine ⟨(by show 0 ≤ sizeLine; decide), fun L hL => ?_⟩
  have s1 := same_new hL (.lst [])
  have hD1 : Dr (upd H L (.lst [])) a n := by
    rcases hD with ⟨x, e⟩ | e
    · exact .inl ⟨x, s1 _ _ e⟩
    · exact .inr (e.same s1)
  have naL : a ≠ L := by
    rcases hD with ⟨x, e⟩ | ⟨x, y, z, e, _⟩
    · exact ne_of_none e hL
    · exact ne_of_none e hL
  refine ⟨_, rfl, _, rfl, a, n, m, rfl, hD1, hn0, by omega, hm0, by omega, fun r H1 r0 r1 b1 w1 => ?_⟩
  have b01 : But a H H1 := (But.same s1).trans b1
  have eL1 : H1 L = some (.lst []) := b1 _ _ (Ne.symm naL) upd_same
  have tpB : ∀ {H' H'' : Hp} {z : List V} {v : V} {p : Int × Int} {d : Addr}, H' d = some (.lst z) → But d H' H'' → TpAt H' v p → TpAt H'' v p := fun e b h => by
    obtain ⟨t, rfl, ht⟩ := h
    exact ⟨t, rfl, b _ _ (ne_of ht e (fun z => by cases z)) ht⟩
  refine ⟨_, _, rfl, rfl, 1 + r, rfl, by omega, by omega, for_range (n := (1 + r).toNat) (fun i σ H' => ∃ g4 g5, σ = [some (.ref a), some (.ref l), some (.int m), some (.ref L), g4, g5] ∧ But a H H' ∧ WellAt H' a (n + 1 + 2 * (i : Int)) ∧ ∃ (xs : List V) (ls : List (Int × Int)), H' L = some (.lst xs) ∧ A2 (TpAt H') xs ls ∧ ls.Nodup ∧ (∀ x ∈ ls, x.1 ∈ g ∧ x.2 ∈ g) ∧ ls.length ≤ i ∧ (0 < i → 0 < ls.length)) ⟨_, _, rfl, b01, by rw [show n + 1 + 2 * ((0 : Nat) : Int) = n + 1 by omega]; exact w1, [], [], eL1, .nil, .nil, (fun x hx => nomatch hx), Nat.zero_le _, fun c => absurd c (Nat.lt_irrefl _)⟩ ?_ ?_⟩
  · rintro i σ H' hi ⟨g4, g5, rfl, b2, w2, xs, ls, hxs, hA, hnd, hin, hle, hpos⟩
    obtain ⟨z2, ea2⟩ := w2.lst
    refine ⟨_, rfl, _, rfl, a, l, _, g.map V.int, rfl, .inr w2, by omega, by omega, b2 _ _ nla hl, nla, by rw [List.length_map]; omega, by rw [List.length_map]; omega, fun k x H3 hx b3 w3 => ?_⟩
    rw [List.getElem?_map] at hx
    obtain ⟨x, hx1, rfl⟩ := Option.map_eq_some_iff.mp hx
    have hxg := List.mem_of_getElem? hx1
    obtain ⟨z3, ea3⟩ := w3.lst
    refine ⟨_, rfl, _, rfl, a, l, _, g.map V.int, rfl, .inr w3, by omega, by omega, b3 _ _ nla (b2 _ _ nla hl), nla, by rw [List.length_map]; omega, by rw [List.length_map]; omega, fun k2 y H4 hy b4 w4 => ?_⟩
    rw [List.getElem?_map] at hy
    obtain ⟨y, hy1, rfl⟩ := Option.map_eq_some_iff.mp hy
    have hyg := List.mem_of_getElem? hy1
    obtain ⟨z4, ea4⟩ := w4.lst
    refine ⟨(by show 2 ≤ sizeLine; decide), fun t ht => ?_⟩
    have s5 := same_new ht (.tup [V.int x, V.int y])
    have hxs5 := s5 _ _ (b4 _ _ (Ne.symm naL) (b3 _ _ (Ne.symm naL) hxs))
    have hA5 : A2 (TpAt (upd H4 t (.tup [V.int x, V.int y]))) xs ls := hA.imp fun _ _ r => (tpB ea3 b4 (tpB ea2 b3 r)).mono (.same s5)
    have hB5 := ((b2.trans b3).trans b4).trans (.same s5)
    have w5 : WellAt (upd H4 t (.tup [V.int x, V.int y])) a (n + 1 + 2 * ((i + 1 : Nat) : Int)) := (w4.same s5).up (by omega)
    have htt : (upd H4 t (.tup [V.int x, V.int y])) t = some (.tup [V.int x, V.int y]) := upd_same
    generalize upd H4 t (.tup [V.int x, V.int y]) = H5 at s5 hxs5 hA5 hB5 w5 htt ⊢
    refine ⟨_, rfl, _, rfl, pairD (x, y), ls.map pairD, (TpAt.dp ⟨t, rfl, htt⟩), Dp.lst (SqL.of hxs5) (hA5.dp pairD fun _ _ r => r.dp), (okD_pair _).shaped (by decide), (okD_pairs _).shaped (by decide), _, rfl, ?_⟩
    rw [any_pair]
    by_cases c : (x, y) ∈ ls
    · refine iteF' (by rw [decide_eq_true c]; rfl) ⟨_, _, rfl, hB5, w5, xs, ls, hxs5, hA5, hnd, hin, by omega, fun _ => List.length_pos_of_mem c⟩
    · refine iteT' (by rw [decide_eq_false c]; rfl) ?_
      refine ⟨_, rfl, .inl ⟨rfl, _, SqL.of hxs5⟩, _, rfl, L, _, _, rfl, rfl, hxs5, ?_, ?_⟩
      · rw [hA5.len]
        exact Nat.lt_of_lt_of_le (show ls.length < 100 by omega) (by decide)
      · refine ⟨_, _, rfl, hB5.new hL, w5.but naL But.at, xs ++ [V.ref t], ls ++ [(x, y)], upd_same, A2.snoc (hA5.imp fun _ _ r => tpB hxs5 But.at r) (tpB hxs5 But.at ⟨t, rfl, htt⟩), ?_, ?_, by rw [List.length_append]; show ls.length + 1 ≤ i + 1; omega, fun _ => by rw [List.length_append]; show 0 < ls.length + 1; omega⟩
        · rw [List.nodup_append]
          exact ⟨hnd, by simp, fun y hy z hz e => by obtain rfl := List.mem_singleton.mp hz; subst e; exact c hy⟩
        · intro y hy
          rcases List.mem_append.mp hy with h | h
          · exact hin y h
          · obtain rfl := List.mem_singleton.mp h
            exact ⟨hxg, hyg⟩
  · rintro σ H' ⟨g4, g5, rfl, b2, w2, xs, ls, hxs, hA, hnd, hin, hle, hpos⟩
    have hl6 : ls.length ≤ 6 := by omega
    have out : ∀ p ∈ ls, okOut p.1 ∧ okOut p.2 := fun p hp => ⟨g3_ _ (hin p hp).1, g3_ _ (hin p hp).2⟩
    refine ⟨_, rfl, L, xs, rfl, SqL.of hxs, by rw [hA.len]; omega, fun x hx => ?_, fun ys p pm pw hp => ?_⟩
    · obtain ⟨y, hy, t, rfl, ht⟩ := hA.mem hx
      refine ⟨[y.1, y.2], ⟨t, rfl, SqT.of ht⟩, rfl, fun z hz => ?_⟩
      obtain ⟨o1, o2⟩ := out y hy
      rcases List.mem_cons.mp hz with rfl | hz
      · exact ⟨o1.1, by have := o1.2; omega⟩
      · obtain rfl := List.mem_singleton.mp hz
        exact ⟨o2.1, by have := o2.2; omega⟩
    have s3 := same_new hp (.lst ys)
    have hpn : H p = none := none_of_but b2 (Ne.symm (w2.ne hp)) hp
    obtain ⟨a1, a2⟩ := tp_perm hA pm
    have nd' := a2.nodup_iff.mpr hnd
    refine q p ys (ys.map (dec H')) _ (b2.trans (.same s3)) hpn upd_same (a1.imp fun _ _ r => r.mono (.same s3)) ((w2.same s3).up (by omega)) ⟨?_, ?_, ?_, fun x hx => out x (a2.mem_iff.mp hx)⟩ (by rw [a2.length_eq]; exact hl6)
    · rw [a2.length_eq]
      exact hpos (by omega)
    · rw [a2.length_eq]
      omega
    · rw [List.pairwise_map]
      have nd2 := List.pairwise_map.mp nd'
      refine List.Pairwise.imp_of_mem (fun {x y} hx hy h => ?_) (List.Pairwise.imp₂ (fun a b h1 h2 => And.intro h1 h2) pw nd2)
      obtain ⟨h1, h2⟩ := h
      obtain ⟨px, hpx, tx⟩ := hA.mem (pm.mem_iff.mp hx)
      obtain ⟨py, hpy, ty⟩ := hA.mem (pm.mem_iff.mp hy)
      rw [dec_eq tx, dec_eq ty] at h2 ⊢
      obtain ⟨ox1, ox2⟩ := out px hpx
      obtain ⟨oy1, oy2⟩ := out py hpy
      obtain ⟨t1, rfl, e1⟩ := tx
      obtain ⟨t2, rfl, e2⟩ := ty
      have hc := h1 [px.1, px.2] [py.1, py.2] ⟨t1, rfl, SqT.of e1⟩ ⟨t2, rfl, SqT.of e2⟩
      refine pair_lt hc (fun e => h2 ?_) ⟨ox1.1, by have := ox1.2; omega⟩ ⟨ox2.1, by have := ox2.2; omega⟩ ⟨oy1.1, by have := oy1.2; omega⟩ ⟨oy2.1, by have := oy2.2; omega⟩
      injection e with e1 e2
      injection e2 with e2 _
      exact Prod.ext e1 e2
end
end TA

set_option Elab.async false
set_option maxRecDepth 100000
set_option maxHeartbeats 4000000
namespace TA
open PySem L2 PyProof.Rows
set_option linter.unusedVariables false
theorem TpAt.but {H H' : Hp} {d : Addr} {zs : List V} (e : H d = some (.lst zs)) (s : But d H H') {v : V} {p : Int × Int} (h : TpAt H v p) : TpAt H' v p := by
  obtain ⟨t, rfl, h⟩ := h
  exact ⟨t, rfl, s _ _ (ne_of h e (fun z => by cases z)) h⟩
theorem cut_to (xs : List V) (n : Nat) : cutV xs none (some (n : Int)) = xs.take n := by
  unfold cutV
  have e1 : HT.sIx xs.length 0 none = 0 := rfl
  have e2 : HT.sIx xs.length xs.length (some (n : Int)) = min n xs.length := by
    simp only [HT.sIx]
    split <;> omega
  rw [e1, e2, List.drop_zero, Nat.sub_zero]
  by_cases c : n ≤ xs.length
  · rw [show min n xs.length = n by omega]
  · rw [show min n xs.length = xs.length by omega, List.take_length, List.take_of_length_le (by omega)]
theorem getD_left {l r : List Int} {k : Nat} (h : k < l.length) : (l ++ r).getD k 0 = l.getD k 0 := by
  rw [List.getD_eq_getElem?_getD, List.getD_eq_getElem?_getD, List.getElem?_append_left h]
theorem getD_mid {l : List Int} {x : Int} : (l ++ [x]).getD l.length 0 = x := by
  rw [List.getD_eq_getElem?_getD, List.getElem?_append_right (Nat.le_refl _), Nat.sub_self]
  rfl
theorem getD_some {α : Type} {l : List α} {k : Nat} {x d : α} (h : l[k]? = some x) : l.getD k d = x := by
  rw [List.getD_eq_getElem?_getD, h]
  rfl
theorem pair_at {p : Int × Int} {j : Int} (h : j = 0 ∨ j = 1) : ∃ u : Int, atI [V.int p.1, V.int p.2] j = some (.int u) ∧ (u = p.1 ∨ u = p.2) := by
  rcases h with rfl | rfl
  · exact ⟨p.1, rfl, .inl rfl⟩
  · exact ⟨p.2, rfl, .inr rfl⟩
def spWalk : Sp := fun vs H Q _ => ∃ (a l : Addr) (n x y : Int) (m : Nat) (xs : List V) (ls : List (Int × Int)), vs = [.ref a, .int x, .int y, .ref l, .int (m : Int)] ∧ WellAt H a n ∧ 0 ≤ n ∧ n < 900000 ∧ H l = some (.lst xs) ∧ l ≠ a ∧ A2 (TpAt H) xs ls ∧ okLet ls ∧ okOut x ∧ okOut y ∧ 1 ≤ m ∧ m ≤ 243 ∧
  ∀ (p : Addr) (w : List Int) (H' : Hp), But a H H' → H p = none → H' p = some (.lst (w.map .int)) → WellAt H' a (n + (m : Int)) → w.length = m + 1 → w.getD 0 0 = x → w.getD m 0 = y → (∀ z ∈ w, okOut z) → Q (.ref p) H'
section
variable {P : Program} {w : World} {K : PySem.W.Frag} {mg : Str → Option Value} {base : Heap}
abbrev nWk : List Str := ["_law_state", "_law_first", "_law_last", "_law_outs_here", "_law_many", "_law_found", "_law_i", "_law_some", "_law_pair"]
theorem sc_wk : FnScope nWk ["_law_state", "_law_first", "_law_last", "_law_outs_here", "_law_many"] (defScope s__law_walk) := ⟨rfl, rfl, rfl, by decide +kernel, rfl, by decide +kernel, by decide +kernel⟩
theorem ok_wk {f g2 : Addr} {fd d2 : FuncData} (F : Fun K "_law_walk" "_law_walk" s__law_walk f fd) (T : Txt K mg) (Of : Def P w K mg base "_law_of" nOf 2 (spOf K) g2 d2) : FnOk P w K mg base CX0 3 f fd ["_law_state", "_law_first", "_law_last", "_law_outs_here", "_law_many"] spWalk := by
  refine F.ok sc_wk (fun vs H Q E h => ?_) (fun cdv A outer s H vs Q E hr h => ?_)
  · obtain ⟨a, l, n, x, y, m, xs, ls, rfl, _⟩ := h
    rfl
  obtain ⟨a, l, n, x, y, m, xs, ls, rfl, hw, hn0, hn, hl, nla, hA, hok, hx, hy, hm1, hm, q⟩ := h
  have nd := sc_wk.nd
  obtain ⟨ok1, ok2, ok3, ok4⟩ := hok
  refine ⟨_, (pss_cons (ps_set (i := 5) nd rfl (Or.inr rfl) (pe_lst (pa_cons (pv 1) pa_nil)))
    (pss_cons (ps_for PassesOwn.never (by rfl) (pi_range2 (by rfl) T.range (pa_cons pe_int (pa_cons (pv 4) pa_nil))) (pg_name (i := 6) nd rfl (Or.inr rfl))
      (pss_cons (ps_setLc (i := 7) (own := [("_law_pair", 8)]) (g := (gName 8)) (tt := (tTest (tOp rEq (tOp (rIxT K) (tVar 8) (tOp (rI0 fun i j => .int (i - j)) (tC (.int 1)) (tOp (rI (fun _ j => 0 < j) fun i j => .int (i % j)) (tVar 6) (tC (.int 2))))) (tOp (rIxL K) (tVar 5) (tUn (rU fun i => .int (-i)) (tC (.int 1))))))) (te := (tOp (rIxT K) (tVar 8) (tOp (rI (fun _ j => 0 < j) fun i j => .int (i % j)) (tVar 6) (tC (.int 2))))) rfl nd rfl rfl (sw_true rfl rfl rfl (by decide +kernel)) (pi_list (pv 3)) (blkOk_by (N := nWk) (sc := defScope s__law_walk) (by decide +kernel)) (fun _ _ _ _ _ => (by exact (pg_name (i := 8) nd rfl (Or.inl rfl)))) (fun _ _ _ _ _ => pts_one (by exact (pt_cmpR op_eq (pe_ix ix_tup (pv 8) (pe_op op_sub pe_int (pe_op op_mod (pv 6) pe_int)) (fun _ _ => rfl)) (pe_ix ix_list (pv 5) (pe_un un_neg pe_int) (fun _ _ => rfl)) (nomark _)))) (fun _ _ _ _ _ => (by exact (pe_ix ix_tup (pv 8) (pe_op op_mod (pv 6) pe_int) (fun _ _ => rfl)))))
    (pss_one (ps_expr (pe_bm PySem.F.plainAttrs_list PySem.F.slot_list_append PySem.F.type_list_append mt_append (pv 5) (pa_cons (pe_call Of.G (hr.mono (by decide)) rfl Of.m Of.k Of.b .nil pass0 (pa_cons (pv 0) (pa_cons (pe_op op_cat (pv 7) (pe_lc (own := [("_law_pair", 8)]) (g := (gName 8)) (tt := tYes) (te := (tOp (rIxT K) (tVar 8) (tOp (rI (fun _ j => 0 < j) fun i j => .int (i % j)) (tVar 6) (tC (.int 2))))) rfl nd (pi_list (pe_slice sl_list (pv 3) po_none (po_some pe_int))) (blkOk_by (N := nWk) (sc := defScope s__law_walk) (by decide +kernel)) (fun _ _ _ _ _ => (by exact (pg_name (i := 8) nd rfl (Or.inl rfl)))) (fun _ _ _ _ _ => pts_nil) (fun _ _ _ _ _ => (by exact (pe_ix ix_tup (pv 8) (pe_op op_mod (pv 6) pe_int) (fun _ _ => rfl)))))) pa_nil))) pa_nil))))))
    (pss_one (ps_ret (pe_op op_cat (pv 5) (pe_lst (pa_cons (pv 2) pa_nil))))))), ?_⟩
  refine ⟨_, rfl, (by show 1 ≤ sizeLine; decide), fun L hL => ?_⟩
  have s1 := same_new hL (.lst [V.int x])
  have naL : a ≠ L := hw.ne hL
  have nlL : l ≠ L := ne_of_none hl hL
  obtain ⟨zw, ea⟩ := hw.lst
  refine ⟨_, rfl, 1, (m : Int), rfl, ⟨by decide, by decide, by omega, by omega⟩, for_range (n := ((m : Int) - 1).toNat) (fun i σ H' => ∃ g6 g7, σ = [some (.ref a), some (.int x), some (.int y), some (.ref l), some (.int (m : Int)), some (.ref L), g6, g7, none] ∧ But a H H' ∧ WellAt H' a (n + (i : Int)) ∧ ∃ ws : List Int, H' L = some (.lst (ws.map V.int)) ∧ ws.length = i + 1 ∧ ws.getD 0 0 = x ∧ ∀ z ∈ ws, okOut z) ⟨_, _, rfl, .same s1, (by rw [show n + ((0 : Nat) : Int) = n by omega]; exact hw.same s1), [x], upd_same, rfl, rfl, fun z hz => by obtain rfl := List.mem_singleton.mp hz; exact hx⟩ ?_ ?_⟩
  · rintro i σ H' hi ⟨g6, g7, rfl, b1, w1, ws, hws, hwl, hw0, hwo⟩
    have hl' := b1 _ _ nla hl
    have hA' := hA.imp fun _ _ r => r.but ea b1
    have bit : (1 + (i : Int)) % 2 = 0 ∨ (1 + (i : Int)) % 2 = 1 := by omega
    have bit' : 1 - (1 + (i : Int)) % 2 = 0 ∨ 1 - (1 + (i : Int)) % 2 = 1 := by omega
    have glast : (ws.map V.int)[(ws.map V.int).length - 1]? = some (.int (ws.getD i 0)) := by
      rw [List.length_map, hwl, List.getElem?_map, List.getD_eq_getElem?_getD, show i + 1 - 1 = i by omega, List.getElem?_eq_getElem (show i < ws.length by omega)]
      rfl
    refine ⟨_, rfl, l, rfl, ⟨_, SqL.of hl'⟩, fun D1 hD1 => ?_⟩
    have sD := same_new hD1 (.lst [])
    have outP : ∀ k v, xs[k]? = some v → ∃ p, TpAt H' v p ∧ okOut p.1 ∧ okOut p.2 := fun k v hv => by
      obtain ⟨p, hp, tp⟩ := hA'.get hv
      exact ⟨p, tp, ok4 p (List.mem_of_getElem? hp)⟩
    refine list_turns (xs := xs) (fun k H3 => Same H' H3 ∧ ∃ zs : List Int, H3 D1 = some (.lst (zs.map V.int)) ∧ zs.length ≤ k ∧ ∀ z ∈ zs, okOut z) ⟨sD, [], upd_same, Nat.le_refl _, fun z hz => nomatch hz⟩ (fun k H3 _ h => SqL.of (h.1 _ _ hl')) ?_ ?_
    · rintro k v H3 hv ⟨s3, zs, hzs, hzl, hzo⟩
      obtain ⟨p, ⟨t, rfl, ht⟩, o1, o2⟩ := outP k v hv
      have ht3 := s3 _ _ ht
      have kl : k < xs.length := (List.getElem?_eq_some_iff.mp hv).1
      have xl := hA.len
      obtain ⟨u1, e1, _⟩ := pair_at (p := p) bit'
      obtain ⟨u2, e2, e2'⟩ := pair_at (p := p) bit
      have ou : okOut u2 := by
        rcases e2' with rfl | rfl
        · exact o1
        · exact o2
      refine ⟨rfl, _, rfl, _, rfl, _, _, rfl, rfl, (by show (0 : Int) < 2; decide), _, _, rfl, rfl, t, _, _, _, rfl, rfl, SqT.of ht3, e1, _, rfl, _, rfl, L, _, _, _, rfl, rfl, SqL.of (s3 _ _ hws), atI_last glast, rfl, _, rfl, ?_⟩
      refine ite2 (fun _ => ?_) (fun _ => ?_)
      · refine ⟨_, rfl, _, rfl, _, _, rfl, rfl, (by show (0 : Int) < 2; decide), t, _, _, _, rfl, rfl, SqT.of ht3, e2, _, hzs, ?_, same_upd s3 hD1, zs ++ [u2], by rw [upd_same, List.map_append]; rfl, by rw [List.length_append]; show zs.length + 1 ≤ k + 1; omega, fun z hz => ?_⟩
        · rw [List.length_map]
          exact Nat.lt_of_le_of_lt (show zs.length ≤ 100 by omega) (by decide)
        · rcases List.mem_append.mp hz with h | h
          · exact hzo z h
          · obtain rfl := List.mem_singleton.mp h
            exact ou
      · exact ⟨s3, zs, hzs, by omega, hzo⟩
    · rintro H3 ⟨s3, zs, hzs, hzl, hzo⟩
      have xl := hA.len
      have hL3 := s3 _ _ hws
      have hl3 := s3 _ _ hl'
      refine ⟨_, rfl, .inl ⟨rfl, _, SqL.of hL3⟩, _, rfl, _, rfl, _, rfl, _, rfl, l, _, rfl, SqL.of hl3, fun C hC => ?_⟩
      have ec : cutV xs none (some 1) = xs.take 1 := cut_to xs 1
      rw [ec]
      have sC := same_new hC (.lst (xs.take 1))
      have hCC : (upd H3 C (.lst (xs.take 1))) C = some (.lst (xs.take 1)) := upd_same
      refine ⟨C, rfl, ⟨_, SqL.of hCC⟩, fun D2 hD2 => ?_⟩
      have sD2 := same_new hD2 (.lst [])
      refine list_turns (xs := xs.take 1) (fun k H4 => Same (upd H3 C (.lst (xs.take 1))) H4 ∧ ∃ ys : List Int, H4 D2 = some (.lst (ys.map V.int)) ∧ ys.length = k ∧ ∀ z ∈ ys, okOut z) ⟨sD2, [], upd_same, rfl, fun z hz => nomatch hz⟩ (fun k H4 _ h => SqL.of (h.1 _ _ hCC)) ?_ ?_
      · rintro k v H4 hv ⟨s4, ys, hys, hyl, hyo⟩
        have hv' : xs[k]? = some v := by
          have := (List.getElem?_eq_some_iff.mp hv).1
          rw [List.length_take] at this
          rw [List.getElem?_take_of_lt (by omega)] at hv
          exact hv
        obtain ⟨p, ⟨t, rfl, ht⟩, o1, o2⟩ := outP k v hv'
        have ht4 := s4 _ _ (sC _ _ (s3 _ _ ht))
        have kl : k < xs.length := (List.getElem?_eq_some_iff.mp hv').1
        obtain ⟨u2, e2, e2'⟩ := pair_at (p := p) bit
        have ou : okOut u2 := by
          rcases e2' with rfl | rfl
          · exact o1
          · exact o2
        refine ⟨rfl, _, rfl, _, rfl, _, _, rfl, rfl, (by show (0 : Int) < 2; decide), t, _, _, _, rfl, rfl, SqT.of ht4, e2, _, hys, ?_, same_upd s4 hD2, ys ++ [u2], by rw [upd_same, List.map_append]; rfl, by rw [List.length_append, hyl]; rfl, fun z hz => ?_⟩
        · rw [List.length_map]
          exact Nat.lt_of_le_of_lt (show ys.length ≤ 100 by omega) (by decide)
        · rcases List.mem_append.mp hz with h | h
          · exact hyo z h
          · obtain rfl := List.mem_singleton.mp h
            exact ou
      · rintro H4 ⟨s4, ys, hys, hyl, hyo⟩
        have s34 := sC.trans s4
        have hyl1 : ys.length = 1 := by
          rw [hyl, List.length_take]
          omega
        refine ⟨D1, D2, _, _, rfl, rfl, s34 _ _ hzs, hys, ?_, fun M hM => ?_⟩
        · rw [List.length_map, List.length_map]
          exact Nat.le_trans (show zs.length + ys.length ≤ 200 by omega) (by decide)
        have sM := same_new hM (.lst (zs.map V.int ++ ys.map V.int))
        have sAll := (s3.trans s34).trans sM
        have eM : (upd H4 M (.lst (zs.map V.int ++ ys.map V.int))) M = some (.lst ((zs ++ ys).map V.int)) := by rw [upd_same, List.map_append]
        have wM := w1.same sAll
        refine ⟨a, M, _, (zs ++ ys).map V.int, rfl, .inr wM, by omega, by omega, eM, (w1.same (s3.trans s34)).ne hM |>.symm, by rw [List.length_map, List.length_append]; omega, by rw [List.length_map, List.length_append]; omega, fun k z H5 hz b5 w5 => ?_⟩
        rw [List.getElem?_map] at hz
        obtain ⟨z, hz1, rfl⟩ := Option.map_eq_some_iff.mp hz
        have oz : okOut z := by
          rcases List.mem_append.mp (List.mem_of_getElem? hz1) with h | h
          · exact hzo z h
          · exact hyo z h
        have hL5 := b5 _ _ (Ne.symm naL) (sAll _ _ hws)
        refine ⟨L, _, _, rfl, rfl, hL5, ?_, ?_⟩
        · rw [List.length_map]
          exact Nat.lt_of_lt_of_le (show ws.length < 1000 by omega) (by decide)
        · refine ⟨_, _, rfl, ((b1.trans (.same sAll)).trans b5).new hL, ?_, ws ++ [z], by rw [upd_same, List.map_append]; rfl, by rw [List.length_append]; show ws.length + 1 = i + 1 + 1; omega, ?_, fun z' hz' => ?_⟩
          · rw [show n + ((i + 1 : Nat) : Int) = n + (i : Int) + 1 by omega]
            exact w5.but naL But.at
          · rw [getD_left (by omega)]
            exact hw0
          · rcases List.mem_append.mp hz' with h | h
            · exact hwo z' h
            · obtain rfl := List.mem_singleton.mp h
              exact oz
  · rintro σ H' ⟨g6, g7, rfl, b1, w1, ws, hws, hwl, hw0, hwo⟩
    have hwm : ws.length = m := by omega
    refine ⟨_, rfl, _, rfl, (by show 1 ≤ sizeLine; decide), fun t ht => ?_⟩
    have s2 := same_new ht (.lst [V.int y])
    refine ⟨L, t, _, _, rfl, rfl, s2 _ _ hws, upd_same, ?_, fun p hp => ?_⟩
    · rw [List.length_map]
      exact Nat.le_trans (show ws.length + 1 ≤ 1000 by omega) (by decide)
    have s3 := same_new hp (.lst (ws.map V.int ++ [V.int y]))
    have s23 := s2.trans s3
    have w3 := w1.same s23
    have hpn : H p = none := none_of_but b1 (Ne.symm ((w1.same s2).ne hp)) (none_of_same s2 hp)
    refine q p (ws ++ [y]) _ (b1.trans (.same s23)) hpn (by rw [upd_same, List.map_append]; rfl) (w3.up (by omega)) (by rw [List.length_append, hwm]; rfl) ?_ ?_ fun z hz => ?_
    · rw [getD_left (by omega)]
      exact hw0
    · rw [← hwm]
      exact getD_mid
    · rcases List.mem_append.mp hz with h | h
      · exact hwo z h
      · obtain rfl := List.mem_singleton.mp h
        exact hy
end
end TA

set_option Elab.async false
set_option maxRecDepth 100000
set_option maxHeartbeats 4000000
namespace TA
open PySem L2 PyProof.Rows
set_option linter.unusedVariables false
/-- a heap seen at some places alone -/
def vw (p : Addr → Bool) (H : Hp) : Hp := fun b => if p b = true then H b else none
theorem vw_some {p : Addr → Bool} {H : Hp} {b : Addr} {o : HO} (h : vw p H b = some o) : p b = true ∧ H b = some o := by
  unfold vw at h
  split at h
  · rename_i c; exact ⟨c, h⟩
  · cases h
theorem vw_put {p : Addr → Bool} {H : Hp} {b : Addr} {o : HO} (c : p b = true) (h : H b = some o) : vw p H b = some o := by
  unfold vw
  rw [if_pos c, h]
theorem vw_kp {p : Addr → Bool} {H : Hp} : Kp (vw p H) H := fun b o _ h => (vw_some h).2
theorem vw_mono {p q : Addr → Bool} {H H' : Hp} (s : ∀ b o, p b = true → flatO o → H b = some o → q b = true ∧ H' b = some o) : Kp (vw p H) (vw q H') := fun b o f h => by
  obtain ⟨h1, h2⟩ := vw_some h
  obtain ⟨h3, h4⟩ := s b o h1 f h2
  exact vw_put h3 h4
/-- all but a -/
def pA (a : Addr) : Addr → Bool := fun b => decide (b ≠ a)
theorem pA_ok {a b : Addr} : pA a b = true ↔ b ≠ a := decide_eq_true_iff
theorem vwA_but {a : Addr} {H H' : Hp} (s : But a H H') : Kp (vw (pA a) H) (vw (pA a) H') := vw_mono fun b o h _ e => ⟨h, s b o (pA_ok.mp h) e⟩
theorem vwA_put {a d : Addr} {H : Hp} {k : List (List Key × V)} {o : HO} (e : H d = some (.dT k)) : Kp (vw (pA a) H) (vw (pA a) (upd H d o)) := vw_mono fun b u h f g => ⟨h, Kp.put e nf_dT b u f g⟩
theorem two_ints {rs : List (List Int)} (h : rs.length = 2) : rs = [rs.getD 0 [], rs.getD 1 []] := by
  match rs, h with
  | [x, y], _ => rfl
def But2 (a c : Addr) (H H' : Hp) : Prop := ∀ b o, b ≠ a → b ≠ c → H b = some o → H' b = some o
theorem But2.trans {a c : Addr} {H H1 H2 : Hp} (h : But2 a c H H1) (g : But2 a c H1 H2) : But2 a c H H2 := fun b o n m e => g b o n m (h b o n m e)
theorem But2.l {a c : Addr} {H H' : Hp} (s : But a H H') : But2 a c H H' := fun b o n _ e => s b o n e
theorem But2.r {a c : Addr} {H H' : Hp} (s : But c H H') : But2 a c H H' := fun b o _ n e => s b o n e
theorem But2.s {a c : Addr} {H H' : Hp} (s : Same H H') : But2 a c H H' := fun b o _ _ e => s b o e
theorem A2.mapR {α β γ : Type} {R : α → β → Prop} {S : α → γ → Prop} (f : β → γ) : ∀ {xs : List α} {ys : List β}, A2 R xs ys → (∀ x y, y ∈ ys → R x y → S x (f y)) → A2 S xs (ys.map f)
  | _, _, .nil, _ => .nil
  | _, _, .cons a b, h => .cons (h _ _ List.mem_cons_self a) (b.mapR f fun x y m r => h x y (List.mem_cons_of_mem _ m) r)
theorem wk_of : ∀ (ps : List (EB × List Int)), (ps.map (·.1)).Nodup → ∃ wk : EB → List Int, ∀ p ∈ ps, wk p.1 = p.2
  | [], _ => ⟨fun _ => [], fun p h => nomatch h⟩
  | p :: ps, h => by
    rw [List.map_cons, List.nodup_cons] at h
    obtain ⟨wk, hw⟩ := wk_of ps h.2
    refine ⟨fun e => if e = p.1 then p.2 else wk e, fun q hq => ?_⟩
    rcases List.mem_cons.mp hq with rfl | hq
    · exact if_pos rfl
    · have : ¬ q.1 = p.1 := fun c => h.1 (c ▸ List.mem_map.mpr ⟨q, hq, rfl⟩)
      show (if q.1 = p.1 then p.2 else wk q.1) = q.2
      rw [if_neg this]
      exact hw q hq
theorem take_neP {bo : BD} (s : (bo.map (·.1)).Pairwise (· ≠ ·)) {j : Nat} {e : IP × List (Int × Int)} (hj : bo[j]? = some e) : ∀ x ∈ bo.take j, x.1 ≠ e.1 := by
  intro x hx
  obtain ⟨k, hk⟩ := List.getElem?_of_mem hx
  have hk1 : k < j ∧ k < bo.length := by
    have := (List.getElem?_eq_some_iff.mp hk).1
    rw [List.length_take] at this
    omega
  obtain ⟨hjl, rfl⟩ := List.getElem?_eq_some_iff.mp hj
  rw [List.getElem?_take_of_lt hk1.1, List.getElem?_eq_getElem hk1.2] at hk
  injection hk with hk
  subst hk
  have := List.pairwise_iff_getElem.mp s k j (by rw [List.length_map]; exact hk1.2) (by rw [List.length_map]; exact hjl) hk1.1
  rw [List.getElem_map, List.getElem_map] at this
  exact this
/-- parts of a task, as the law has them -/
structure PartsV (a : Addr) (H : Hp) (al d : Addr) (T : TD) : Prop where
  al : AlAt (vw (pA a) H) (.ref al) T.al
  bo : ∃ kvs, H d = some (.dT kvs) ∧ A2 (EnAt (vw (pA a) H)) kvs T.bo
/-- a scheme, as the law makes it -/
structure SchV (a : Addr) (H : Hp) (t : Addr) (T : TD) (r : Nat) (ch : Nat → List Int) (wk : EB → List Int) (al wd : Addr) (kvs : List (List Key × V)) : Prop where
  ht : H t = some (.tup [.int (r : Int), .ref al, .ref wd])
  hal : RowsAt (vw (pA a) H) (.ref al) [ch 0, ch 1]
  hwd : H wd = some (.dT kvs)
  hwk : A2 (WkAt (vw (pA a) H) wk) kvs T.bo
  len : ∀ h, h < 2 → (ch h).length = (T.al h).length
  outc : ∀ h, h < 2 → ∀ x ∈ ch h, okOut x
  wlen : ∀ e ∈ T.bo, (wk e).length = 3 ^ r + 1
  wout : ∀ e ∈ T.bo, ∀ x ∈ wk e, okOut x
  w0 : ∀ e ∈ T.bo, (wk e).getD 0 0 = (ch 0).getD e.1.1 0
  w1 : ∀ e ∈ T.bo, (wk e).getD (3 ^ r) 0 = (ch 1).getD e.1.2 0
def spScheme : Sp := fun vs H Q _ => ∃ (a al d : Addr) (n : Int) (T : TD) (r : Nat), vs = [.ref a, .ref al, .ref d, .int (r : Int)] ∧ WellAt H a n ∧ 0 ≤ n ∧ n < 800000 ∧ PartsV a H al d T ∧ WF T ∧ r ≤ 5 ∧
  ∀ (t cal wd : Addr) (ch : Nat → List Int) (wk : EB → List Int) (kvs : List (List Key × V)) (H' : Hp), But a H H' → H t = none → H cal = none → H wd = none → SchV a H' t T r ch wk cal wd kvs → WellAt H' a (n + 40000) → (∀ kv ∈ kvs, ∃ p, kv.2 = .ref p ∧ H p = none) → Q (.ref t) H'
section
variable {P : Program} {w : World} {K : PySem.W.Frag} {mg : Str → Option Value} {base : Heap}
abbrev nSc : List Str := ["_law_state", "_law_alone", "_law_both", "_law_rounds", "_law_chosen", "_law_walks", "_law_a", "_law_b", "_law_last", "_law_row", "_law_rows"]
theorem sc_sc : FnScope nSc ["_law_state", "_law_alone", "_law_both", "_law_rounds"] (defScope s__law_scheme) := ⟨rfl, rfl, rfl, by decide +kernel, rfl, by decide +kernel, by decide +kernel⟩
theorem ok_sc {f g2 g3 : Addr} {fd d2 d3 : FuncData} (F : Fun K "_law_scheme" "_law_scheme" s__law_scheme f fd) (T : Txt K mg) (Of : Def P w K mg base "_law_of" nOf 2 (spOf K) g2 d2) (Wk : Def P w K mg base "_law_walk" ["_law_state", "_law_first", "_law_last", "_law_outs_here", "_law_many"] 3 spWalk g3 d3) : FnOk P w K mg base CX0 4 f fd ["_law_state", "_law_alone", "_law_both", "_law_rounds"] spScheme := by
  refine F.ok sc_sc (fun vs H Q E h => ?_) (fun cdv A outer s H vs Q E hr h => ?_)
  · obtain ⟨a, al, d, n, D, r, rfl, _⟩ := h
    rfl
  obtain ⟨a, aa, d, n, D, r, rfl, hw, hn0, hn, ⟨hA, kvs0, hd, hE⟩, hW, hr5, q⟩ := h
  have nd := sc_sc.nd
  have hu := hu_of hr
  refine ⟨_, (pss_cons (ps_setLc (i := 4) (own := [("_law_rows", 10)]) (g := (gName 10)) (tt := tYes) (te := (tLc (iList K (tVar 10)) (gName 9) tYes (tCall (spOf K) [] E0 (tCons (tVar 0) (tCons (tVar 9) tNil))) [9])) rfl nd rfl rfl (sw_true rfl rfl rfl (by decide +kernel)) (pi_list (pv 1)) (blkOk_by (N := nSc) (sc := defScope s__law_scheme) (by decide +kernel)) (fun _ _ _ _ _ => (by exact (pg_name (i := 10) nd rfl (Or.inl rfl)))) (fun _ _ _ _ _ => pts_nil) (fun _ _ _ _ _ => (by exact (pe_lc (own := [("_law_row", 9)]) (g := (gName 9)) (tt := tYes) (te := (tCall (spOf K) [] E0 (tCons (tVar 0) (tCons (tVar 9) tNil)))) rfl nd (pi_list (pv 10)) (blkOk_by (N := nSc)  (by kernel_rfl)) (fun _ _ _ _ _ => (by exact (pg_name (i := 9) nd rfl (Or.inl rfl)))) (fun _ _ _ _ _ => pts_nil) (fun _ _ _ _ _ => (by exact (pe_call Of.G (hr.mono (by decide)) rfl Of.m Of.k Of.b .nil pass0 (pa_cons (pv 0) (pa_cons (pv 9) pa_nil)))))))))
    (pss_cons (ps_set (i := 5) nd rfl (Or.inl rfl) pe_dnewT)
    (pss_cons (ps_lock (ps_for PassesOwn.never (by rfl) (pi_keys (pv 2)) (pg_tup (by rfl) (pgs_cons (pg_name (i := 6) nd rfl (Or.inl rfl)) (pgs_cons (pg_name (i := 7) nd rfl (Or.inl rfl)) pgs_nil)))
      (pss_cons (ps_set (i := 8) nd rfl (Or.inl rfl) (pe_ix ix_tup (pe_tup (pa_cons pe_int (pa_cons pe_int (pa_cons pe_int (pa_cons pe_int (pa_cons pe_int (pa_cons pe_int pa_nil))))))) (pv 3) (fun _ _ => rfl)))
    (pss_one (ps_dput hu (pv 5) (pe_tup (pa_cons (pv 6) (pa_cons (pv 7) pa_nil))) (pe_call Wk.G (hr.mono (by decide)) rfl Wk.m Wk.k Wk.b .nil pass0 (pa_cons (pv 0) (pa_cons (pe_ix ix_list (pe_ix ix_list (pv 4) pe_int (fun _ _ => rfl)) (pv 6) (fun _ _ => rfl)) (pa_cons (pe_ix ix_list (pe_ix ix_list (pv 4) pe_int (fun _ _ => rfl)) (pv 7) (fun _ _ => rfl)) (pa_cons (pe_dget hu (pv 2) (pe_tup (pa_cons (pv 6) (pa_cons (pv 7) pa_nil))) (fun _ _ => rfl)) (pa_cons (pv 8) pa_nil)))))) rfl)))))
    (pss_one (ps_ret (pe_tup (pa_cons (pv 3) (pa_cons (pv 4) (pa_cons (pv 5) pa_nil))))))))), ?_⟩
  obtain ⟨zw, ea⟩ := hw.lst
  obtain ⟨t, x0, x1, et, ht, hx0, hx1⟩ := id hA
  obtain rfl : aa = t := by injection et
  obtain ⟨taa, htt⟩ := vw_some ht
  have naa : aa ≠ a := pA_ok.mp taa
  have nda : d ≠ a := ne_of hd ea (fun z => by cases z)
  refine ⟨_, rfl, aa, rfl, ⟨_, SqL.of htt⟩, fun D1 hD1 => ?_⟩
  have s1 := same_new hD1 (.lst [])
  have haD1 : a ≠ D1 := hw.ne hD1
  let p1 : Addr → Bool := fun b => decide (b ≠ a ∧ b ≠ D1)
  have p1_ok : ∀ b, p1 b = true ↔ (b ≠ a ∧ b ≠ D1) := fun b => decide_eq_true_iff
  have hRows : ∀ i v, ([x0, x1] : List V)[i]? = some v → i < 2 ∧ RowsAt (vw (pA a) H) v (D.al i) := by
    intro i v hv
    match i, hv with
    | 0, hv => cases hv; exact ⟨by decide, hx0⟩
    | 1, hv => cases hv; exact ⟨by decide, hx1⟩
  refine list_turns (xs := [x0, x1]) (fun i H' => But a H H' ∧ WellAt H' a (n + 21 * (i : Int)) ∧ ∃ ys rs, H' D1 = some (.lst ys) ∧ A2 (RowAt (vw p1 H')) ys rs ∧ rs.length = i ∧ ∀ k rr, rs[k]? = some rr → rr.length = (D.al k).length ∧ ∀ x ∈ rr, okOut x) ⟨.same s1, ?_, [], [], upd_same, .nil, rfl, fun k rr e => by simp at e⟩ (fun i H' _ h => SqL.of (h.1 _ _ naa htt)) ?_ ?_
  · rw [show n + 21 * ((0 : Nat) : Int) = n by omega]
    exact hw.same s1
  · rintro i v H' hv ⟨b1, w1, ys, rs, hy, ay, hrl, hrr⟩
    obtain ⟨hi, t2, us0, rfl, ht2, hrow⟩ := hRows i v hv
    obtain ⟨nt2, ht2'⟩ := vw_some ht2
    have nt2 := pA_ok.mp nt2
    have hln := hW.n0 i hi
    have hul : us0.length = (D.al i).length := hrow.len
    refine ⟨rfl, _, rfl, t2, rfl, ⟨_, SqL.of (b1 _ _ nt2 ht2')⟩, fun D2 hD2 => ?_⟩
    have s2 := same_new hD2 (.lst [])
    have haD2 : a ≠ D2 := w1.ne hD2
    have hD12 : D1 ≠ D2 := ne_of_none hy hD2
    refine list_turns (xs := us0) (fun j H6 => But a H' H6 ∧ WellAt H6 a (n + 21 * (i : Int) + (j : Int)) ∧ ∃ rr : List Int, H6 D2 = some (.lst (rr.map V.int)) ∧ rr.length = j ∧ ∀ x ∈ rr, okOut x) ⟨.same s2, ?_, [], upd_same, rfl, fun r hr => nomatch hr⟩ (fun j H6 _ h => SqL.of (h.1 _ _ nt2 (b1 _ _ nt2 ht2'))) ?_ ?_
    · rw [show n + 21 * (i : Int) + ((0 : Nat) : Int) = n + 21 * (i : Int) by omega]
      exact w1.same s2
    · rintro j x H6 hx ⟨b6, w6, rr, hu6, hrl6, hin⟩
      obtain ⟨row, hrw, t3, rfl, ht3⟩ := hrow.get hx
      obtain ⟨nt3, ht3'⟩ := vw_some ht3
      have nt3 := pA_ok.mp nt3
      have ht36 := b6 _ _ nt3 (b1 _ _ nt3 ht3')
      have okr := hW.row i hi row (List.mem_of_getElem? hrw)
      have hjl : j < (D.al i).length := (List.getElem?_eq_some_iff.mp hrw).1
      have l1 := okr.1
      have l2 := okr.2.1
      refine ⟨rfl, _, rfl, _, rfl, a, t3, n + 21 * (i : Int) + (j : Int), row.map V.int, rfl, .inr w6, by omega, by omega, ht36, nt3, by rw [List.length_map]; omega, by rw [List.length_map]; omega, fun m y H7 hy7 b7 w7 => ?_⟩
      rw [List.getElem?_map] at hy7
      obtain ⟨y, hy1, rfl⟩ := Option.map_eq_some_iff.mp hy7
      have oy := okr.2.2.2 y (List.mem_of_getElem? hy1)
      have hD27 := b7 _ _ (Ne.symm haD2) hu6
      refine ⟨_, hD27, ?_, (b6.trans b7).new hD2, ?_, rr ++ [y], ?_, by rw [List.length_append, hrl6]; rfl, fun z hz => ?_⟩
      · rw [List.length_map, hrl6]
        exact Nat.lt_of_lt_of_le (show j < 100 by omega) (by decide)
      · rw [show n + 21 * (i : Int) + ((j + 1 : Nat) : Int) = n + 21 * (i : Int) + (j : Int) + 1 by omega]
        exact w7.but haD2 But.at
      · rw [upd_same, List.map_append]
        rfl
      · rcases List.mem_append.mp hz with h | h
        · exact hin z h
        · obtain rfl := List.mem_singleton.mp h
          exact oy
    · rintro H6 ⟨b6, w6, rr, hu6, hrl6, hin⟩
      have hy6 := b6 _ _ (Ne.symm haD1) hy
      refine ⟨ys, hy6, ?_, (b1.trans b6).new hD1, ?_, _, rs ++ [rr], upd_same, ?_, by rw [List.length_append, hrl]; rfl, fun k' rr' e => ?_⟩
      · rw [ay.len, hrl]
        exact Nat.lt_of_lt_of_le hi (by decide)
      · refine WellAt.up (n := n + 21 * (i : Int) + (us0.length : Int)) (w6.but haD1 But.at) ?_
        rw [hul]
        omega
      · refine A2.snoc (ay.imp fun _ _ r => r.mono (vw_mono fun b o h f e => ⟨h, ?_⟩)) ⟨D2, rfl, vw_put ((p1_ok D2).mpr ⟨Ne.symm haD2, Ne.symm hD12⟩) (by rw [upd_ne (Ne.symm hD12)]; exact hu6)⟩
        obtain ⟨z1, z2⟩ := (p1_ok b).mp h
        rw [upd_ne z2]
        exact b6 _ _ z1 e
      · by_cases c : k' < rs.length
        · rw [List.getElem?_append_left c] at e
          exact hrr k' rr' e
        · have c2 : k' = rs.length := by
            have := (List.getElem?_eq_some_iff.mp e).1
            rw [List.length_append] at this
            have e1 : ([rr] : List (List Int)).length = 1 := rfl
            omega
          subst c2
          rw [List.getElem?_append_right (Nat.le_refl _), Nat.sub_self] at e
          obtain rfl : rr = rr' := by simpa using e
          rw [hrl]
          exact ⟨by rw [hrl6, hul], hin⟩
  rintro H5 ⟨b5, w5, ys, rs, hy, ay, hrl, hrr⟩
  replace hrl : rs.length = 2 := hrl
  let ch : Nat → List Int := fun h => rs.getD h []
  have hrs : rs = [ch 0, ch 1] := two_ints hrl
  rw [hrs] at ay
  have hch : ∀ h, h < 2 → (ch h).length = (D.al h).length ∧ ∀ x ∈ ch h, okOut x := fun h hh => by
    refine hrr h (ch h) ?_
    show rs[h]? = some (rs.getD h [])
    rw [List.getD_eq_getElem?_getD, List.getElem?_eq_getElem (show h < rs.length by omega)]
    rfl
  clear hrr
  have w5 : WellAt H5 a (n + 42) := w5.up (by show n + 21 * ((2 : Nat) : Int) ≤ n + 42; omega)
  have hCh5 : RowsAt (vw (pA a) H5) (.ref D1) [ch 0, ch 1] := ⟨D1, ys, rfl, vw_put (pA_ok.mpr (Ne.symm haD1)) hy, ay.imp fun _ _ r => r.mono (vw_mono fun b o h f e => ⟨pA_ok.mpr ((p1_ok b).mp h).1, e⟩)⟩
  have hD1n : H D1 = none := hD1
  intro wd hwd
  have t0 := same_new hwd (.dT [])
  have hwdn : H wd = none := none_of_but b5 (Ne.symm (w5.ne hwd)) hwd
  have nawd : a ≠ wd := w5.ne hwd
  have w6 := w5.same t0
  have b6 : But a H (upd H5 wd (.dT [])) := b5.trans (.same t0)
  have e6 : (upd H5 wd (.dT [])) wd = some (.dT []) := upd_same
  have hCh6 := hCh5.mono (vwA_but (.same t0))
  generalize upd H5 wd (.dT []) = H6 at w6 b6 e6 hCh6 ⊢
  clear t0 hwd hCh5 w5 ay hy b5
  have hd6 := b6 _ _ nda hd
  have hE6 := hE.imp fun _ _ r => EnAt.mono (vwA_but b6) r
  refine ⟨d, _, hd6, trivial, fun od => ?_⟩
  have ndw : d ≠ wd := fun c => by subst c; rw [hwdn] at hd; cases hd
  have hl : (upd H6 d (.frz od (.dT kvs0))) d = some (.frz od (.dT kvs0)) := upd_same
  have w7 := w6.but (Ne.symm nda) (But.at (a := d) (o := .frz od (.dT kvs0)))
  have e7 : (upd H6 d (.frz od (.dT kvs0))) wd = some (.dT []) := by rw [upd_ne (Ne.symm ndw)]; exact e6
  have hCh7 : RowsAt (vw (pA a) (upd H6 d (.frz od (.dT kvs0)))) (.ref D1) [ch 0, ch 1] := hCh6.mono (vwA_put hd6)
  have hE7 : A2 (EnAt (vw (pA a) (upd H6 d (.frz od (.dT kvs0))))) kvs0 D.bo := hE6.imp fun _ _ r => EnAt.mono (vwA_put hd6) r
  have b67 : But d H6 (upd H6 d (.frz od (.dT kvs0))) := But.at
  generalize upd H6 d (.frz od (.dT kvs0)) = H7 at hl w7 e7 hCh7 hE7 b67 ⊢
  have hmny := hW.many
  refine ⟨_, rfl, d, od, rfl, .inr ⟨kvs0, hl, ?_⟩⟩
  have p3 : 3 ^ r ≤ 243 := pow_le hr5
  have p3' : 1 ≤ 3 ^ r := Nat.one_le_pow _ _ (by decide)
  obtain ⟨tc, xc, etc, htc, arc⟩ := id hCh7
  obtain rfl : D1 = tc := by injection etc
  obtain ⟨_, htc'⟩ := vw_some htc
  have nD1w : D1 ≠ wd := ne_of htc' e7 (fun z => by cases z)
  refine forT_turns (kvs := kvs0) (fun i σ H' => ∃ g6 g7 g8, σ = [some (.ref a), some (.ref aa), some (.ref d), some (.int (r : Int)), some (.ref D1), some (.ref wd), g6, g7, g8, none, none] ∧ But2 a wd H7 H' ∧ WellAt H' a (n + 42 + 243 * (i : Int)) ∧ ∃ (kws : List (List Key × V)) (ps : List (EB × List Int)), H' wd = some (.dT kws) ∧ A2 (fun kv (p : EB × List Int) => kv.1 = kI p.1.1 ∧ RowAt (vw (pA a) H') kv.2 p.2) kws ps ∧ ps.map (·.1) = D.bo.take i ∧ (∀ p ∈ ps, p.2.length = 3 ^ r + 1 ∧ (∀ x ∈ p.2, okOut x) ∧ p.2.getD 0 0 = chO ch 0 p.1.1 ∧ p.2.getD (3 ^ r) 0 = chO ch 1 p.1.1) ∧ ∀ kv ∈ kws, ∃ p, kv.2 = .ref p ∧ H p = none) ⟨_, _, _, rfl, fun b o _ _ e => e, (by rw [show n + 42 + 243 * ((0 : Nat) : Int) = n + 42 by omega]; exact w7), [], [], e7, .nil, rfl, fun p hp => (nomatch hp), fun kv h => (nomatch h)⟩ (fun i σ H' ⟨_, _, _, _, b, _⟩ => b _ _ nda ndw hl) ?_ ?_
  · rintro i k v qa σ H' hi hq ⟨g6, g7, g8, rfl, b2, w8, kws, ps, hk, hps, hpm, hpp, hfr⟩
    obtain ⟨e, hbe, ek, hlet⟩ := hE7.get hi
    dsimp only at ek hlet
    subst ek
    have hem := List.mem_of_getElem? hbe
    have hil : i < D.bo.length := (List.getElem?_eq_some_iff.mp hbe).1
    obtain ⟨zw8, ea8⟩ := w8.lst
    have lst_w : ∀ {b : Addr} {zs : List V}, H7 b = some (.lst zs) → b ≠ wd := fun h c => by subst c; rw [e7] at h; cases h
    have kp2 : ∀ {b : Addr} {zs : List V}, b ≠ a → H7 b = some (.lst zs) → H' b = some (.lst zs) := fun n h => b2 _ _ n (lst_w h) h
    have rowsAt : ∀ h, h < 2 → ∃ rr, xc[h]? = some (.ref rr) ∧ H' rr = some (.lst ((ch h).map .int)) ∧ rr ≠ a ∧ ((ch h).map V.int)[sel h e.1]? = some (.int (chO ch h e.1)) ∧ okOut (chO ch h e.1) := fun h hh => by
      obtain ⟨x, hx, rr, rfl, hrow⟩ := arc.at (i := h) (y := ch h) (by
        obtain rfl | rfl : h = 0 ∨ h = 1 := by omega
        · rfl
        · rfl)
      obtain ⟨nr, hrow⟩ := vw_some hrow
      obtain ⟨rg0, rg1⟩ := hW.rng e hem
      have hsl : sel h e.1 < (ch h).length := by
        rw [(hch h hh).1]
        obtain rfl | rfl : h = 0 ∨ h = 1 := by omega
        · exact rg0
        · exact rg1
      have e1 : chO ch h e.1 = (ch h)[sel h e.1] := by
        unfold chO
        rw [List.getD_eq_getElem?_getD, List.getElem?_eq_getElem hsl]
        rfl
      refine ⟨rr, hx, kp2 (pA_ok.mp nr) hrow, pA_ok.mp nr, ?_, ?_⟩
      · rw [e1, List.getElem?_map, List.getElem?_eq_getElem hsl]
        rfl
      · rw [e1]
        exact (hch h hh).2 _ (List.getElem_mem hsl)
    obtain ⟨r0, a0, c0, _, f0, o0⟩ := rowsAt 0 (by decide)
    obtain ⟨r1, a1, c1, _, f1, o1⟩ := rowsAt 1 (by decide)
    have hD1' : H' D1 = some (.lst xc) := kp2 (Ne.symm haD1) htc'
    obtain ⟨v2, hvd, hlet⟩ := val_at hE7 hW.srt e hem
    obtain ⟨lt, lxs, rfl, hlt, hlx⟩ := hlet
    obtain ⟨nlt, hlt7⟩ := vw_some hlt
    have nlt := pA_ok.mp nlt
    have hlt' := kp2 nlt hlt7
    have tpk : ∀ {u p}, TpAt (vw (pA a) H7) u p → TpAt H' u p := fun h => by
      obtain ⟨t, rfl, ht⟩ := h
      obtain ⟨nt, ht⟩ := vw_some ht
      exact ⟨t, rfl, b2 _ _ (pA_ok.mp nt) (fun c => by subst c; rw [e7] at ht; cases ht) ht⟩
    have hlx' : A2 (TpAt H') lxs e.2 := hlx.imp fun _ _ r => tpk r
    have hq' : H' qa = some (.tup [V.int (e.1.1 : Int), V.int (e.1.2 : Int)]) := hq
    refine ⟨qa, _, rfl, SqT.of hq', rfl, _, _, rfl, _, _, rfl, rfl, ?_⟩
    refine ⟨(by show 6 ≤ sizeLine; decide), fun tt htt => ⟨_, rfl, tt, _, _, _, rfl, rfl, SqT.of upd_same, atI_nat (last_at hr5), ?_⟩⟩
    have st := same_new htt (.tup [V.int 1, .int 3, .int 9, .int 27, .int 81, .int 243])
    refine ⟨_, rfl, _, rfl, D1, _, _, _, rfl, rfl, SqL.of (st _ _ hD1'), atI_nat (j := 0) a0, _, rfl, r0, _, _, _, rfl, rfl, SqL.of (st _ _ c0), atI_nat f0, _, rfl, D1, _, _, _, rfl, rfl, SqL.of (st _ _ hD1'), atI_nat (j := 1) a1, _, rfl, r1, _, _, _, rfl, rfl, SqL.of (st _ _ c1), atI_nat f1, _, rfl, _, rfl, _, rfl, (by show 2 ≤ sizeLine; decide), fun t2 ht2 => ?_⟩
    have s2 := same_new ht2 (.tup [V.int (e.1.1 : Int), V.int (e.1.2 : Int)])
    have hd' := b2 _ _ nda ndw hl
    have st2 := st.trans s2
    refine ⟨d, .ref lt, rfl, hvd ▸ dget_rd (k := kI e.1) (.inr ⟨od, st2 _ _ hd'⟩) upd_same, _, rfl, ?_⟩
    refine ⟨a, lt, _, _, _, 3 ^ r, lxs, e.2, rfl, w8.same st2, by omega, by omega, st2 _ _ hlt', nlt, hlx'.imp fun _ _ r => r.mono (.same st2), hW.lets e hem, o0, o1, p3', p3, fun p ws H8 b8 hpn hp8 w9 wl wl0 wl1 wo => ?_⟩
    have hk2 := st2 _ _ hk
    have hk8 := b8 _ _ (Ne.symm nawd) hk2
    refine ⟨_, rfl, _, rfl, _, rfl, (by show 2 ≤ sizeLine; decide), fun t3 ht3 => ?_⟩
    have s3 := same_new ht3 (.tup [V.int (e.1.1 : Int), V.int (e.1.2 : Int)])
    have hvn : valV kws (kI e.1) = none := valV_noneP fun z hz c => by
      obtain ⟨y, hy1, hy2, _⟩ := hps.mem hz
      rw [hy2] at c
      have hm : y.1 ∈ D.bo.take i := by
        rw [← hpm]
        exact List.mem_map.mpr ⟨y, hy1, rfl⟩
      exact take_neP hW.srt hbe y.1 hm (kI_inj c)
    have hpl : ps.length = i := by
      have := congrArg List.length hpm
      rw [List.length_map, List.length_take] at this
      omega
    have hkl : kws.length ≤ 100 := by rw [hps.len, hpl]; omega
    refine ⟨wd, _, rfl, DPut.t (k := kI e.1) (s3 _ _ hk8) upd_same (Nat.lt_of_le_of_lt hkl (by decide)), ?_⟩
    rw [putK_new _ hvn]
    have npa : p ≠ a := ((w8.same st2).ne hpn).symm
    have npw : p ≠ wd := fun c => by subst c; rw [hk2] at hpn; cases hpn
    have hk9 := s3 _ _ hk8
    have bA : But a H' (upd H8 t3 (.tup [V.int (e.1.1 : Int), V.int (e.1.2 : Int)])) := ((But.same st2).trans b8).trans (.same s3)
    have hp9 := s3 _ _ hp8
    have w9' := w9.same s3
    generalize upd H8 t3 (.tup [V.int (e.1.1 : Int), V.int (e.1.2 : Int)]) = H9 at hk9 bA hp9 w9' ⊢
    have b9 : But2 a wd H' (upd H9 wd (.dT (kws ++ [(kI e.1, V.ref p)]))) := (But2.l bA).trans (.r But.at)
    refine ⟨_, _, _, rfl, b2.trans b9, (w9'.but nawd But.at).up (by omega), kws ++ [(kI e.1, V.ref p)], ps ++ [(e, ws)], upd_same, ?_, ?_, fun z hz => ?_, fun kv hkv => ?_⟩
    · refine A2.snoc (hps.imp fun _ _ r => ⟨r.1, r.2.mono ((vwA_but bA).trans (vwA_put hk9))⟩) ⟨rfl, p, rfl, vw_put (pA_ok.mpr npa) (by rw [upd_ne npw]; exact hp9)⟩
    · rw [List.map_append, hpm, take_get hbe]
      rfl
    · rcases List.mem_append.mp hz with h | h
      · exact hpp z h
      · obtain rfl := List.mem_singleton.mp h
        exact ⟨wl, wo, wl0, wl1⟩
    · rcases List.mem_append.mp hkv with h | h
      · exact hfr kv h
      · obtain rfl := List.mem_singleton.mp h
        refine ⟨p, rfl, ?_⟩
        cases zz : H p with
        | none => rfl
        | some o =>
          have npd : p ≠ d := fun c => by
            subst c
            rw [st2 _ _ hd'] at hpn
            cases hpn
          have := st2 _ _ (b2 _ _ npa npw (b67 _ _ npd (b6 _ _ npa zz)))
          rw [this] at hpn
          cases hpn
  · rintro σ H' ⟨g6, g7, g8, rfl, b2, w8, kws, ps, hk, hps, hpm, hpp, hfr⟩
    have hd' := b2 _ _ nda ndw hl
    rw [hE7.len, List.take_length] at hpm
    have hnd : (ps.map (·.1)).Nodup := by
      rw [hpm]
      exact List.Pairwise.of_map (·.1) (fun x y h c => h (by rw [c])) hW.srt
    obtain ⟨wk, hwk⟩ := wk_of ps hnd
    have bu : But d H' (upd H' d (.dT kvs0)) := But.at
    have eu : (upd H' d (.dT kvs0)) d = some (.dT kvs0) := upd_same
    refine ⟨hd', _, rfl, _, rfl, _, rfl, (by show 3 ≤ sizeLine; decide), fun t ht => ?_⟩
    have w9 := (w8.but (Ne.symm nda) bu)
    generalize upd H' d (.dT kvs0) = H9 at bu eu w9 ht ⊢
    have s3 := same_new ht (.tup [V.int (r : Int), V.ref D1, V.ref wd])
    have bAll : ∀ b o, b ≠ a → b ≠ wd → b ≠ d → H7 b = some o → (upd H9 t (.tup [V.int (r : Int), V.ref D1, V.ref wd])) b = some o := fun b o n1 n2 n3 e => s3 _ _ (bu _ _ n3 (b2 _ _ n1 n2 e))
    have bH : But a H (upd H9 t (.tup [V.int (r : Int), V.ref D1, V.ref wd])) := fun b o n e => by
      by_cases c : b = d
      · subst c
        rw [hd] at e
        injection e with e
        subst e
        exact s3 _ _ eu
      · have n2 : b ≠ wd := fun c => by subst c; rw [hwdn] at e; cases e
        exact bAll _ _ n n2 c (b67 _ _ c (b6 _ _ n e))
    have htn : H t = none := by
      cases z : H t with
      | none => rfl
      | some o =>
        have : t ≠ a := (w9.ne ht).symm
        by_cases c : t = d
        · subst c; rw [eu] at ht; cases ht
        · have n2 : t ≠ wd := fun c => by subst c; rw [hwdn] at z; cases z
          have := bu _ _ c (b2 _ _ this n2 (b67 _ _ c (b6 _ _ this z)))
          rw [this] at ht
          cases ht
    have kpF : Kp (vw (pA a) H7) (vw (pA a) (upd H9 t (.tup [V.int (r : Int), V.ref D1, V.ref wd]))) := vw_mono fun b o h f e => ⟨h, bAll _ _ (pA_ok.mp h) (fun c => by subst c; rw [e7] at e; injection e with e; subst e; exact nf_dT f) (fun c => by subst c; rw [hl] at e; injection e with e; subst e; exact nf_frz f) e⟩
    have hk9 := bu _ _ (Ne.symm ndw) hk
    refine q t D1 wd ch wk kws _ bH htn hD1n hwdn ⟨upd_same, hCh7.mono kpF, s3 _ _ hk9, ?_, fun h hh => (hch h hh).1, fun h hh => (hch h hh).2, fun e he => ?_, fun e he => ?_, fun e he => ?_, fun e he => ?_⟩ ((w9.same s3).up (by rw [hE7.len]; omega)) hfr
    · have kp9 : Kp (vw (pA a) H') (vw (pA a) (upd H9 t (.tup [V.int (r : Int), V.ref D1, V.ref wd]))) := vw_mono fun b o h f e => ⟨h, s3 _ _ (bu _ _ (fun c => by subst c; rw [hd'] at e; injection e with e; subst e; exact nf_frz f) e)⟩
      have := hps.mapR (S := WkAt (vw (pA a) (upd H9 t (.tup [V.int (r : Int), V.ref D1, V.ref wd]))) wk) (·.1) fun x y m r => ⟨r.1, by rw [hwk y m]; exact r.2.mono kp9⟩
      rw [hpm] at this
      exact this
    all_goals
      rw [← hpm] at he
      obtain ⟨p, hp, rfl⟩ := List.mem_map.mp he
      rw [hwk p hp]
      obtain ⟨z1, z2, z3, z4⟩ := hpp p hp
    · exact z1
    · exact z2
    · exact z3
    · exact z4
end
end TA

set_option Elab.async false
set_option maxRecDepth 100000
set_option maxHeartbeats 4000000
namespace TA
open PySem L2 PyProof.Rows
set_option linter.unusedVariables false
def putB (bo : BD) (p : IP) (l : List (Int × Int)) : BD := if (bo.any fun e => decide (e.1 = p)) = true then bo.map (fun e => if e.1 = p then (e.1, l) else e) else bo ++ [(p, l)]
theorem any_key {G : Hp} {p : IP} : ∀ {kvs : List (List Key × V)} {bo : BD}, A2 (EnAt G) kvs bo → (kvs.any fun kv => decide (kv.1 = kI p)) = (bo.any fun e => decide (e.1 = p))
  | _, _, .nil => rfl
  | kv :: kvs, e :: bo, .cons a r => by
    rw [List.any_cons, List.any_cons, any_key r]
    have : decide (kv.1 = kI p) = decide (e.1 = p) := by
      rw [a.1]
      by_cases c : e.1 = p
      · rw [c, decide_eq_true rfl, decide_eq_true rfl]
      · rw [decide_eq_false (fun z => c (kI_inj z)), decide_eq_false c]
    rw [this]
theorem map_key {G : Hp} {p : IP} {v : V} {l : List (Int × Int)} (h : LetAt G v l) : ∀ {kvs : List (List Key × V)} {bo : BD}, A2 (EnAt G) kvs bo → A2 (EnAt G) (kvs.map fun kv => if kv.1 = kI p then (kv.1, v) else kv) (bo.map fun e => if e.1 = p then (e.1, l) else e)
  | _, _, .nil => .nil
  | kv :: kvs, e :: bo, .cons a r => by
    refine .cons ?_ (map_key h r)
    show EnAt G (if kv.1 = kI p then (kv.1, v) else kv) (if e.1 = p then (e.1, l) else e)
    by_cases c : e.1 = p
    · rw [if_pos c, if_pos (by rw [a.1, c])]
      exact ⟨a.1, h⟩
    · rw [if_neg c, if_neg (fun z => c (kI_inj (a.1.symm.trans z)))]
      exact a
theorem en_put {G : Hp} {p : IP} {v : V} {l : List (Int × Int)} {kvs : List (List Key × V)} {bo : BD} (a : A2 (EnAt G) kvs bo) (h : LetAt G v l) : A2 (EnAt G) (putK kvs (kI p) v) (putB bo p l) := by
  unfold putK putB
  rw [any_key a]
  split
  · exact map_key h a
  · exact A2.snoc a ⟨rfl, h⟩
theorem putB_keys (bo : BD) (p : IP) (l : List (Int × Int)) : (putB bo p l).map (·.1) = if p ∈ bo.map (·.1) then bo.map (·.1) else bo.map (·.1) ++ [p] := by
  have e : (bo.any fun e => decide (e.1 = p)) = decide (p ∈ bo.map (·.1)) := by
    by_cases c : p ∈ bo.map (·.1)
    · rw [decide_eq_true c, List.any_eq_true]
      obtain ⟨e, he, e1⟩ := List.mem_map.mp c
      exact ⟨e, he, decide_eq_true e1⟩
    · rw [decide_eq_false c, List.any_eq_false]
      intro x hx z
      exact c (List.mem_map.mpr ⟨x, hx, of_decide_eq_true z⟩)
  unfold putB
  rw [e]
  by_cases c : p ∈ bo.map (·.1)
  · rw [if_pos (decide_eq_true c), if_pos c, List.map_map]
    refine List.map_congr_left fun x _ => ?_
    show (if x.1 = p then (x.1, l) else x).1 = x.1
    split <;> rfl
  · rw [if_neg (by rw [decide_eq_false c]; decide), if_neg c, List.map_append]
    rfl
theorem putB_lets {bo : BD} {p : IP} {l : List (Int × Int)} (h : ∀ e ∈ bo, okLet e.2) (hl : okLet l) : ∀ e ∈ putB bo p l, okLet e.2 := by
  intro e he
  unfold putB at he
  split at he
  · obtain ⟨x, hx, rfl⟩ := List.mem_map.mp he
    split
    · exact hl
    · exact h x hx
  · rcases List.mem_append.mp he with z | z
    · exact h e z
    · obtain rfl := List.mem_singleton.mp z
      exact hl
theorem putB_len {bo : BD} {p : IP} {l : List (Int × Int)} : (putB bo p l).length ≤ bo.length + 1 := by
  unfold putB
  split
  · rw [List.length_map]
    omega
  · rw [List.length_append]
    exact Nat.le_refl _
theorem two_list {rs : List (List (List Int))} (h : rs.length = 2) : rs = [rs.getD 0 [], rs.getD 1 []] := by
  match rs, h with
  | [x, y], _ => rfl
theorem Dr.same {H H' : Hp} {a : Addr} {n : Int} (s : Same H H') (h : Dr H a n) : Dr H' a n := by
  rcases h with ⟨x, e⟩ | e
  · exact .inl ⟨x, s _ _ e⟩
  · exact .inr (e.same s)
theorem Dr.ne {H : Hp} {a b : Addr} {n : Int} (h : Dr H a n) (e : H b = none) : a ≠ b := by
  rcases h with ⟨x, h⟩ | h
  · exact ne_of_none h e
  · exact h.ne e
def gs : List (List Int) := [[0, 1], [0, 1, 2], [0, 1, 2], [3, 9, 10, 63], [0, 1, 2, 3, 4, 5]]
theorem gs_ok : ∀ g ∈ gs, okG g := by
  intro g hg
  have : (1 ≤ g.length ∧ g.length ≤ 10) ∧ ∀ x ∈ g, 0 ≤ x ∧ x ≤ 63 := by
    revert g
    decide
  exact ⟨this.1.1, this.1.2, this.2⟩
/-- what the pairs of a task are made of: so many pairs, in range, all inputs come -/
structure PairsL (H : Hp) (Lp : Addr) (n0 n1 : Nat) (ips : List IP) : Prop where
  at_ : ∃ qs, H Lp = some (.lst qs) ∧ A2 (fun v p => TpAt H v (iI p)) qs ips
  rng : ∀ p ∈ ips, p.1 < n0 ∧ p.2 < n1
theorem PairsL.but {H H' : Hp} {Lp d n0 n1 ips} {zs : List V} (h : PairsL H Lp n0 n1 ips) (e : H d = some (.lst zs)) (n : Lp ≠ d) (b : But d H H') : PairsL H' Lp n0 n1 ips := by
  obtain ⟨⟨qs, h1, h2⟩, r⟩ := h
  exact ⟨⟨qs, b _ _ n h1, h2.imp fun _ _ z => z.but e b⟩, r⟩
theorem PairsL.same {H H' : Hp} {Lp n0 n1 ips} (h : PairsL H Lp n0 n1 ips) (b : Same H H') : PairsL H' Lp n0 n1 ips := by
  obtain ⟨⟨qs, h1, h2⟩, r⟩ := h
  exact ⟨⟨qs, b _ _ h1, h2.imp fun _ _ z => z.mono (.same b)⟩, r⟩
theorem PairsL.put {H : Hp} {Lp t n0 n1 ips} {qs : List V} {p : IP} (h : PairsL H Lp n0 n1 ips) (e : H Lp = some (.lst qs)) (ht : H t = some (.tup [.int (p.1 : Int), .int (p.2 : Int)])) (r0 : p.1 < n0) (r1 : p.2 < n1) : PairsL (upd H Lp (.lst (qs ++ [.ref t]))) Lp n0 n1 (ips ++ [p]) := by
  obtain ⟨⟨qs', h1, h2⟩, r⟩ := h
  obtain rfl : qs = qs' := by rw [e] at h1; injection h1 with h1; injection h1
  refine ⟨⟨_, upd_same, A2.snoc (h2.imp fun _ _ z => z.but e But.at) (TpAt.but e But.at ⟨t, rfl, ht⟩)⟩, fun q hq => ?_⟩
  rcases List.mem_append.mp hq with z | z
  · exact r q z
  · obtain rfl := List.mem_singleton.mp z
    exact ⟨r0, r1⟩
theorem PairsL.len {H : Hp} {Lp n0 n1 ips} {qs : List V} (h : PairsL H Lp n0 n1 ips) (e : H Lp = some (.lst qs)) : qs.length = ips.length := by
  obtain ⟨⟨qs', h1, h2⟩, r⟩ := h
  obtain rfl : qs = qs' := by rw [e] at h1; injection h1 with h1; injection h1
  exact h2.len
def spParts : Sp := fun vs H Q _ => ∃ (a : Addr) (n m : Int), vs = [.ref a, .int m] ∧ Dr H a n ∧ 0 ≤ n ∧ n < 700000 ∧ 0 < m ∧ m ≤ 4 ∧
  ∀ (u al d r0 r1 : Addr) (T : TD) (H' : Hp), But a H H' → H u = none → H al = none → H d = none → H' u = some (.tup [.ref al, .ref d]) → PartsV a H' al d T → WF T → H' al = some (.lst [.ref r0, .ref r1]) → r0 ≠ r1 → WellAt H' a (n + 1000) → (∀ h, h < 2 → (T.al h).length ≤ 4) → Q (.ref u) H'
section
variable {P : Program} {w : World} {K : PySem.W.Frag} {mg : Str → Option Value} {base : Heap}
abbrev nPa : List Str := ["_law_state", "_law_most", "_law_some", "_law_alone", "_law_hand", "_law_many", "_law_pairs", "_law_k", "_law_turn", "_law_both", "_law_pair", "_law_one"]
theorem sc_pa : FnScope nPa ["_law_state", "_law_most"] (defScope s__law_parts) := ⟨rfl, rfl, rfl, by decide +kernel, rfl, by decide +kernel, by decide +kernel⟩
theorem ok_pa {f g1 g2 g3 g4 : Addr} {fd d1 d2 d3 d4 : FuncData} (F : Fun K "_law_parts" "_law_parts" s__law_parts f fd) (T : Txt K mg) (T2 : Txt2 K mg) (Dg : Def P w K mg base "_law_digit" ["_law_state", "_law_base"] 1 spDigit g1 d1) (Of : Def P w K mg base "_law_of" nOf 2 (spOf K) g2 d2)
    (Rs : Def P w K mg base "_law_rising" ["_law_state", "_law_some", "_law_most"] 3 (spRising K) g3 d3) (Os : Def P w K mg base "_law_outs" ["_law_state", "_law_some", "_law_most"] 3 (spOutsL K) g4 d4) : FnOk P w K mg base CX0 4 f fd ["_law_state", "_law_most"] spParts := by
  refine F.ok sc_pa (fun vs H Q E h => ?_) (fun cdv A outer s H vs Q E hr h => ?_)
  · obtain ⟨a, n, m, rfl, _⟩ := h
    rfl
  obtain ⟨a, n, m, rfl, hD, hn0, hn, hm0, hm, q⟩ := h
  have nd := sc_pa.nd
  have hu := hu_of hr
  refine ⟨_, (pss_cons (ps_set (i := 2) nd rfl (Or.inr rfl) (pe_call Of.G (hr.mono (by decide)) rfl Of.m Of.k Of.b .nil pass0 (pa_cons (pv 0) (pa_cons (pe_lst (pa_cons (pe_lst (pa_cons pe_int (pa_cons pe_int pa_nil))) (pa_cons (pe_lst (pa_cons pe_int (pa_cons pe_int (pa_cons pe_int pa_nil)))) (pa_cons (pe_lst (pa_cons pe_int (pa_cons pe_int (pa_cons pe_int pa_nil)))) (pa_cons (pe_lst (pa_cons pe_int (pa_cons pe_int (pa_cons pe_int (pa_cons pe_int pa_nil))))) (pa_cons (pe_lst (pa_cons pe_int (pa_cons pe_int (pa_cons pe_int (pa_cons pe_int (pa_cons pe_int (pa_cons pe_int pa_nil))))))) pa_nil)))))) pa_nil))))
    (pss_cons (ps_set (i := 3) nd rfl (Or.inl rfl) (pe_lst pa_nil))
    (pss_cons (ps_for PassesOwn.never (by rfl) (pi_tup (pe_tup (pa_cons pe_int (pa_cons pe_int pa_nil)))) (pg_name (i := 4) nd rfl (Or.inl rfl))
      (pss_one (ps_expr (pe_bm PySem.F.plainAttrs_list PySem.F.slot_list_append PySem.F.type_list_append mt_append (pv 3) (pa_cons (pe_lc (own := [("_law_one", 11)]) (g := (gName 11)) (tt := tYes) (te := (tCall (spRising K) [] E0 (tCons (tVar 0) (tCons (tVar 2) (tCons (tC (.int 3)) tNil))))) rfl nd (pi_range1 (by rfl) T.range (pa_cons (pe_op op_add pe_int (pe_call Dg.G (hr.mono (by decide)) rfl Dg.m Dg.k Dg.b .nil pass0 (pa_cons (pv 0) (pa_cons (pv 1) pa_nil)))) pa_nil)) (blkOk_by (N := nPa) (sc := defScope s__law_parts) (by decide +kernel)) (fun _ _ _ _ _ => (by exact (pg_name (i := 11) nd rfl (Or.inl rfl)))) (fun _ _ _ _ _ => pts_nil) (fun _ _ _ _ _ => (by exact (pe_call Rs.G (hr.mono (by decide)) rfl Rs.m Rs.k Rs.b .nil pass0 (pa_cons (pv 0) (pa_cons (pv 2) (pa_cons pe_int pa_nil))))))) pa_nil)))))
    (pss_cons (ps_set (i := 5) nd rfl (Or.inl rfl) (pe_lst (pa_cons (pe_callB call_len_seq (by rfl) T.len PySem.boot_len (pa_cons (pe_ix ix_list (pv 3) pe_int (fun _ _ => rfl)) pa_nil)) (pa_cons (pe_callB call_len_seq (by rfl) T.len PySem.boot_len (pa_cons (pe_ix ix_list (pv 3) pe_int (fun _ _ => rfl)) pa_nil)) pa_nil))))
    (pss_cons (ps_set (i := 6) nd rfl (Or.inl rfl) (pe_lst pa_nil))
    (pss_cons (ps_for PassesOwn.never (by rfl) (pi_range1 (by rfl) T.range (pa_cons (pe_callB (cr_max rfl) (by rfl) T2.max (by decide +kernel) (pa_cons (pv 5) pa_nil)) pa_nil)) (pg_name (i := 7) nd rfl (Or.inl rfl))
      (pss_one (ps_expr (pe_bm PySem.F.plainAttrs_list PySem.F.slot_list_append PySem.F.type_list_append mt_append (pv 6) (pa_cons (pe_tup (pa_cons (pe_op op_mod (pv 7) (pe_ix ix_list (pv 5) pe_int (fun _ _ => rfl))) (pa_cons (pe_op op_mod (pv 7) (pe_ix ix_list (pv 5) pe_int (fun _ _ => rfl))) pa_nil))) pa_nil)))))
    (pss_cons (ps_for PassesOwn.never (by rfl) (pi_range1 (by rfl) T.range (pa_cons (pe_call Dg.G (hr.mono (by decide)) rfl Dg.m Dg.k Dg.b .nil pass0 (pa_cons (pv 0) (pa_cons pe_int pa_nil))) pa_nil)) (pg_name (i := 8) nd rfl (Or.inl rfl))
      (pss_one (ps_expr (pe_bm PySem.F.plainAttrs_list PySem.F.slot_list_append PySem.F.type_list_append mt_append (pv 6) (pa_cons (pe_tup (pa_cons (pe_call Dg.G (hr.mono (by decide)) rfl Dg.m Dg.k Dg.b .nil pass0 (pa_cons (pv 0) (pa_cons (pe_ix ix_list (pv 5) pe_int (fun _ _ => rfl)) pa_nil))) (pa_cons (pe_call Dg.G (hr.mono (by decide)) rfl Dg.m Dg.k Dg.b .nil pass0 (pa_cons (pv 0) (pa_cons (pe_ix ix_list (pv 5) pe_int (fun _ _ => rfl)) pa_nil))) pa_nil))) pa_nil)))))
    (pss_cons (ps_set (i := 9) nd rfl (Or.inl rfl) pe_dnewT)
    (pss_cons (ps_for PassesOwn.never (by rfl) (pi_list (pv 6)) (pg_name (i := 10) nd rfl (Or.inl rfl))
      (pss_one (ps_dput hu (pv 9) (pv 10) (pe_call Os.G (hr.mono (by decide)) rfl Os.m Os.k Os.b .nil pass0 (pa_cons (pv 0) (pa_cons (pv 2) (pa_cons pe_int pa_nil)))) rfl)))
    (pss_one (ps_ret (pe_tup (pa_cons (pv 3) (pa_cons (pv 9) pa_nil)))))))))))))), ?_⟩
  refine ⟨_, rfl, (by show 2 ≤ sizeLine; decide), fun l0 h0 => ?_⟩
  refine ⟨(by show 3 ≤ sizeLine; decide), fun l1 h1 => ?_⟩
  refine ⟨(by show 3 ≤ sizeLine; decide), fun l2 h2 => ?_⟩
  refine ⟨(by show 4 ≤ sizeLine; decide), fun l3 h3 => ?_⟩
  refine ⟨(by show 6 ≤ sizeLine; decide), fun l4 h4 => ?_⟩
  refine ⟨(by show 5 ≤ sizeLine; decide), fun L5 h5 => ?_⟩
  have e0 := same_new h0 (.lst [V.int 0, V.int 1])
  have e1 := same_new h1 (.lst [V.int 0, V.int 1, V.int 2])
  have e2 := same_new h2 (.lst [V.int 0, V.int 1, V.int 2])
  have e3 := same_new h3 (.lst [V.int 3, V.int 9, V.int 10, V.int 63])
  have e4 := same_new h4 (.lst [V.int 0, V.int 1, V.int 2, V.int 3, V.int 4, V.int 5])
  have e5 := same_new h5 (.lst [V.ref l0, V.ref l1, V.ref l2, V.ref l3, V.ref l4])
  have e05 := e0.trans (e1.trans (e2.trans (e3.trans (e4.trans e5))))
  have hD5 := hD.same e05
  have al0 := hD.ne h0
  have al1 := (hD.same e0).ne h1
  have al2 := (hD.same (e0.trans e1)).ne h2
  have al3 := (hD.same (e0.trans (e1.trans e2))).ne h3
  have al4 := (hD.same (e0.trans (e1.trans (e2.trans e3)))).ne h4
  have al5 := (hD.same (e0.trans (e1.trans (e2.trans (e3.trans e4))))).ne h5
  have lists : ∀ (i : Nat) (x : V), ([V.ref l0, V.ref l1, V.ref l2, V.ref l3, V.ref l4] : List V)[i]? = some x → ∃ l g, x = .ref l ∧ l ≠ a ∧ (upd (upd (upd (upd (upd (upd H l0 (.lst [V.int 0, V.int 1])) l1 (.lst [V.int 0, V.int 1, V.int 2])) l2 (.lst [V.int 0, V.int 1, V.int 2])) l3 (.lst [V.int 3, V.int 9, V.int 10, V.int 63])) l4 (.lst [V.int 0, V.int 1, V.int 2, V.int 3, V.int 4, V.int 5])) L5 (.lst [V.ref l0, V.ref l1, V.ref l2, V.ref l3, V.ref l4])) l = some (.lst (g.map V.int)) ∧ okG g := by
    intro i x hx
    match i, hx with
    | 0, hx => cases hx; exact ⟨l0, [0, 1], rfl, Ne.symm al0, (e1.trans (e2.trans (e3.trans (e4.trans e5)))) _ _ upd_same, gs_ok _ (by decide)⟩
    | 1, hx => cases hx; exact ⟨l1, [0, 1, 2], rfl, Ne.symm al1, (e2.trans (e3.trans (e4.trans e5))) _ _ upd_same, gs_ok _ (by decide)⟩
    | 2, hx => cases hx; exact ⟨l2, [0, 1, 2], rfl, Ne.symm al2, (e3.trans (e4.trans e5)) _ _ upd_same, gs_ok _ (by decide)⟩
    | 3, hx => cases hx; exact ⟨l3, [3, 9, 10, 63], rfl, Ne.symm al3, (e4.trans e5) _ _ upd_same, gs_ok _ (by decide)⟩
    | 4, hx => cases hx; exact ⟨l4, [0, 1, 2, 3, 4, 5], rfl, Ne.symm al4, e5 _ _ upd_same, gs_ok _ (by decide)⟩
  have eL5 : (upd (upd (upd (upd (upd (upd H l0 (.lst [V.int 0, V.int 1])) l1 (.lst [V.int 0, V.int 1, V.int 2])) l2 (.lst [V.int 0, V.int 1, V.int 2])) l3 (.lst [V.int 3, V.int 9, V.int 10, V.int 63])) l4 (.lst [V.int 0, V.int 1, V.int 2, V.int 3, V.int 4, V.int 5])) L5 (.lst [V.ref l0, V.ref l1, V.ref l2, V.ref l3, V.ref l4])) L5 = some (.lst [V.ref l0, V.ref l1, V.ref l2, V.ref l3, V.ref l4]) := upd_same
  generalize (upd (upd (upd (upd (upd (upd H l0 (.lst [V.int 0, V.int 1])) l1 (.lst [V.int 0, V.int 1, V.int 2])) l2 (.lst [V.int 0, V.int 1, V.int 2])) l3 (.lst [V.int 3, V.int 9, V.int 10, V.int 63])) l4 (.lst [V.int 0, V.int 1, V.int 2, V.int 3, V.int 4, V.int 5])) L5 (.lst [V.ref l0, V.ref l1, V.ref l2, V.ref l3, V.ref l4])) = HA at e05 hD5 lists eL5 ⊢
  clear e0 e1 e2 e3 e4 e5 h0 h1 h2 h3 h4 h5 al0 al1 al2 al3 al4
  refine ⟨a, L5, n, [V.ref l0, V.ref l1, V.ref l2, V.ref l3, V.ref l4], rfl, hD5, hn0, by omega, eL5, Ne.symm al5, by show 0 < 5; decide, by show 5 < 1000; decide, fun i x HB hx bB wB => ?_⟩
  obtain ⟨l, g, rfl, nla, hlA, hg⟩ := lists i x hx
  have hl := bB _ _ nla hlA
  have b0B : But a H HB := (But.same e05).trans bB
  clear lists eL5 hlA e05 hD5 bB hx al5
  -- alone
  refine ⟨(by show 0 ≤ sizeLine; decide), fun L hL => ?_⟩
  have sL := same_new hL (.lst [])
  have haL : a ≠ L := wB.ne hL
  have hLn : H L = none := none_of_but b0B (Ne.symm haL) hL
  have bC : But a H (upd HB L (.lst [])) := b0B.trans (.same sL)
  have wC := wB.same sL
  have hlC := sL _ _ hl
  have eLC : (upd HB L (.lst [])) L = some (.lst []) := upd_same
  generalize upd HB L (.lst []) = HC at bC wC hlC eLC ⊢
  clear sL hL wB b0B hl
  refine ⟨(by show 2 ≤ sizeLine; decide), fun tt htt => ?_⟩
  have sT := same_new htt (.tup [V.int 0, V.int 1])
  have eTT : (upd HC tt (.tup [V.int 0, V.int 1])) tt = some (.tup [V.int 0, V.int 1]) := upd_same
  have bD := bC.trans (.same sT)
  have wD := wC.same sT
  have hlD := sT _ _ hlC
  have eLD := sT _ _ eLC
  generalize upd HC tt (.tup [V.int 0, V.int 1]) = HD at bD wD hlD eLD eTT ⊢
  clear sT htt wC hlC eLC bC
  have nla2 : l ≠ L := fun c => by
    subst c
    rw [eLD] at hlD
    injection hlD with z
    injection z with z
    have := hg.1
    rw [show g = [] by cases g with | nil => rfl | cons _ _ => cases z] at this
    exact absurd this (by decide)
  let p1 : Addr → Bool := fun b => decide (b ≠ a ∧ b ≠ L)
  have p1_ok : ∀ b, p1 b = true ↔ (b ≠ a ∧ b ≠ L) := fun b => decide_eq_true_iff
  have ntta : tt ≠ a := by
    obtain ⟨z, ez⟩ := wD.lst
    exact ne_of eTT ez (fun z => by cases z)
  have nttL : tt ≠ L := ne_of eTT eLD (fun z => by cases z)
  refine ⟨tt, rfl, ⟨_, SqT.of eTT⟩, for_tup (xs := [V.int 0, V.int 1]) (fun i σ H' => ∃ g4, σ = [some (.ref a), some (.int m), some (.ref l), some (.ref L), g4, none, none, none, none, none, none, none] ∧ But2 a L HD H' ∧ WellAt H' a (n + 1 + 41 * (i : Int)) ∧ ∃ ys rs, H' L = some (.lst ys) ∧ ys.Nodup ∧ A2 (RowsAt (vw p1 H')) ys rs ∧ rs.length = i ∧ ∀ rr ∈ rs, (1 ≤ rr.length ∧ (rr.length : Int) ≤ m) ∧ ∀ r ∈ rr, okRow r) ⟨_, rfl, fun b o _ _ e => e, (by rw [show n + 1 + 41 * ((0 : Nat) : Int) = n + 1 by omega]; exact wD), [], [], eLD, .nil, .nil, rfl, fun rr h => nomatch h⟩ (fun i σ H' _ ⟨_, _, b, _⟩ => SqT.of (b _ _ ntta nttL eTT)) ?_ ?_⟩
  · rintro i x σ H' hx ⟨g4, rfl, b1, w1, ys, rs, hy, hynd, ay, hrl, hrr⟩
    obtain ⟨hi, rfl⟩ := hand_at hx
    have hl1 := b1 _ _ nla nla2 hlD
    refine ⟨_, rfl, .inl ⟨rfl, _, SqL.of hy⟩, _, rfl, _, rfl, a, _, m, rfl, .inr w1, by omega, by omega, hm0, by omega, fun r H3 r0 r1 b3 w3 => ?_⟩
    have hl3 := b3 _ _ nla hl1
    have hy3 := b3 _ _ (Ne.symm haL) hy
    refine ⟨_, _, rfl, rfl, 1 + r, rfl, by omega, by omega, fun D2 hD2 => ?_⟩
    have s2 := same_new hD2 (.lst [])
    have haD2 : a ≠ D2 := w3.ne hD2
    have hD12 : L ≠ D2 := ne_of_none hy3 hD2
    let p2 : Addr → Bool := fun b => decide (b ≠ a ∧ b ≠ L ∧ b ≠ D2)
    have p2_ok : ∀ b, p2 b = true ↔ (b ≠ a ∧ b ≠ L ∧ b ≠ D2) := fun b => decide_eq_true_iff
    refine range_turns (n := (1 + r).toNat) (fun j H6 => But a H3 H6 ∧ WellAt H6 a (n + 2 + 41 * (i : Int) + 10 * (j : Int)) ∧ ∃ us rr, H6 D2 = some (.lst us) ∧ A2 (RowAt (vw p2 H6)) us rr ∧ rr.length = j ∧ ∀ r ∈ rr, okRow r) ⟨.same s2, ?_, [], [], upd_same, .nil, rfl, fun r hr => nomatch hr⟩ ?_ ?_
    · rw [show n + 2 + 41 * (i : Int) + 10 * ((0 : Nat) : Int) = n + 1 + 41 * (i : Int) + 1 by omega]
      exact w3.same s2
    · rintro j H6 hj ⟨b6, w6, us, rr, hu6, au, hul, hub⟩
      have hl6 := b6 _ _ nla hl3
      refine ⟨rfl, _, rfl, _, rfl, a, l, _, 3, g, rfl, .inr w6, by omega, by omega, hl6, nla, hg, by decide, by decide, fun p ns H7 b7 hp7 hp7' w7 okr _ => ?_⟩
      have hD27 := b7 _ _ (Ne.symm haD2) hu6
      have np2 : p ≠ D2 := (ne_of_none hu6 hp7).symm
      have npa : p ≠ a := (w6.ne hp7).symm
      have npL : p ≠ L := (ne_of_none (b6 _ _ (Ne.symm haL) hy3) hp7).symm
      refine ⟨us, hD27, ?_, (b6.trans b7).new hD2, ?_, _, rr ++ [ns], upd_same, ?_, by rw [List.length_append, hul]; rfl, fun r hr => ?_⟩
      · rw [au.len, hul]
        exact Nat.lt_of_lt_of_le (show j < 100 by omega) (by decide)
      · rw [show n + 2 + 41 * (i : Int) + 10 * ((j + 1 : Nat) : Int) = n + 2 + 41 * (i : Int) + 10 * (j : Int) + 10 by omega]
        exact w7.but haD2 But.at
      · refine A2.snoc (au.imp fun _ _ r => r.mono (vw_mono fun b o h f e => ⟨h, ?_⟩)) ⟨p, rfl, vw_put ((p2_ok p).mpr ⟨npa, npL, np2⟩) (by rw [upd_ne np2]; exact hp7')⟩
        obtain ⟨z1, z2, z3⟩ := (p2_ok b).mp h
        rw [upd_ne z3]
        exact b7 _ _ z1 e
      · rcases List.mem_append.mp hr with h | h
        · exact hub r h
        · obtain rfl := List.mem_singleton.mp h
          exact okr
    · rintro H6 ⟨b6, w6, us, rr, hu6, au, hul, hub⟩
      have hy6 := b6 _ _ (Ne.symm haL) hy3
      have nin : V.ref D2 ∉ ys := fun c => by
        obtain ⟨y, _, t, z, et, htt, _⟩ := ay.mem c
        injection et with et
        subst et
        have := b3 _ _ (Ne.symm haD2) (vw_some htt).2
        rw [this] at hD2
        cases hD2
      refine ⟨L, _, _, rfl, rfl, hy6, ?_, ?_⟩
      · rw [ay.len, hrl]
        exact Nat.lt_of_lt_of_le hi (by decide)
      refine ⟨_, rfl, (b1.trans (But2.l (b3.trans b6))).trans (.r But.at), (w6.but haL But.at).up (by omega), ys ++ [.ref D2], rs ++ [rr], upd_same, ?_, ?_, by rw [List.length_append, hrl]; rfl, fun rr' h => ?_⟩
      · rw [List.nodup_append]
        exact ⟨hynd, by simp, fun y hy z hz e => by obtain rfl := List.mem_singleton.mp hz; subst e; exact nin hy⟩
      · refine A2.snoc (ay.imp fun _ _ r => r.mono (vw_mono fun b o h f e => ⟨h, ?_⟩)) ⟨D2, us, rfl, vw_put ((p1_ok D2).mpr ⟨Ne.symm haD2, Ne.symm hD12⟩) (by rw [upd_ne (Ne.symm hD12)]; exact hu6), au.imp fun _ _ r => r.mono (vw_mono fun b o h f e => ?_)⟩
        · obtain ⟨z1, z2⟩ := (p1_ok b).mp h
          rw [upd_ne z2]
          exact b6 _ _ z1 (b3 _ _ z1 e)
        · obtain ⟨z1, z2, z3⟩ := (p2_ok b).mp h
          exact ⟨(p1_ok b).mpr ⟨z1, z2⟩, by rw [upd_ne z2]; exact e⟩
      · rcases List.mem_append.mp h with h | h
        · exact hrr rr' h
        · obtain rfl := List.mem_singleton.mp h
          exact ⟨⟨by rw [hul]; omega, by rw [hul]; omega⟩, hub⟩
  rintro σ H3 ⟨g4, rfl, b1, w1, ys, rs, hy, hynd, ay, hrl, hrr⟩
  replace hrl : rs.length = 2 := hrl
  let al : Nat → List (List Int) := fun h => rs.getD h []
  have hrs : rs = [al 0, al 1] := two_list hrl
  have hal0 := hrr (al 0) (by rw [hrs]; exact List.mem_cons_self)
  have hal1 := hrr (al 1) (by rw [hrs]; exact List.mem_cons_of_mem _ List.mem_cons_self)
  rw [hrs] at ay
  clear hrr hrl
  obtain ⟨r0, us0, hr0, a0, r1, us1, hr1, a1, rfl⟩ : ∃ r0 us0, vw p1 H3 r0 = some (.lst us0) ∧ A2 (RowAt (vw p1 H3)) us0 (al 0) ∧ ∃ r1 us1, vw p1 H3 r1 = some (.lst us1) ∧ A2 (RowAt (vw p1 H3)) us1 (al 1) ∧ ys = [.ref r0, .ref r1] := by
    cases ay with
    | cons x y =>
      cases y with
      | cons y z =>
        cases z
        obtain ⟨r0, us0, rfl, h0, h1⟩ := x
        obtain ⟨r1, us1, rfl, h2, h3⟩ := y
        exact ⟨r0, us0, h0, h1, r1, us1, h2, h3, rfl⟩
  have nr01 : r0 ≠ r1 := fun c => by
    subst c
    exact (List.nodup_cons.mp hynd).1 List.mem_cons_self
  obtain ⟨n0, en0⟩ : ∃ n0 : Nat, (al 0).length = n0 := ⟨_, rfl⟩
  obtain ⟨n1, en1⟩ : ∃ n1 : Nat, (al 1).length = n1 := ⟨_, rfl⟩
  have l0 := a0.len
  have l1 := a1.len
  rw [en0] at l0 hal0
  rw [en1] at l1 hal1
  obtain ⟨⟨q00, q01⟩, ok0⟩ := hal0
  obtain ⟨⟨q10, q11⟩, ok1⟩ := hal1
  have hl3 := b1 _ _ nla nla2 hlD
  have bH3 : But a H H3 := fun b o n e => b1 _ _ n (fun c => by subst c; rw [hLn] at e; cases e) (bD _ _ n e)
  have w3 : WellAt H3 a (n + 83) := w1.up (by show n + 1 + 41 * ((2 : Nat) : Int) ≤ n + 83; omega)
  clear b1 w1 wD bD eLD eTT hlD hynd hrs
  refine ⟨_, rfl, L, _, _, _, rfl, rfl, SqL.of hy, (by rfl), r0, us0, rfl, .inl (SqL.of (vw_some hr0).2), _, rfl, L, _, _, _, rfl, rfl, SqL.of hy, (by rfl), r1, us1, rfl, .inl (SqL.of (vw_some hr1).2), (by show 2 ≤ sizeLine; decide), fun Lm hLm => ?_⟩
  have sm := same_new hLm (.lst [V.int ((us0.length : Nat) : Int), V.int ((us1.length : Nat) : Int)])
  have eLm : (upd H3 Lm (.lst [V.int ((us0.length : Nat) : Int), V.int ((us1.length : Nat) : Int)])) Lm = some (.lst [V.int (n0 : Int), V.int (n1 : Int)]) := by rw [upd_same, l0, l1]
  have haLm : a ≠ Lm := w3.ne hLm
  have w4 := w3.same sm
  generalize upd H3 Lm (.lst [V.int ((us0.length : Nat) : Int), V.int ((us1.length : Nat) : Int)]) = H4 at sm eLm w4 ⊢
  refine ⟨(by show 0 ≤ sizeLine; decide), fun Lp hLp => ?_⟩
  have sp := same_new hLp (.lst [])
  have eLp : (upd H4 Lp (.lst [])) Lp = some (.lst []) := upd_same
  have haLp : a ≠ Lp := w4.ne hLp
  have nLmp : Lm ≠ Lp := ne_of_none eLm hLp
  have w5 := w4.same sp
  have eLm5 := sp _ _ eLm
  generalize upd H4 Lp (.lst []) = H5 at sp eLp w5 eLm5 ⊢
  have eLmI : H5 Lm = some (.lst (([(n0 : Int), (n1 : Int)] : List Int).map V.int)) := eLm5
  refine ⟨_, rfl, Lm, [(n0 : Int), (n1 : Int)], rfl, SqL.of eLmI, by show 0 < 2; decide, fun mx hmx hle => ?_⟩
  have hm0' := hle _ List.mem_cons_self
  have hm1' := hle _ (List.mem_cons_of_mem _ List.mem_cons_self)
  have hmx4 : mx ≤ 4 := by
    rcases List.mem_cons.mp hmx with rfl | h
    · omega
    · obtain rfl := List.mem_singleton.mp h
      omega
  clear hmx hle
  have Pstart : PairsL H5 Lp n0 n1 [] := ⟨⟨[], eLp, .nil⟩, fun p h => nomatch h⟩
  have bit0 : (0 : Int) < (n0 : Int) := by omega
  have bit1 : (0 : Int) < (n1 : Int) := by omega
  refine ⟨mx, rfl, by omega, by omega, for_range (n := mx.toNat) (fun i σ H' => ∃ g7, σ = [some (.ref a), some (.int m), some (.ref l), some (.ref L), g4, some (.ref Lm), some (.ref Lp), g7, none, none, none, none] ∧ But a H4 H' ∧ WellAt H' a (n + 83) ∧ ∃ ips, PairsL H' Lp n0 n1 ips ∧ ips.length = i ∧ ∀ k, k < i → (k % n0, k % n1) ∈ ips) ⟨_, rfl, .same sp, w5, [], Pstart, rfl, fun k h => absurd h (Nat.not_lt_zero _)⟩ ?_ ?_⟩
  · rintro i σ H' hi ⟨g7, rfl, b6, w6, ips, hP, hil, hcv⟩
    have ej : (0 : Int) + (i : Int) = (i : Int) := by omega
    rw [ej]
    obtain ⟨⟨qs, eq, _⟩, _⟩ := id hP
    have hLm' := b6 _ _ (Ne.symm haLm) eLm
    have em0 : ((i : Int) % (n0 : Int)) = ((i % n0 : Nat) : Int) := by omega
    have em1 : ((i : Int) % (n1 : Int)) = ((i % n1 : Nat) : Int) := by omega
    refine ⟨_, rfl, .inl ⟨rfl, _, SqL.of eq⟩, _, rfl, _, rfl, Lm, _, _, _, rfl, rfl, SqL.of hLm', (by rfl), _, _, rfl, rfl, bit0, _, rfl, _, rfl, Lm, _, _, _, rfl, rfl, SqL.of hLm', (by rfl), _, _, rfl, rfl, bit1, (by show 2 ≤ sizeLine; decide), fun t ht => ?_⟩
    have s7 := same_new ht (.tup [V.int ((i : Int) % (n0 : Int)), V.int ((i : Int) % (n1 : Int))])
    have et : (upd H' t (.tup [V.int ((i : Int) % (n0 : Int)), V.int ((i : Int) % (n1 : Int))])) t = some (.tup [V.int ((i % n0 : Nat) : Int), V.int ((i % n1 : Nat) : Int)]) := by rw [upd_same, em0, em1]
    have hP7 := hP.same s7
    have w7 := w6.same s7
    have eq7 := s7 _ _ eq
    generalize upd H' t (.tup [V.int ((i : Int) % (n0 : Int)), V.int ((i : Int) % (n1 : Int))]) = H7 at s7 et hP7 w7 eq7 ⊢
    refine ⟨Lp, _, _, rfl, rfl, eq7, ?_, ?_⟩
    · rw [hP7.len eq7, hil]
      exact Nat.lt_of_lt_of_le (show i < 100 by omega) (by decide)
    · refine ⟨_, rfl, (b6.trans (.same s7)).new hLp, w7.but haLp But.at, ips ++ [(i % n0, i % n1)], hP7.put eq7 et (Nat.mod_lt _ (by omega)) (Nat.mod_lt _ (by omega)), by rw [List.length_append, hil]; rfl, fun k hk => ?_⟩
      rcases Nat.lt_succ_iff_lt_or_eq.mp hk with h | rfl
      · exact List.mem_append_left _ (hcv k h)
      · exact List.mem_append_right _ List.mem_cons_self
  rintro σ H6 ⟨g7, rfl, b6, w6, ips0, hP0, hil0, hcv0⟩
  have cov0 : ∀ x, x < n0 → ∃ p ∈ ips0, p.1 = x := fun x hx => ⟨_, hcv0 x (by omega), Nat.mod_eq_of_lt hx⟩
  have cov1 : ∀ x, x < n1 → ∃ p ∈ ips0, p.2 = x := fun x hx => ⟨_, hcv0 x (by omega), Nat.mod_eq_of_lt hx⟩
  have hil0' : ips0.length ≤ 4 := by omega
  refine ⟨_, rfl, a, n + 83, 4, rfl, .inr w6, by omega, by omega, by decide, by decide, fun tn H7 tn0 tn1 b7 w7 => ?_⟩
  have b47 := b6.trans b7
  obtain ⟨zw6, ea6⟩ := w6.lst
  have hP7 := hP0.but ea6 (Ne.symm haLp) b7
  clear b6 b7 hcv0 w6 hP0
  refine ⟨tn, rfl, by omega, by omega, for_range (n := tn.toNat) (fun i σ H' => ∃ g8, σ = [some (.ref a), some (.int m), some (.ref l), some (.ref L), g4, some (.ref Lm), some (.ref Lp), g7, g8, none, none, none] ∧ But a H4 H' ∧ WellAt H' a (n + 84 + 2 * (i : Int)) ∧ ∃ ips, PairsL H' Lp n0 n1 ips ∧ ips.length = ips0.length + i ∧ ∀ p ∈ ips0, p ∈ ips) ⟨_, rfl, b47, (by rw [show n + 84 + 2 * ((0 : Nat) : Int) = n + 83 + 1 by omega]; exact w7), ips0, hP7, rfl, fun p h => h⟩ ?_ ?_⟩
  · rintro i σ H' hi ⟨g8, rfl, b8, w8, ips, hP, hil, hsub⟩
    obtain ⟨⟨qs, eq, _⟩, _⟩ := id hP
    have hLm' := b8 _ _ (Ne.symm haLm) eLm
    obtain ⟨zw8, ea8⟩ := w8.lst
    refine ⟨_, rfl, .inl ⟨rfl, _, SqL.of eq⟩, _, rfl, _, rfl, Lm, _, _, _, rfl, rfl, SqL.of hLm', (by rfl), a, _, (n0 : Int), rfl, .inr w8, by omega, by omega, bit0, by omega, fun x1 H9 x10 x11 b9 w9 => ?_⟩
    obtain ⟨zw9, ea9⟩ := w9.lst
    have hLm9 := b9 _ _ (Ne.symm haLm) hLm'
    refine ⟨_, rfl, _, rfl, Lm, _, _, _, rfl, rfl, SqL.of hLm9, (by rfl), a, _, (n1 : Int), rfl, .inr w9, by omega, by omega, bit1, by omega, fun x2 H10 x20 x21 b10 w10 => ?_⟩
    obtain ⟨y1, rfl⟩ : ∃ y : Nat, x1 = (y : Int) := ⟨x1.toNat, by omega⟩
    obtain ⟨y2, rfl⟩ : ∃ y : Nat, x2 = (y : Int) := ⟨x2.toNat, by omega⟩
    have hP10 := (hP.but ea8 (Ne.symm haLp) b9).but ea9 (Ne.symm haLp) b10
    have eq10 := b10 _ _ (Ne.symm haLp) (b9 _ _ (Ne.symm haLp) eq)
    refine ⟨(by show 2 ≤ sizeLine; decide), fun t ht => ?_⟩
    have s11 := same_new ht (.tup [V.int (y1 : Int), V.int (y2 : Int)])
    have hP11 := hP10.same s11
    have eq11 := s11 _ _ eq10
    have w11 := w10.same s11
    have et : (upd H10 t (.tup [V.int (y1 : Int), V.int (y2 : Int)])) t = some (.tup [V.int (y1 : Int), V.int (y2 : Int)]) := upd_same
    generalize upd H10 t (.tup [V.int (y1 : Int), V.int (y2 : Int)]) = H11 at s11 hP11 eq11 w11 et ⊢
    refine ⟨Lp, _, _, rfl, rfl, eq11, ?_, ?_⟩
    · rw [hP11.len eq11, hil]
      exact Nat.lt_of_lt_of_le (show ips0.length + i < 100 by omega) (by decide)
    · refine ⟨_, rfl, (((b8.trans b9).trans b10).trans (.same s11)).new hLp, ?_, ips ++ [(y1, y2)], hP11.put eq11 et (by show y1 < n0; omega) (by show y2 < n1; omega), by rw [List.length_append, hil]; rfl, fun p hp => List.mem_append_left _ (hsub p hp)⟩
      rw [show n + 84 + 2 * ((i + 1 : Nat) : Int) = n + 84 + 2 * (i : Int) + 1 + 1 by omega]
      exact w11.but haLp But.at
  rintro σ H8 ⟨g8, rfl, b8, w8, ips, hP, hil, hsub⟩
  have w8 : WellAt H8 a (n + 100) := w8.up (by omega)
  have hil' : ips.length ≤ 8 := by omega
  obtain ⟨⟨qs, eq, aq⟩, rng⟩ := hP
  have b38 : But a H3 H8 := (But.same sm).trans b8
  clear b8 b47 hP7 w7 Pstart
  intro d hd
  have sd := same_new hd (.dT [])
  have had : a ≠ d := w8.ne hd
  have w9 := w8.same sd
  have ed : (upd H8 d (.dT [])) d = some (.dT []) := upd_same
  have b89 : But a H8 (upd H8 d (.dT [])) := .same sd
  generalize upd H8 d (.dT []) = H9 at w9 ed b89 ⊢
  obtain ⟨zw8, ea8⟩ := w8.lst
  have hl8 := b38 _ _ nla hl3
  have hqsl := aq.len
  refine ⟨_, rfl, Lp, rfl, ⟨_, SqL.of (b89 _ _ (Ne.symm haLp) eq)⟩, for_list (xs := qs) (fun i σ H' => ∃ g10, σ = [some (.ref a), some (.int m), some (.ref l), some (.ref L), g4, some (.ref Lm), some (.ref Lp), g7, g8, some (.ref d), g10, none] ∧ But a H8 H' ∧ WellAt H' a (n + 100 + 20 * (i : Int)) ∧ ∃ kvs bo, H' d = some (.dT kvs) ∧ A2 (EnAt (vw (pA a) H')) kvs bo ∧ (bo.map (·.1)).Pairwise (· ≠ ·) ∧ (∀ p, p ∈ bo.map (·.1) ↔ p ∈ ips.take i) ∧ (∀ e ∈ bo, okLet e.2) ∧ bo.length ≤ i) ⟨_, rfl, b89, (by rw [show n + 100 + 20 * ((0 : Nat) : Int) = n + 100 by omega]; exact w9), [], [], ed, .nil, .nil, (fun p => Iff.rfl), (fun e h => nomatch h), Nat.zero_le _⟩ (fun i σ H' _ ⟨_, _, b, _⟩ => SqL.of (b _ _ (Ne.symm haLp) eq)) ?_ ?_⟩
  · rintro i x σ H' hx ⟨g10, rfl, b10, w10, kvs, bo, hdk, hE, hnd, hmem, hlt, hbl⟩
    obtain ⟨p, hp, tq⟩ := aq.get hx
    obtain ⟨tq, rfl, htq⟩ := tq.but ea8 b10
    have hil2 : i < qs.length := (List.getElem?_eq_some_iff.mp hx).1
    have hl' := b10 _ _ nla hl8
    obtain ⟨zw10, ea10⟩ := w10.lst
    refine ⟨_, rfl, _, rfl, a, l, _, 5, g, rfl, .inr w10, by omega, by omega, hl', nla, hg, by decide, by decide, fun pp xs ls H11 b11 hpn hpp ax w11 okl _ => ?_⟩
    obtain ⟨zw11, ea11⟩ := w11.lst
    have hdk11 := b11 _ _ (Ne.symm had) hdk
    have htq11 := b11 _ _ (ne_of htq ea10 (fun z => by cases z)) htq
    have hkl : kvs.length ≤ 100 := by rw [hE.len]; omega
    refine ⟨_, rfl, _, rfl, d, _, rfl, DPut.t (k := kI p) hdk11 htq11 (Nat.lt_of_le_of_lt hkl (by decide)), ?_⟩
    have npa : pp ≠ a := (w10.ne hpn).symm
    have npd : pp ≠ d := fun c => by subst c; rw [hdk] at hpn; cases hpn
    have kpA : Kp (vw (pA a) H') (vw (pA a) (upd H11 d (.dT (putK kvs (kI p) (V.ref pp))))) := (vwA_but b11).trans (vwA_put hdk11)
    refine ⟨_, rfl, (b10.trans b11).new hd, (w11.but had But.at).up (by omega), _, putB bo p ls, upd_same, en_put (hE.imp fun _ _ r => EnAt.mono kpA r) ⟨pp, xs, rfl, vw_put (pA_ok.mpr npa) (by rw [upd_ne npd]; exact hpp), ax.imp fun _ _ r => ?_⟩, ?_, fun p' => ?_, putB_lets hlt okl, Nat.le_trans putB_len (Nat.succ_le_succ hbl)⟩
    · obtain ⟨t, rfl, ht⟩ := r
      exact ⟨t, rfl, vw_put (pA_ok.mpr (ne_of ht ea11 (fun z => by cases z))) (by rw [upd_ne (ne_of ht hdk11 (fun z => by cases z))]; exact ht)⟩
    · rw [putB_keys]
      split
      · exact hnd
      · rename_i c
        rw [List.pairwise_append]
        exact ⟨hnd, List.pairwise_singleton _ _, fun x hx y hy e => by obtain rfl := List.mem_singleton.mp hy; subst e; exact c hx⟩
    · rw [putB_keys, take_get hp, List.mem_append, List.mem_singleton, ← hmem p']
      split
      · rename_i c
        constructor
        · exact fun h => .inl h
        · rintro (h | rfl)
          · exact h
          · exact c
      · rw [List.mem_append, List.mem_singleton]
  rintro σ H10 ⟨g10, rfl, b10, w10, kvs, bo, hdk, hE, hnd, hmem, hlt, hbl⟩
  rw [hqsl, List.take_length] at hmem
  refine ⟨_, rfl, _, rfl, (by show 2 ≤ sizeLine; decide), fun u hu2 => ?_⟩
  have su := same_new hu2 (.tup [V.ref L, V.ref d])
  have b3u : But a H3 (upd H10 u (.tup [V.ref L, V.ref d])) := (b38.trans b10).trans (.same su)
  have eu : (upd H10 u (.tup [V.ref L, V.ref d])) u = some (.tup [V.ref L, V.ref d]) := upd_same
  have hdn : H d = none := none_of_but (bH3.trans b38) (Ne.symm had) hd
  have wu := w10.same su
  have hun : H u = none := none_of_but ((bH3.trans b38).trans b10) (Ne.symm (w10.ne hu2)) hu2
  have hdu := su _ _ hdk
  have hEu := hE.imp fun _ _ r => EnAt.mono (vwA_but (.same su)) r
  generalize upd H10 u (.tup [V.ref L, V.ref d]) = HU at b3u eu wu hdu hEu ⊢
  have hLu := b3u _ _ (Ne.symm haL) hy
  have kpU : Kp (vw p1 H3) (vw (pA a) HU) := vw_mono fun b o h f e => ⟨pA_ok.mpr ((p1_ok b).mp h).1, b3u _ _ ((p1_ok b).mp h).1 e⟩
  have hAL : AlAt (vw (pA a) HU) (.ref L) al := ⟨L, .ref r0, .ref r1, rfl, vw_put (pA_ok.mpr (Ne.symm haL)) hLu, ⟨r0, us0, rfl, kpU.lst hr0, a0.imp fun _ _ r => r.mono kpU⟩, ⟨r1, us1, rfl, kpU.lst hr1, a1.imp fun _ _ r => r.mono kpU⟩⟩
  have inb : ∀ p ∈ ips, ∃ e ∈ bo, e.1 = p := fun p hp => by
    obtain ⟨e, he, e1⟩ := List.mem_map.mp ((hmem p).mpr hp)
    exact ⟨e, he, e1⟩
  have WT : WF ⟨al, bo⟩ := by
    refine ⟨fun h hh => ?_, fun h hh r hr => ?_, hnd, fun e he => ?_, hlt, fun x hx => ?_, fun x hx => ?_, by show bo.length ≤ 60; omega⟩
    · obtain rfl | rfl : h = 0 ∨ h = 1 := by omega
      · show 1 ≤ (al 0).length ∧ (al 0).length ≤ 20
        omega
      · show 1 ≤ (al 1).length ∧ (al 1).length ≤ 20
        omega
    · obtain rfl | rfl : h = 0 ∨ h = 1 := by omega
      · exact ok0 r hr
      · exact ok1 r hr
    · have := rng e.1 ((hmem e.1).mp (List.mem_map.mpr ⟨e, he, rfl⟩))
      show e.1.1 < (al 0).length ∧ e.1.2 < (al 1).length
      rw [en0, en1]
      exact this
    · obtain ⟨p, hp, e1⟩ := cov0 x (by rw [← en0]; exact hx)
      obtain ⟨e, he, e2⟩ := inb p (hsub p hp)
      exact ⟨e, he, by rw [e2, e1]⟩
    · obtain ⟨p, hp, e1⟩ := cov1 x (by rw [← en1]; exact hx)
      obtain ⟨e, he, e2⟩ := inb p (hsub p hp)
      exact ⟨e, he, by rw [e2, e1]⟩
  exact q u L d r0 r1 ⟨al, bo⟩ HU (bH3.trans b3u) hun hLn hdn eu ⟨hAL, _, hdu, hEu⟩ WT hLu nr01 (wu.up (by rw [hqsl]; omega)) (fun h hh => by
    obtain rfl | rfl : h = 0 ∨ h = 1 := by omega
    · show (al 0).length ≤ 4
      omega
    · show (al 1).length ≤ 4
      omega)
end
end TA

set_option Elab.async false
set_option maxRecDepth 100000
set_option maxHeartbeats 4000000
namespace TA
open PySem L2 PyProof.Rows
set_option linter.unusedVariables false
/-! how much is shown, with leaves of some length -/
structure Tn (d : PyData) (w n : Nat) : Prop where
  s : d.showable = true
  l : d.leavesShort 48 = true
  w : d.weight ≤ w
  d : d.depth ≤ n
theorem Tn.up {d : PyData} {w w' n n' : Nat} (t : Tn d w n) (h : w ≤ w') (h2 : n ≤ n') : Tn d w' n' := ⟨t.s, t.l, Nat.le_trans t.w h, Nat.le_trans t.d h2⟩
theorem tn_all {w n : Nat} : ∀ {ds : List PyData}, (∀ d ∈ ds, Tn d w n) → PyData.showableAll ds = true ∧ PyData.leavesShortAll 48 ds = true ∧ PyData.weightAll ds ≤ (w + 1) * ds.length ∧ PyData.depthAll ds ≤ n
  | [], _ => ⟨by rw [PyData.showableAll], by rw [PyData.leavesShortAll], by rw [PyData.weightAll]; exact Nat.zero_le _, by rw [PyData.depthAll]; exact Nat.zero_le _⟩
  | d :: ds, q => by
    obtain ⟨a, b, c, e⟩ := tn_all (ds := ds) fun x hx => q x (List.mem_cons_of_mem _ hx)
    have t := q d List.mem_cons_self
    refine ⟨by rw [PyData.showableAll, t.s, a]; rfl, by rw [PyData.leavesShortAll, t.l, b]; rfl, ?_, ?_⟩
    · rw [PyData.weightAll, List.length_cons, Nat.mul_succ]
      have := t.w
      omega
    · rw [PyData.depthAll]
      exact Nat.max_le.mpr ⟨t.d, e⟩
theorem tn_list {w n m : Nat} {ds : List PyData} (q : ∀ d ∈ ds, Tn d w n) (hm : ds.length ≤ m) : Tn (.list ds) ((w + 1) * m) (n + 1) := by
  obtain ⟨a, b, c, e⟩ := tn_all q
  refine ⟨by rw [PyData.showable]; exact a, by rw [PyData.leavesShort]; exact b, ?_, by rw [PyData.depth]; omega⟩
  rw [PyData.weight]
  exact Nat.le_trans c (Nat.mul_le_mul_left _ hm)
theorem tn_tuple {w n m : Nat} {ds : List PyData} (q : ∀ d ∈ ds, Tn d w n) (hm : ds.length ≤ m) : Tn (.tuple ds) ((w + 1) * m) (n + 1) := by
  obtain ⟨a, b, c, e⟩ := tn_all q
  refine ⟨by rw [PyData.showable]; exact a, by rw [PyData.leavesShort]; exact b, ?_, by rw [PyData.depth]; omega⟩
  rw [PyData.weight]
  exact Nat.le_trans c (Nat.mul_le_mul_left _ hm)
theorem tn_dict {a b n m : Nat} {kvs : List (PyData × PyData)} (q : ∀ e ∈ kvs, Tn e.1 a n ∧ Tn e.2 b n) (hm : kvs.length ≤ m) : Tn (.dict kvs) ((a + b + 2) * m) (n + 1) := by
  have all : ∀ kvs : List (PyData × PyData), (∀ e ∈ kvs, Tn e.1 a n ∧ Tn e.2 b n) → PyData.showableKv kvs = true ∧ PyData.leavesShortKv 48 kvs = true ∧ PyData.weightKv kvs ≤ (a + b + 2) * kvs.length ∧ PyData.depthKv kvs ≤ n := fun kvs q => by
    induction kvs with
    | nil => exact ⟨by rw [PyData.showableKv], by rw [PyData.leavesShortKv], by rw [PyData.weightKv]; exact Nat.zero_le _, by rw [PyData.depthKv]; exact Nat.zero_le _⟩
    | cons e r ih =>
      obtain ⟨x, y⟩ := e
      obtain ⟨h1, h2, h3, h4⟩ := ih fun z hz => q z (List.mem_cons_of_mem _ hz)
      obtain ⟨t1, t2⟩ := q (x, y) List.mem_cons_self
      refine ⟨by rw [PyData.showableKv, t1.s, t2.s, h1]; rfl, by rw [PyData.leavesShortKv, t1.l, t2.l, h2]; rfl, ?_, ?_⟩
      · rw [PyData.weightKv, List.length_cons, Nat.mul_succ]
        have h5 : x.weight ≤ a := t1.w
        have h6 : y.weight ≤ b := t2.w
        omega
      · rw [PyData.depthKv]
        exact Nat.max_le.mpr ⟨Nat.max_le.mpr ⟨t1.d, t2.d⟩, h4⟩
  obtain ⟨h1, h2, h3, h4⟩ := all kvs q
  refine ⟨by rw [PyData.showable]; exact h1, by rw [PyData.leavesShort]; exact h2, ?_, by rw [PyData.depth]; omega⟩
  rw [PyData.weight]
  exact Nat.le_trans h3 (Nat.mul_le_mul_left _ hm)
theorem tn_int {i : Int} (h : okOut i) : Tn (.int i) 6 1 := by
  obtain ⟨a, b⟩ := h
  obtain ⟨k, rfl⟩ : ∃ k : Nat, i = (k : Int) := ⟨i.toNat, by omega⟩
  have hk : k < 64 := by omega
  have all : ∀ k : Nat, k < 64 → (PyData.int (k : Int)).showable = true ∧ (PyData.int (k : Int)).leavesShort 48 = true ∧ (PyData.int (k : Int)).weight ≤ 6 := by decide +kernel
  obtain ⟨h1, h2, h3⟩ := all k hk
  exact ⟨h1, h2, h3, by rw [PyData.depth]; exact Nat.zero_le _⟩
theorem tn_shown {d : PyData} {w n : Nat} (t : Tn d w n) (h : w ≤ 300000) : d.shown.length ≤ sizeLine := by
  have := PyData.shown_le 48 (by decide) d t.l
  have := t.w
  rw [sizeLine_eq]
  omega
/-- data without a dict that stays, and is shown shortly -/
structure DT (K : PySem.W.Frag) (H : Hp) (w n : Nat) (v : V) (d : PyData) : Prop where
  k : DpK K H v d
  nd : d.hasDict = false
  t : Tn d w n
theorem DT.mono {K : PySem.W.Frag} {H H' : Hp} (s : Kp H H') {w n : Nat} {v : V} {d : PyData} (h : DT K H w n v d) : DT K H' w n v d := ⟨h.k.mono s, h.nd, h.t⟩
theorem DT.up {K : PySem.W.Frag} {H : Hp} {w w' n n' : Nat} {v : V} {d : PyData} (h : DT K H w n v d) (a : w ≤ w') (b : n ≤ n') : DT K H w' n' v d := ⟨h.k, h.nd, h.t.up a b⟩
theorem nd_all : ∀ {ds : List PyData}, (∀ d ∈ ds, d.hasDict = false) → PyData.hasDictAll ds = false
  | [], _ => rfl
  | d :: ds, h => by
    rw [PyData.hasDictAll, h d List.mem_cons_self, nd_all fun x hx => h x (List.mem_cons_of_mem _ hx)]
    rfl
theorem dt_lst {K : PySem.W.Frag} {H : Hp} {w n m : Nat} {a : Addr} {xs : List V} {ds : List PyData} (e : H a = some (.lst xs)) (h : A2 (DT K H w n) xs ds) (hm : ds.length ≤ m) : DT K H ((w + 1) * m) (n + 1) (.ref a) (.list ds) := by
  have all : ∀ d ∈ ds, d.hasDict = false ∧ Tn d w n := fun d hd => by
    obtain ⟨i, hi⟩ := List.getElem?_of_mem hd
    clear e hm
    induction h generalizing i with
    | nil => cases hd
    | @cons x y xs ys a _ ih =>
      rcases List.mem_cons.mp hd with rfl | hd
      · exact ⟨a.nd, a.t⟩
      · obtain ⟨j, hj⟩ := List.getElem?_of_mem hd
        exact ih hd j hj
  exact ⟨dpk_lst e (h.imp fun _ _ z => z.k), by rw [PyData.hasDict]; exact nd_all fun d hd => (all d hd).1, tn_list (fun d hd => (all d hd).2) hm⟩
theorem dt_tup {K : PySem.W.Frag} {H : Hp} {w n m : Nat} {a : Addr} {xs : List V} {ds : List PyData} (e : H a = some (.tup xs)) (h : A2 (DT K H w n) xs ds) (hm : ds.length ≤ m) : DT K H ((w + 1) * m) (n + 1) (.ref a) (.tuple ds) := by
  have all : ∀ d ∈ ds, d.hasDict = false ∧ Tn d w n := fun d hd => by
    obtain ⟨i, hi⟩ := List.getElem?_of_mem hd
    clear e hm
    induction h generalizing i with
    | nil => cases hd
    | @cons x y xs ys a _ ih =>
      rcases List.mem_cons.mp hd with rfl | hd
      · exact ⟨a.nd, a.t⟩
      · obtain ⟨j, hj⟩ := List.getElem?_of_mem hd
        exact ih hd j hj
  exact ⟨dpk_tup e (h.imp fun _ _ z => z.k), by rw [PyData.hasDict]; exact nd_all fun d hd => (all d hd).1, tn_tuple (fun d hd => (all d hd).2) hm⟩
theorem dt_int {K : PySem.W.Frag} {H : Hp} {i : Int} (h : okOut i) : DT K H 6 1 (.int i) (.int i) := ⟨dpk_int i, by rw [PyData.hasDict], tn_int h⟩
theorem dt_ints {K : PySem.W.Frag} {H : Hp} : ∀ {row : List Int}, (∀ x ∈ row, okOut x) → A2 (DT K H 6 1) (row.map V.int) (row.map PyData.int)
  | [], _ => .nil
  | x :: row, h => .cons (dt_int (h x List.mem_cons_self)) (dt_ints fun y hy => h y (List.mem_cons_of_mem _ hy))
theorem dt_non {K : PySem.W.Frag} {H : Hp} : DT K H 6 1 .non .none := ⟨dpk_non, by rw [PyData.hasDict], ⟨by rw [PyData.showable], by rw [PyData.leavesShort], by rw [PyData.weight]; decide, by rw [PyData.depth]; decide⟩⟩
theorem dt_of {K : PySem.W.Frag} {H : Hp} {v : V} {d : PyData} (k : DpK K H v d) (h : (!d.hasDict && d.showable && d.leavesShort 48 && decide (d.weight ≤ 200) && decide (d.depth ≤ 2)) = true) : DT K H 200 2 v d := by
  simp only [Bool.and_eq_true, Bool.not_eq_true', decide_eq_true_eq] at h
  exact ⟨k, h.1.1.1.1, h.1.1.1.2, h.1.1.2, h.1.2, h.2⟩
/-! slices -/
theorem cut_take {xs : List V} {k : Nat} (h : k ≤ xs.length) : cutV xs none (some (k : Int)) = xs.take k := by
  unfold cutV
  rw [HT.sIx_none, HT.sIx_nat, Nat.min_eq_left h]
  rfl
theorem cut_drop {xs : List V} {k : Nat} (h : k ≤ xs.length) : cutV xs (some (k : Int)) none = xs.drop k := by
  unfold cutV
  rw [HT.sIx_nat, HT.sIx_none, Nat.min_eq_left h]
  exact List.take_of_length_le (by rw [List.length_drop]; exact Nat.le_refl _)
theorem cut_last {xs : List V} (h : 1 ≤ xs.length) : cutV xs none (some (-1)) = xs.take (xs.length - 1) := by
  unfold cutV
  rw [HT.sIx_none]
  have e : HT.sIx xs.length xs.length (some (-1)) = xs.length - 1 := by
    show (if (-1 : Int) < 0 then ((-1 : Int) + (xs.length : Int)).toNat else min (-1 : Int).toNat xs.length) = _
    rw [if_pos (by decide)]
    omega
  rw [e]
  rfl
end TA

set_option Elab.async false
set_option maxRecDepth 100000
set_option maxHeartbeats 4000000
namespace TA
open PySem L2 PyProof.Rows
set_option linter.unusedVariables false
theorem But.vw {a : Addr} {H H' : Hp} (b : But a H H') : Same (vw (pA a) H) (vw (pA a) H') := fun x o e => by
  obtain ⟨h1, h2⟩ := vw_some e
  exact vw_put h1 (b _ _ (pA_ok.mp h1) h2)
theorem vw_same {p : Addr → Bool} {H : Hp} : Same (vw p H) H := fun x o e => (vw_some e).2
theorem a2app {α β : Type} {R : α → β → Prop} : ∀ {xs : List α} {ys : List β} {us : List α} {vs : List β}, A2 R xs ys → A2 R us vs → A2 R (xs ++ us) (ys ++ vs)
  | _, _, _, _, .nil, h => h
  | _, _, _, _, .cons a b, h => .cons a (a2app b h)
/-- what is told of rows that choose nothing -/
def RowsOdd (K : PySem.W.Frag) (V : Hp) (T : TD) (v : L2.V) : Prop := ∃ d, DT K V 30000 8 v d ∧ (∀ ds, d = .list ds → ∀ e ∈ ds, small e) ∧ chosenB d (T.al 0).length (T.al 1).length = false
def spOR (K : PySem.W.Frag) : Sp := fun vs H Q _ => ∃ (a al : Addr) (n : Int) (T : TD) (ch : Nat → List Int), vs = [.ref a, .ref al] ∧ WellAt H a n ∧ 0 ≤ n ∧ n < 900000 ∧ WF T ∧ GoodC (vw (pA a) H) T al ch ∧
  ∀ (v : V) (H' : Hp), But a H H' → WellAt H' a (n + 10) → RowsOdd K (vw (pA a) H') T v → Q v H'
/-- a row with something odd in it -/
theorem rowB_odd {row : List Int} {k m : Nat} {de : PyData} (hk : k < row.length) (ho : outB de = false) : rowB (.list ((row.take k).map .int ++ [de] ++ (row.drop (k + 1)).map .int)) m = false := by
  show (decide _ && (((row.take k).map PyData.int ++ [de] ++ (row.drop (k + 1)).map PyData.int).map outB).all id) = false
  rw [List.map_append, List.map_append, List.all_append, List.all_append]
  show (_ && ((_ && ((outB de) && true)) && _)) = false
  rw [ho]
  simp
theorem rowB_len {row : List Int} {m : Nat} (h : row.length ≠ m) : rowB (rowD row) m = false := by
  show (decide ((row.map PyData.int).length = m) && _) = false
  rw [List.length_map, decide_eq_false h]
  rfl
section
variable {P : Program} {w : World} {K : PySem.W.Frag} {mg : Str → Option Value} {base : Heap}
abbrev nOR : List Str := ["_law_state", "_law_rows", "_law_hand", "_law_row", "_law_k", "_law_odd_here", "_law_some", "_law_found"]
theorem sc_or : FnScope nOR ["_law_state", "_law_rows"] (defScope s__law_odd_rows) := ⟨rfl, rfl, rfl, by decide +kernel, rfl, by decide +kernel, by decide +kernel⟩
theorem ixN_two {h : Nat} (hh : h < 2) : ixN 2 (h : Int) = some h := by
  obtain rfl | rfl : h = 0 ∨ h = 1 := by omega
  · rfl
  · rfl
theorem ok_or {f g1 g2 : Addr} {fd d1 d2 : FuncData} (F : Fun K "_law_odd_rows" "_law_odd_rows" s__law_odd_rows f fd) (T : Txt K mg) (Dg : Def P w K mg base "_law_digit" ["_law_state", "_law_base"] 1 spDigit g1 d1) (Of : Def P w K mg base "_law_of" nOf 2 (spOf K) g2 d2) : FnOk P w K mg base CX0 3 f fd ["_law_state", "_law_rows"] (spOR K) := by
  refine F.ok sc_or (fun vs H Q E h => ?_) (fun cdv A outer s H vs Q E hr h => ?_)
  · obtain ⟨a, al, n, D, ch, rfl, _⟩ := h
    rfl
  obtain ⟨a, al, n, D, ch, rfl, w, hn0, hn1, hW, gC, q⟩ := h
  have nd := sc_or.nd
  refine ⟨_, (pss_cons (ps_set (i := 2) nd rfl (Or.inl rfl) (pe_call Dg.G (hr.mono (by decide)) rfl Dg.m Dg.k Dg.b .nil pass0 (pa_cons (pv 0) (pa_cons pe_int pa_nil))))
    (pss_cons (ps_set (i := 3) nd rfl (Or.inl rfl) (pe_ix ix_list (pv 1) (pv 2) (fun _ _ => rfl)))
    (pss_cons (ps_set (i := 4) nd rfl (Or.inl rfl) (pe_call Dg.G (hr.mono (by decide)) rfl Dg.m Dg.k Dg.b .nil pass0 (pa_cons (pv 0) (pa_cons (pe_callB call_len_seq (by rfl) T.len PySem.boot_len (pa_cons (pv 3) pa_nil)) pa_nil))))
    (pss_cons (ps_set (i := 5) nd rfl (Or.inl rfl) (pe_call Of.G (hr.mono (by decide)) rfl Of.m Of.k Of.b .nil pass0 (pa_cons (pv 0) (pa_cons (pe_lst (pa_cons pe_int (pa_cons (pe_un un_neg pe_int) (pa_cons pe_bl (pa_cons pe_non (pa_cons pe_str (pa_cons (pe_tup (pa_cons pe_int pa_nil)) (pa_cons (pe_lst (pa_cons pe_int pa_nil)) (pa_cons (pe_op op_pow pe_int pe_int) pa_nil))))))))) pa_nil))))
    (pss_cons (ps_set (i := 6) nd rfl (Or.inl rfl) (pe_lst (pa_cons (pe_slice sl_list (pv 3) po_none (po_some (pe_un un_neg pe_int))) (pa_cons (pe_op op_cat (pv 3) (pe_lst (pa_cons pe_int pa_nil))) (pa_cons (pe_op op_cat (pe_op op_cat (pe_slice sl_list (pv 3) po_none (po_some (pv 4))) (pe_lst (pa_cons (pv 5) pa_nil))) (pe_slice sl_list (pv 3) (po_some (pe_op op_add (pv 4) pe_int)) po_none)) (pa_cons (pe_callTy call_tuple_of (by rfl) T.tuple boot_tuple (pa_cons (pv 3) pa_nil)) (pa_cons pe_non (pa_cons (pe_op op_cat (pe_op op_cat (pe_slice sl_list (pv 3) po_none (po_some (pv 4))) (pe_lst (pa_cons (pv 5) pa_nil))) (pe_slice sl_list (pv 3) (po_some (pe_op op_add (pv 4) pe_int)) po_none)) pa_nil))))))))
    (pss_cons (ps_set (i := 7) nd rfl (Or.inl rfl) (pe_callTy call_list_of (by rfl) T.list boot_list (pa_cons (pv 1) pa_nil)))
    (pss_cons (ps_asg (pe_call Of.G (hr.mono (by decide)) rfl Of.m Of.k Of.b .nil pass0 (pa_cons (pv 0) (pa_cons (pv 6) pa_nil))) (pg_sub (pv 7) (pv 2) set_list))
    (pss_one (ps_ret (pe_call Of.G (hr.mono (by decide)) rfl Of.m Of.k Of.b .nil pass0 (pa_cons (pv 0) (pa_cons (pe_lst (pa_cons (pv 7) (pa_cons (pv 7) (pa_cons (pv 7) (pa_cons (pv 7) (pa_cons (pe_op op_cat (pv 7) (pe_lst (pa_cons (pe_lst (pa_cons pe_int pa_nil)) pa_nil))) (pa_cons (pe_callTy call_tuple_of (by rfl) T.tuple boot_tuple (pa_cons (pv 1) pa_nil)) (pa_cons (pe_slice sl_list (pv 1) po_none (po_some pe_int)) (pa_cons pe_non pa_nil))))))))) pa_nil)))))))))))), ?_⟩
  have b : But a H H := fun _ _ _ e => e
  have szl : ∀ m : Nat, m ≤ 1000 → m ≤ sizeLine := fun m h => Nat.le_trans h (by decide)
  obtain ⟨ta, xs0, ea, hal, ar⟩ := id gC.hal
  obtain rfl : al = ta := by injection ea
  obtain ⟨r0, r1, rfl, hr0, hr1⟩ : ∃ r0 r1, xs0 = [V.ref r0, V.ref r1] ∧ (vw (pA a) H) r0 = some (.lst ((ch 0).map V.int)) ∧ (vw (pA a) H) r1 = some (.lst ((ch 1).map V.int)) := by
    cases ar with
    | cons z0 ar =>
    cases ar with
    | cons z1 ar =>
    cases ar
    obtain ⟨r0, rfl, h0⟩ := z0
    obtain ⟨r1, rfl, h1⟩ := z1
    exact ⟨r0, r1, rfl, h0, h1⟩
  obtain ⟨cal, hal⟩ := vw_some hal
  have cal := pA_ok.mp cal
  obtain ⟨c0, hr0⟩ := vw_some hr0
  have c0 := pA_ok.mp c0
  obtain ⟨c1, hr1⟩ := vw_some hr1
  have c1 := pA_ok.mp c1
  have l0 := gC.len 0 (by decide)
  have l1 := gC.len 1 (by decide)
  have q0 := hW.n0 0 (by decide)
  have q1 := hW.n0 1 (by decide)
  refine ⟨_, rfl, a, n, 2, rfl, .inr w, by omega, by omega, by decide, by decide, fun rh H1 rh0 rh1 b1 w1 => ?_⟩
  have hal := b1 _ _ cal hal
  have hr0 := b1 _ _ c0 hr0
  have hr1 := b1 _ _ c1 hr1
  have b := b.trans b1
  have w := w1
  obtain ⟨hh, rfl⟩ : ∃ h : Nat, rh = (h : Int) := ⟨rh.toNat, by omega⟩
  have hh2 : hh < 2 := by omega
  obtain ⟨rr, hat, hrr, crr⟩ : ∃ rr, ([V.ref r0, V.ref r1] : List V)[hh]? = some (.ref rr) ∧ H1 rr = some (.lst ((ch hh).map V.int)) ∧ rr ≠ a := by
    obtain rfl | rfl : hh = 0 ∨ hh = 1 := by omega
    · exact ⟨r0, rfl, hr0, c0⟩
    · exact ⟨r1, rfl, hr1, c1⟩
  have lh : 1 ≤ (ch hh).length ∧ (ch hh).length ≤ 20 ∧ (ch hh).length = (D.al hh).length ∧ ∀ x ∈ ch hh, okOut x := by
    obtain rfl | rfl : hh = 0 ∨ hh = 1 := by omega
    · exact ⟨by omega, by omega, l0, gC.outc 0 (by decide)⟩
    · exact ⟨by omega, by omega, l1, gC.outc 1 (by decide)⟩
  obtain ⟨lh1, lh2, lh3, lh4⟩ := lh
  refine ⟨_, rfl, _, rfl, al, _, _, _, rfl, rfl, SqL.of hal, atI_nat hat, ?_⟩
  refine ⟨_, rfl, _, rfl, rr, _, rfl, .inl (SqL.of hrr), a, _, (((ch hh).length : Nat) : Int), ?_, .inr w, by omega, by omega, by omega, by omega, fun rk H2 rk0 rk1 b2 w2 => ?_⟩
  · rw [List.length_map]
    rfl
  have hal := b2 _ _ cal hal
  have hr0 := b2 _ _ c0 hr0
  have hr1 := b2 _ _ c1 hr1
  have hrr := b2 _ _ crr hrr
  have b := b.trans b2
  have w := w2
  obtain ⟨k, rfl⟩ : ∃ k : Nat, rk = (k : Int) := ⟨rk.toNat, by omega⟩
  have hk : k < (ch hh).length := by omega
  refine ⟨_, rfl, _, rfl, szl _ (by show 1 ≤ 1000; decide), fun z0 hz0 => ?_⟩
  have t1 := same_new hz0 (.tup [V.int 0])
  have nz0 : z0 ≠ a := Ne.symm (w.ne hz0)
  have ez0 : (upd H2 z0 (.tup [V.int 0])) z0 = some (.tup [V.int 0]) := upd_same
  have hal := t1 _ _ hal
  have hr0 := t1 _ _ hr0
  have hr1 := t1 _ _ hr1
  have hrr := t1 _ _ hrr
  have b := b.trans (.same t1)
  have w := w.same t1
  generalize upd H2 z0 (.tup [V.int 0]) = G1 at t1 ez0 hal hr0 hr1 hrr b w ⊢
  clear t1
  refine ⟨szl _ (by show 1 ≤ 1000; decide), fun y0 hy0 => ?_⟩
  have t2 := same_new hy0 (.lst [V.int 0])
  have ny0 : y0 ≠ a := Ne.symm (w.ne hy0)
  have ey0 : (upd G1 y0 (.lst [V.int 0])) y0 = some (.lst [V.int 0]) := upd_same
  have hal := t2 _ _ hal
  have hr0 := t2 _ _ hr0
  have hr1 := t2 _ _ hr1
  have hrr := t2 _ _ hrr
  have ez0 := t2 _ _ ez0
  have b := b.trans (.same t2)
  have w := w.same t2
  generalize upd G1 y0 (.lst [V.int 0]) = G2 at t2 ey0 hal hr0 hr1 hrr ez0 b w ⊢
  clear t2
  refine ⟨_, _, rfl, rfl, ⟨by decide, by decide, by decide⟩, szl _ (by show 8 ≤ 1000; decide), fun L0 hL0 => ?_⟩
  have t3 := same_new hL0 (.lst [V.int 64, (fun i : Int => V.int (-i)) 1, V.bl true, V.non, V.str "0", V.ref z0, V.ref y0, (fun i j : Int => V.int (i ^ j.toNat)) 10 40])
  have nL0 : L0 ≠ a := Ne.symm (w.ne hL0)
  have eL0 : (upd G2 L0 (.lst [V.int 64, (fun i : Int => V.int (-i)) 1, V.bl true, V.non, V.str "0", V.ref z0, V.ref y0, (fun i j : Int => V.int (i ^ j.toNat)) 10 40])) L0 = some (.lst [V.int 64, (fun i : Int => V.int (-i)) 1, V.bl true, V.non, V.str "0", V.ref z0, V.ref y0, (fun i j : Int => V.int (i ^ j.toNat)) 10 40]) := upd_same
  have hal := t3 _ _ hal
  have hr0 := t3 _ _ hr0
  have hr1 := t3 _ _ hr1
  have hrr := t3 _ _ hrr
  have ez0 := t3 _ _ ez0
  have ey0 := t3 _ _ ey0
  have b := b.trans (.same t3)
  have w := w.same t3
  generalize upd G2 L0 (.lst [V.int 64, (fun i : Int => V.int (-i)) 1, V.bl true, V.non, V.str "0", V.ref z0, V.ref y0, (fun i j : Int => V.int (i ^ j.toNat)) 10 40]) = G3 at t3 eL0 hal hr0 hr1 hrr ez0 ey0 b w ⊢
  clear t3
  have eL0 : G3 L0 = some (.lst [V.int 64, V.int (-1), V.bl true, V.non, V.str "0", V.ref z0, V.ref y0, V.int (10 ^ 40)]) := eL0
  refine ⟨a, L0, _, _, rfl, .inr w, by omega, by omega, eL0, nL0, (by show 0 < 8; decide), (by show 8 < 1000; decide), fun j0 oe H3 hj0 b3 w3 => ?_⟩
  have hal := b3 _ _ cal hal
  have hr0 := b3 _ _ c0 hr0
  have hr1 := b3 _ _ c1 hr1
  have hrr := b3 _ _ crr hrr
  have ez0 := b3 _ _ nz0 ez0
  have ey0 := b3 _ _ ny0 ey0
  have eL0 := b3 _ _ nL0 eL0
  have b := b.trans b3
  have w := w3
  have at3 : ∀ {b : Addr} {o : HO}, b ≠ a → H3 b = some o → vw (pA a) H3 b = some o := fun n e => vw_put (pA_ok.mpr n) e
  obtain ⟨de, hde, hob⟩ : ∃ de, DT K (vw (pA a) H3) 200 2 oe de ∧ outB de = false := by
    have hj8 : j0 < 8 := (List.getElem?_eq_some_iff.mp hj0).1
    obtain rfl | rfl | rfl | rfl | rfl | rfl | rfl | rfl : j0 = 0 ∨ j0 = 1 ∨ j0 = 2 ∨ j0 = 3 ∨ j0 = 4 ∨ j0 = 5 ∨ j0 = 6 ∨ j0 = 7 := by omega
    · cases hj0
      exact ⟨.int 64, dt_of (dpk_int _) (by decide +kernel), by decide +kernel⟩
    · cases hj0
      exact ⟨.int (-1), dt_of (dpk_int _) (by decide +kernel), by decide +kernel⟩
    · cases hj0
      exact ⟨.bool true, dt_of (dpk_bl _) (by decide +kernel), rfl⟩
    · cases hj0
      exact ⟨.none, dt_of dpk_non (by decide +kernel), rfl⟩
    · cases hj0
      exact ⟨.str "0", dt_of (dpk_str _) (by decide +kernel), rfl⟩
    · cases hj0
      exact ⟨.tuple [.int 0], dt_of (dpk_tup (at3 nz0 ez0) (.cons (dpk_int 0) .nil)) (by decide +kernel), rfl⟩
    · cases hj0
      exact ⟨.list [.int 0], dt_of (dpk_lst (at3 ny0 ey0) (.cons (dpk_int 0) .nil)) (by decide +kernel), rfl⟩
    · cases hj0
      exact ⟨.int (10 ^ 40), dt_of (dpk_int _) (by decide +kernel), by decide +kernel⟩
  have c : But a H3 H3 := fun _ _ _ e => e
  have hml : ((ch hh).map V.int).length = (ch hh).length := List.length_map _
  clear hj0 at3
  refine ⟨_, rfl, _, rfl, _, rfl, rr, _, rfl, SqL.of hrr, fun s0 hs0 => ?_⟩
  have hc0 := cut_last (xs := (ch hh).map V.int) (by omega)
  rw [hml] at hc0
  rw [hc0]
  have t4 := same_new hs0 (.lst (((ch hh).map V.int).take ((ch hh).length - 1)))
  have ns0 : s0 ≠ a := Ne.symm (w.ne hs0)
  have es0 : (upd H3 s0 (.lst (((ch hh).map V.int).take ((ch hh).length - 1)))) s0 = some (.lst (((ch hh).map V.int).take ((ch hh).length - 1))) := upd_same
  have hal := t4 _ _ hal
  have hr0 := t4 _ _ hr0
  have hr1 := t4 _ _ hr1
  have hrr := t4 _ _ hrr
  have ez0 := t4 _ _ ez0
  have ey0 := t4 _ _ ey0
  have eL0 := t4 _ _ eL0
  have b := b.trans (.same t4)
  have c := c.trans (.same t4)
  have w := w.same t4
  generalize upd H3 s0 (.lst (((ch hh).map V.int).take ((ch hh).length - 1))) = G4 at t4 es0 hal hr0 hr1 hrr ez0 ey0 eL0 b w c ⊢
  clear t4
  refine ⟨_, rfl, szl _ (by show 1 ≤ 1000; decide), fun u1 hu1 => ?_⟩
  have t5 := same_new hu1 (.lst [V.int 0])
  have nu1 : u1 ≠ a := Ne.symm (w.ne hu1)
  have eu1 : (upd G4 u1 (.lst [V.int 0])) u1 = some (.lst [V.int 0]) := upd_same
  have hal := t5 _ _ hal
  have hr0 := t5 _ _ hr0
  have hr1 := t5 _ _ hr1
  have hrr := t5 _ _ hrr
  have ez0 := t5 _ _ ez0
  have ey0 := t5 _ _ ey0
  have eL0 := t5 _ _ eL0
  have es0 := t5 _ _ es0
  have b := b.trans (.same t5)
  have c := c.trans (.same t5)
  have w := w.same t5
  generalize upd G4 u1 (.lst [V.int 0]) = G5 at t5 eu1 hal hr0 hr1 hrr ez0 ey0 eL0 es0 b w c ⊢
  clear t5
  refine ⟨rr, u1, _, _, rfl, rfl, hrr, eu1, szl _ (by rw [hml]; show _ + 1 ≤ 1000; omega), fun s1 hs1 => ?_⟩
  have t6 := same_new hs1 (.lst ((ch hh).map V.int ++ [V.int 0]))
  have ns1 : s1 ≠ a := Ne.symm (w.ne hs1)
  have es1 : (upd G5 s1 (.lst ((ch hh).map V.int ++ [V.int 0]))) s1 = some (.lst ((ch hh).map V.int ++ [V.int 0])) := upd_same
  have hal := t6 _ _ hal
  have hr0 := t6 _ _ hr0
  have hr1 := t6 _ _ hr1
  have hrr := t6 _ _ hrr
  have ez0 := t6 _ _ ez0
  have ey0 := t6 _ _ ey0
  have eL0 := t6 _ _ eL0
  have es0 := t6 _ _ es0
  have eu1 := t6 _ _ eu1
  have b := b.trans (.same t6)
  have c := c.trans (.same t6)
  have w := w.same t6
  generalize upd G5 s1 (.lst ((ch hh).map V.int ++ [V.int 0])) = G6 at t6 es1 hal hr0 hr1 hrr ez0 ey0 eL0 es0 eu1 b w c ⊢
  clear t6
  refine ⟨_, rfl, _, rfl, _, rfl, rr, _, rfl, SqL.of hrr, fun pa2 hpa2 => ?_⟩
  rw [cut_take (xs := (ch hh).map V.int) (k := k) (by omega)]
  have t7 := same_new hpa2 (.lst (((ch hh).map V.int).take k))
  have npa2 : pa2 ≠ a := Ne.symm (w.ne hpa2)
  have epa2 : (upd G6 pa2 (.lst (((ch hh).map V.int).take k))) pa2 = some (.lst (((ch hh).map V.int).take k)) := upd_same
  have hal := t7 _ _ hal
  have hr0 := t7 _ _ hr0
  have hr1 := t7 _ _ hr1
  have hrr := t7 _ _ hrr
  have ez0 := t7 _ _ ez0
  have ey0 := t7 _ _ ey0
  have eL0 := t7 _ _ eL0
  have es0 := t7 _ _ es0
  have eu1 := t7 _ _ eu1
  have es1 := t7 _ _ es1
  have b := b.trans (.same t7)
  have c := c.trans (.same t7)
  have w := w.same t7
  generalize upd G6 pa2 (.lst (((ch hh).map V.int).take k)) = G7 at t7 epa2 hal hr0 hr1 hrr ez0 ey0 eL0 es0 eu1 es1 b w c ⊢
  clear t7
  refine ⟨_, rfl, szl _ (by show 1 ≤ 1000; decide), fun pb2 hpb2 => ?_⟩
  have t8 := same_new hpb2 (.lst [oe])
  have npb2 : pb2 ≠ a := Ne.symm (w.ne hpb2)
  have epb2 : (upd G7 pb2 (.lst [oe])) pb2 = some (.lst [oe]) := upd_same
  have hal := t8 _ _ hal
  have hr0 := t8 _ _ hr0
  have hr1 := t8 _ _ hr1
  have hrr := t8 _ _ hrr
  have ez0 := t8 _ _ ez0
  have ey0 := t8 _ _ ey0
  have eL0 := t8 _ _ eL0
  have es0 := t8 _ _ es0
  have eu1 := t8 _ _ eu1
  have es1 := t8 _ _ es1
  have epa2 := t8 _ _ epa2
  have b := b.trans (.same t8)
  have c := c.trans (.same t8)
  have w := w.same t8
  generalize upd G7 pb2 (.lst [oe]) = G8 at t8 epb2 hal hr0 hr1 hrr ez0 ey0 eL0 es0 eu1 es1 epa2 b w c ⊢
  clear t8
  refine ⟨pa2, pb2, _, _, rfl, rfl, epa2, epb2, szl _ (by rw [List.length_take]; show _ + 1 ≤ 1000; omega), fun pc2 hpc2 => ?_⟩
  have t9 := same_new hpc2 (.lst (((ch hh).map V.int).take k ++ [oe]))
  have npc2 : pc2 ≠ a := Ne.symm (w.ne hpc2)
  have epc2 : (upd G8 pc2 (.lst (((ch hh).map V.int).take k ++ [oe]))) pc2 = some (.lst (((ch hh).map V.int).take k ++ [oe])) := upd_same
  have hal := t9 _ _ hal
  have hr0 := t9 _ _ hr0
  have hr1 := t9 _ _ hr1
  have hrr := t9 _ _ hrr
  have ez0 := t9 _ _ ez0
  have ey0 := t9 _ _ ey0
  have eL0 := t9 _ _ eL0
  have es0 := t9 _ _ es0
  have eu1 := t9 _ _ eu1
  have es1 := t9 _ _ es1
  have epa2 := t9 _ _ epa2
  have epb2 := t9 _ _ epb2
  have b := b.trans (.same t9)
  have c := c.trans (.same t9)
  have w := w.same t9
  generalize upd G8 pc2 (.lst (((ch hh).map V.int).take k ++ [oe])) = G9 at t9 epc2 hal hr0 hr1 hrr ez0 ey0 eL0 es0 eu1 es1 epa2 epb2 b w c ⊢
  clear t9
  refine ⟨_, rfl, _, rfl, _, _, rfl, rfl, _, rfl, rr, _, rfl, SqL.of hrr, fun pd2 hpd2 => ?_⟩
  have hcd := cut_drop (xs := (ch hh).map V.int) (k := k + 1) (by omega)
  rw [show (((k + 1 : Nat) : Int)) = (k : Int) + 1 from rfl] at hcd
  rw [hcd]
  clear hcd
  have t10 := same_new hpd2 (.lst (((ch hh).map V.int).drop (k + 1)))
  have npd2 : pd2 ≠ a := Ne.symm (w.ne hpd2)
  have epd2 : (upd G9 pd2 (.lst (((ch hh).map V.int).drop (k + 1)))) pd2 = some (.lst (((ch hh).map V.int).drop (k + 1))) := upd_same
  have hal := t10 _ _ hal
  have hr0 := t10 _ _ hr0
  have hr1 := t10 _ _ hr1
  have hrr := t10 _ _ hrr
  have ez0 := t10 _ _ ez0
  have ey0 := t10 _ _ ey0
  have eL0 := t10 _ _ eL0
  have es0 := t10 _ _ es0
  have eu1 := t10 _ _ eu1
  have es1 := t10 _ _ es1
  have epa2 := t10 _ _ epa2
  have epb2 := t10 _ _ epb2
  have epc2 := t10 _ _ epc2
  have b := b.trans (.same t10)
  have c := c.trans (.same t10)
  have w := w.same t10
  generalize upd G9 pd2 (.lst (((ch hh).map V.int).drop (k + 1))) = G10 at t10 epd2 hal hr0 hr1 hrr ez0 ey0 eL0 es0 eu1 es1 epa2 epb2 epc2 b w c ⊢
  clear t10
  refine ⟨pc2, pd2, _, _, rfl, rfl, epc2, epd2, szl _ (by rw [List.length_append, List.length_take, List.length_drop]; show _ + 1 + _ ≤ 1000; omega), fun s2 hs2 => ?_⟩
  have t11 := same_new hs2 (.lst (((ch hh).map V.int).take k ++ [oe] ++ ((ch hh).map V.int).drop (k + 1)))
  have ns2 : s2 ≠ a := Ne.symm (w.ne hs2)
  have es2 : (upd G10 s2 (.lst (((ch hh).map V.int).take k ++ [oe] ++ ((ch hh).map V.int).drop (k + 1)))) s2 = some (.lst (((ch hh).map V.int).take k ++ [oe] ++ ((ch hh).map V.int).drop (k + 1))) := upd_same
  have hal := t11 _ _ hal
  have hr0 := t11 _ _ hr0
  have hr1 := t11 _ _ hr1
  have hrr := t11 _ _ hrr
  have ez0 := t11 _ _ ez0
  have ey0 := t11 _ _ ey0
  have eL0 := t11 _ _ eL0
  have es0 := t11 _ _ es0
  have eu1 := t11 _ _ eu1
  have es1 := t11 _ _ es1
  have epa2 := t11 _ _ epa2
  have epb2 := t11 _ _ epb2
  have epc2 := t11 _ _ epc2
  have epd2 := t11 _ _ epd2
  have b := b.trans (.same t11)
  have c := c.trans (.same t11)
  have w := w.same t11
  generalize upd G10 s2 (.lst (((ch hh).map V.int).take k ++ [oe] ++ ((ch hh).map V.int).drop (k + 1))) = G11 at t11 es2 hal hr0 hr1 hrr ez0 ey0 eL0 es0 eu1 es1 epa2 epb2 epc2 epd2 b w c ⊢
  clear t11
  refine ⟨_, rfl, rr, _, rfl, .inl ⟨SqL.of hrr, fun s3 hs3 => ?_⟩⟩
  have t12 := same_new hs3 (.tup ((ch hh).map V.int))
  have ns3 : s3 ≠ a := Ne.symm (w.ne hs3)
  have es3 : (upd G11 s3 (.tup ((ch hh).map V.int))) s3 = some (.tup ((ch hh).map V.int)) := upd_same
  have hal := t12 _ _ hal
  have hr0 := t12 _ _ hr0
  have hr1 := t12 _ _ hr1
  have hrr := t12 _ _ hrr
  have ez0 := t12 _ _ ez0
  have ey0 := t12 _ _ ey0
  have eL0 := t12 _ _ eL0
  have es0 := t12 _ _ es0
  have eu1 := t12 _ _ eu1
  have es1 := t12 _ _ es1
  have epa2 := t12 _ _ epa2
  have epb2 := t12 _ _ epb2
  have epc2 := t12 _ _ epc2
  have epd2 := t12 _ _ epd2
  have es2 := t12 _ _ es2
  have b := b.trans (.same t12)
  have c := c.trans (.same t12)
  have w := w.same t12
  generalize upd G11 s3 (.tup ((ch hh).map V.int)) = G12 at t12 es3 hal hr0 hr1 hrr ez0 ey0 eL0 es0 eu1 es1 epa2 epb2 epc2 epd2 es2 b w c ⊢
  clear t12
  refine ⟨_, rfl, _, rfl, _, rfl, rr, _, rfl, SqL.of hrr, fun pa5 hpa5 => ?_⟩
  rw [cut_take (xs := (ch hh).map V.int) (k := k) (by omega)]
  have t13 := same_new hpa5 (.lst (((ch hh).map V.int).take k))
  have npa5 : pa5 ≠ a := Ne.symm (w.ne hpa5)
  have epa5 : (upd G12 pa5 (.lst (((ch hh).map V.int).take k))) pa5 = some (.lst (((ch hh).map V.int).take k)) := upd_same
  have hal := t13 _ _ hal
  have hr0 := t13 _ _ hr0
  have hr1 := t13 _ _ hr1
  have hrr := t13 _ _ hrr
  have ez0 := t13 _ _ ez0
  have ey0 := t13 _ _ ey0
  have eL0 := t13 _ _ eL0
  have es0 := t13 _ _ es0
  have eu1 := t13 _ _ eu1
  have es1 := t13 _ _ es1
  have epa2 := t13 _ _ epa2
  have epb2 := t13 _ _ epb2
  have epc2 := t13 _ _ epc2
  have epd2 := t13 _ _ epd2
  have es2 := t13 _ _ es2
  have es3 := t13 _ _ es3
  have b := b.trans (.same t13)
  have c := c.trans (.same t13)
  have w := w.same t13
  generalize upd G12 pa5 (.lst (((ch hh).map V.int).take k)) = G13 at t13 epa5 hal hr0 hr1 hrr ez0 ey0 eL0 es0 eu1 es1 epa2 epb2 epc2 epd2 es2 es3 b w c ⊢
  clear t13
  refine ⟨_, rfl, szl _ (by show 1 ≤ 1000; decide), fun pb5 hpb5 => ?_⟩
  have t14 := same_new hpb5 (.lst [oe])
  have npb5 : pb5 ≠ a := Ne.symm (w.ne hpb5)
  have epb5 : (upd G13 pb5 (.lst [oe])) pb5 = some (.lst [oe]) := upd_same
  have hal := t14 _ _ hal
  have hr0 := t14 _ _ hr0
  have hr1 := t14 _ _ hr1
  have hrr := t14 _ _ hrr
  have ez0 := t14 _ _ ez0
  have ey0 := t14 _ _ ey0
  have eL0 := t14 _ _ eL0
  have es0 := t14 _ _ es0
  have eu1 := t14 _ _ eu1
  have es1 := t14 _ _ es1
  have epa2 := t14 _ _ epa2
  have epb2 := t14 _ _ epb2
  have epc2 := t14 _ _ epc2
  have epd2 := t14 _ _ epd2
  have es2 := t14 _ _ es2
  have es3 := t14 _ _ es3
  have epa5 := t14 _ _ epa5
  have b := b.trans (.same t14)
  have c := c.trans (.same t14)
  have w := w.same t14
  generalize upd G13 pb5 (.lst [oe]) = G14 at t14 epb5 hal hr0 hr1 hrr ez0 ey0 eL0 es0 eu1 es1 epa2 epb2 epc2 epd2 es2 es3 epa5 b w c ⊢
  clear t14
  refine ⟨pa5, pb5, _, _, rfl, rfl, epa5, epb5, szl _ (by rw [List.length_take]; show _ + 1 ≤ 1000; omega), fun pc5 hpc5 => ?_⟩
  have t15 := same_new hpc5 (.lst (((ch hh).map V.int).take k ++ [oe]))
  have npc5 : pc5 ≠ a := Ne.symm (w.ne hpc5)
  have epc5 : (upd G14 pc5 (.lst (((ch hh).map V.int).take k ++ [oe]))) pc5 = some (.lst (((ch hh).map V.int).take k ++ [oe])) := upd_same
  have hal := t15 _ _ hal
  have hr0 := t15 _ _ hr0
  have hr1 := t15 _ _ hr1
  have hrr := t15 _ _ hrr
  have ez0 := t15 _ _ ez0
  have ey0 := t15 _ _ ey0
  have eL0 := t15 _ _ eL0
  have es0 := t15 _ _ es0
  have eu1 := t15 _ _ eu1
  have es1 := t15 _ _ es1
  have epa2 := t15 _ _ epa2
  have epb2 := t15 _ _ epb2
  have epc2 := t15 _ _ epc2
  have epd2 := t15 _ _ epd2
  have es2 := t15 _ _ es2
  have es3 := t15 _ _ es3
  have epa5 := t15 _ _ epa5
  have epb5 := t15 _ _ epb5
  have b := b.trans (.same t15)
  have c := c.trans (.same t15)
  have w := w.same t15
  generalize upd G14 pc5 (.lst (((ch hh).map V.int).take k ++ [oe])) = G15 at t15 epc5 hal hr0 hr1 hrr ez0 ey0 eL0 es0 eu1 es1 epa2 epb2 epc2 epd2 es2 es3 epa5 epb5 b w c ⊢
  clear t15
  refine ⟨_, rfl, _, rfl, _, _, rfl, rfl, _, rfl, rr, _, rfl, SqL.of hrr, fun pd5 hpd5 => ?_⟩
  have hcd := cut_drop (xs := (ch hh).map V.int) (k := k + 1) (by omega)
  rw [show (((k + 1 : Nat) : Int)) = (k : Int) + 1 from rfl] at hcd
  rw [hcd]
  clear hcd
  have t16 := same_new hpd5 (.lst (((ch hh).map V.int).drop (k + 1)))
  have npd5 : pd5 ≠ a := Ne.symm (w.ne hpd5)
  have epd5 : (upd G15 pd5 (.lst (((ch hh).map V.int).drop (k + 1)))) pd5 = some (.lst (((ch hh).map V.int).drop (k + 1))) := upd_same
  have hal := t16 _ _ hal
  have hr0 := t16 _ _ hr0
  have hr1 := t16 _ _ hr1
  have hrr := t16 _ _ hrr
  have ez0 := t16 _ _ ez0
  have ey0 := t16 _ _ ey0
  have eL0 := t16 _ _ eL0
  have es0 := t16 _ _ es0
  have eu1 := t16 _ _ eu1
  have es1 := t16 _ _ es1
  have epa2 := t16 _ _ epa2
  have epb2 := t16 _ _ epb2
  have epc2 := t16 _ _ epc2
  have epd2 := t16 _ _ epd2
  have es2 := t16 _ _ es2
  have es3 := t16 _ _ es3
  have epa5 := t16 _ _ epa5
  have epb5 := t16 _ _ epb5
  have epc5 := t16 _ _ epc5
  have b := b.trans (.same t16)
  have c := c.trans (.same t16)
  have w := w.same t16
  generalize upd G15 pd5 (.lst (((ch hh).map V.int).drop (k + 1))) = G16 at t16 epd5 hal hr0 hr1 hrr ez0 ey0 eL0 es0 eu1 es1 epa2 epb2 epc2 epd2 es2 es3 epa5 epb5 epc5 b w c ⊢
  clear t16
  refine ⟨pc5, pd5, _, _, rfl, rfl, epc5, epd5, szl _ (by rw [List.length_append, List.length_take, List.length_drop]; show _ + 1 + _ ≤ 1000; omega), fun s5 hs5 => ?_⟩
  have t17 := same_new hs5 (.lst (((ch hh).map V.int).take k ++ [oe] ++ ((ch hh).map V.int).drop (k + 1)))
  have ns5 : s5 ≠ a := Ne.symm (w.ne hs5)
  have es5 : (upd G16 s5 (.lst (((ch hh).map V.int).take k ++ [oe] ++ ((ch hh).map V.int).drop (k + 1)))) s5 = some (.lst (((ch hh).map V.int).take k ++ [oe] ++ ((ch hh).map V.int).drop (k + 1))) := upd_same
  have hal := t17 _ _ hal
  have hr0 := t17 _ _ hr0
  have hr1 := t17 _ _ hr1
  have hrr := t17 _ _ hrr
  have ez0 := t17 _ _ ez0
  have ey0 := t17 _ _ ey0
  have eL0 := t17 _ _ eL0
  have es0 := t17 _ _ es0
  have eu1 := t17 _ _ eu1
  have es1 := t17 _ _ es1
  have epa2 := t17 _ _ epa2
  have epb2 := t17 _ _ epb2
  have epc2 := t17 _ _ epc2
  have epd2 := t17 _ _ epd2
  have es2 := t17 _ _ es2
  have es3 := t17 _ _ es3
  have epa5 := t17 _ _ epa5
  have epb5 := t17 _ _ epb5
  have epc5 := t17 _ _ epc5
  have epd5 := t17 _ _ epd5
  have b := b.trans (.same t17)
  have c := c.trans (.same t17)
  have w := w.same t17
  generalize upd G16 s5 (.lst (((ch hh).map V.int).take k ++ [oe] ++ ((ch hh).map V.int).drop (k + 1))) = G17 at t17 es5 hal hr0 hr1 hrr ez0 ey0 eL0 es0 eu1 es1 epa2 epb2 epc2 epd2 es2 es3 epa5 epb5 epc5 epd5 b w c ⊢
  clear t17
  refine ⟨szl _ (by show 6 ≤ 1000; decide), fun S hS => ?_⟩
  have t18 := same_new hS (.lst [V.ref s0, V.ref s1, V.ref s2, V.ref s3, V.non, V.ref s5])
  have nS : S ≠ a := Ne.symm (w.ne hS)
  have eS : (upd G17 S (.lst [V.ref s0, V.ref s1, V.ref s2, V.ref s3, V.non, V.ref s5])) S = some (.lst [V.ref s0, V.ref s1, V.ref s2, V.ref s3, V.non, V.ref s5]) := upd_same
  have hal := t18 _ _ hal
  have hr0 := t18 _ _ hr0
  have hr1 := t18 _ _ hr1
  have hrr := t18 _ _ hrr
  have ez0 := t18 _ _ ez0
  have ey0 := t18 _ _ ey0
  have eL0 := t18 _ _ eL0
  have es0 := t18 _ _ es0
  have eu1 := t18 _ _ eu1
  have es1 := t18 _ _ es1
  have epa2 := t18 _ _ epa2
  have epb2 := t18 _ _ epb2
  have epc2 := t18 _ _ epc2
  have epd2 := t18 _ _ epd2
  have es2 := t18 _ _ es2
  have es3 := t18 _ _ es3
  have epa5 := t18 _ _ epa5
  have epb5 := t18 _ _ epb5
  have epc5 := t18 _ _ epc5
  have epd5 := t18 _ _ epd5
  have es5 := t18 _ _ es5
  have b := b.trans (.same t18)
  have c := c.trans (.same t18)
  have w := w.same t18
  generalize upd G17 S (.lst [V.ref s0, V.ref s1, V.ref s2, V.ref s3, V.non, V.ref s5]) = G18 at t18 eS hal hr0 hr1 hrr ez0 ey0 eL0 es0 eu1 es1 epa2 epb2 epc2 epd2 es2 es3 epa5 epb5 epc5 epd5 es5 b w c ⊢
  clear t18
  refine ⟨_, rfl, al, _, rfl, .inl (SqL.of hal), fun Fd hFd => ?_⟩
  have xal : al ≠ Fd := ne_of_none hal hFd
  have xr0 : r0 ≠ Fd := ne_of_none hr0 hFd
  have xr1 : r1 ≠ Fd := ne_of_none hr1 hFd
  have xs0 : s0 ≠ Fd := ne_of_none es0 hFd
  have xs1 : s1 ≠ Fd := ne_of_none es1 hFd
  have xs2 : s2 ≠ Fd := ne_of_none es2 hFd
  have xs3 : s3 ≠ Fd := ne_of_none es3 hFd
  have xs5 : s5 ≠ Fd := ne_of_none es5 hFd
  have hFn : H Fd = none := none_of_but b (Ne.symm (w.ne hFd)) hFd
  have hFn3 : H3 Fd = none := none_of_but c (Ne.symm (w.ne hFd)) hFd
  have t19 := same_new hFd (.lst [V.ref r0, V.ref r1])
  have nFd : Fd ≠ a := Ne.symm (w.ne hFd)
  have eFd : (upd G18 Fd (.lst [V.ref r0, V.ref r1])) Fd = some (.lst [V.ref r0, V.ref r1]) := upd_same
  have hal := t19 _ _ hal
  have hr0 := t19 _ _ hr0
  have hr1 := t19 _ _ hr1
  have hrr := t19 _ _ hrr
  have ez0 := t19 _ _ ez0
  have ey0 := t19 _ _ ey0
  have eL0 := t19 _ _ eL0
  have es0 := t19 _ _ es0
  have eu1 := t19 _ _ eu1
  have es1 := t19 _ _ es1
  have epa2 := t19 _ _ epa2
  have epb2 := t19 _ _ epb2
  have epc2 := t19 _ _ epc2
  have epd2 := t19 _ _ epd2
  have es2 := t19 _ _ es2
  have es3 := t19 _ _ es3
  have epa5 := t19 _ _ epa5
  have epb5 := t19 _ _ epb5
  have epc5 := t19 _ _ epc5
  have epd5 := t19 _ _ epd5
  have es5 := t19 _ _ es5
  have eS := t19 _ _ eS
  have b := b.trans (.same t19)
  have c := c.trans (.same t19)
  have w := w.same t19
  generalize upd G18 Fd (.lst [V.ref r0, V.ref r1]) = G19 at t19 eFd hal hr0 hr1 hrr ez0 ey0 eL0 es0 eu1 es1 epa2 epb2 epc2 epd2 es2 es3 epa5 epb5 epc5 epd5 es5 eS b w c ⊢
  clear t19
  refine ⟨_, rfl, _, rfl, a, S, _, _, rfl, .inr w, by omega, by omega, eS, nS, (by show 0 < 6; decide), (by show 6 < 1000; decide), fun m x H4 hx b4 w4 => ?_⟩
  have hal := b4 _ _ cal hal
  have hr0 := b4 _ _ c0 hr0
  have hr1 := b4 _ _ c1 hr1
  have hrr := b4 _ _ crr hrr
  have ez0 := b4 _ _ nz0 ez0
  have ey0 := b4 _ _ ny0 ey0
  have eL0 := b4 _ _ nL0 eL0
  have es0 := b4 _ _ ns0 es0
  have eu1 := b4 _ _ nu1 eu1
  have es1 := b4 _ _ ns1 es1
  have epa2 := b4 _ _ npa2 epa2
  have epb2 := b4 _ _ npb2 epb2
  have epc2 := b4 _ _ npc2 epc2
  have epd2 := b4 _ _ npd2 epd2
  have es2 := b4 _ _ ns2 es2
  have es3 := b4 _ _ ns3 es3
  have epa5 := b4 _ _ npa5 epa5
  have epb5 := b4 _ _ npb5 epb5
  have epc5 := b4 _ _ npc5 epc5
  have epd5 := b4 _ _ npd5 epd5
  have es5 := b4 _ _ ns5 es5
  have eS := b4 _ _ nS eS
  have eFd := b4 _ _ nFd eFd
  have b := b.trans b4
  have c := c.trans b4
  have w := w4
  refine ⟨_, rfl, _, rfl, Fd, _, _, hh, rfl, rfl, eFd, ixN_two hh2, ?_⟩
  have b := b.new (o := .lst ([V.ref r0, V.ref r1].set hh x)) hFn
  have c := c.new (o := .lst ([V.ref r0, V.ref r1].set hh x)) hFn3
  have w := w.but (Ne.symm nFd) (But.at (a := Fd) (H := H4) (o := .lst ([V.ref r0, V.ref r1].set hh x)))
  have eFd : (upd H4 Fd (.lst ([V.ref r0, V.ref r1].set hh x))) Fd = some (.lst ([V.ref r0, V.ref r1].set hh x)) := upd_same
  have hal := (upd_ne (H := H4) (o := .lst ([V.ref r0, V.ref r1].set hh x)) xal).trans hal
  have hr0 := (upd_ne (H := H4) (o := .lst ([V.ref r0, V.ref r1].set hh x)) xr0).trans hr0
  have hr1 := (upd_ne (H := H4) (o := .lst ([V.ref r0, V.ref r1].set hh x)) xr1).trans hr1
  have es0 := (upd_ne (H := H4) (o := .lst ([V.ref r0, V.ref r1].set hh x)) xs0).trans es0
  have es1 := (upd_ne (H := H4) (o := .lst ([V.ref r0, V.ref r1].set hh x)) xs1).trans es1
  have es2 := (upd_ne (H := H4) (o := .lst ([V.ref r0, V.ref r1].set hh x)) xs2).trans es2
  have es3 := (upd_ne (H := H4) (o := .lst ([V.ref r0, V.ref r1].set hh x)) xs3).trans es3
  have es5 := (upd_ne (H := H4) (o := .lst ([V.ref r0, V.ref r1].set hh x)) xs5).trans es5
  generalize (upd H4 Fd (.lst ([V.ref r0, V.ref r1].set hh x))) = H5 at b c w eFd hal hr0 hr1 es0 es1 es2 es3 es5 ⊢
  refine ⟨_, rfl, _, rfl, _, rfl, _, rfl, _, rfl, _, rfl, szl _ (by show 1 ≤ 1000; decide), fun y1 hy1 => ?_⟩
  have t20 := same_new hy1 (.lst [V.int 0])
  have ny1 : y1 ≠ a := Ne.symm (w.ne hy1)
  have ey1 : (upd H5 y1 (.lst [V.int 0])) y1 = some (.lst [V.int 0]) := upd_same
  have hal := t20 _ _ hal
  have hr0 := t20 _ _ hr0
  have hr1 := t20 _ _ hr1
  have es0 := t20 _ _ es0
  have es1 := t20 _ _ es1
  have es2 := t20 _ _ es2
  have es3 := t20 _ _ es3
  have es5 := t20 _ _ es5
  have eFd := t20 _ _ eFd
  have b := b.trans (.same t20)
  have c := c.trans (.same t20)
  have w := w.same t20
  generalize upd H5 y1 (.lst [V.int 0]) = G20 at t20 ey1 hal hr0 hr1 es0 es1 es2 es3 es5 eFd b w c ⊢
  clear t20
  refine ⟨szl _ (by show 1 ≤ 1000; decide), fun y2 hy2 => ?_⟩
  have t21 := same_new hy2 (.lst [V.ref y1])
  have ny2 : y2 ≠ a := Ne.symm (w.ne hy2)
  have ey2 : (upd G20 y2 (.lst [V.ref y1])) y2 = some (.lst [V.ref y1]) := upd_same
  have hal := t21 _ _ hal
  have hr0 := t21 _ _ hr0
  have hr1 := t21 _ _ hr1
  have es0 := t21 _ _ es0
  have es1 := t21 _ _ es1
  have es2 := t21 _ _ es2
  have es3 := t21 _ _ es3
  have es5 := t21 _ _ es5
  have eFd := t21 _ _ eFd
  have ey1 := t21 _ _ ey1
  have b := b.trans (.same t21)
  have c := c.trans (.same t21)
  have w := w.same t21
  generalize upd G20 y2 (.lst [V.ref y1]) = G21 at t21 ey2 hal hr0 hr1 es0 es1 es2 es3 es5 eFd ey1 b w c ⊢
  clear t21
  have hsl : ([V.ref r0, V.ref r1].set hh x).length = 2 := by rw [List.length_set]; rfl
  refine ⟨Fd, y2, _, _, rfl, rfl, eFd, ey2, szl _ (by rw [hsl]; show 2 + 1 ≤ 1000; decide), fun f4 hf4 => ?_⟩
  have t22 := same_new hf4 (.lst ([V.ref r0, V.ref r1].set hh x ++ [V.ref y1]))
  have nf4 : f4 ≠ a := Ne.symm (w.ne hf4)
  have ef4 : (upd G21 f4 (.lst ([V.ref r0, V.ref r1].set hh x ++ [V.ref y1]))) f4 = some (.lst ([V.ref r0, V.ref r1].set hh x ++ [V.ref y1])) := upd_same
  have hal := t22 _ _ hal
  have hr0 := t22 _ _ hr0
  have hr1 := t22 _ _ hr1
  have es0 := t22 _ _ es0
  have es1 := t22 _ _ es1
  have es2 := t22 _ _ es2
  have es3 := t22 _ _ es3
  have es5 := t22 _ _ es5
  have eFd := t22 _ _ eFd
  have ey1 := t22 _ _ ey1
  have ey2 := t22 _ _ ey2
  have b := b.trans (.same t22)
  have c := c.trans (.same t22)
  have w := w.same t22
  generalize upd G21 f4 (.lst ([V.ref r0, V.ref r1].set hh x ++ [V.ref y1])) = G22 at t22 ef4 hal hr0 hr1 es0 es1 es2 es3 es5 eFd ey1 ey2 b w c ⊢
  clear t22
  refine ⟨_, rfl, al, _, rfl, .inl ⟨SqL.of hal, fun f5 hf5 => ?_⟩⟩
  have t23 := same_new hf5 (.tup [V.ref r0, V.ref r1])
  have nf5 : f5 ≠ a := Ne.symm (w.ne hf5)
  have ef5 : (upd G22 f5 (.tup [V.ref r0, V.ref r1])) f5 = some (.tup [V.ref r0, V.ref r1]) := upd_same
  have hal := t23 _ _ hal
  have hr0 := t23 _ _ hr0
  have hr1 := t23 _ _ hr1
  have es0 := t23 _ _ es0
  have es1 := t23 _ _ es1
  have es2 := t23 _ _ es2
  have es3 := t23 _ _ es3
  have es5 := t23 _ _ es5
  have eFd := t23 _ _ eFd
  have ey1 := t23 _ _ ey1
  have ey2 := t23 _ _ ey2
  have ef4 := t23 _ _ ef4
  have b := b.trans (.same t23)
  have c := c.trans (.same t23)
  have w := w.same t23
  generalize upd G22 f5 (.tup [V.ref r0, V.ref r1]) = G23 at t23 ef5 hal hr0 hr1 es0 es1 es2 es3 es5 eFd ey1 ey2 ef4 b w c ⊢
  clear t23
  refine ⟨_, rfl, _, rfl, al, _, rfl, SqL.of hal, fun f6 hf6 => ?_⟩
  rw [show cutV [V.ref r0, V.ref r1] none (some 1) = [V.ref r0] from rfl]
  have t24 := same_new hf6 (.lst [V.ref r0])
  have nf6 : f6 ≠ a := Ne.symm (w.ne hf6)
  have ef6 : (upd G23 f6 (.lst [V.ref r0])) f6 = some (.lst [V.ref r0]) := upd_same
  have hal := t24 _ _ hal
  have hr0 := t24 _ _ hr0
  have hr1 := t24 _ _ hr1
  have es0 := t24 _ _ es0
  have es1 := t24 _ _ es1
  have es2 := t24 _ _ es2
  have es3 := t24 _ _ es3
  have es5 := t24 _ _ es5
  have eFd := t24 _ _ eFd
  have ey1 := t24 _ _ ey1
  have ey2 := t24 _ _ ey2
  have ef4 := t24 _ _ ef4
  have ef5 := t24 _ _ ef5
  have b := b.trans (.same t24)
  have c := c.trans (.same t24)
  have w := w.same t24
  generalize upd G23 f6 (.lst [V.ref r0]) = G24 at t24 ef6 hal hr0 hr1 es0 es1 es2 es3 es5 eFd ey1 ey2 ef4 ef5 b w c ⊢
  clear t24
  refine ⟨szl _ (by show 8 ≤ 1000; decide), fun FL hFL => ?_⟩
  have t25 := same_new hFL (.lst [V.ref Fd, V.ref Fd, V.ref Fd, V.ref Fd, V.ref f4, V.ref f5, V.ref f6, V.non])
  have nFL : FL ≠ a := Ne.symm (w.ne hFL)
  have eFL : (upd G24 FL (.lst [V.ref Fd, V.ref Fd, V.ref Fd, V.ref Fd, V.ref f4, V.ref f5, V.ref f6, V.non])) FL = some (.lst [V.ref Fd, V.ref Fd, V.ref Fd, V.ref Fd, V.ref f4, V.ref f5, V.ref f6, V.non]) := upd_same
  have hal := t25 _ _ hal
  have hr0 := t25 _ _ hr0
  have hr1 := t25 _ _ hr1
  have es0 := t25 _ _ es0
  have es1 := t25 _ _ es1
  have es2 := t25 _ _ es2
  have es3 := t25 _ _ es3
  have es5 := t25 _ _ es5
  have eFd := t25 _ _ eFd
  have ey1 := t25 _ _ ey1
  have ey2 := t25 _ _ ey2
  have ef4 := t25 _ _ ef4
  have ef5 := t25 _ _ ef5
  have ef6 := t25 _ _ ef6
  have b := b.trans (.same t25)
  have c := c.trans (.same t25)
  have w := w.same t25
  generalize upd G24 FL (.lst [V.ref Fd, V.ref Fd, V.ref Fd, V.ref Fd, V.ref f4, V.ref f5, V.ref f6, V.non]) = G25 at t25 eFL hal hr0 hr1 es0 es1 es2 es3 es5 eFd ey1 ey2 ef4 ef5 ef6 b w c ⊢
  clear t25
  refine ⟨a, FL, _, _, rfl, .inr w, by omega, by omega, eFL, nFL, (by show 0 < 8; decide), (by show 8 < 1000; decide), fun jf v H9 hjf b9 w9 => ?_⟩
  have hal := b9 _ _ cal hal
  have hr0 := b9 _ _ c0 hr0
  have hr1 := b9 _ _ c1 hr1
  have es0 := b9 _ _ ns0 es0
  have es1 := b9 _ _ ns1 es1
  have es2 := b9 _ _ ns2 es2
  have es3 := b9 _ _ ns3 es3
  have es5 := b9 _ _ ns5 es5
  have eFd := b9 _ _ nFd eFd
  have ey1 := b9 _ _ ny1 ey1
  have ey2 := b9 _ _ ny2 ey2
  have ef4 := b9 _ _ nf4 ef4
  have ef5 := b9 _ _ nf5 ef5
  have ef6 := b9 _ _ nf6 ef6
  have eFL := b9 _ _ nFL eFL
  have b := b.trans b9
  have c := c.trans b9
  have w := w9
  refine q v H9 b (w.up (by omega)) ?_
  have at9 : ∀ {b : Addr} {o : HO}, b ≠ a → H9 b = some o → vw (pA a) H9 b = some o := fun n e => vw_put (pA_ok.mpr n) e
  have hde9 := hde.mono (.same c.vw)
  have rowT : ∀ {r : Addr} {row : List Int}, r ≠ a → H9 r = some (.lst (row.map V.int)) → (∀ x ∈ row, okOut x) → row.length ≤ 21 → DT K (vw (pA a) H9) 150 2 (.ref r) (rowD row) := fun {r row} n e o l => (dt_lst (m := 21) (at9 n e) (dt_ints o) (by rw [List.length_map]; exact l)).up (by decide) (by decide)
  have z00 : okOut 0 := ⟨Int.le_refl 0, by decide⟩
  have spl : ∀ {p : Addr}, p ≠ a → H9 p = some (.lst (((ch hh).map V.int).take k ++ [oe] ++ ((ch hh).map V.int).drop (k + 1))) → ∃ dx, DT K (vw (pA a) H9) 8000 4 (.ref p) dx ∧ small dx ∧ rowB dx (D.al hh).length = false := fun {p} n e => by
    rw [← List.map_take, ← List.map_drop] at e
    refine ⟨.list (((ch hh).take k).map .int ++ [de] ++ ((ch hh).drop (k + 1)).map .int), (dt_lst (w := 200) (n := 2) (m := 25) (at9 n e) (a2app (a2app ((dt_ints fun x hx => lh4 x (List.mem_of_mem_take hx)).imp fun _ _ z => z.up (by decide) (by decide)) (.cons hde9 .nil)) ((dt_ints fun x hx => lh4 x (List.mem_of_mem_drop hx)).imp fun _ _ z => z.up (by decide) (by decide))) ?_).up (by decide) (by decide), fun ds e => ?_, rowB_odd hk hob⟩
    · rw [List.length_append, List.length_append, List.length_map, List.length_map, List.length_take, List.length_drop]
      show _ + 1 + _ ≤ 25
      omega
    · cases e
      rw [List.length_append, List.length_append, List.length_map, List.length_map, List.length_take, List.length_drop]
      show _ + 1 + _ ≤ 1000
      omega
  have smr : ∀ {row : List Int}, row.length ≤ 1000 → small (rowD row) := fun {row} h ds e => by
    cases e
    rw [List.length_map]
    exact h
  obtain ⟨dx, hdx, hsx, hbx⟩ : ∃ dx, DT K (vw (pA a) H9) 8000 4 x dx ∧ small dx ∧ rowB dx (D.al hh).length = false := by
    have hm6 : m < 6 := (List.getElem?_eq_some_iff.mp hx).1
    obtain rfl | rfl | rfl | rfl | rfl | rfl : m = 0 ∨ m = 1 ∨ m = 2 ∨ m = 3 ∨ m = 4 ∨ m = 5 := by omega
    · cases hx
      rw [← List.map_take] at es0
      exact ⟨_, (rowT ns0 es0 (fun x hx => lh4 x (List.mem_of_mem_take hx)) (by rw [List.length_take]; omega)).up (by decide) (by decide), smr (by rw [List.length_take]; omega), rowB_len (by rw [List.length_take]; omega)⟩
    · cases hx
      have es1 : H9 s1 = some (.lst ((ch hh ++ [0]).map V.int)) := by rw [es1, List.map_append]; rfl
      refine ⟨_, (rowT ns1 es1 (fun x hx => ?_) (by rw [List.length_append]; show _ + 1 ≤ 21; omega)).up (by decide) (by decide), smr (by rw [List.length_append]; show _ + 1 ≤ 1000; omega), rowB_len (by rw [List.length_append]; show _ + 1 ≠ _; omega)⟩
      rcases List.mem_append.mp hx with h | h
      · exact lh4 x h
      · obtain rfl := List.mem_singleton.mp h
        exact z00
    · cases hx
      exact spl ns2 es2
    · cases hx
      exact ⟨.tuple ((ch hh).map .int), (dt_tup (m := 21) (at9 ns3 es3) (dt_ints lh4) (by rw [List.length_map]; omega)).up (by decide) (by decide), (fun ds e => by cases e), rfl⟩
    · cases hx
      exact ⟨.none, dt_non.up (by decide) (by decide), (fun ds e => by cases e), rfl⟩
    · cases hx
      exact spl ns5 es5
  have t0 := (rowT c0 hr0 (gC.outc 0 (by decide)) (by omega)).up (show 150 ≤ 8000 by decide) (show 2 ≤ 4 by decide)
  have t1 := (rowT c1 hr1 (gC.outc 1 (by decide)) (by omega)).up (show 150 ≤ 8000 by decide) (show 2 ≤ 4 by decide)
  have m0 : small (rowD (ch 0)) := smr (by omega)
  have m1 : small (rowD (ch 1)) := smr (by omega)
  have two : ∀ {d e : PyData}, small d → small e → ∀ ds, PyData.list [d, e] = .list ds → ∀ z ∈ ds, small z := fun h g ds e z hz => by
    cases e
    rcases List.mem_cons.mp hz with rfl | hz
    · exact h
    · obtain rfl := List.mem_singleton.mp hz
      exact g
  have hF : RowsOdd K (vw (pA a) H9) D (.ref Fd) := by
    obtain rfl | rfl : hh = 0 ∨ hh = 1 := by omega
    · refine ⟨.list [dx, rowD (ch 1)], (dt_lst (m := 2) (at9 nFd eFd) (.cons hdx (.cons t1 .nil)) (Nat.le_refl 2)).up (by decide) (by decide), two hsx m1, ?_⟩
      show (rowB dx _ && _) = false
      rw [hbx]
      rfl
    · refine ⟨.list [rowD (ch 0), dx], (dt_lst (m := 2) (at9 nFd eFd) (.cons t0 (.cons hdx .nil)) (Nat.le_refl 2)).up (by decide) (by decide), two m0 hsx, ?_⟩
      show (_ && rowB dx _) = false
      rw [hbx, Bool.and_false]
  have hj8 : jf < 8 := (List.getElem?_eq_some_iff.mp hjf).1
  obtain rfl | rfl | rfl | rfl | rfl | rfl | rfl | rfl : jf = 0 ∨ jf = 1 ∨ jf = 2 ∨ jf = 3 ∨ jf = 4 ∨ jf = 5 ∨ jf = 6 ∨ jf = 7 := by omega
  · cases hjf
    exact hF
  · cases hjf
    exact hF
  · cases hjf
    exact hF
  · cases hjf
    exact hF
  · cases hjf
    have ty : DT K (vw (pA a) H9) 150 2 (.ref y1) (rowD [0]) := rowT ny1 ey1 (fun x hx => by
      obtain rfl := List.mem_singleton.mp hx
      exact z00) (by decide)
    have sy : small (rowD [0]) := smr (by decide)
    have ty := ty.up (show 150 ≤ 8000 by decide) (show 2 ≤ 4 by decide)
    have three : ∀ {d e g : PyData}, small d → small e → small g → ∀ ds, PyData.list [d, e, g] = .list ds → ∀ z ∈ ds, small z := fun h g i ds e z hz => by
      cases e
      rcases List.mem_cons.mp hz with rfl | hz
      · exact h
      rcases List.mem_cons.mp hz with rfl | hz
      · exact g
      · obtain rfl := List.mem_singleton.mp hz
        exact i
    obtain rfl | rfl : hh = 0 ∨ hh = 1 := by omega
    · exact ⟨.list [dx, rowD (ch 1), rowD [0]], (dt_lst (m := 3) (at9 nf4 ef4) (.cons hdx (.cons t1 (.cons ty .nil))) (Nat.le_refl 3)).up (by decide) (by decide), three hsx m1 sy, rfl⟩
    · exact ⟨.list [rowD (ch 0), dx, rowD [0]], (dt_lst (m := 3) (at9 nf4 ef4) (.cons t0 (.cons hdx (.cons ty .nil))) (Nat.le_refl 3)).up (by decide) (by decide), three m0 hsx sy, rfl⟩
  · cases hjf
    exact ⟨.tuple [rowD (ch 0), rowD (ch 1)], (dt_tup (m := 2) (at9 nf5 ef5) (.cons t0 (.cons t1 .nil)) (Nat.le_refl 2)).up (by decide) (by decide), (fun ds e => by cases e), rfl⟩
  · cases hjf
    exact ⟨.list [rowD (ch 0)], (dt_lst (m := 1) (at9 nf6 ef6) (.cons t0 .nil) (Nat.le_refl 1)).up (by decide) (by decide), (fun ds e z hz => by
      cases e
      obtain rfl := List.mem_singleton.mp hz
      exact m0), rfl⟩
  · cases hjf
    exact ⟨.none, dt_non.up (by decide) (by decide), (fun ds e => by cases e), rfl⟩
end
end TA

set_option Elab.async false
set_option maxRecDepth 100000
set_option maxHeartbeats 4000000
namespace TA
open PySem L2 PyProof.Rows
set_option linter.unusedVariables false
theorem keys_tp {H G : Hp} : ∀ {kvs : List (List Key × V)} {bs : List Addr} {bo : BD}, IsKeys H kvs bs → A2 (EnAt G) kvs bo → A2 (TpAt H) (bs.map V.ref) (bo.map fun e => iI e.1)
  | _, _, _, .nil, .nil => .nil
  | _, _, _, .cons a b, .cons c d => .cons ⟨_, rfl, by rw [c.1] at a; exact a⟩ (keys_tp b d)
theorem sorted_at {H : Hp} {K : PySem.W.Frag} {T : TD} (W : WF T) {xs ys : List V} (a : A2 (TpAt H) xs (T.bo.map fun e => iI e.1)) (pm : ys.Perm xs) (pw : ys.Pairwise (fun x y => ∀ n m, TupI K H x n → TupI K H y m → TS.code 64 n ≤ TS.code 64 m)) : A2 (TpAt H) ys ((sb T).map fun e => iI e.1) := by
  obtain ⟨a1, a2⟩ := tp_perm a pm
  obtain ⟨ks, k1, k2, k3⟩ := let_ks a1
  have h1 : (ks.map (·.2)).Perm (T.bo.map fun e => [((e.1.1 : Nat) : Int), ((e.1.2 : Nat) : Int)]) := by
    rw [k2]
    have := a2.map (fun p : Int × Int => [p.1, p.2])
    have e : (T.bo.map fun e => iI e.1).map (fun p : Int × Int => [p.1, p.2]) = T.bo.map fun e => [((e.1.1 : Nat) : Int), ((e.1.2 : Nat) : Int)] := by
      rw [List.map_map]
      rfl
    rw [e] at this
    exact this
  have h2 : ks.Pairwise (fun q r => TS.code 64 q.2 ≤ TS.code 64 r.2) := by
    rw [k1, List.pairwise_map] at pw
    refine pw.imp_of_mem fun {x y} hx hy h => ?_
    exact h x.2 y.2 ⟨x.1, rfl, SqT.of (k3 x hx)⟩ ⟨y.1, rfl, SqT.of (k3 y hy)⟩
  have h3 := keys_sorted W h1 h2
  rw [k2] at h3
  have h4 : ys.map (dec H) = (sb T).map fun e => iI e.1 := by
    have inj : ∀ {l m : List (Int × Int)}, l.map (fun p => [p.1, p.2]) = m.map (fun p => [p.1, p.2]) → l = m := by
      intro l
      induction l with
      | nil => intro m e; cases m with
        | nil => rfl
        | cons => cases e
      | cons x l ih => intro m e; cases m with
        | nil => cases e
        | cons y m =>
          rw [List.map_cons, List.map_cons] at e
          injection e with e1 e2
          injection e1 with e3 e4
          injection e4 with e4 _
          rw [ih e2, Prod.ext e3 e4]
    refine inj ?_
    rw [h3, List.map_map]
    rfl
  rw [← h4]
  exact a1
theorem sb_keys {T : TD} (W : WF T) : ((sb T).map (·.1)).Nodup := ((sb_perm T).map (fun e : EB => e.1)).nodup_iff.mpr W.srt
/-- a task of which nothing stands at a -/
def TaskV (C a : Addr) (H : Hp) (p d : Addr) (T : TD) : Prop := ∃ dx aa kvs, H p = some (.ins C dx (flds aa d)) ∧ AlAt (vw (pA a) H) (.ref aa) T.al ∧ H d = some (.dT kvs) ∧ A2 (EnAt (vw (pA a) H)) kvs T.bo
theorem TaskV.task {C a : Addr} {H : Hp} {p d : Addr} {T : TD} (h : TaskV C a H p d T) : TaskAt C H p T := by
  obtain ⟨dx, aa, kvs, h1, h2, h3, h4⟩ := h
  exact ⟨dx, aa, d, h1, h2.mono vw_kp, kvs, h3, h4.imp fun _ _ r => r.mono vw_kp⟩
theorem TaskV.x {C a : Addr} {H : Hp} {p d d0 : Addr} {T : TD} (h : TaskV C a H p d T) (n : d ≠ d0) : TaskX C H p T d0 := by
  obtain ⟨dx, aa, kvs, h1, h2, h3, h4⟩ := h
  exact ⟨dx, aa, d, h1, h2.mono vw_kp, ⟨kvs, .inl h3, h4.imp fun _ _ r => r.mono vw_kp⟩, n⟩
theorem TaskV.but {C a : Addr} {H H' : Hp} {p d : Addr} {T : TD} {zs : List V} (h : TaskV C a H p d T) (ea : H a = some (.lst zs)) (s : But a H H') : TaskV C a H' p d T := by
  obtain ⟨dx, aa, kvs, h1, h2, h3, h4⟩ := h
  refine ⟨dx, aa, kvs, s _ _ (ne_of h1 ea (fun z => by cases z)) h1, h2.mono (vwA_but s), s _ _ (ne_of h3 ea (fun z => by cases z)) h3, h4.imp fun _ _ r => r.mono (vwA_but s)⟩
theorem NewAt.v {C a : Addr} {Hx H' : Hp} {p : Addr} {T : TD} {zs : List V} (h : NewAt C Hx H' p T) (exa : Hx a = some (.lst zs)) (ea' : H' a = some (.lst zs)) : ∃ d, Hx d = none ∧ TaskV C a H' p d T := by
  obtain ⟨dx, aa, d, kvs, h1, h2, hd, h3, h4⟩ := h
  have kp : Kp (nwx Hx p H') (vw (pA a) H') := fun b o f e => by
    obtain ⟨e1, e2, e3⟩ := nwx_some e
    exact vw_put (pA_ok.mpr fun c => by subst c; rw [e1] at exa; cases exa) e3
  refine ⟨d, hd, dx, aa, kvs, h1, h2.mono kp, h3, h4.imp fun x y r => ?_⟩
  obtain ⟨e, t, xs, e2, ht, az⟩ := r
  refine ⟨e, t, xs, e2, kp.lst ht, az.imp fun v q z => ?_⟩
  obtain ⟨t2, e3, ht2⟩ := z
  exact ⟨t2, e3, vw_put (pA_ok.mpr (ne_of ht2 ea' (fun z => by cases z))) ht2⟩
theorem TaskV.vx {C a : Addr} {H : Hp} {p d d0 : Addr} {T : TD} (h : TaskV C a H p d T) (hp : p ≠ a) (hd : d ≠ a) (n : d ≠ d0) : TaskX C (vw (pA a) H) p T d0 := by
  obtain ⟨dx, aa, kvs, h1, h2, h3, h4⟩ := h
  exact ⟨dx, aa, d, vw_put (pA_ok.mpr hp) h1, h2, ⟨kvs, .inl (vw_put (pA_ok.mpr hd) h3), h4⟩, n⟩
/-- a walk put over another one's -/
theorem wk_put {G : Hp} {wk : EB → List Int} {p : IP} {v : V} {row : List Int} (h : RowAt G v row) : ∀ {kvs : List (List Key × V)} {bo : BD}, A2 (WkAt G wk) kvs bo → A2 (WkAt G fun e => if e.1 = p then row else wk e) (kvs.map fun kv => if kv.1 = kI p then (kv.1, v) else kv) bo
  | _, _, .nil => .nil
  | kv :: kvs, e :: bo, .cons x t => by
    rw [List.map_cons]
    refine .cons ?_ (wk_put h t)
    by_cases c : e.1 = p
    · rw [if_pos (show kv.1 = kI p by rw [x.1, c])]
      exact ⟨x.1, by show RowAt G v (if e.1 = p then row else wk e); rw [if_pos c]; exact h⟩
    · rw [if_neg (show ¬ kv.1 = kI p from fun z => c (kI_inj (x.1.symm.trans z)))]
      exact ⟨x.1, by show RowAt G kv.2 (if e.1 = p then row else wk e); rw [if_neg c]; exact x.2⟩
theorem put_at {G : Hp} {wk : EB → List Int} {kvs : List (List Key × V)} {bo : BD} (a : A2 (WkAt G wk) kvs bo) {e : EB} (he : e ∈ bo) (v : V) : putK kvs (kI e.1) v = kvs.map fun kv => if kv.1 = kI e.1 then (kv.1, v) else kv := by
  unfold putK
  rw [if_pos]
  rw [List.any_eq_true]
  induction a with
  | nil => cases he
  | @cons x y xs ys z _ ih =>
    rcases List.mem_cons.mp he with rfl | he
    · exact ⟨x, List.mem_cons_self, decide_eq_true z.1⟩
    · obtain ⟨kv, h1, h2⟩ := ih he
      exact ⟨kv, List.mem_cons_of_mem _ h1, h2⟩
theorem ctake {row : List Int} {k : Nat} (h : k ≤ row.length) : cutV (row.map V.int) none (some (k : Int)) = (row.take k).map V.int := by
  rw [cut_take (by rw [List.length_map]; exact h), List.map_take]
theorem cdrop {row : List Int} {k : Nat} (h : k ≤ row.length) : cutV (row.map V.int) (some (k : Int)) none = (row.drop k).map V.int := by
  rw [cut_drop (by rw [List.length_map]; exact h), List.map_drop]
/-- keys that may be copied -/
theorem keys_small {G : Hp} {wk : EB → List Int} {T : TD} {kvs : List (List Key × V)} (hW : WF T) (a : A2 (WkAt G wk) kvs T.bo) : ∀ kv ∈ kvs, smallK kv.1 := fun kv hkv => by
  obtain ⟨i, hi⟩ := List.getElem?_of_mem hkv
  obtain ⟨e, he, ek, _⟩ := a.get hi
  have rg := hW.rng e (List.mem_of_getElem? he)
  have q0 := (hW.n0 0 (by decide)).2
  have q1 := (hW.n0 1 (by decide)).2
  exact ⟨e.1.1, e.1.2, by omega, by omega, ek⟩
theorem ixN_lt {n k : Nat} (h : k < n) : ixN n (k : Int) = some k := by
  unfold ixN
  rw [if_pos (by omega), if_pos (by omega), Int.toNat_natCast]
end TA

set_option Elab.async false
set_option maxRecDepth 100000
set_option maxHeartbeats 4000000
namespace TA
open PySem L2 PyProof.Rows
set_option linter.unusedVariables false
theorem weight_app : ∀ (a b : List PyData), PyData.weightAll (a ++ b) = PyData.weightAll a + PyData.weightAll b
  | [], b => by rw [List.nil_append, PyData.weightAll]; omega
  | x :: a, b => by
    rw [List.cons_append, PyData.weightAll, PyData.weightAll, weight_app a b]
    omega
/-- a row with something odd in it, shown -/
theorem tn_splice {row : List Int} {k : Nat} {de : PyData} (ho : ∀ x ∈ row, okOut x) (hl : row.length ≤ 245) (hd : Tn de 200 2) : Tn (.list ((row.take k).map .int ++ [de] ++ (row.drop (k + 1)).map .int)) 2000 3 := by
  have tnInts : ∀ {l : List Int}, (∀ x ∈ l, okOut x) → l.length ≤ 245 → PyData.showableAll (l.map .int) = true ∧ PyData.leavesShortAll 48 (l.map .int) = true ∧ PyData.weightAll (l.map .int) ≤ 7 * l.length ∧ PyData.depthAll (l.map .int) ≤ 2 := fun {l} h _ => by
    obtain ⟨a, b, c, d⟩ := tn_all (w := 6) (n := 1) (ds := l.map PyData.int) fun d hd => by
      obtain ⟨x, hx, rfl⟩ := List.mem_map.mp hd
      exact tn_int (h x hx)
    rw [List.length_map] at c
    exact ⟨a, b, c, Nat.le_trans d (by decide)⟩
  have t1 := tnInts (l := row.take k) (fun x hx => ho x (List.mem_of_mem_take hx)) (by rw [List.length_take]; omega)
  have t2 := tnInts (l := row.drop (k + 1)) (fun x hx => ho x (List.mem_of_mem_drop hx)) (by rw [List.length_drop]; omega)
  have all : ∀ d ∈ (row.take k).map PyData.int ++ [de] ++ (row.drop (k + 1)).map PyData.int, Tn d 200 2 := fun d hdm => by
    rcases List.mem_append.mp hdm with h | h
    · rcases List.mem_append.mp h with h | h
      · obtain ⟨x, hx, rfl⟩ := List.mem_map.mp h
        exact (tn_int (ho x (List.mem_of_mem_take hx))).up (by decide) (by decide)
      · obtain rfl := List.mem_singleton.mp h
        exact hd
    · obtain ⟨x, hx, rfl⟩ := List.mem_map.mp h
      exact (tn_int (ho x (List.mem_of_mem_drop hx))).up (by decide) (by decide)
  obtain ⟨a, b, _, d⟩ := tn_all all
  refine ⟨by rw [PyData.showable]; exact a, by rw [PyData.leavesShort]; exact b, ?_, by rw [PyData.depth]; omega⟩
  rw [PyData.weight, weight_app, weight_app]
  have h1 := t1.2.2.1
  have h2 := t2.2.2.1
  rw [List.length_take] at h1
  rw [List.length_drop] at h2
  have h3 : PyData.weightAll [de] ≤ 201 := by
    rw [PyData.weightAll, PyData.weightAll]
    have := hd.w
    omega
  omega
/-- a key of a few small numbers -/
def KeyS (k : List Key) : Prop := k.length ≤ 3 ∧ ∀ x ∈ k, ∃ i : Int, x = .inl i ∧ okOut i
theorem KeyS.int {k : List Key} (h : KeyS k) : IntK k := fun x hx => let ⟨i, e, _⟩ := h.2 x hx; ⟨i, e⟩
theorem KeyS.tn {k : List Key} (h : KeyS k) : Tn (keyD k) 21 2 := by
  unfold keyD
  refine tn_tuple (w := 6) (n := 1) (m := 3) (fun d hd => ?_) (by rw [List.length_map]; exact h.1)
  obtain ⟨x, hx, rfl⟩ := List.mem_map.mp hd
  obtain ⟨i, rfl, o⟩ := h.2 x hx
  exact tn_int o
/-- what an entry of walks is -/
def WkE (K : PySem.W.Frag) (V : Hp) (dat : List Key × L2.V → PyData) (kv : List Key × L2.V) : Prop := KeyS kv.1 ∧ DT K V 2000 3 kv.2 (dat kv) ∧ small (dat kv)
theorem ents {K : PySem.W.Frag} {V : Hp} {dat : List Key × L2.V → PyData} : ∀ {kvs : List (List Key × L2.V)}, (∀ kv ∈ kvs, WkE K V dat kv) → ∃ es : List (PyData × PyData), DXs K V (kvs.map (·.2)) (es.map (·.2)) ∧ es.map (·.1) = kvs.map (fun kv => keyD kv.1) ∧ es.length = kvs.length ∧ ∀ x ∈ es, Tn x.1 2000 3 ∧ Tn x.2 2000 3
  | [], _ => ⟨[], .nil, rfl, rfl, fun x hx => nomatch hx⟩
  | kv :: kvs, h => by
    obtain ⟨es, a, b, c, t⟩ := ents (kvs := kvs) fun y hy => h y (List.mem_cons_of_mem _ hy)
    obtain ⟨h1, h2, _⟩ := h kv List.mem_cons_self
    refine ⟨(keyD kv.1, dat kv) :: es, .cons (.flat h2.k.dp h2.nd) a, by rw [List.map_cons, List.map_cons, b], by rw [List.length_cons, List.length_cons, c], fun z hz => ?_⟩
    rcases List.mem_cons.mp hz with rfl | hz
    · exact ⟨h1.tn.up (by decide) (by decide), h2.t⟩
    · exact t z hz
/-- what may be shown of a thing -/
def ShY (K : PySem.W.Frag) (V : Hp) (w n : Nat) (v : L2.V) : Prop := ∃ d, DY K V v d ∧ Tn d w n
theorem DT.sh {K : PySem.W.Frag} {V : Hp} {w n : Nat} {v : L2.V} {d : PyData} (h : DT K V w n v d) : ShY K V w n v := ⟨d, .even (.flat h.k.dp h.nd), h.t⟩
theorem ShY.up {K : PySem.W.Frag} {V : Hp} {w n w' n' : Nat} {v : L2.V} (h : ShY K V w n v) (a : w ≤ w') (b : n ≤ n') : ShY K V w' n' v := let ⟨d, x, t⟩ := h; ⟨d, x, t.up a b⟩
theorem dic_sh {K : PySem.W.Frag} {V : Hp} {wd : Addr} {kvs : List (List Key × L2.V)} {dat : List Key × L2.V → PyData} (e : V wd = some (.dT kvs)) (h : ∀ kv ∈ kvs, WkE K V dat kv) (hl : kvs.length ≤ 20) : (∃ d, DX K V (.ref wd) d ∧ Tn d 80040 4) := by
  obtain ⟨es, a, b, c, t⟩ := ents h
  exact ⟨.dict es, .dic e rfl a b rfl, (tn_dict (a := 2000) (b := 2000) (n := 3) (m := 20) t (by rw [c]; exact hl)).up (by decide) (by decide)⟩
theorem odd_sh {K : PySem.W.Frag} {V : Hp} {wd : Addr} {kvs : List (List Key × L2.V)} {k v : L2.V} {dat : List Key × L2.V → PyData} {dk dv : PyData} (e : OddAt V wd kvs k v) (h : ∀ kv ∈ kvs, WkE K V dat kv) (hl : kvs.length + 1 ≤ 20) (hk : DT K V 2000 3 k dk) (hv : DT K V 2000 3 v dv) : ShY K V 80040 4 (.ref wd) := by
  obtain ⟨es, a, b, c, t⟩ := ents h
  refine ⟨.dict (es ++ [(dk, dv)]), .odd e rfl a b rfl hk.k.dp hk.nd (.flat hv.k.dp hv.nd), (tn_dict (a := 2000) (b := 2000) (n := 3) (m := 20) (fun x hx => ?_) (by rw [List.length_append, c]; exact hl)).up (by decide) (by decide)⟩
  rcases List.mem_append.mp hx with hx | hx
  · exact t x hx
  · obtain rfl := List.mem_singleton.mp hx
    exact ⟨hk.t, hv.t⟩
/-- the data of the walks as drawn -/
def dat0 (bo : BD) (wk : EB → List Int) (kv : List Key × L2.V) : PyData := match bo.find? fun e => decide (kI e.1 = kv.1) with
  | some e => rowD (wk e)
  | none => .none
theorem dat0_ok {K : PySem.W.Frag} {V : Hp} {T : TD} {wk : EB → List Int} {kvs : List (List Key × L2.V)} (hW : WF T) (h4 : ∀ h, h < 2 → (T.al h).length ≤ 4) (a : A2 (WkAt V wk) kvs T.bo) (hl : ∀ e ∈ T.bo, (wk e).length ≤ 244) (ho : ∀ e ∈ T.bo, ∀ x ∈ wk e, okOut x) : ∀ kv ∈ kvs, (∃ e ∈ T.bo, kv.1 = kI e.1 ∧ dat0 T.bo wk kv = rowD (wk e)) ∧ WkE K V (dat0 T.bo wk) kv := fun kv hkv => by
  obtain ⟨i, hi⟩ := List.getElem?_of_mem hkv
  obtain ⟨e, he, ek, hrow⟩ := a.get hi
  have hem := List.mem_of_getElem? he
  have hf : dat0 T.bo wk kv = rowD (wk e) := by
    unfold dat0
    cases hq : T.bo.find? fun e => decide (kI e.1 = kv.1) with
    | none =>
      have := List.find?_eq_none.mp hq e hem
      exact absurd (decide_eq_true ek.symm) (by simpa using this)
    | some e' =>
      have h1 := List.mem_of_find?_eq_some hq
      have h2 : kI e'.1 = kv.1 := of_decide_eq_true (List.find?_some (p := fun e : EB => decide (kI e.1 = kv.1)) hq)
      have h3 : e'.1 = e.1 := kI_inj (h2.trans ek)
      have : e' = e := by
        obtain ⟨i, hi⟩ := List.getElem?_of_mem h1
        obtain ⟨i2, hi2⟩ := List.getElem?_of_mem hem
        obtain ⟨l1, rfl⟩ := List.getElem?_eq_some_iff.mp hi
        obtain ⟨l2, rfl⟩ := List.getElem?_eq_some_iff.mp hi2
        rcases Nat.lt_trichotomy i i2 with h | h | h
        · have := List.pairwise_iff_getElem.mp hW.srt i i2 (by rw [List.length_map]; exact l1) (by rw [List.length_map]; exact l2) h
          rw [List.getElem_map, List.getElem_map] at this
          exact absurd h3 this
        · subst h; rfl
        · have := List.pairwise_iff_getElem.mp hW.srt i2 i (by rw [List.length_map]; exact l2) (by rw [List.length_map]; exact l1) h
          rw [List.getElem_map, List.getElem_map] at this
          exact absurd h3.symm this
      rw [this]
  have rg := hW.rng e hem
  have q0 := h4 0 (by decide)
  have q1 := h4 1 (by decide)
  refine ⟨⟨e, hem, ek, hf⟩, ⟨by rw [ek]; show 2 ≤ 3; decide, fun x hx => ?_⟩, ?_, ?_⟩
  · rw [ek] at hx
    rcases List.mem_cons.mp hx with rfl | hx
    · exact ⟨_, rfl, by omega, by omega⟩
    · obtain rfl := List.mem_singleton.mp hx
      exact ⟨_, rfl, by omega, by omega⟩
  · rw [hf]
    obtain ⟨t, et, ht⟩ := hrow
    rw [et]
    exact (dt_lst (m := 245) ht (dt_ints (ho e hem)) (by rw [List.length_map]; have := hl e hem; omega)).up (by decide) (by decide)
  · rw [hf]
    intro ds e'
    cases e'
    rw [List.length_map]
    have := hl e hem
    omega
theorem nodup_subG {α : Type} [DecidableEq α] : ∀ {xs ys : List α}, xs.Nodup → (∀ x ∈ xs, x ∈ ys) → xs.length ≤ ys.length
  | [], _, _, _ => Nat.zero_le _
  | x :: xs, ys, h, s => by
    obtain ⟨h1, h2⟩ := List.nodup_cons.mp h
    have r := nodup_subG (xs := xs) (ys := ys.erase x) h2 fun y hy => by
      have ne : y ≠ x := fun c => h1 (c ▸ hy)
      exact (List.mem_erase_of_ne ne).mpr (s y (List.mem_cons_of_mem _ hy))
    rw [List.length_erase_of_mem (s x List.mem_cons_self)] at r
    have := List.length_pos_of_mem (s x List.mem_cons_self)
    rw [List.length_cons]
    omega
theorem bo_16 {T : TD} (hW : WF T) (h4 : ∀ h, h < 2 → (T.al h).length ≤ 4) : T.bo.length ≤ 16 := by
  have h1 := h4 0 (by decide)
  have h2 := h4 1 (by decide)
  have hn : (T.bo.map (·.1)).Nodup := hW.srt
  have hs : ∀ x ∈ T.bo.map (·.1), x ∈ (List.range 4).flatMap fun a => (List.range 4).map fun b => (a, b) := fun x hx => by
    obtain ⟨e, he, rfl⟩ := List.mem_map.mp hx
    have rg := hW.rng e he
    refine List.mem_flatMap.mpr ⟨e.1.1, List.mem_range.mpr (by omega), List.mem_map.mpr ⟨e.1.2, List.mem_range.mpr (by omega), rfl⟩⟩
  have := nodup_subG hn hs
  rw [List.length_map] at this
  exact Nat.le_trans this (by decide)
end TA

set_option Elab.async false
set_option maxRecDepth 100000
set_option maxHeartbeats 4000000
namespace TA
open PySem L2 PyProof.Rows
set_option linter.unusedVariables false
/-- what is told of walks that are none -/
def WalksOdd (K : PySem.W.Frag) (C : Addr) (V : Hp) (p : Addr) (T : TD) (m : Nat) (v : L2.V) : Prop := (OddWk K C V p T m v ∨ ∃ wd, v = .ref wd ∧ OddWkO K V wd) ∧ ShY K V 90000 5 v
theorem put_len {kvs : List (List Key × L2.V)} {k : List Key} {v : L2.V} : (putK kvs k v).length ≤ kvs.length + 1 := by
  unfold putK
  split
  · rw [List.length_map]; omega
  · rw [List.length_append]; exact Nat.le_refl _
theorem put_new {kvs : List (List Key × L2.V)} {k : List Key} {v : L2.V} (h : ∀ kv ∈ kvs, kv.1 ≠ k) : putK kvs k v = kvs ++ [(k, v)] := by
  unfold putK
  rw [if_neg]
  intro c
  obtain ⟨kv, h1, h2⟩ := List.any_eq_true.mp c
  exact h kv h1 (of_decide_eq_true h2)
theorem put_mem {kvs : List (List Key × L2.V)} {k : List Key} {v : L2.V} : (∃ kv ∈ putK kvs k v, kv.1 = k) ∧ ∀ kv ∈ putK kvs k v, (kv = (k, v) ∨ (kv ∈ kvs ∧ kv.1 ≠ k)) := by
  unfold putK
  split
  · rename_i c
    obtain ⟨kv, h1, h2⟩ := List.any_eq_true.mp c
    have e := of_decide_eq_true h2
    refine ⟨⟨_, List.mem_map.mpr ⟨kv, h1, rfl⟩, ?_⟩, fun x hx => ?_⟩
    · rw [if_pos e]; exact e
    · obtain ⟨y, hy, rfl⟩ := List.mem_map.mp hx
      by_cases e2 : y.1 = k
      · rw [if_pos e2]; exact .inl (by rw [e2])
      · rw [if_neg e2]; exact .inr ⟨hy, e2⟩
  · rename_i c
    refine ⟨⟨(k, v), List.mem_append.mpr (.inr List.mem_cons_self), rfl⟩, fun x hx => ?_⟩
    rcases List.mem_append.mp hx with hx | hx
    · exact .inr ⟨hx, fun e => c (List.any_eq_true.mpr ⟨x, hx, decide_eq_true e⟩)⟩
    · exact .inl (List.mem_singleton.mp hx)
section
variable {K : PySem.W.Frag} {C : Addr} {V : Hp} {dat : List Key × L2.V → PyData} {kvs : List (List Key × L2.V)} {p wd : Addr} {T : TD} {m : Nat}
theorem wke_put {k : List Key} {v : L2.V} {dv : PyData} (h : ∀ kv ∈ kvs, WkE K V dat kv) (hk : KeyS k) (hv : DT K V 2000 3 v dv) (hs : small dv) : ∀ kv ∈ putK kvs k v, WkE K V (fun kv => if kv.1 = k then dv else dat kv) kv := fun kv hkv => by
  rcases put_mem.2 kv hkv with rfl | ⟨hm, hne⟩
  · refine ⟨hk, ?_, ?_⟩
    · show DT K V 2000 3 v (if k = k then dv else _)
      rw [if_pos rfl]; exact hv
    · show small (if k = k then dv else _)
      rw [if_pos rfl]; exact hs
  · obtain ⟨a, b, c⟩ := h kv hm
    refine ⟨a, ?_, ?_⟩
    · show DT K V 2000 3 kv.2 (if kv.1 = k then dv else dat kv)
      rw [if_neg hne]; exact b
    · show small (if kv.1 = k then dv else dat kv)
      rw [if_neg hne]; exact c
theorem wo_put {k : List Key} {v : L2.V} {dv : PyData} (h : ∀ kv ∈ kvs, WkE K V dat kv) (e : V wd = some (.dT (putK kvs k v))) (hl : kvs.length ≤ 16) (hk : KeyS k) (hv : DT K V 2000 3 v dv) (hs : small dv) (hx : TaskX C V p T wd) (hb : itemB T m k dv = false) : WalksOdd K C V p T m (.ref wd) := by
  have h2 := wke_put h hk hv hs
  have l2 : (putK kvs k v).length ≤ kvs.length + 1 := put_len
  refine ⟨.inl (.bad e (by omega) hx (fun kv hkv => ⟨(h2 kv hkv).1.int, (h2 kv hkv).2.1.k, (h2 kv hkv).2.2⟩) ?_), ?_⟩
  · obtain ⟨kv, h3, h4⟩ := (put_mem (kvs := kvs) (k := k) (v := v)).1
    refine ⟨kv, h3, ?_⟩
    show itemB T m kv.1 (if kv.1 = k then dv else dat kv) = false
    rw [if_pos h4, h4]
    exact hb
  · obtain ⟨d, x, t⟩ := dic_sh e h2 (by omega)
    exact ⟨d, .even x, t.up (by decide) (by decide)⟩
theorem wo_len (h : ∀ kv ∈ kvs, WkE K V dat kv) (e : V wd = some (.dT kvs)) (hl : kvs.length ≤ 20) (hn : kvs.length ≠ T.bo.length) : WalksOdd K C V p T m (.ref wd) := by
  obtain ⟨d, x, t⟩ := dic_sh e h hl
  exact ⟨.inl (.len e hn), d, .even x, t.up (by decide) (by decide)⟩
theorem wo_odd {k v : L2.V} {dk dv : PyData} (h : ∀ kv ∈ kvs, WkE K V dat kv) (e : OddAt V wd kvs k v) (hl : kvs.length ≤ 16) (hk : DT K V 2000 3 k dk) (hv : DT K V 2000 3 v dv) : WalksOdd K C V p T m (.ref wd) :=
  ⟨.inr ⟨wd, rfl, ⟨kvs, k, v, dat, e, by omega, fun kv hkv => ⟨(h kv hkv).1.int, (h kv hkv).2.1.k, (h kv hkv).2.2⟩⟩⟩, (odd_sh e h (by omega) hk hv).up (by decide) (by decide)⟩
theorem wo_val {v : L2.V} {d : PyData} (h : DT K V 2000 3 v d) : WalksOdd K C V p T m v :=
  ⟨.inl (.notd h.k.dp), h.sh.up (by decide) (by decide)⟩
theorem wo_in {b : Addr} (h : ∀ kv ∈ kvs, WkE K V dat kv) (e : V wd = some (.dT kvs)) (hl : kvs.length ≤ 20) (eb : V b = some (.lst [.ref wd])) : WalksOdd K C V p T m (.ref b) := by
  obtain ⟨d, x, t⟩ := dic_sh e h hl
  refine ⟨.inl (.lst eb), .list [d], .even (.lst (SqL.of eb) (.cons x .nil)), (tn_list (w := 80040) (n := 4) (m := 1) (fun y hy => ?_) (show [d].length ≤ 1 from Nat.le_refl 1)).up (by decide) (by decide)⟩
  obtain rfl := List.mem_singleton.mp hy
  exact t
theorem wo_keys {b : Addr} {bs : List Addr} (h : ∀ kv ∈ kvs, WkE K V dat kv) (hl : kvs.length ≤ 20) (eb : V b = some (.lst (bs.map L2.V.ref))) (hb : IsKeys V kvs bs) : WalksOdd K C V p T m (.ref b) := by
  have all : ∀ {kvs : List (List Key × L2.V)} {bs : List Addr}, (∀ kv ∈ kvs, KeyS kv.1) → IsKeys V kvs bs → DXs K V (bs.map L2.V.ref) (kvs.map fun kv => keyD kv.1) := fun {kvs bs} h a => by
    induction a with
    | nil => exact .nil
    | @cons x y xs ys a _ ih =>
      refine .cons (.flat (.tup (SqT.of a) (keyD1_dp _)) ?_) (ih fun kv hkv => h kv (List.mem_cons_of_mem _ hkv))
      unfold keyD
      rw [PyData.hasDict]
      exact keyD1_no _
  refine ⟨.inl (.lst eb), .list (kvs.map fun kv => keyD kv.1), .even (.lst (SqL.of eb) (all (fun kv hkv => (h kv hkv).1) hb)), (tn_list (w := 21) (n := 2) (m := 20) (fun y hy => ?_) (by rw [List.length_map]; exact hl)).up (by decide) (by decide)⟩
  obtain ⟨kv, hkv, rfl⟩ := List.mem_map.mp hy
  exact (h kv hkv).1.tn
end
end TA

set_option Elab.async false
set_option maxRecDepth 100000
set_option maxHeartbeats 4000000
namespace TA
open PySem L2 PyProof.Rows
set_option linter.unusedVariables false
abbrev k99 : List Key := [.inl 9, .inl 9]
theorem key_in {G : Hp} {wk : EB → List Int} {kvs : List (List Key × V)} {bo : BD} (a : A2 (WkAt G wk) kvs bo) {e : EB} (he : e ∈ bo) : ∃ kv ∈ kvs, kv.1 = kI e.1 := by
  induction a with
  | nil => cases he
  | @cons x y xs ys z _ ih =>
    rcases List.mem_cons.mp he with rfl | he
    · exact ⟨x, List.mem_cons_self, z.1⟩
    · obtain ⟨kv, h1, h2⟩ := ih he
      exact ⟨kv, List.mem_cons_of_mem _ h1, h2⟩
theorem drop_lt {kvs : List (List Key × V)} {k : List Key} (h : ∃ kv ∈ kvs, kv.1 = k) : (dropK kvs k).length < kvs.length := by
  unfold dropK
  refine List.length_filter_lt_length_iff_exists.mpr ?_
  obtain ⟨kv, h1, h2⟩ := h
  exact ⟨kv, h1, by simp [h2]⟩
theorem OddAt.vw {a d : Addr} {H : Hp} {xs : List V} {kvs : List (List Key × V)} {k v : V} (h : OddAt H d kvs k v) (ea : H a = some (.lst xs)) : OddAt (vw (pA a) H) d kvs k v := by
  obtain ⟨o, h1, h2, ⟨es, ep, ys, uk, uv, h3, h4, h5, h6⟩, h7⟩ := h
  exact ⟨o, vw_put (pA_ok.mpr (ne_of h1 ea (fun z => by cases z))) h1, h2, ⟨es, ep, ys, uk, uv, h3, h4, h5.keeps (fun c ys e => vw_put (pA_ok.mpr (ne_of e ea (fun z => by cases z))) e), h6⟩, h7⟩
theorem keys_mono {H H' : Hp} (s : ∀ b ys, H b = some (.tup ys) → H' b = some (.tup ys)) : ∀ {kvs : List (List Key × V)} {bs : List Addr}, IsKeys H kvs bs → IsKeys H' kvs bs
  | _, _, .nil => .nil
  | _, _, .cons a b => .cons (s _ _ a) (keys_mono s b)
theorem hasK_99 {T : TD} (hW : WF T) (h4 : ∀ h, h < 2 → (T.al h).length ≤ 4) : hasK T.bo (9, 9) = false := by
  unfold hasK
  rw [List.any_eq_false]
  intro e he c
  have := of_decide_eq_true c
  have rg := hW.rng e he
  have := h4 0 (by decide)
  unfold iI at *
  injection ‹_ = ((9 : Int), (9 : Int))› with h1 _
  omega
theorem ks_kI {T : TD} (hW : WF T) (h4 : ∀ h, h < 2 → (T.al h).length ≤ 4) {e : EB} (he : e ∈ T.bo) : okOut ((e.1.1 : Nat) : Int) ∧ okOut ((e.1.2 : Nat) : Int) := by
  have rg := hW.rng e he
  have q0 := h4 0 (by decide)
  have q1 := h4 1 (by decide)
  exact ⟨⟨by omega, by omega⟩, by omega, by omega⟩
theorem keyS1 {x : Int} (h : okOut x) : KeyS [.inl x] := ⟨by show 1 ≤ 3; decide, fun k hk => by
  obtain rfl := List.mem_singleton.mp hk
  exact ⟨x, rfl, h⟩⟩
theorem keyS2 {x y : Int} (h : okOut x) (g : okOut y) : KeyS [.inl x, .inl y] := ⟨by show 2 ≤ 3; decide, fun k hk => by
  rcases List.mem_cons.mp hk with rfl | hk
  · exact ⟨x, rfl, h⟩
  · obtain rfl := List.mem_singleton.mp hk
    exact ⟨y, rfl, g⟩⟩
theorem keyS3 {x y z : Int} (h : okOut x) (g : okOut y) (i : okOut z) : KeyS [.inl x, .inl y, .inl z] := ⟨by show 3 ≤ 3; decide, fun k hk => by
  rcases List.mem_cons.mp hk with rfl | hk
  · exact ⟨x, rfl, h⟩
  · exact (keyS2 g i).2 k hk⟩
theorem dt_row {K : PySem.W.Frag} {V : Hp} {b : Addr} {row : List Int} (e : V b = some (.lst (row.map .int))) (ho : ∀ x ∈ row, okOut x) (hl : row.length ≤ 245) : DT K V 2000 3 (.ref b) (rowD row) ∧ small (rowD row) :=
  ⟨(dt_lst (m := 245) e (dt_ints ho) (by rw [List.length_map]; exact hl)).up (by decide) (by decide), fun ds e => by
    cases e
    rw [List.length_map]
    omega⟩
theorem dt_splice {K : PySem.W.Frag} {V : Hp} {b : Addr} {row : List Int} {k : Nat} {oe : L2.V} {de : PyData} (e : V b = some (.lst ((row.take k).map .int ++ [oe] ++ (row.drop (k + 1)).map .int))) (ho : ∀ x ∈ row, okOut x) (hl : row.length ≤ 245) (hd : DT K V 200 2 oe de) : DT K V 2000 3 (.ref b) (.list ((row.take k).map .int ++ [de] ++ (row.drop (k + 1)).map .int)) ∧ small (.list ((row.take k).map PyData.int ++ [de] ++ (row.drop (k + 1)).map PyData.int)) := by
  have h1 : ∀ x ∈ row.take k, okOut x := fun x hx => ho x (List.mem_of_mem_take hx)
  have h2 : ∀ x ∈ row.drop (k + 1), okOut x := fun x hx => ho x (List.mem_of_mem_drop hx)
  have all := a2app (a2app ((dt_ints (K := K) (H := V) h1).imp fun _ _ z => z.up (show 6 ≤ 200 by decide) (show 1 ≤ 2 by decide)) (.cons hd .nil)) ((dt_ints (K := K) (H := V) h2).imp fun _ _ z => z.up (show 6 ≤ 200 by decide) (show 1 ≤ 2 by decide))
  have base := dt_lst (m := 1000) e all (by rw [List.length_append, List.length_append, List.length_map, List.length_map, List.length_take, List.length_drop]; show _ + 1 + _ ≤ _; omega)
  refine ⟨⟨base.k, base.nd, tn_splice ho hl hd.t⟩, fun ds e => ?_⟩
  cases e
  rw [List.length_append, List.length_append, List.length_map, List.length_map, List.length_take, List.length_drop]
  show _ + 1 + _ ≤ _
  omega
theorem item_kI {T : TD} {m : Nat} {p : IP} {d : PyData} (h : rowB d m = false) : itemB T m (kI p) d = false := by
  show (_ && rowB d m) = false
  rw [h, Bool.and_false]
end TA

set_option Elab.async false
set_option maxRecDepth 100000
set_option maxHeartbeats 4000000
namespace TA
open PySem L2 PyProof.Rows
set_option linter.unusedVariables false
def spOW (K : PySem.W.Frag) (C : Addr) : Sp := fun vs H Q _ => ∃ (a x d2 t lp : Addr) (n : Int) (T : TD) (r : Nat) (ch : Nat → List Int) (wk : EB → List Int) (cal wd : Addr) (kvs : List (List Key × V)) (ys : List V), vs = [.ref a, .ref wd, .ref lp] ∧ WellAt H a n ∧ 0 ≤ n ∧ n < 900000 ∧ WF T ∧ (∀ h, h < 2 → (T.al h).length ≤ 4) ∧ TaskV C a H x d2 T ∧ PrF C (vw (pA a) H) x t T r ch wk cal wd kvs ∧ H lp = some (.lst ys) ∧ lp ≠ a ∧ A2 (TpAt H) ys ((sb T).map fun e => iI e.1) ∧
  ∀ (v : V) (H' : Hp), But a H H' → WellAt H' a (n + 10) → WalksOdd K C (vw (pA a) H') x T (3 ^ r + 1) v → Q v H'
section
variable {P : Program} {w : World} {K : PySem.W.Frag} {mg : Str → Option Value} {base : Heap}
abbrev nOW : List Str := ["_law_state", "_law_walks", "_law_pairs", "_law_pair", "_law_path", "_law_k", "_law_odd_here", "_law_found", "_law_way"]
theorem sc_ow : FnScope nOW ["_law_state", "_law_walks", "_law_pairs"] (defScope s__law_odd_walks) := ⟨rfl, rfl, rfl, by decide +kernel, rfl, by decide +kernel, by decide +kernel⟩
theorem ok_ow {f g1 g2 C : Addr} {fd d1 d2 : FuncData} (F : Fun K "_law_odd_walks" "_law_odd_walks" s__law_odd_walks f fd) (T : Txt K mg) (T2 : Txt2 K mg) (Dg : Def P w K mg base "_law_digit" ["_law_state", "_law_base"] 1 spDigit g1 d1) (Of : Def P w K mg base "_law_of" nOf 2 (spOf K) g2 d2) : FnOk P w K mg base CX0 3 f fd ["_law_state", "_law_walks", "_law_pairs"] (spOW K C) := by
  refine F.ok sc_ow (fun vs H Q E h => ?_) (fun cdv A outer s H vs Q E hr h => ?_)
  · obtain ⟨a, x, d2, t, lp, n, D, r, ch, wk, cal, wd, kvs, ys, rfl, _⟩ := h
    rfl
  obtain ⟨a, x, d2, t, lp, n, D, r, ch, wk, cal, wd, kvs, ys, rfl, w, hn0, hn1, hW, h4, hV, B, hlp, nlp, hys, q⟩ := h
  have nd := sc_ow.nd
  have hu := hu_of hr
  have hu1 := hu_of hr
  have hu2 : (A.deeper (envOfC "_law_odd_walks" (defScope s__law_odd_walks) s.heap.objs.size f cdv)).units + 2 < cLine := by have := hr.un; omega
  refine ⟨_, (pss_cons (ps_set (i := 3) nd rfl (Or.inl rfl) (pe_call Of.G (hr.mono (by decide)) rfl Of.m Of.k Of.b .nil pass0 (pa_cons (pv 0) (pa_cons (pv 2) pa_nil))))
    (pss_cons (ps_set (i := 4) nd rfl (Or.inl rfl) (pe_dget hu (pv 1) (pv 3) (fun _ _ => rfl)))
    (pss_cons (ps_set (i := 5) nd rfl (Or.inl rfl) (pe_call Dg.G (hr.mono (by decide)) rfl Dg.m Dg.k Dg.b .nil pass0 (pa_cons (pv 0) (pa_cons (pe_callB call_len_seq (by rfl) T.len PySem.boot_len (pa_cons (pv 4) pa_nil)) pa_nil))))
    (pss_cons (ps_set (i := 6) nd rfl (Or.inl rfl) (pe_call Of.G (hr.mono (by decide)) rfl Of.m Of.k Of.b .nil pass0 (pa_cons (pv 0) (pa_cons (pe_lst (pa_cons pe_int (pa_cons (pe_un un_neg pe_int) (pa_cons pe_bl (pa_cons pe_non (pa_cons pe_str (pa_cons (pe_tup (pa_cons pe_int pa_nil)) (pa_cons (pe_lst (pa_cons pe_int pa_nil)) pa_nil)))))))) pa_nil))))
    (pss_cons (ps_set (i := 7) nd rfl (Or.inl rfl) (pe_callTy (call_dict_dT hu2) (by rfl) T2.dict boot_dict (pa_cons (pv 1) pa_nil)))
    (pss_cons (ps_set (i := 8) nd rfl (Or.inl rfl) (pe_call Dg.G (hr.mono (by decide)) rfl Dg.m Dg.k Dg.b .nil pass0 (pa_cons (pv 0) (pa_cons pe_int pa_nil))))
    (pss_cons (ps_if (pt_cmpR op_eq (pv 8) pe_int (nomark _))
      (pss_one (ps_expr (pe_bm PySem.F.plainAttrs_dict PySem.F.slot_dict_pop PySem.F.type_dict_pop (mt_pop1T hu1) (pv 7) (pa_cons (pv 3) pa_nil))))
      (pss_one (ps_if (pt_cmpR op_eq (pv 8) pe_int (nomark _))
      (pss_one (ps_dput hu (pv 7) (pe_tup (pa_cons pe_int (pa_cons pe_int pa_nil))) (pe_callTy call_list_of (by rfl) T.list boot_list (pa_cons (pv 4) pa_nil)) rfl))
      (pss_one (ps_if (pt_cmpR op_eq (pv 8) pe_int (nomark _))
      (pss_one (ps_dput hu (pv 7) (pv 3) (pe_call Of.G (hr.mono (by decide)) rfl Of.m Of.k Of.b .nil pass0 (pa_cons (pv 0) (pa_cons (pe_lst (pa_cons (pe_slice sl_list (pv 4) po_none (po_some (pe_un un_neg pe_int))) (pa_cons (pe_op op_cat (pv 4) (pe_lst (pa_cons pe_int pa_nil))) (pa_cons (pe_callTy call_tuple_of (by rfl) T.tuple boot_tuple (pa_cons (pv 4) pa_nil)) (pa_cons pe_non (pa_cons (pe_lst pa_nil) pa_nil)))))) pa_nil))) rfl))
      (pss_one (ps_if (pt_cmpR op_eq (pv 8) pe_int (nomark _))
      (pss_one (ps_ret (pe_call Of.G (hr.mono (by decide)) rfl Of.m Of.k Of.b .nil pass0 (pa_cons (pv 0) (pa_cons (pe_lst (pa_cons (pe_callTy (call_list_dT rfl) (by rfl) T.list boot_list (pa_cons (pv 1) pa_nil)) (pa_cons pe_non (pa_cons pe_dnewT (pa_cons pe_int (pa_cons (pe_lst (pa_cons (pv 1) pa_nil)) pa_nil)))))) pa_nil)))))
      (pss_one (ps_if (pt_cmpR op_eq (pv 8) pe_int (nomark _))
      (pss_cons (ps_expr (pe_bm PySem.F.plainAttrs_dict PySem.F.slot_dict_pop PySem.F.type_dict_pop (mt_pop1T hu1) (pv 7) (pa_cons (pv 3) pa_nil)))
    (pss_one (ps_dputO hu (pv 7) (pe_call Of.G (hr.mono (by decide)) rfl Of.m Of.k Of.b .nil pass0 (pa_cons (pv 0) (pa_cons (pe_lst (pa_cons pe_str (pa_cons pe_int (pa_cons pe_non (pa_cons (pe_op op_catT (pv 3) (pe_tup (pa_cons pe_int pa_nil))) (pa_cons (pe_tup (pa_cons pe_int (pa_cons pe_int pa_nil))) (pa_cons (pe_slice sl_tup (pv 3) po_none (po_some pe_int)) pa_nil))))))) pa_nil))) (pe_callTy call_list_of (by rfl) T.list boot_list (pa_cons (pv 4) pa_nil)) rfl)))
      (pss_one (ps_dput hu (pv 7) (pv 3) (pe_op op_cat (pe_op op_cat (pe_slice sl_list (pv 4) po_none (po_some (pv 5))) (pe_lst (pa_cons (pv 6) pa_nil))) (pe_slice sl_list (pv 4) (po_some (pe_op op_add (pv 5) pe_int)) po_none)) rfl)))))))))))
    (pss_one (ps_ret (pv 7)))))))))), ?_⟩
  obtain ⟨z0, ea0⟩ := w.lst
  have b : But a H H := fun _ _ _ e => e
  have szl : ∀ m : Nat, m ≤ 1000 → m ≤ sizeLine := fun m h => Nat.le_trans h (by decide)
  have hyl : ys.length = D.bo.length := by rw [hys.len, List.length_map, (sb_perm D).length_eq]
  have bol : 1 ≤ D.bo.length := by
    obtain ⟨e, he, _⟩ := hW.com0 0 (by have := (hW.n0 0 (by decide)).1; omega)
    exact List.length_pos_of_mem he
  have bom := bo_16 hW h4
  have hkl : kvs.length = D.bo.length := B.hwk.len
  refine ⟨_, rfl, _, rfl, a, lp, _, ys, rfl, .inr w, by omega, by omega, hlp, nlp, by omega, by omega, fun j pv H3 hj b3 w3 => ?_⟩
  obtain ⟨y, hy, tt, rfl, htt⟩ := hys.get hj
  rw [List.getElem?_map] at hy
  obtain ⟨e, hbe, rfl⟩ := Option.map_eq_some_iff.mp hy
  have he := sb_mem.mp (List.mem_of_getElem? hbe)
  have ntt : tt ≠ a := ne_of htt ea0 (fun z => by cases z)
  have htt := b3 _ _ ntt htt
  have b := b.trans b3
  have w := w3
  have B3 := PrF.mono b.vw B
  obtain ⟨v2, hv2, wr, rfl, hrow⟩ := wk_at B3.hwk hW.srt e he
  obtain ⟨nwr, hrow⟩ := vw_some hrow
  have nwr := pA_ok.mp nwr
  obtain ⟨nwd, hwd⟩ := vw_some B3.hwd
  have nwd := pA_ok.mp nwd
  have hwl := B.wlen e he
  have hp9 := pow_le B.rr
  have hw1 : 1 ≤ (wk e).length := by rw [hwl]; exact Nat.le_add_left 1 _
  have hw2 : (wk e).length ≤ 244 := by rw [hwl]; exact Nat.succ_le_succ hp9
  refine ⟨_, rfl, _, rfl, wd, _, rfl, hv2 ▸ DGet.t (k := kI e.1) hwd htt, ?_⟩
  refine ⟨_, rfl, _, rfl, wr, _, rfl, .inl (SqL.of hrow), a, _, (((wk e).length : Nat) : Int), congrArg (fun z => [V.ref a, V.int z]) (by rw [List.length_map]), .inr w, by omega, by omega, by omega, by omega, fun rk H4 rk0 rk1 b4 w4 => ?_⟩
  obtain ⟨k, rfl⟩ : ∃ o : Nat, rk = (o : Int) := ⟨rk.toNat, by omega⟩
  have hk : k < (wk e).length := by omega
  have htt := b4 _ _ ntt htt
  have hrow := b4 _ _ nwr hrow
  have hwd := b4 _ _ nwd hwd
  have b := b.trans b4
  have w := w4
  refine ⟨_, rfl, _, rfl, szl _ (by show 1 ≤ 1000; decide), fun u1 hu1' => ?_⟩
  have t1 := same_new hu1' (.tup [V.int 0])
  have nu1 : u1 ≠ a := Ne.symm (w.ne hu1')
  have eu1 : (upd H4 u1 (.tup [V.int 0])) u1 = some (.tup [V.int 0]) := upd_same
  have htt := t1 _ _ htt
  have hrow := t1 _ _ hrow
  have hwd := t1 _ _ hwd
  have b := b.trans (.same t1)
  have w := w.same t1
  generalize upd H4 u1 (.tup [V.int 0]) = G1 at t1 eu1 htt hrow hwd b w ⊢
  clear t1
  refine ⟨szl _ (by show 1 ≤ 1000; decide), fun y1 hy1 => ?_⟩
  have t2 := same_new hy1 (.lst [V.int 0])
  have ny1 : y1 ≠ a := Ne.symm (w.ne hy1)
  have ey1 : (upd G1 y1 (.lst [V.int 0])) y1 = some (.lst [V.int 0]) := upd_same
  have htt := t2 _ _ htt
  have hrow := t2 _ _ hrow
  have hwd := t2 _ _ hwd
  have eu1 := t2 _ _ eu1
  have b := b.trans (.same t2)
  have w := w.same t2
  generalize upd G1 y1 (.lst [V.int 0]) = G2 at t2 ey1 htt hrow hwd eu1 b w ⊢
  clear t2
  refine ⟨szl _ (by show 7 ≤ 1000; decide), fun l1 hl1 => ?_⟩
  have t3 := same_new hl1 (.lst [V.int 64, (fun i : Int => V.int (-i)) 1, V.bl true, V.non, V.str "0", V.ref u1, V.ref y1])
  have nl1 : l1 ≠ a := Ne.symm (w.ne hl1)
  have el1 : (upd G2 l1 (.lst [V.int 64, (fun i : Int => V.int (-i)) 1, V.bl true, V.non, V.str "0", V.ref u1, V.ref y1])) l1 = some (.lst [V.int 64, (fun i : Int => V.int (-i)) 1, V.bl true, V.non, V.str "0", V.ref u1, V.ref y1]) := upd_same
  have htt := t3 _ _ htt
  have hrow := t3 _ _ hrow
  have hwd := t3 _ _ hwd
  have eu1 := t3 _ _ eu1
  have ey1 := t3 _ _ ey1
  have b := b.trans (.same t3)
  have w := w.same t3
  generalize upd G2 l1 (.lst [V.int 64, (fun i : Int => V.int (-i)) 1, V.bl true, V.non, V.str "0", V.ref u1, V.ref y1]) = G3 at t3 el1 htt hrow hwd eu1 ey1 b w ⊢
  clear t3
  have el1 : G3 l1 = some (.lst [V.int 64, V.int (-1), V.bl true, V.non, V.str "0", V.ref u1, V.ref y1]) := el1
  refine ⟨a, l1, _, _, rfl, .inr w, by omega, by omega, el1, nl1, (by show 0 < 7; decide), (by show 7 < 1000; decide), fun j0 oe H5 hj0 b5 w5 => ?_⟩
  have htt := b5 _ _ ntt htt
  have hrow := b5 _ _ nwr hrow
  have hwd := b5 _ _ nwd hwd
  have eu1 := b5 _ _ nu1 eu1
  have ey1 := b5 _ _ ny1 ey1
  have el1 := b5 _ _ nl1 el1
  have b := b.trans b5
  have w := w5
  clear el1
  have hoe : ∀ V : Hp, V u1 = some (.tup [.int 0]) → V y1 = some (.lst [.int 0]) → ∃ de, DT K V 200 2 oe de ∧ outB de = false := fun V e1 e2 => by
    have hj8 : j0 < 7 := (List.getElem?_eq_some_iff.mp hj0).1
    obtain rfl | rfl | rfl | rfl | rfl | rfl | rfl : j0 = 0 ∨ j0 = 1 ∨ j0 = 2 ∨ j0 = 3 ∨ j0 = 4 ∨ j0 = 5 ∨ j0 = 6 := by omega
    · cases hj0
      exact ⟨.int 64, dt_of (dpk_int _) (by decide +kernel), by decide +kernel⟩
    · cases hj0
      exact ⟨.int (-1), dt_of (dpk_int _) (by decide +kernel), by decide +kernel⟩
    · cases hj0
      exact ⟨.bool true, dt_of (dpk_bl _) (by decide +kernel), rfl⟩
    · cases hj0
      exact ⟨.none, dt_of dpk_non (by decide +kernel), rfl⟩
    · cases hj0
      exact ⟨.str "0", dt_of (dpk_str _) (by decide +kernel), rfl⟩
    · cases hj0
      exact ⟨.tuple [.int 0], dt_of (dpk_tup e1 (.cons (dpk_int 0) .nil)) (by decide +kernel), rfl⟩
    · cases hj0
      exact ⟨.list [.int 0], dt_of (dpk_lst e2 (.cons (dpk_int 0) .nil)) (by decide +kernel), rfl⟩
  clear hj0
  have hks := keys_small hW B.hwk
  refine ⟨_, rfl, wd, kvs, rfl, .inl hwd, hks, fun fw hfw => ?_⟩
  have fwn : H fw = none := none_of_but b (Ne.symm (w.ne hfw)) hfw
  have t4 := same_new hfw (.dT kvs)
  have nfw : fw ≠ a := Ne.symm (w.ne hfw)
  have efw : (upd H5 fw (.dT kvs)) fw = some (.dT kvs) := upd_same
  have htt := t4 _ _ htt
  have hrow := t4 _ _ hrow
  have hwd := t4 _ _ hwd
  have eu1 := t4 _ _ eu1
  have ey1 := t4 _ _ ey1
  have b := b.trans (.same t4)
  have w := w.same t4
  generalize upd H5 fw (.dT kvs) = G4 at t4 efw htt hrow hwd eu1 ey1 b w ⊢
  clear t4
  have efwO := efw
  refine ⟨_, rfl, a, _, 7, rfl, .inr w, by omega, by omega, by decide, by decide, fun g H6 g0 g1 b6 w6 => ?_⟩
  have htt := b6 _ _ ntt htt
  have hrow := b6 _ _ nwr hrow
  have hwd := b6 _ _ nwd hwd
  have eu1 := b6 _ _ nu1 eu1
  have ey1 := b6 _ _ ny1 ey1
  have efw := b6 _ _ nfw efw
  have efwO := b6 _ _ nfw efwO
  have b := b.trans b6
  have w := w6
  have hvx : ∀ {H' : Hp}, But a H H' → TaskX C (vw (pA a) H') x D fw := fun {H'} b => by
    have hVU := hV.but ea0 b
    obtain ⟨dxx, aax, kvx, hpx, hAx, hdx, hEx⟩ := id hV
    have nd2 : d2 ≠ fw := fun c => by subst c; rw [fwn] at hdx; cases hdx
    exact hVU.vx (ne_of hpx ea0 (fun z => by cases z)) (ne_of hdx ea0 (fun z => by cases z)) nd2
  have hD : ∀ {H' : Hp}, But a H H' → ∀ kv ∈ kvs, (∃ e ∈ D.bo, kv.1 = kI e.1 ∧ dat0 D.bo wk kv = rowD (wk e)) ∧ WkE K (vw (pA a) H') (dat0 D.bo wk) kv := fun {H'} b => dat0_ok hW h4 (PrF.mono b.vw B).hwk (fun e he => by have := B.wlen e he; omega) B.wout
  have hE : ∀ {H' : Hp}, But a H H' → ∀ kv ∈ kvs, WkE K (vw (pA a) H') (dat0 D.bo wk) kv := fun {H'} b kv hkv => (hD b kv hkv).2
  have at9 : ∀ {H' : Hp} {b : Addr} {o : HO}, b ≠ a → H' b = some o → vw (pA a) H' b = some o := fun n e => vw_put (pA_ok.mpr n) e
  refine ⟨_, rfl, rfl, _, rfl, ?_⟩
  by_cases c0 : g = 0
  · refine iteT' (decide_eq_true (congrArg V.int c0)) ?_
    refine ⟨_, rfl, .inr (.inr (.inl ⟨rfl, .inr ⟨_, efw⟩⟩)), _, rfl, fw, kvs, kI e.1, tt, _, rfl, rfl, efw, htt, hv2, ?_⟩
    have b := b.new (o := .dT (dropK kvs (kI e.1))) fwn
    have w := w.but (Ne.symm nfw) (But.at (a := fw) (H := H6) (o := .dT (dropK kvs (kI e.1))))
    have efwO := efw
    have efw : (upd H6 fw (.dT (dropK kvs (kI e.1)))) fw = some (.dT (dropK kvs (kI e.1))) := upd_same
    have htt := (upd_ne (o := .dT (dropK kvs (kI e.1))) (ne_of htt efwO (fun z => by cases z))).trans htt
    have hrow := (upd_ne (o := .dT (dropK kvs (kI e.1))) (ne_of hrow efwO (fun z => by cases z))).trans hrow
    have eu1 := (upd_ne (o := .dT (dropK kvs (kI e.1))) (ne_of eu1 efwO (fun z => by cases z))).trans eu1
    have ey1 := (upd_ne (o := .dT (dropK kvs (kI e.1))) (ne_of ey1 efwO (fun z => by cases z))).trans ey1
    clear efwO
    try clear hwd
    generalize upd H6 fw (.dT (dropK kvs (kI e.1))) = H7 at b w efw  htt hrow eu1 ey1 ⊢
    have hdl := drop_lt (key_in B.hwk he)
    have hdE : ∀ {H' : Hp}, But a H H' → ∀ kv ∈ dropK kvs (kI e.1), WkE K (vw (pA a) H') (dat0 D.bo wk) kv := fun {H'} b kv hkv => hE b kv (dropK_mem hkv)
    exact ⟨_, rfl, q _ _ b (w.up (by omega)) (wo_len (hdE b) (at9 nfw efw) (by omega) (by omega))⟩
  refine iteF' (decide_eq_false (fun z => c0 (by injection z))) ?_
  refine ⟨_, rfl, rfl, _, rfl, ?_⟩
  by_cases c1 : g = 1
  · refine iteT' (decide_eq_true (congrArg V.int c1)) ?_
    refine ⟨_, rfl, wr, _, rfl, .inl (SqL.of hrow), fun p1 hp1 => ?_⟩
    have t5 := same_new hp1 (.lst ((wk e).map V.int))
    have np1 : p1 ≠ a := Ne.symm (w.ne hp1)
    have ep1 : (upd H6 p1 (.lst ((wk e).map V.int))) p1 = some (.lst ((wk e).map V.int)) := upd_same
    have htt := t5 _ _ htt
    have hrow := t5 _ _ hrow
    have hwd := t5 _ _ hwd
    have eu1 := t5 _ _ eu1
    have ey1 := t5 _ _ ey1
    have efw := t5 _ _ efw
    have b := b.trans (.same t5)
    have w := w.same t5
    generalize upd H6 p1 (.lst ((wk e).map V.int)) = G5 at t5 ep1 htt hrow hwd eu1 ey1 efw b w ⊢
    clear t5
    refine ⟨_, rfl, szl _ (by show 2 ≤ 1000; decide), fun nn hnn => ?_⟩
    have t6 := same_new hnn (.tup [V.int 9, V.int 9])
    have nnn : nn ≠ a := Ne.symm (w.ne hnn)
    have enn : (upd G5 nn (.tup [V.int 9, V.int 9])) nn = some (.tup [V.int 9, V.int 9]) := upd_same
    have htt := t6 _ _ htt
    have hrow := t6 _ _ hrow
    have hwd := t6 _ _ hwd
    have eu1 := t6 _ _ eu1
    have ey1 := t6 _ _ ey1
    have efw := t6 _ _ efw
    have ep1 := t6 _ _ ep1
    have b := b.trans (.same t6)
    have w := w.same t6
    generalize upd G5 nn (.tup [V.int 9, V.int 9]) = G6 at t6 enn htt hrow hwd eu1 ey1 efw ep1 b w ⊢
    clear t6
    have h99 : ∀ kv ∈ kvs, kv.1 ≠ k99 := fun kv hkv c => by
      obtain ⟨⟨e', he', ek, _⟩, _⟩ := hD b kv hkv
      have z := hasK_99 hW h4
      rw [ek] at c
      have c2 : iI e'.1 = (9, 9) := by
        injection c with c1 c2
        injection c2 with c2 _
        injection c1 with c1
        injection c2 with c2
        exact Prod.ext c1 c2
      have := hasK_yes he'
      rw [c2, z] at this
      cases this
    refine ⟨fw, _, rfl, DPut.t (k := k99) efw enn (Nat.lt_of_le_of_lt (show kvs.length ≤ 60 by omega) (by decide)), ?_⟩
    have b := b.new (o := .dT (putK kvs k99 (V.ref p1))) fwn
    have w := w.but (Ne.symm nfw) (But.at (a := fw) (H := G6) (o := .dT (putK kvs k99 (V.ref p1))))
    have efwO := efw
    have efw : (upd G6 fw (.dT (putK kvs k99 (V.ref p1)))) fw = some (.dT (putK kvs k99 (V.ref p1))) := upd_same
    have htt := (upd_ne (o := .dT (putK kvs k99 (V.ref p1))) (ne_of htt efwO (fun z => by cases z))).trans htt
    have hrow := (upd_ne (o := .dT (putK kvs k99 (V.ref p1))) (ne_of hrow efwO (fun z => by cases z))).trans hrow
    have eu1 := (upd_ne (o := .dT (putK kvs k99 (V.ref p1))) (ne_of eu1 efwO (fun z => by cases z))).trans eu1
    have ey1 := (upd_ne (o := .dT (putK kvs k99 (V.ref p1))) (ne_of ey1 efwO (fun z => by cases z))).trans ey1
    have ep1 := (upd_ne (o := .dT (putK kvs k99 (V.ref p1))) (ne_of ep1 efwO (fun z => by cases z))).trans ep1
    have enn := (upd_ne (o := .dT (putK kvs k99 (V.ref p1))) (ne_of enn efwO (fun z => by cases z))).trans enn
    clear efwO
    try clear hwd
    generalize upd G6 fw (.dT (putK kvs k99 (V.ref p1))) = H7 at b w efw  htt hrow eu1 ey1 ep1 enn ⊢
    obtain ⟨d1, d2⟩ := dt_row (K := K) (at9 np1 ep1) (B.wout e he) (by omega)
    have hlen : (putK kvs k99 (V.ref p1)).length = kvs.length + 1 := by rw [put_new h99, List.length_append]; rfl
    exact ⟨_, rfl, q _ _ b (w.up (by omega)) (wo_len (kvs := putK kvs k99 (V.ref p1)) (wke_put (hE b) (keyS2 (x := 9) (y := 9) ⟨by decide, by decide⟩ ⟨by decide, by decide⟩) d1 d2) (at9 nfw efw) (by rw [hlen]; omega) (by rw [hlen]; omega))⟩
  refine iteF' (decide_eq_false (fun z => c1 (by injection z))) ?_
  refine ⟨_, rfl, rfl, _, rfl, ?_⟩
  by_cases c2 : g = 2
  · refine iteT' (decide_eq_true (congrArg V.int c2)) ?_
    have hml : ((wk e).map V.int).length = (wk e).length := List.length_map _
    refine ⟨_, rfl, _, rfl, _, rfl, _, rfl, wr, _, rfl, SqL.of hrow, fun s0 hs0 => ?_⟩
    have hc0 := cut_last (xs := (wk e).map V.int) (by omega)
    rw [hml, ← List.map_take] at hc0
    rw [hc0]
    clear hc0
    have t7 := same_new hs0 (.lst (((wk e).take ((wk e).length - 1)).map V.int))
    have ns0 : s0 ≠ a := Ne.symm (w.ne hs0)
    have es0 : (upd H6 s0 (.lst (((wk e).take ((wk e).length - 1)).map V.int))) s0 = some (.lst (((wk e).take ((wk e).length - 1)).map V.int)) := upd_same
    have htt := t7 _ _ htt
    have hrow := t7 _ _ hrow
    have hwd := t7 _ _ hwd
    have eu1 := t7 _ _ eu1
    have ey1 := t7 _ _ ey1
    have efw := t7 _ _ efw
    have b := b.trans (.same t7)
    have w := w.same t7
    generalize upd H6 s0 (.lst (((wk e).take ((wk e).length - 1)).map V.int)) = G7 at t7 es0 htt hrow hwd eu1 ey1 efw b w ⊢
    clear t7
    refine ⟨_, rfl, szl _ (by show 1 ≤ 1000; decide), fun z2 hz2 => ?_⟩
    have t8 := same_new hz2 (.lst [V.int 0])
    have nz2 : z2 ≠ a := Ne.symm (w.ne hz2)
    have ez2 : (upd G7 z2 (.lst [V.int 0])) z2 = some (.lst [V.int 0]) := upd_same
    have htt := t8 _ _ htt
    have hrow := t8 _ _ hrow
    have hwd := t8 _ _ hwd
    have eu1 := t8 _ _ eu1
    have ey1 := t8 _ _ ey1
    have efw := t8 _ _ efw
    have es0 := t8 _ _ es0
    have b := b.trans (.same t8)
    have w := w.same t8
    generalize upd G7 z2 (.lst [V.int 0]) = G8 at t8 ez2 htt hrow hwd eu1 ey1 efw es0 b w ⊢
    clear t8
    refine ⟨wr, z2, _, _, rfl, rfl, hrow, ez2, szl _ (by rw [hml]; show _ + 1 ≤ 1000; omega), fun s1 hs1 => ?_⟩
    have t9 := same_new hs1 (.lst ((wk e).map V.int ++ [V.int 0]))
    have ns1 : s1 ≠ a := Ne.symm (w.ne hs1)
    have es1 : (upd G8 s1 (.lst ((wk e).map V.int ++ [V.int 0]))) s1 = some (.lst ((wk e).map V.int ++ [V.int 0])) := upd_same
    have htt := t9 _ _ htt
    have hrow := t9 _ _ hrow
    have hwd := t9 _ _ hwd
    have eu1 := t9 _ _ eu1
    have ey1 := t9 _ _ ey1
    have efw := t9 _ _ efw
    have es0 := t9 _ _ es0
    have ez2 := t9 _ _ ez2
    have b := b.trans (.same t9)
    have w := w.same t9
    generalize upd G8 s1 (.lst ((wk e).map V.int ++ [V.int 0])) = G9 at t9 es1 htt hrow hwd eu1 ey1 efw es0 ez2 b w ⊢
    clear t9
    refine ⟨_, rfl, wr, _, rfl, .inl ⟨SqL.of hrow, fun s3 hs3 => ?_⟩⟩
    have t10 := same_new hs3 (.tup ((wk e).map V.int))
    have ns3 : s3 ≠ a := Ne.symm (w.ne hs3)
    have es3 : (upd G9 s3 (.tup ((wk e).map V.int))) s3 = some (.tup ((wk e).map V.int)) := upd_same
    have htt := t10 _ _ htt
    have hrow := t10 _ _ hrow
    have hwd := t10 _ _ hwd
    have eu1 := t10 _ _ eu1
    have ey1 := t10 _ _ ey1
    have efw := t10 _ _ efw
    have es0 := t10 _ _ es0
    have ez2 := t10 _ _ ez2
    have es1 := t10 _ _ es1
    have b := b.trans (.same t10)
    have w := w.same t10
    generalize upd G9 s3 (.tup ((wk e).map V.int)) = G10 at t10 es3 htt hrow hwd eu1 ey1 efw es0 ez2 es1 b w ⊢
    clear t10
    refine ⟨szl _ (by show 0 ≤ 1000; decide), fun em hem => ?_⟩
    have t11 := same_new hem (.lst [])
    have nem : em ≠ a := Ne.symm (w.ne hem)
    have eem : (upd G10 em (.lst [])) em = some (.lst []) := upd_same
    have htt := t11 _ _ htt
    have hrow := t11 _ _ hrow
    have hwd := t11 _ _ hwd
    have eu1 := t11 _ _ eu1
    have ey1 := t11 _ _ ey1
    have efw := t11 _ _ efw
    have es0 := t11 _ _ es0
    have ez2 := t11 _ _ ez2
    have es1 := t11 _ _ es1
    have es3 := t11 _ _ es3
    have b := b.trans (.same t11)
    have w := w.same t11
    generalize upd G10 em (.lst []) = G11 at t11 eem htt hrow hwd eu1 ey1 efw es0 ez2 es1 es3 b w ⊢
    clear t11
    refine ⟨szl _ (by show 5 ≤ 1000; decide), fun l2 hl2 => ?_⟩
    have t12 := same_new hl2 (.lst [V.ref s0, V.ref s1, V.ref s3, V.non, V.ref em])
    have nl2 : l2 ≠ a := Ne.symm (w.ne hl2)
    have el2 : (upd G11 l2 (.lst [V.ref s0, V.ref s1, V.ref s3, V.non, V.ref em])) l2 = some (.lst [V.ref s0, V.ref s1, V.ref s3, V.non, V.ref em]) := upd_same
    have htt := t12 _ _ htt
    have hrow := t12 _ _ hrow
    have hwd := t12 _ _ hwd
    have eu1 := t12 _ _ eu1
    have ey1 := t12 _ _ ey1
    have efw := t12 _ _ efw
    have es0 := t12 _ _ es0
    have ez2 := t12 _ _ ez2
    have es1 := t12 _ _ es1
    have es3 := t12 _ _ es3
    have eem := t12 _ _ eem
    have b := b.trans (.same t12)
    have w := w.same t12
    generalize upd G11 l2 (.lst [V.ref s0, V.ref s1, V.ref s3, V.non, V.ref em]) = G12 at t12 el2 htt hrow hwd eu1 ey1 efw es0 ez2 es1 es3 eem b w ⊢
    clear t12
    refine ⟨a, l2, _, _, rfl, .inr w, by omega, by omega, el2, nl2, (by show 0 < 5; decide), (by show 5 < 1000; decide), fun j2 vn H8 hj2 b8 w8 => ?_⟩
    have htt := b8 _ _ ntt htt
    have hrow := b8 _ _ nwr hrow
    have hwd := b8 _ _ nwd hwd
    have eu1 := b8 _ _ nu1 eu1
    have ey1 := b8 _ _ ny1 ey1
    have efw := b8 _ _ nfw efw
    have es0 := b8 _ _ ns0 es0
    have ez2 := b8 _ _ nz2 ez2
    have es1 := b8 _ _ ns1 es1
    have es3 := b8 _ _ ns3 es3
    have eem := b8 _ _ nem eem
    have el2 := b8 _ _ nl2 el2
    have b := b.trans b8
    have w := w8
    refine ⟨_, rfl, _, rfl, fw, _, rfl, DPut.t (k := kI e.1) efw htt (Nat.lt_of_le_of_lt (show kvs.length ≤ 60 by omega) (by decide)), ?_⟩
    have b := b.new (o := .dT (putK kvs (kI e.1) vn)) fwn
    have w := w.but (Ne.symm nfw) (But.at (a := fw) (H := H8) (o := .dT (putK kvs (kI e.1) vn)))
    have efwO := efw
    have efw : (upd H8 fw (.dT (putK kvs (kI e.1) vn))) fw = some (.dT (putK kvs (kI e.1) vn)) := upd_same
    have htt := (upd_ne (o := .dT (putK kvs (kI e.1) vn)) (ne_of htt efwO (fun z => by cases z))).trans htt
    have hrow := (upd_ne (o := .dT (putK kvs (kI e.1) vn)) (ne_of hrow efwO (fun z => by cases z))).trans hrow
    have eu1 := (upd_ne (o := .dT (putK kvs (kI e.1) vn)) (ne_of eu1 efwO (fun z => by cases z))).trans eu1
    have ey1 := (upd_ne (o := .dT (putK kvs (kI e.1) vn)) (ne_of ey1 efwO (fun z => by cases z))).trans ey1
    have es0 := (upd_ne (o := .dT (putK kvs (kI e.1) vn)) (ne_of es0 efwO (fun z => by cases z))).trans es0
    have ez2 := (upd_ne (o := .dT (putK kvs (kI e.1) vn)) (ne_of ez2 efwO (fun z => by cases z))).trans ez2
    have es1 := (upd_ne (o := .dT (putK kvs (kI e.1) vn)) (ne_of es1 efwO (fun z => by cases z))).trans es1
    have es3 := (upd_ne (o := .dT (putK kvs (kI e.1) vn)) (ne_of es3 efwO (fun z => by cases z))).trans es3
    have eem := (upd_ne (o := .dT (putK kvs (kI e.1) vn)) (ne_of eem efwO (fun z => by cases z))).trans eem
    have el2 := (upd_ne (o := .dT (putK kvs (kI e.1) vn)) (ne_of el2 efwO (fun z => by cases z))).trans el2
    clear efwO
    try clear hwd
    generalize upd H8 fw (.dT (putK kvs (kI e.1) vn)) = H9 at b w efw  htt hrow eu1 ey1 es0 ez2 es1 es3 eem el2 ⊢
    obtain ⟨dv, hdv, hsm, hib⟩ : ∃ dv, DT K (vw (pA a) H9) 2000 3 vn dv ∧ small dv ∧ rowB dv (3 ^ r + 1) = false := by
      have h5 : j2 < 5 := (List.getElem?_eq_some_iff.mp hj2).1
      obtain rfl | rfl | rfl | rfl | rfl : j2 = 0 ∨ j2 = 1 ∨ j2 = 2 ∨ j2 = 3 ∨ j2 = 4 := by omega
      · cases hj2
        obtain ⟨d1, d2⟩ := dt_row (K := K) (at9 ns0 es0) (fun y hy => B.wout e he y (List.mem_of_mem_take hy)) (by rw [List.length_take]; omega)
        exact ⟨_, d1, d2, rowB_len (by rw [List.length_take]; omega)⟩
      · cases hj2
        obtain ⟨d1, d2⟩ := dt_row (K := K) (row := wk e ++ [0]) (at9 ns1 (es1.trans (by rw [List.map_append]; rfl))) (fun y hy => by
          rcases List.mem_append.mp hy with hy | hy
          · exact B.wout e he y hy
          · obtain rfl := List.mem_singleton.mp hy
            exact ⟨by decide, by decide⟩) (by rw [List.length_append]; show _ + 1 ≤ _; omega)
        exact ⟨_, d1, d2, rowB_len (by rw [List.length_append]; show _ + 1 ≠ _; omega)⟩
      · cases hj2
        refine ⟨.tuple ((wk e).map .int), (dt_tup (m := 245) (at9 ns3 es3) (dt_ints (B.wout e he)) (by rw [List.length_map]; omega)).up (by decide) (by decide), (fun ds e => by cases e), rfl⟩
      · cases hj2
        exact ⟨.none, dt_non.up (by decide) (by decide), (fun ds e => by cases e), rfl⟩
      · cases hj2
        obtain ⟨d1, d2⟩ := dt_row (K := K) (row := []) (at9 nem eem) (fun y hy => nomatch hy) (Nat.zero_le _)
        exact ⟨_, d1, d2, rowB_len (by show 0 ≠ _; omega)⟩
    exact ⟨_, rfl, q _ _ b (w.up (by omega)) (wo_put (hE b) (at9 nfw efw) (by omega) (keyS2 (ks_kI hW h4 he).1 (ks_kI hW h4 he).2) hdv hsm (hvx b) (item_kI hib))⟩
  refine iteF' (decide_eq_false (fun z => c2 (by injection z))) ?_
  refine ⟨_, rfl, rfl, _, rfl, ?_⟩
  by_cases c3 : g = 3
  · refine iteT' (decide_eq_true (congrArg V.int c3)) ?_
    refine ⟨_, rfl, _, rfl, wd, kvs, rfl, .inl hwd, fun p1 bs hp1 hbs => ?_⟩
    obtain ⟨z6, ea6⟩ := w.lst
    have hbs : IsKeys (vw (pA a) H6) kvs bs := keys_mono (fun b ys e => at9 (ne_of e ea6 (fun z => by cases z)) e) hbs
    have c : But a H6 H6 := fun _ _ _ e => e
    have t13 := same_new hp1 (.lst (bs.map V.ref))
    have np1 : p1 ≠ a := Ne.symm (w.ne hp1)
    have ep1 : (upd H6 p1 (.lst (bs.map V.ref))) p1 = some (.lst (bs.map V.ref)) := upd_same
    have htt := t13 _ _ htt
    have hrow := t13 _ _ hrow
    have hwd := t13 _ _ hwd
    have eu1 := t13 _ _ eu1
    have ey1 := t13 _ _ ey1
    have efw := t13 _ _ efw
    have b := b.trans (.same t13)
    have w := w.same t13
    have c := c.trans (.same t13)
    generalize upd H6 p1 (.lst (bs.map V.ref)) = G13 at t13 ep1 htt hrow hwd eu1 ey1 efw b c w ⊢
    clear t13
    refine fun em hem => ?_
    have t14 := same_new hem (.dT [])
    have nem : em ≠ a := Ne.symm (w.ne hem)
    have eem : (upd G13 em (.dT [])) em = some (.dT []) := upd_same
    have htt := t14 _ _ htt
    have hrow := t14 _ _ hrow
    have hwd := t14 _ _ hwd
    have eu1 := t14 _ _ eu1
    have ey1 := t14 _ _ ey1
    have efw := t14 _ _ efw
    have ep1 := t14 _ _ ep1
    have b := b.trans (.same t14)
    have w := w.same t14
    have c := c.trans (.same t14)
    generalize upd G13 em (.dT []) = G14 at t14 eem htt hrow hwd eu1 ey1 efw ep1 b c w ⊢
    clear t14
    refine ⟨_, rfl, szl _ (by show 1 ≤ 1000; decide), fun q1 hq1 => ?_⟩
    have t15 := same_new hq1 (.lst [V.ref wd])
    have nq1 : q1 ≠ a := Ne.symm (w.ne hq1)
    have eq1 : (upd G14 q1 (.lst [V.ref wd])) q1 = some (.lst [V.ref wd]) := upd_same
    have htt := t15 _ _ htt
    have hrow := t15 _ _ hrow
    have hwd := t15 _ _ hwd
    have eu1 := t15 _ _ eu1
    have ey1 := t15 _ _ ey1
    have efw := t15 _ _ efw
    have ep1 := t15 _ _ ep1
    have eem := t15 _ _ eem
    have b := b.trans (.same t15)
    have w := w.same t15
    have c := c.trans (.same t15)
    generalize upd G14 q1 (.lst [V.ref wd]) = G15 at t15 eq1 htt hrow hwd eu1 ey1 efw ep1 eem b c w ⊢
    clear t15
    refine ⟨szl _ (by show 5 ≤ 1000; decide), fun l2 hl2 => ?_⟩
    have t16 := same_new hl2 (.lst [V.ref p1, V.non, V.ref em, V.int 7, V.ref q1])
    have nl2 : l2 ≠ a := Ne.symm (w.ne hl2)
    have el2 : (upd G15 l2 (.lst [V.ref p1, V.non, V.ref em, V.int 7, V.ref q1])) l2 = some (.lst [V.ref p1, V.non, V.ref em, V.int 7, V.ref q1]) := upd_same
    have htt := t16 _ _ htt
    have hrow := t16 _ _ hrow
    have hwd := t16 _ _ hwd
    have eu1 := t16 _ _ eu1
    have ey1 := t16 _ _ ey1
    have efw := t16 _ _ efw
    have ep1 := t16 _ _ ep1
    have eem := t16 _ _ eem
    have eq1 := t16 _ _ eq1
    have b := b.trans (.same t16)
    have w := w.same t16
    have c := c.trans (.same t16)
    generalize upd G15 l2 (.lst [V.ref p1, V.non, V.ref em, V.int 7, V.ref q1]) = G16 at t16 el2 htt hrow hwd eu1 ey1 efw ep1 eem eq1 b c w ⊢
    clear t16
    refine ⟨a, l2, _, _, rfl, .inr w, by omega, by omega, el2, nl2, (by show 0 < 5; decide), (by show 5 < 1000; decide), fun j2 vn H8 hj2 b8 w8 => ?_⟩
    have htt := b8 _ _ ntt htt
    have hrow := b8 _ _ nwr hrow
    have hwd := b8 _ _ nwd hwd
    have eu1 := b8 _ _ nu1 eu1
    have ey1 := b8 _ _ ny1 ey1
    have efw := b8 _ _ nfw efw
    have ep1 := b8 _ _ np1 ep1
    have eem := b8 _ _ nem eem
    have eq1 := b8 _ _ nq1 eq1
    have el2 := b8 _ _ nl2 el2
    have b := b.trans b8
    have w := w8
    have c := c.trans b8
    have hbs := keys_mono (fun b ys e => c.vw _ _ e) hbs
    refine q _ _ b (w.up (by omega)) ?_
    have h5 : j2 < 5 := (List.getElem?_eq_some_iff.mp hj2).1
    obtain rfl | rfl | rfl | rfl | rfl : j2 = 0 ∨ j2 = 1 ∨ j2 = 2 ∨ j2 = 3 ∨ j2 = 4 := by omega
    · cases hj2
      exact wo_keys (hE b) (by omega) (at9 np1 ep1) hbs
    · cases hj2
      exact wo_val (dt_non.up (by decide) (by decide))
    · cases hj2
      exact wo_len (kvs := []) (dat := dat0 D.bo wk) (fun kv hkv => nomatch hkv) (at9 nem eem) (Nat.zero_le _) (by show 0 ≠ _; omega)
    · cases hj2
      exact wo_val ((dt_of (dpk_int 7) (by decide +kernel)).up (by decide) (by decide))
    · cases hj2
      exact wo_in (hE b) (at9 nwd hwd) (by omega) (at9 nq1 eq1)
  refine iteF' (decide_eq_false (fun z => c3 (by injection z))) ?_
  refine ⟨_, rfl, rfl, _, rfl, ?_⟩
  by_cases c4 : g = 4
  · refine iteT' (decide_eq_true (congrArg V.int c4)) ?_
    refine ⟨_, rfl, .inr (.inr (.inl ⟨rfl, .inr ⟨_, efw⟩⟩)), _, rfl, fw, kvs, kI e.1, tt, _, rfl, rfl, efw, htt, hv2, ?_⟩
    have b := b.new (o := .dT (dropK kvs (kI e.1))) fwn
    have w := w.but (Ne.symm nfw) (But.at (a := fw) (H := H6) (o := .dT (dropK kvs (kI e.1))))
    have efwO := efw
    have efw : (upd H6 fw (.dT (dropK kvs (kI e.1)))) fw = some (.dT (dropK kvs (kI e.1))) := upd_same
    have htt := (upd_ne (o := .dT (dropK kvs (kI e.1))) (ne_of htt efwO (fun z => by cases z))).trans htt
    have hrow := (upd_ne (o := .dT (dropK kvs (kI e.1))) (ne_of hrow efwO (fun z => by cases z))).trans hrow
    have eu1 := (upd_ne (o := .dT (dropK kvs (kI e.1))) (ne_of eu1 efwO (fun z => by cases z))).trans eu1
    have ey1 := (upd_ne (o := .dT (dropK kvs (kI e.1))) (ne_of ey1 efwO (fun z => by cases z))).trans ey1
    clear efwO
    try clear hwd
    generalize upd H6 fw (.dT (dropK kvs (kI e.1))) = H7 at b w efw  htt hrow eu1 ey1 ⊢
    have hdl := drop_lt (key_in B.hwk he)
    have hdE : ∀ {H' : Hp}, But a H H' → ∀ kv ∈ dropK kvs (kI e.1), WkE K (vw (pA a) H') (dat0 D.bo wk) kv := fun {H'} b kv hkv => hE b kv (dropK_mem hkv)
    refine ⟨_, rfl, wr, _, rfl, .inl (SqL.of hrow), fun p1 hp1 => ?_⟩
    have t17 := same_new hp1 (.lst ((wk e).map V.int))
    have np1 : p1 ≠ a := Ne.symm (w.ne hp1)
    have ep1 : (upd H7 p1 (.lst ((wk e).map V.int))) p1 = some (.lst ((wk e).map V.int)) := upd_same
    have htt := t17 _ _ htt
    have hrow := t17 _ _ hrow
    have eu1 := t17 _ _ eu1
    have ey1 := t17 _ _ ey1
    have efw := t17 _ _ efw
    have b := b.trans (.same t17)
    have w := w.same t17
    generalize upd H7 p1 (.lst ((wk e).map V.int)) = G17 at t17 ep1 htt hrow eu1 ey1 efw b w ⊢
    clear t17
    refine ⟨_, rfl, _, rfl, _, rfl, szl _ (by show 1 ≤ 1000; decide), fun z2 hz2 => ?_⟩
    have t18 := same_new hz2 (.tup [V.int 0])
    have nz2 : z2 ≠ a := Ne.symm (w.ne hz2)
    have ez2 : (upd G17 z2 (.tup [V.int 0])) z2 = some (.tup [V.int 0]) := upd_same
    have htt := t18 _ _ htt
    have hrow := t18 _ _ hrow
    have eu1 := t18 _ _ eu1
    have ey1 := t18 _ _ ey1
    have efw := t18 _ _ efw
    have ep1 := t18 _ _ ep1
    have b := b.trans (.same t18)
    have w := w.same t18
    generalize upd G17 z2 (.tup [V.int 0]) = G18 at t18 ez2 htt hrow eu1 ey1 efw ep1 b w ⊢
    clear t18
    refine ⟨tt, z2, _, _, rfl, rfl, SqT.of htt, SqT.of ez2, (fun c => by cases c), szl _ (by show 3 ≤ 1000; decide), (fun c => by cases c), fun _ s1 hs1 => ?_⟩
    have t19 := same_new hs1 (.tup ([V.int (iI e.1).1, V.int (iI e.1).2] ++ [V.int 0]))
    have ns1 : s1 ≠ a := Ne.symm (w.ne hs1)
    have es1 : (upd G18 s1 (.tup ([V.int (iI e.1).1, V.int (iI e.1).2] ++ [V.int 0]))) s1 = some (.tup ([V.int (iI e.1).1, V.int (iI e.1).2] ++ [V.int 0])) := upd_same
    have htt := t19 _ _ htt
    have hrow := t19 _ _ hrow
    have eu1 := t19 _ _ eu1
    have ey1 := t19 _ _ ey1
    have efw := t19 _ _ efw
    have ep1 := t19 _ _ ep1
    have ez2 := t19 _ _ ez2
    have b := b.trans (.same t19)
    have w := w.same t19
    generalize upd G18 s1 (.tup ([V.int (iI e.1).1, V.int (iI e.1).2] ++ [V.int 0])) = G19 at t19 es1 htt hrow eu1 ey1 efw ep1 ez2 b w ⊢
    clear t19
    refine ⟨szl _ (by show 2 ≤ 1000; decide), fun nn hnn => ?_⟩
    have t20 := same_new hnn (.tup [V.int 9, V.int 9])
    have nnn : nn ≠ a := Ne.symm (w.ne hnn)
    have enn : (upd G19 nn (.tup [V.int 9, V.int 9])) nn = some (.tup [V.int 9, V.int 9]) := upd_same
    have htt := t20 _ _ htt
    have hrow := t20 _ _ hrow
    have eu1 := t20 _ _ eu1
    have ey1 := t20 _ _ ey1
    have efw := t20 _ _ efw
    have ep1 := t20 _ _ ep1
    have ez2 := t20 _ _ ez2
    have es1 := t20 _ _ es1
    have b := b.trans (.same t20)
    have w := w.same t20
    generalize upd G19 nn (.tup [V.int 9, V.int 9]) = G20 at t20 enn htt hrow eu1 ey1 efw ep1 ez2 es1 b w ⊢
    clear t20
    refine ⟨_, rfl, _, rfl, tt, _, rfl, SqT.of htt, (by show ¬ (HT.sIx 2 0 none = 0 ∧ HT.sIx 2 2 (some 1) = 2); decide), fun s2 hs2 => ?_⟩
    have t21 := same_new hs2 (.tup (cutV [V.int (iI e.1).1, V.int (iI e.1).2] none (some 1)))
    have ns2 : s2 ≠ a := Ne.symm (w.ne hs2)
    have es2 : (upd G20 s2 (.tup (cutV [V.int (iI e.1).1, V.int (iI e.1).2] none (some 1)))) s2 = some (.tup (cutV [V.int (iI e.1).1, V.int (iI e.1).2] none (some 1))) := upd_same
    have htt := t21 _ _ htt
    have hrow := t21 _ _ hrow
    have eu1 := t21 _ _ eu1
    have ey1 := t21 _ _ ey1
    have efw := t21 _ _ efw
    have ep1 := t21 _ _ ep1
    have ez2 := t21 _ _ ez2
    have es1 := t21 _ _ es1
    have enn := t21 _ _ enn
    have b := b.trans (.same t21)
    have w := w.same t21
    generalize upd G20 s2 (.tup (cutV [V.int (iI e.1).1, V.int (iI e.1).2] none (some 1))) = G21 at t21 es2 htt hrow eu1 ey1 efw ep1 ez2 es1 enn b w ⊢
    clear t21
    refine ⟨szl _ (by show 6 ≤ 1000; decide), fun l2 hl2 => ?_⟩
    have t22 := same_new hl2 (.lst [V.str "pair", V.int 5, V.non, V.ref s1, V.ref nn, V.ref s2])
    have nl2 : l2 ≠ a := Ne.symm (w.ne hl2)
    have el2 : (upd G21 l2 (.lst [V.str "pair", V.int 5, V.non, V.ref s1, V.ref nn, V.ref s2])) l2 = some (.lst [V.str "pair", V.int 5, V.non, V.ref s1, V.ref nn, V.ref s2]) := upd_same
    have htt := t22 _ _ htt
    have hrow := t22 _ _ hrow
    have eu1 := t22 _ _ eu1
    have ey1 := t22 _ _ ey1
    have efw := t22 _ _ efw
    have ep1 := t22 _ _ ep1
    have ez2 := t22 _ _ ez2
    have es1 := t22 _ _ es1
    have enn := t22 _ _ enn
    have es2 := t22 _ _ es2
    have b := b.trans (.same t22)
    have w := w.same t22
    generalize upd G21 l2 (.lst [V.str "pair", V.int 5, V.non, V.ref s1, V.ref nn, V.ref s2]) = G22 at t22 el2 htt hrow eu1 ey1 efw ep1 ez2 es1 enn es2 b w ⊢
    clear t22
    refine ⟨a, l2, _, _, rfl, .inr w, by omega, by omega, el2, nl2, (by show 0 < 6; decide), (by show 6 < 1000; decide), fun j2 yn H8 hj2 b8 w8 => ?_⟩
    have htt := b8 _ _ ntt htt
    have hrow := b8 _ _ nwr hrow
    have eu1 := b8 _ _ nu1 eu1
    have ey1 := b8 _ _ ny1 ey1
    have efw := b8 _ _ nfw efw
    have ep1 := b8 _ _ np1 ep1
    have ez2 := b8 _ _ nz2 ez2
    have es1 := b8 _ _ ns1 es1
    have enn := b8 _ _ nnn enn
    have es2 := b8 _ _ ns2 es2
    have el2 := b8 _ _ nl2 el2
    have b := b.trans b8
    have w := w8
    have hsz : (dropK kvs (kI e.1)).length < sizeLine := Nat.lt_of_le_of_lt (show (dropK kvs (kI e.1)).length ≤ 60 by omega) (by decide)
    have h6 : j2 < 6 := (List.getElem?_eq_some_iff.mp hj2).1
    obtain rfl | rfl | rfl | rfl | rfl | rfl : j2 = 0 ∨ j2 = 1 ∨ j2 = 2 ∨ j2 = 3 ∨ j2 = 4 ∨ j2 = 5 := by omega
    · cases hj2
      refine .inr ⟨fw, _, rfl, efw, fun kv hkv => (hdE b kv hkv).1.int, hsz, .inr (.inr ⟨"pair", rfl, by decide +kernel⟩), fun φ od => ?_⟩
      have b := b.new (o := .ext φ) fwn
      have w := w.but (Ne.symm nfw) (But.at (a := fw) (H := H8) (o := .ext φ))
      have efwO := efw
      have efw : (upd H8 fw (.ext φ)) fw = some (.ext φ) := upd_same
      have htt := (upd_ne (o := .ext φ) (ne_of htt efwO (fun z => by cases z))).trans htt
      have hrow := (upd_ne (o := .ext φ) (ne_of hrow efwO (fun z => by cases z))).trans hrow
      have eu1 := (upd_ne (o := .ext φ) (ne_of eu1 efwO (fun z => by cases z))).trans eu1
      have ey1 := (upd_ne (o := .ext φ) (ne_of ey1 efwO (fun z => by cases z))).trans ey1
      have ep1 := (upd_ne (o := .ext φ) (ne_of ep1 efwO (fun z => by cases z))).trans ep1
      have ez2 := (upd_ne (o := .ext φ) (ne_of ez2 efwO (fun z => by cases z))).trans ez2
      have es1 := (upd_ne (o := .ext φ) (ne_of es1 efwO (fun z => by cases z))).trans es1
      have enn := (upd_ne (o := .ext φ) (ne_of enn efwO (fun z => by cases z))).trans enn
      have es2 := (upd_ne (o := .ext φ) (ne_of es2 efwO (fun z => by cases z))).trans es2
      have el2 := (upd_ne (o := .ext φ) (ne_of el2 efwO (fun z => by cases z))).trans el2
      clear efwO
      try clear hwd
      generalize upd H8 fw (.ext φ) = H9 at b w efw od htt hrow eu1 ey1 ep1 ez2 es1 enn es2 el2 ⊢
      obtain ⟨z9, ea9⟩ := w.lst
      obtain ⟨d1, d2⟩ := dt_row (K := K) (at9 np1 ep1) (B.wout e he) (by omega)
      exact ⟨_, rfl, q _ _ b (w.up (by omega)) (wo_odd (hdE b) (OddAt.vw od ea9) (by omega) ((dt_of (dpk_str "pair") (by decide +kernel)).up (by decide) (by decide)) d1)⟩
    · cases hj2
      refine .inr ⟨fw, _, rfl, efw, fun kv hkv => (hdE b kv hkv).1.int, hsz, .inr (.inl ⟨5, rfl⟩), fun φ od => ?_⟩
      have b := b.new (o := .ext φ) fwn
      have w := w.but (Ne.symm nfw) (But.at (a := fw) (H := H8) (o := .ext φ))
      have efwO := efw
      have efw : (upd H8 fw (.ext φ)) fw = some (.ext φ) := upd_same
      have htt := (upd_ne (o := .ext φ) (ne_of htt efwO (fun z => by cases z))).trans htt
      have hrow := (upd_ne (o := .ext φ) (ne_of hrow efwO (fun z => by cases z))).trans hrow
      have eu1 := (upd_ne (o := .ext φ) (ne_of eu1 efwO (fun z => by cases z))).trans eu1
      have ey1 := (upd_ne (o := .ext φ) (ne_of ey1 efwO (fun z => by cases z))).trans ey1
      have ep1 := (upd_ne (o := .ext φ) (ne_of ep1 efwO (fun z => by cases z))).trans ep1
      have ez2 := (upd_ne (o := .ext φ) (ne_of ez2 efwO (fun z => by cases z))).trans ez2
      have es1 := (upd_ne (o := .ext φ) (ne_of es1 efwO (fun z => by cases z))).trans es1
      have enn := (upd_ne (o := .ext φ) (ne_of enn efwO (fun z => by cases z))).trans enn
      have es2 := (upd_ne (o := .ext φ) (ne_of es2 efwO (fun z => by cases z))).trans es2
      have el2 := (upd_ne (o := .ext φ) (ne_of el2 efwO (fun z => by cases z))).trans el2
      clear efwO
      try clear hwd
      generalize upd H8 fw (.ext φ) = H9 at b w efw od htt hrow eu1 ey1 ep1 ez2 es1 enn es2 el2 ⊢
      obtain ⟨z9, ea9⟩ := w.lst
      obtain ⟨d1, d2⟩ := dt_row (K := K) (at9 np1 ep1) (B.wout e he) (by omega)
      exact ⟨_, rfl, q _ _ b (w.up (by omega)) (wo_odd (hdE b) (OddAt.vw od ea9) (by omega) ((dt_of (dpk_int 5) (by decide +kernel)).up (by decide) (by decide)) d1)⟩
    · cases hj2
      refine .inr ⟨fw, _, rfl, efw, fun kv hkv => (hdE b kv hkv).1.int, hsz, .inl rfl, fun φ od => ?_⟩
      have b := b.new (o := .ext φ) fwn
      have w := w.but (Ne.symm nfw) (But.at (a := fw) (H := H8) (o := .ext φ))
      have efwO := efw
      have efw : (upd H8 fw (.ext φ)) fw = some (.ext φ) := upd_same
      have htt := (upd_ne (o := .ext φ) (ne_of htt efwO (fun z => by cases z))).trans htt
      have hrow := (upd_ne (o := .ext φ) (ne_of hrow efwO (fun z => by cases z))).trans hrow
      have eu1 := (upd_ne (o := .ext φ) (ne_of eu1 efwO (fun z => by cases z))).trans eu1
      have ey1 := (upd_ne (o := .ext φ) (ne_of ey1 efwO (fun z => by cases z))).trans ey1
      have ep1 := (upd_ne (o := .ext φ) (ne_of ep1 efwO (fun z => by cases z))).trans ep1
      have ez2 := (upd_ne (o := .ext φ) (ne_of ez2 efwO (fun z => by cases z))).trans ez2
      have es1 := (upd_ne (o := .ext φ) (ne_of es1 efwO (fun z => by cases z))).trans es1
      have enn := (upd_ne (o := .ext φ) (ne_of enn efwO (fun z => by cases z))).trans enn
      have es2 := (upd_ne (o := .ext φ) (ne_of es2 efwO (fun z => by cases z))).trans es2
      have el2 := (upd_ne (o := .ext φ) (ne_of el2 efwO (fun z => by cases z))).trans el2
      clear efwO
      try clear hwd
      generalize upd H8 fw (.ext φ) = H9 at b w efw od htt hrow eu1 ey1 ep1 ez2 es1 enn es2 el2 ⊢
      obtain ⟨z9, ea9⟩ := w.lst
      obtain ⟨d1, d2⟩ := dt_row (K := K) (at9 np1 ep1) (B.wout e he) (by omega)
      exact ⟨_, rfl, q _ _ b (w.up (by omega)) (wo_odd (hdE b) (OddAt.vw od ea9) (by omega) (dt_non.up (by decide) (by decide)) d1)⟩
    · cases hj2
      refine .inl ⟨fw, _, rfl, DPut.t (k := [.inl ((e.1.1 : Nat) : Int), .inl ((e.1.2 : Nat) : Int), .inl 0]) efw es1 hsz, ?_⟩
      have b := b.new (o := .dT (putK (dropK kvs (kI e.1)) [.inl ((e.1.1 : Nat) : Int), .inl ((e.1.2 : Nat) : Int), .inl 0] (V.ref p1))) fwn
      have w := w.but (Ne.symm nfw) (But.at (a := fw) (H := H8) (o := .dT (putK (dropK kvs (kI e.1)) [.inl ((e.1.1 : Nat) : Int), .inl ((e.1.2 : Nat) : Int), .inl 0] (V.ref p1))))
      have efwO := efw
      have efw : (upd H8 fw (.dT (putK (dropK kvs (kI e.1)) [.inl ((e.1.1 : Nat) : Int), .inl ((e.1.2 : Nat) : Int), .inl 0] (V.ref p1)))) fw = some (.dT (putK (dropK kvs (kI e.1)) [.inl ((e.1.1 : Nat) : Int), .inl ((e.1.2 : Nat) : Int), .inl 0] (V.ref p1))) := upd_same
      have htt := (upd_ne (o := .dT (putK (dropK kvs (kI e.1)) [.inl ((e.1.1 : Nat) : Int), .inl ((e.1.2 : Nat) : Int), .inl 0] (V.ref p1))) (ne_of htt efwO (fun z => by cases z))).trans htt
      have hrow := (upd_ne (o := .dT (putK (dropK kvs (kI e.1)) [.inl ((e.1.1 : Nat) : Int), .inl ((e.1.2 : Nat) : Int), .inl 0] (V.ref p1))) (ne_of hrow efwO (fun z => by cases z))).trans hrow
      have eu1 := (upd_ne (o := .dT (putK (dropK kvs (kI e.1)) [.inl ((e.1.1 : Nat) : Int), .inl ((e.1.2 : Nat) : Int), .inl 0] (V.ref p1))) (ne_of eu1 efwO (fun z => by cases z))).trans eu1
      have ey1 := (upd_ne (o := .dT (putK (dropK kvs (kI e.1)) [.inl ((e.1.1 : Nat) : Int), .inl ((e.1.2 : Nat) : Int), .inl 0] (V.ref p1))) (ne_of ey1 efwO (fun z => by cases z))).trans ey1
      have ep1 := (upd_ne (o := .dT (putK (dropK kvs (kI e.1)) [.inl ((e.1.1 : Nat) : Int), .inl ((e.1.2 : Nat) : Int), .inl 0] (V.ref p1))) (ne_of ep1 efwO (fun z => by cases z))).trans ep1
      have ez2 := (upd_ne (o := .dT (putK (dropK kvs (kI e.1)) [.inl ((e.1.1 : Nat) : Int), .inl ((e.1.2 : Nat) : Int), .inl 0] (V.ref p1))) (ne_of ez2 efwO (fun z => by cases z))).trans ez2
      have es1 := (upd_ne (o := .dT (putK (dropK kvs (kI e.1)) [.inl ((e.1.1 : Nat) : Int), .inl ((e.1.2 : Nat) : Int), .inl 0] (V.ref p1))) (ne_of es1 efwO (fun z => by cases z))).trans es1
      have enn := (upd_ne (o := .dT (putK (dropK kvs (kI e.1)) [.inl ((e.1.1 : Nat) : Int), .inl ((e.1.2 : Nat) : Int), .inl 0] (V.ref p1))) (ne_of enn efwO (fun z => by cases z))).trans enn
      have es2 := (upd_ne (o := .dT (putK (dropK kvs (kI e.1)) [.inl ((e.1.1 : Nat) : Int), .inl ((e.1.2 : Nat) : Int), .inl 0] (V.ref p1))) (ne_of es2 efwO (fun z => by cases z))).trans es2
      have el2 := (upd_ne (o := .dT (putK (dropK kvs (kI e.1)) [.inl ((e.1.1 : Nat) : Int), .inl ((e.1.2 : Nat) : Int), .inl 0] (V.ref p1))) (ne_of el2 efwO (fun z => by cases z))).trans el2
      clear efwO
      try clear hwd
      generalize upd H8 fw (.dT (putK (dropK kvs (kI e.1)) [.inl ((e.1.1 : Nat) : Int), .inl ((e.1.2 : Nat) : Int), .inl 0] (V.ref p1))) = H9 at b w efw  htt hrow eu1 ey1 ep1 ez2 es1 enn es2 el2 ⊢
      obtain ⟨d1, d2⟩ := dt_row (K := K) (at9 np1 ep1) (B.wout e he) (by omega)
      exact ⟨_, rfl, q _ _ b (w.up (by omega)) (wo_put (hdE b) (at9 nfw efw) (by omega) (keyS3 (ks_kI hW h4 he).1 (ks_kI hW h4 he).2 ⟨by decide, by decide⟩) d1 d2 (hvx b) rfl)⟩
    · cases hj2
      refine .inl ⟨fw, _, rfl, DPut.t (k := k99) efw enn hsz, ?_⟩
      have b := b.new (o := .dT (putK (dropK kvs (kI e.1)) k99 (V.ref p1))) fwn
      have w := w.but (Ne.symm nfw) (But.at (a := fw) (H := H8) (o := .dT (putK (dropK kvs (kI e.1)) k99 (V.ref p1))))
      have efwO := efw
      have efw : (upd H8 fw (.dT (putK (dropK kvs (kI e.1)) k99 (V.ref p1)))) fw = some (.dT (putK (dropK kvs (kI e.1)) k99 (V.ref p1))) := upd_same
      have htt := (upd_ne (o := .dT (putK (dropK kvs (kI e.1)) k99 (V.ref p1))) (ne_of htt efwO (fun z => by cases z))).trans htt
      have hrow := (upd_ne (o := .dT (putK (dropK kvs (kI e.1)) k99 (V.ref p1))) (ne_of hrow efwO (fun z => by cases z))).trans hrow
      have eu1 := (upd_ne (o := .dT (putK (dropK kvs (kI e.1)) k99 (V.ref p1))) (ne_of eu1 efwO (fun z => by cases z))).trans eu1
      have ey1 := (upd_ne (o := .dT (putK (dropK kvs (kI e.1)) k99 (V.ref p1))) (ne_of ey1 efwO (fun z => by cases z))).trans ey1
      have ep1 := (upd_ne (o := .dT (putK (dropK kvs (kI e.1)) k99 (V.ref p1))) (ne_of ep1 efwO (fun z => by cases z))).trans ep1
      have ez2 := (upd_ne (o := .dT (putK (dropK kvs (kI e.1)) k99 (V.ref p1))) (ne_of ez2 efwO (fun z => by cases z))).trans ez2
      have es1 := (upd_ne (o := .dT (putK (dropK kvs (kI e.1)) k99 (V.ref p1))) (ne_of es1 efwO (fun z => by cases z))).trans es1
      have enn := (upd_ne (o := .dT (putK (dropK kvs (kI e.1)) k99 (V.ref p1))) (ne_of enn efwO (fun z => by cases z))).trans enn
      have es2 := (upd_ne (o := .dT (putK (dropK kvs (kI e.1)) k99 (V.ref p1))) (ne_of es2 efwO (fun z => by cases z))).trans es2
      have el2 := (upd_ne (o := .dT (putK (dropK kvs (kI e.1)) k99 (V.ref p1))) (ne_of el2 efwO (fun z => by cases z))).trans el2
      clear efwO
      try clear hwd
      generalize upd H8 fw (.dT (putK (dropK kvs (kI e.1)) k99 (V.ref p1))) = H9 at b w efw  htt hrow eu1 ey1 ep1 ez2 es1 enn es2 el2 ⊢
      obtain ⟨d1, d2⟩ := dt_row (K := K) (at9 np1 ep1) (B.wout e he) (by omega)
      exact ⟨_, rfl, q _ _ b (w.up (by omega)) (wo_put (hdE b) (at9 nfw efw) (by omega) (keyS2 (x := 9) (y := 9) ⟨by decide, by decide⟩ ⟨by decide, by decide⟩) d1 d2 (hvx b) (by show (hasK D.bo (9, 9) && _) = false; rw [hasK_99 hW h4]; rfl))⟩
    · cases hj2
      refine .inl ⟨fw, _, rfl, DPut.t (k := [.inl ((e.1.1 : Nat) : Int)]) efw es2 hsz, ?_⟩
      have b := b.new (o := .dT (putK (dropK kvs (kI e.1)) [.inl ((e.1.1 : Nat) : Int)] (V.ref p1))) fwn
      have w := w.but (Ne.symm nfw) (But.at (a := fw) (H := H8) (o := .dT (putK (dropK kvs (kI e.1)) [.inl ((e.1.1 : Nat) : Int)] (V.ref p1))))
      have efwO := efw
      have efw : (upd H8 fw (.dT (putK (dropK kvs (kI e.1)) [.inl ((e.1.1 : Nat) : Int)] (V.ref p1)))) fw = some (.dT (putK (dropK kvs (kI e.1)) [.inl ((e.1.1 : Nat) : Int)] (V.ref p1))) := upd_same
      have htt := (upd_ne (o := .dT (putK (dropK kvs (kI e.1)) [.inl ((e.1.1 : Nat) : Int)] (V.ref p1))) (ne_of htt efwO (fun z => by cases z))).trans htt
      have hrow := (upd_ne (o := .dT (putK (dropK kvs (kI e.1)) [.inl ((e.1.1 : Nat) : Int)] (V.ref p1))) (ne_of hrow efwO (fun z => by cases z))).trans hrow
      have eu1 := (upd_ne (o := .dT (putK (dropK kvs (kI e.1)) [.inl ((e.1.1 : Nat) : Int)] (V.ref p1))) (ne_of eu1 efwO (fun z => by cases z))).trans eu1
      have ey1 := (upd_ne (o := .dT (putK (dropK kvs (kI e.1)) [.inl ((e.1.1 : Nat) : Int)] (V.ref p1))) (ne_of ey1 efwO (fun z => by cases z))).trans ey1
      have ep1 := (upd_ne (o := .dT (putK (dropK kvs (kI e.1)) [.inl ((e.1.1 : Nat) : Int)] (V.ref p1))) (ne_of ep1 efwO (fun z => by cases z))).trans ep1
      have ez2 := (upd_ne (o := .dT (putK (dropK kvs (kI e.1)) [.inl ((e.1.1 : Nat) : Int)] (V.ref p1))) (ne_of ez2 efwO (fun z => by cases z))).trans ez2
      have es1 := (upd_ne (o := .dT (putK (dropK kvs (kI e.1)) [.inl ((e.1.1 : Nat) : Int)] (V.ref p1))) (ne_of es1 efwO (fun z => by cases z))).trans es1
      have enn := (upd_ne (o := .dT (putK (dropK kvs (kI e.1)) [.inl ((e.1.1 : Nat) : Int)] (V.ref p1))) (ne_of enn efwO (fun z => by cases z))).trans enn
      have es2 := (upd_ne (o := .dT (putK (dropK kvs (kI e.1)) [.inl ((e.1.1 : Nat) : Int)] (V.ref p1))) (ne_of es2 efwO (fun z => by cases z))).trans es2
      have el2 := (upd_ne (o := .dT (putK (dropK kvs (kI e.1)) [.inl ((e.1.1 : Nat) : Int)] (V.ref p1))) (ne_of el2 efwO (fun z => by cases z))).trans el2
      clear efwO
      try clear hwd
      generalize upd H8 fw (.dT (putK (dropK kvs (kI e.1)) [.inl ((e.1.1 : Nat) : Int)] (V.ref p1))) = H9 at b w efw  htt hrow eu1 ey1 ep1 ez2 es1 enn es2 el2 ⊢
      obtain ⟨d1, d2⟩ := dt_row (K := K) (at9 np1 ep1) (B.wout e he) (by omega)
      exact ⟨_, rfl, q _ _ b (w.up (by omega)) (wo_put (hdE b) (at9 nfw efw) (by omega) (keyS1 (ks_kI hW h4 he).1) d1 d2 (hvx b) rfl)⟩
  refine iteF' (decide_eq_false (fun z => c4 (by injection z))) ?_
  have hml : ((wk e).map V.int).length = (wk e).length := List.length_map _
  refine ⟨_, rfl, _, rfl, _, rfl, wr, _, rfl, SqL.of hrow, fun pa2 hpa2 => ?_⟩
  rw [ctake (row := wk e) (k := k) (by omega)]
  have t23 := same_new hpa2 (.lst (((wk e).take k).map V.int))
  have npa2 : pa2 ≠ a := Ne.symm (w.ne hpa2)
  have epa2 : (upd H6 pa2 (.lst (((wk e).take k).map V.int))) pa2 = some (.lst (((wk e).take k).map V.int)) := upd_same
  have htt := t23 _ _ htt
  have hrow := t23 _ _ hrow
  have hwd := t23 _ _ hwd
  have eu1 := t23 _ _ eu1
  have ey1 := t23 _ _ ey1
  have efw := t23 _ _ efw
  have b := b.trans (.same t23)
  have w := w.same t23
  generalize upd H6 pa2 (.lst (((wk e).take k).map V.int)) = G23 at t23 epa2 htt hrow hwd eu1 ey1 efw b w ⊢
  clear t23
  refine ⟨_, rfl, szl _ (by show 1 ≤ 1000; decide), fun pb2 hpb2 => ?_⟩
  have t24 := same_new hpb2 (.lst [oe])
  have npb2 : pb2 ≠ a := Ne.symm (w.ne hpb2)
  have epb2 : (upd G23 pb2 (.lst [oe])) pb2 = some (.lst [oe]) := upd_same
  have htt := t24 _ _ htt
  have hrow := t24 _ _ hrow
  have hwd := t24 _ _ hwd
  have eu1 := t24 _ _ eu1
  have ey1 := t24 _ _ ey1
  have efw := t24 _ _ efw
  have epa2 := t24 _ _ epa2
  have b := b.trans (.same t24)
  have w := w.same t24
  generalize upd G23 pb2 (.lst [oe]) = G24 at t24 epb2 htt hrow hwd eu1 ey1 efw epa2 b w ⊢
  clear t24
  refine ⟨pa2, pb2, _, _, rfl, rfl, epa2, epb2, szl _ (by rw [List.length_map, List.length_take]; show _ + 1 ≤ 1000; omega), fun pc2 hpc2 => ?_⟩
  have t25 := same_new hpc2 (.lst (((wk e).take k).map V.int ++ [oe]))
  have npc2 : pc2 ≠ a := Ne.symm (w.ne hpc2)
  have epc2 : (upd G24 pc2 (.lst (((wk e).take k).map V.int ++ [oe]))) pc2 = some (.lst (((wk e).take k).map V.int ++ [oe])) := upd_same
  have htt := t25 _ _ htt
  have hrow := t25 _ _ hrow
  have hwd := t25 _ _ hwd
  have eu1 := t25 _ _ eu1
  have ey1 := t25 _ _ ey1
  have efw := t25 _ _ efw
  have epa2 := t25 _ _ epa2
  have epb2 := t25 _ _ epb2
  have b := b.trans (.same t25)
  have w := w.same t25
  generalize upd G24 pc2 (.lst (((wk e).take k).map V.int ++ [oe])) = G25 at t25 epc2 htt hrow hwd eu1 ey1 efw epa2 epb2 b w ⊢
  clear t25
  refine ⟨_, rfl, _, rfl, _, _, rfl, rfl, _, rfl, wr, _, rfl, SqL.of hrow, fun pd2 hpd2 => ?_⟩
  have hcd := cdrop (row := wk e) (k := k + 1) (by omega)
  rw [show (((k + 1 : Nat) : Int)) = (k : Int) + 1 from rfl] at hcd
  rw [hcd]
  clear hcd
  have t26 := same_new hpd2 (.lst (((wk e).drop (k + 1)).map V.int))
  have npd2 : pd2 ≠ a := Ne.symm (w.ne hpd2)
  have epd2 : (upd G25 pd2 (.lst (((wk e).drop (k + 1)).map V.int))) pd2 = some (.lst (((wk e).drop (k + 1)).map V.int)) := upd_same
  have htt := t26 _ _ htt
  have hrow := t26 _ _ hrow
  have hwd := t26 _ _ hwd
  have eu1 := t26 _ _ eu1
  have ey1 := t26 _ _ ey1
  have efw := t26 _ _ efw
  have epa2 := t26 _ _ epa2
  have epb2 := t26 _ _ epb2
  have epc2 := t26 _ _ epc2
  have b := b.trans (.same t26)
  have w := w.same t26
  generalize upd G25 pd2 (.lst (((wk e).drop (k + 1)).map V.int)) = G26 at t26 epd2 htt hrow hwd eu1 ey1 efw epa2 epb2 epc2 b w ⊢
  clear t26
  refine ⟨pc2, pd2, _, _, rfl, rfl, epc2, epd2, szl _ (by rw [List.length_append, List.length_map, List.length_take, List.length_map, List.length_drop]; show _ + 1 + _ ≤ 1000; omega), fun s2 hs2 => ?_⟩
  have t27 := same_new hs2 (.lst (((wk e).take k).map V.int ++ [oe] ++ ((wk e).drop (k + 1)).map V.int))
  have ns2 : s2 ≠ a := Ne.symm (w.ne hs2)
  have es2 : (upd G26 s2 (.lst (((wk e).take k).map V.int ++ [oe] ++ ((wk e).drop (k + 1)).map V.int))) s2 = some (.lst (((wk e).take k).map V.int ++ [oe] ++ ((wk e).drop (k + 1)).map V.int)) := upd_same
  have htt := t27 _ _ htt
  have hrow := t27 _ _ hrow
  have hwd := t27 _ _ hwd
  have eu1 := t27 _ _ eu1
  have ey1 := t27 _ _ ey1
  have efw := t27 _ _ efw
  have epa2 := t27 _ _ epa2
  have epb2 := t27 _ _ epb2
  have epc2 := t27 _ _ epc2
  have epd2 := t27 _ _ epd2
  have b := b.trans (.same t27)
  have w := w.same t27
  generalize upd G26 s2 (.lst (((wk e).take k).map V.int ++ [oe] ++ ((wk e).drop (k + 1)).map V.int)) = G27 at t27 es2 htt hrow hwd eu1 ey1 efw epa2 epb2 epc2 epd2 b w ⊢
  clear t27
  refine ⟨_, rfl, _, rfl, fw, _, rfl, DPut.t (k := kI e.1) efw htt (Nat.lt_of_le_of_lt (show kvs.length ≤ 60 by omega) (by decide)), ?_⟩
  have b := b.new (o := .dT (putK kvs (kI e.1) (V.ref s2))) fwn
  have w := w.but (Ne.symm nfw) (But.at (a := fw) (H := G27) (o := .dT (putK kvs (kI e.1) (V.ref s2))))
  have efwO := efw
  have efw : (upd G27 fw (.dT (putK kvs (kI e.1) (V.ref s2)))) fw = some (.dT (putK kvs (kI e.1) (V.ref s2))) := upd_same
  have htt := (upd_ne (o := .dT (putK kvs (kI e.1) (V.ref s2))) (ne_of htt efwO (fun z => by cases z))).trans htt
  have hrow := (upd_ne (o := .dT (putK kvs (kI e.1) (V.ref s2))) (ne_of hrow efwO (fun z => by cases z))).trans hrow
  have eu1 := (upd_ne (o := .dT (putK kvs (kI e.1) (V.ref s2))) (ne_of eu1 efwO (fun z => by cases z))).trans eu1
  have ey1 := (upd_ne (o := .dT (putK kvs (kI e.1) (V.ref s2))) (ne_of ey1 efwO (fun z => by cases z))).trans ey1
  have epa2 := (upd_ne (o := .dT (putK kvs (kI e.1) (V.ref s2))) (ne_of epa2 efwO (fun z => by cases z))).trans epa2
  have epb2 := (upd_ne (o := .dT (putK kvs (kI e.1) (V.ref s2))) (ne_of epb2 efwO (fun z => by cases z))).trans epb2
  have epc2 := (upd_ne (o := .dT (putK kvs (kI e.1) (V.ref s2))) (ne_of epc2 efwO (fun z => by cases z))).trans epc2
  have epd2 := (upd_ne (o := .dT (putK kvs (kI e.1) (V.ref s2))) (ne_of epd2 efwO (fun z => by cases z))).trans epd2
  have es2 := (upd_ne (o := .dT (putK kvs (kI e.1) (V.ref s2))) (ne_of es2 efwO (fun z => by cases z))).trans es2
  clear efwO
  try clear hwd
  generalize upd G27 fw (.dT (putK kvs (kI e.1) (V.ref s2))) = H9 at b w efw  htt hrow eu1 ey1 epa2 epb2 epc2 epd2 es2 ⊢
  obtain ⟨de, hde, hob⟩ := hoe (vw (pA a) H9) (at9 nu1 eu1) (at9 ny1 ey1)
  obtain ⟨d1, d2⟩ := dt_splice (at9 ns2 es2) (B.wout e he) (by omega) hde
  exact ⟨_, rfl, q _ _ b (w.up (by omega)) (wo_put (hE b) (at9 nfw efw) (by omega) (keyS2 (ks_kI hW h4 he).1 (ks_kI hW h4 he).2) d1 d2 (hvx b) (item_kI (rowB_odd hk hob)))⟩
end
end TA

set_option Elab.async false
set_option maxRecDepth 100000
set_option maxHeartbeats 4000000
namespace TA
open PySem L2 PyProof.Rows
set_option linter.unusedVariables false
theorem tn_sum {n : Nat} : ∀ {ds : List PyData} {ws : List Nat}, A2 (fun d w => Tn d w n) ds ws → PyData.showableAll ds = true ∧ PyData.leavesShortAll 48 ds = true ∧ PyData.weightAll ds ≤ ws.sum + ws.length ∧ PyData.depthAll ds ≤ n
  | _, _, .nil => ⟨by rw [PyData.showableAll], by rw [PyData.leavesShortAll], by rw [PyData.weightAll]; exact Nat.zero_le _, by rw [PyData.depthAll]; exact Nat.zero_le _⟩
  | _, _, .cons t r => by
    obtain ⟨a, b, c, e⟩ := tn_sum r
    refine ⟨by rw [PyData.showableAll, t.s, a]; rfl, by rw [PyData.leavesShortAll, t.l, b]; rfl, ?_, ?_⟩
    · rw [PyData.weightAll, List.sum_cons, List.length_cons]
      have := t.w
      omega
    · rw [PyData.depthAll]
      exact Nat.max_le.mpr ⟨t.d, e⟩
mutual
theorem dx_mono {K : PySem.W.Frag} {H H' : Hp} (s : Same H H') : ∀ {v : V} {d : PyData}, DX K H v d → DX K H' v d
  | _, _, .flat h n => .flat (dp_mono s _ _ h) n
  | _, _, .lst h g => .lst (s.seq h) (dxs_mono s g)
  | _, _, .tup h g => .tup (seqT_mono s h) (dxs_mono s g)
  | _, _, .dic h e g a b => .dic (s _ _ h) e (dxs_mono s g) a b
theorem dxs_mono {K : PySem.W.Frag} {H H' : Hp} (s : Same H H') : ∀ {v : List V} {d : List PyData}, DXs K H v d → DXs K H' v d
  | _, _, .nil => .nil
  | _, _, .cons a b => .cons (dx_mono s a) (dxs_mono s b)
end
theorem dy_mono {K : PySem.W.Frag} {H H' : Hp} (s : Same H H') {v : V} {d : PyData} (h : DY K H v d) : DY K H' v d := by
  induction h with
  | even h => exact .even (dx_mono s h)
  | odd ho ev g ek ed hk nk hv =>
    obtain ⟨o, hO⟩ := ho
    exact .odd ⟨o, hO.mono s⟩ ev (dxs_mono s g) ek ed (dp_mono s _ _ hk) nk (dx_mono s hv)
  | lst hq hl g ih => exact .lst (s.seq hq) hl ih
  | tup hq hl g ih => exact .tup (seqT_mono s hq) hl ih
theorem ShY.mono {K : PySem.W.Frag} {H H' : Hp} (s : Same H H') {w n : Nat} {v : V} (h : ShY K H w n v) : ShY K H' w n v := let ⟨d, a, t⟩ := h; ⟨d, dy_mono s a, t⟩
section
variable {K : PySem.W.Frag} {C : Addr} {V : Hp}
theorem sh_split {n : Nat} : ∀ {xs : List L2.V} {ws : List Nat}, A2 (fun v w => ShY K V w n v) xs ws → ∃ ds, A2 (DY K V) xs ds ∧ A2 (fun d w => Tn d w n) ds ws
  | _, _, .nil => ⟨[], .nil, .nil⟩
  | _, _, .cons h r => by
    obtain ⟨d, x, t⟩ := h
    obtain ⟨ds, a, b⟩ := sh_split r
    exact ⟨d :: ds, .cons x a, .cons t b⟩
theorem sh_tup {a : Addr} {xs : List L2.V} {ws : List Nat} {n W : Nat} (e : V a = some (.tup xs)) (h : A2 (fun v w => ShY K V w n v) xs ws) (hW : ws.sum + ws.length ≤ W) : ShY K V W (n + 1) (.ref a) := by
  obtain ⟨ds, h1, h2⟩ := sh_split h
  obtain ⟨p, q, r, s⟩ := tn_sum h2
  refine ⟨.tuple ds, .tup (SqT.of e) h1.len fun i x d hx hd => ?_, by rw [PyData.showable]; exact p, by rw [PyData.leavesShort]; exact q, by rw [PyData.weight]; omega, by rw [PyData.depth]; omega⟩
  obtain ⟨d', h3, h4⟩ := h1.get hx
  rw [hd] at h3
  cases h3
  exact h4
theorem sh_lst {a : Addr} {xs : List L2.V} {ws : List Nat} {n W : Nat} (e : V a = some (.lst xs)) (h : A2 (fun v w => ShY K V w n v) xs ws) (hW : ws.sum + ws.length ≤ W) : ShY K V W (n + 1) (.ref a) := by
  obtain ⟨ds, h1, h2⟩ := sh_split h
  obtain ⟨p, q, r, s⟩ := tn_sum h2
  refine ⟨.list ds, .lst (SqL.of e) h1.len fun i x d hx hd => ?_, by rw [PyData.showable]; exact p, by rw [PyData.leavesShort]; exact q, by rw [PyData.weight]; omega, by rw [PyData.depth]; omega⟩
  obtain ⟨d', h3, h4⟩ := h1.get hx
  rw [hd] at h3
  cases h3
  exact h4
theorem dt_rows2 {al : Addr} {ch : Nat → List Int} (h : RowsAt V (.ref al) [ch 0, ch 1]) (l : ∀ h, h < 2 → (ch h).length ≤ 20) (o : ∀ h, h < 2 → ∀ x ∈ ch h, okOut x) : DT K V 4002 4 (.ref al) (rowsD [ch 0, ch 1]) := by
  obtain ⟨t, xs, e, ht, a⟩ := h
  cases e
  refine dt_lst (w := 2000) (m := 2) (n := 3) ht ?_ (Nat.le_refl 2)
  cases a with
  | cons z0 a =>
  cases a with
  | cons z1 a =>
  cases a
  obtain ⟨r0, rfl, h0⟩ := z0
  obtain ⟨r1, rfl, h1⟩ := z1
  have l0 := l 0 (by decide)
  have l1 := l 1 (by decide)
  exact .cons (dt_row h0 (o 0 (by decide)) (by omega)).1 (.cons (dt_row h1 (o 1 (by decide)) (by omega)).1 .nil)
theorem wo_mono {H H' : Hp} (s : Same H H') {p : Addr} {T : TD} {m : Nat} {v : L2.V} (h : OddWk K C H p T m v ∨ ∃ wd, v = .ref wd ∧ OddWkO K H wd) : OddWk K C H' p T m v ∨ ∃ wd, v = .ref wd ∧ OddWkO K H' wd := by
  rcases h with h | ⟨wd, e, o⟩
  · exact .inl (h.mono s)
  · exact .inr ⟨wd, e, o.mono s⟩
/-- the rounds of another number -/
theorem rounds_odd {p t al wd : Addr} {T : TD} {r m : Nat} {ch : Nat → List Int} {wk : EB → List Int} {kvs : List (List Key × L2.V)} (hW : WF T) (h4 : ∀ h, h < 2 → (T.al h).length ≤ 4) (B : PrF C V p t T r ch wk al wd kvs) (hb : 1 ≤ T.bo.length) (hm : m ≠ 3 ^ r + 1) : OddWk K C V p T m (.ref wd) := by
  have hl := bo_16 hW h4
  have hkl := B.hwk.len
  have hp9 := pow_le B.rr
  have hD := dat0_ok (K := K) hW h4 B.hwk (fun e he => by have := B.wlen e he; omega) B.wout
  refine .bad B.hwd (by omega) B.x (fun kv hkv => ⟨(hD kv hkv).2.1.int, (hD kv hkv).2.2.1.k, (hD kv hkv).2.2.2⟩) ?_
  obtain ⟨kv, hkv⟩ : ∃ kv, kv ∈ kvs := by
    cases hk : kvs with
    | nil => rw [hk] at hkl; have : (0 : Nat) = T.bo.length := hkl; omega
    | cons x y => exact ⟨x, List.mem_cons_self⟩
  obtain ⟨⟨e, he, ek, ed⟩, _⟩ := hD kv hkv
  refine ⟨kv, hkv, ?_⟩
  rw [ek, ed]
  exact item_kI (rowB_len (by rw [B.wlen e he]; exact fun c => hm c.symm))
end
end TA

set_option Elab.async false
set_option maxRecDepth 100000
set_option maxHeartbeats 4000000
namespace TA
open PySem L2 PyProof.Rows
set_option linter.unusedVariables false
def spOdd (K : PySem.W.Frag) (C : Addr) : Sp := fun vs H Q _ => ∃ (a x d2 t lp : Addr) (n : Int) (T : TD) (r : Nat) (ch : Nat → List Int) (wk : EB → List Int) (cal wd : Addr) (kvs : List (List Key × V)) (ys : List V), vs = [.ref a, .ref t, .ref lp] ∧ WellAt H a n ∧ 0 ≤ n ∧ n < 800000 ∧ WF T ∧ (∀ h, h < 2 → (T.al h).length ≤ 4) ∧ TaskV C a H x d2 T ∧ PrF C (vw (pA a) H) x t T r ch wk cal wd kvs ∧ H lp = some (.lst ys) ∧ lp ≠ a ∧ A2 (TpAt H) ys ((sb T).map fun e => iI e.1) ∧
  ∀ (v : V) (H' : Hp), But a H H' → WellAt H' a (n + 20) → OddPr K C (vw (pA a) H') x T v → ShY K (vw (pA a) H') 130000 9 v → Q v H'
section
variable {P : Program} {w : World} {K : PySem.W.Frag} {mg : Str → Option Value} {base : Heap}
abbrev nOd : List Str := ["_law_state", "_law_scheme_here", "_law_pairs", "_law_rounds", "_law_alone", "_law_walks", "_law_way", "_law_odd_here"]
theorem sc_od : FnScope nOd ["_law_state", "_law_scheme_here", "_law_pairs"] (defScope s__law_odd) := ⟨rfl, rfl, rfl, by decide +kernel, rfl, by decide +kernel, by decide +kernel⟩
theorem ok_od {f g1 g2 g3 g4 C : Addr} {fd d1 d2 d3 d4 : FuncData} (F : Fun K "_law_odd" "_law_odd" s__law_odd f fd) (T : Txt K mg) (T2 : Txt2 K mg) (Dg : Def P w K mg base "_law_digit" ["_law_state", "_law_base"] 1 spDigit g1 d1) (Of : Def P w K mg base "_law_of" nOf 2 (spOf K) g2 d2) (OR : Def P w K mg base "_law_odd_rows" ["_law_state", "_law_rows"] 3 (spOR K) g3 d3) (OW : Def P w K mg base "_law_odd_walks" ["_law_state", "_law_walks", "_law_pairs"] 3 (spOW K C) g4 d4) : FnOk P w K mg base CX0 4 f fd ["_law_state", "_law_scheme_here", "_law_pairs"] (spOdd K C) := by
  refine F.ok sc_od (fun vs H Q E h => ?_) (fun cdv A outer s H vs Q E hr h => ?_)
  · obtain ⟨a, x, d2, t, lp, n, D, r, ch, wk, cal, wd, kvs, ys, rfl, _⟩ := h
    rfl
  obtain ⟨a, x, d2, t, lp, n, D, r, ch, wk, cal, wd, kvs, ys, rfl, w, hn0, hn1, hW, h4, hV, B, hlp, nlp, hys, q⟩ := h
  have nd := sc_od.nd
  have hu := hu_of hr
  refine ⟨_, (pss_cons (ps_asg (pv 1) (pg_tup (by rfl) (pgs_cons (pg_name (i := 3) nd rfl (Or.inl rfl)) (pgs_cons (pg_name (i := 4) nd rfl (Or.inl rfl)) (pgs_cons (pg_name (i := 5) nd rfl (Or.inl rfl)) pgs_nil)))))
    (pss_cons (ps_set (i := 6) nd rfl (Or.inl rfl) (pe_call Dg.G (hr.mono (by decide)) rfl Dg.m Dg.k Dg.b .nil pass0 (pa_cons (pv 0) (pa_cons pe_int pa_nil))))
    (pss_cons (ps_if (pt_cmpR op_eq (pv 6) pe_int (nomark _))
      (pss_cons (ps_set (i := 7) nd rfl (Or.inl rfl) (pe_call Of.G (hr.mono (by decide)) rfl Of.m Of.k Of.b .nil pass0 (pa_cons (pv 0) (pa_cons (pe_lst (pa_cons (pe_un un_neg pe_int) (pa_cons pe_int (pa_cons pe_bl (pa_cons pe_non (pa_cons pe_str (pa_cons (pe_op op_add (pv 3) pe_int) (pa_cons (pe_lst (pa_cons (pv 3) pa_nil)) pa_nil)))))))) pa_nil))))
    (pss_one (ps_ret (pe_tup (pa_cons (pv 7) (pa_cons (pv 4) (pa_cons (pv 5) pa_nil)))))))
      pss_nil)
    (pss_cons (ps_if (pt_cmpR op_eq (pv 6) pe_int (nomark _))
      (pss_one (ps_ret (pe_tup (pa_cons (pv 3) (pa_cons (pe_call OR.G (hr.mono (by decide)) rfl OR.m OR.k OR.b .nil pass0 (pa_cons (pv 0) (pa_cons (pv 4) pa_nil))) (pa_cons (pv 5) pa_nil))))))
      pss_nil)
    (pss_cons (ps_if (pt_cmpR op_eq (pv 6) pe_int (nomark _))
      (pss_one (ps_ret (pe_tup (pa_cons (pv 3) (pa_cons (pv 4) (pa_cons (pe_call OW.G (hr.mono (by decide)) rfl OW.m OW.k OW.b .nil pass0 (pa_cons (pv 0) (pa_cons (pv 5) (pa_cons (pv 2) pa_nil)))) pa_nil))))))
      pss_nil)
    (pss_one (ps_ret (pe_call Of.G (hr.mono (by decide)) rfl Of.m Of.k Of.b .nil pass0 (pa_cons (pv 0) (pa_cons (pe_lst (pa_cons pe_non (pa_cons (pe_callTy call_list_of (by rfl) T.list boot_list (pa_cons (pv 1) pa_nil)) (pa_cons (pe_slice sl_tup (pv 1) po_none (po_some pe_int)) (pa_cons (pe_op op_catT (pv 1) (pe_tup (pa_cons pe_int pa_nil))) (pa_cons pe_str (pa_cons (pe_tup pa_nil) (pa_cons pe_dnewT (pa_cons pe_int pa_nil))))))))) pa_nil)))))))))), ?_⟩
  obtain ⟨z0, ea0⟩ := w.lst
  have b : But a H H := fun _ _ _ e => e
  have szl : ∀ m : Nat, m ≤ 1000 → m ≤ sizeLine := fun m h => Nat.le_trans h (by decide)
  have bol : 1 ≤ D.bo.length := by
    obtain ⟨e, he, _⟩ := hW.com0 0 (by have := (hW.n0 0 (by decide)).1; omega)
    exact List.length_pos_of_mem he
  have bom := bo_16 hW h4
  have hkl : kvs.length = D.bo.length := B.hwk.len
  have hp9 := pow_le B.rr
  have hr5 := B.rr
  have shs : ∀ {H' : Hp}, But a H H' → ShY K (vw (pA a) H') 6 8 (.int (r : Int)) ∧ ShY K (vw (pA a) H') 4002 8 (.ref cal) ∧ ShY K (vw (pA a) H') 80040 8 (.ref wd) := fun {H'} b => by
    have B' := PrF.mono b.vw B
    refine ⟨(dt_int ⟨by omega, by omega⟩).sh.up (by decide) (by decide), (dt_rows2 B'.hal (fun h hh => by rw [B.len h hh]; have := h4 h hh; omega) B.outc).sh.up (by decide) (by decide), ?_⟩
    have hD := dat0_ok (K := K) hW h4 B'.hwk (fun e he => by have := B.wlen e he; omega) B.wout
    obtain ⟨d, y, z⟩ := dic_sh B'.hwd (fun kv hkv => (hD kv hkv).2) (by omega)
    exact ⟨d, .even y, z.up (by decide) (by decide)⟩
  have at9 : ∀ {H' : Hp} {b : Addr} {o : HO}, b ≠ a → H' b = some o → vw (pA a) H' b = some o := fun n e => vw_put (pA_ok.mpr n) e
  have gC : ∀ {H' : Hp}, But a H H' → GoodC (vw (pA a) H') D cal ch := fun {H'} b => ⟨(PrF.mono b.vw B).hal, B.len, B.outc⟩
  obtain ⟨nt, ht⟩ := vw_some B.ht
  have nt := pA_ok.mp nt
  refine ⟨_, rfl, t, _, rfl, SqT.of ht, rfl, _, _, rfl, _, _, rfl, _, _, rfl, rfl, ?_⟩
  refine ⟨_, rfl, a, _, 4, rfl, .inr w, by omega, by omega, by decide, by decide, fun g H1 g0 g1 b1 w1 => ?_⟩
  have ht := b1 _ _ nt ht
  have b := b.trans b1
  have w := w1
  refine ⟨_, rfl, rfl, _, rfl, ?_⟩
  by_cases c0 : g = 0
  · refine iteT' (decide_eq_true (congrArg V.int c0)) ?_
    refine ⟨_, rfl, _, rfl, _, rfl, _, _, rfl, rfl, _, rfl, szl _ (by show 1 ≤ 1000; decide), fun z1 hz1 => ?_⟩
    have t1 := same_new hz1 (.lst [V.int (r : Int)])
    have nz1 : z1 ≠ a := Ne.symm (w.ne hz1)
    have ez1 : (upd H1 z1 (.lst [V.int (r : Int)])) z1 = some (.lst [V.int (r : Int)]) := upd_same
    have ht := t1 _ _ ht
    have b := b.trans (.same t1)
    have w := w.same t1
    generalize upd H1 z1 (.lst [V.int (r : Int)]) = G1 at t1 ez1 ht b w ⊢
    clear t1
    refine ⟨szl _ (by show 7 ≤ 1000; decide), fun l1 hl1 => ?_⟩
    have t2 := same_new hl1 (.lst [(fun i : Int => V.int (-i)) 1, V.int 6, V.bl true, V.non, V.str "1", (fun i j : Int => V.int (i + j)) (r : Int) 1, V.ref z1])
    have nl1 : l1 ≠ a := Ne.symm (w.ne hl1)
    have el1 : (upd G1 l1 (.lst [(fun i : Int => V.int (-i)) 1, V.int 6, V.bl true, V.non, V.str "1", (fun i j : Int => V.int (i + j)) (r : Int) 1, V.ref z1])) l1 = some (.lst [(fun i : Int => V.int (-i)) 1, V.int 6, V.bl true, V.non, V.str "1", (fun i j : Int => V.int (i + j)) (r : Int) 1, V.ref z1]) := upd_same
    have ht := t2 _ _ ht
    have ez1 := t2 _ _ ez1
    have b := b.trans (.same t2)
    have w := w.same t2
    generalize upd G1 l1 (.lst [(fun i : Int => V.int (-i)) 1, V.int 6, V.bl true, V.non, V.str "1", (fun i j : Int => V.int (i + j)) (r : Int) 1, V.ref z1]) = G2 at t2 el1 ht ez1 b w ⊢
    clear t2
    have el1 : G2 l1 = some (.lst [V.int (-1), V.int 6, V.bl true, V.non, V.str "1", V.int ((r : Int) + 1), V.ref z1]) := el1
    refine ⟨a, l1, _, _, rfl, .inr w, by omega, by omega, el1, nl1, (by show 0 < 7; decide), (by show 7 < 1000; decide), fun j0 oe H5 hj0 b5 w5 => ?_⟩
    have ht := b5 _ _ nt ht
    have ez1 := b5 _ _ nz1 ez1
    have el1 := b5 _ _ nl1 el1
    have b := b.trans b5
    have w := w5
    refine ⟨_, rfl, _, rfl, _, rfl, szl _ (by show 3 ≤ 1000; decide), fun u hu3 => ?_⟩
    have t3 := same_new hu3 (.tup [oe, V.ref cal, V.ref wd])
    have nu : u ≠ a := Ne.symm (w.ne hu3)
    have eu : (upd H5 u (.tup [oe, V.ref cal, V.ref wd])) u = some (.tup [oe, V.ref cal, V.ref wd]) := upd_same
    have ht := t3 _ _ ht
    have ez1 := t3 _ _ ez1
    have el1 := t3 _ _ el1
    have b := b.trans (.same t3)
    have w := w.same t3
    generalize upd H5 u (.tup [oe, V.ref cal, V.ref wd]) = G3 at t3 eu ht ez1 el1 b w ⊢
    clear t3
    obtain ⟨sR, sC, sW⟩ := shs b
    have fin : ∀ d, DT K (vw (pA a) G3) 200 2 oe d → within d 0 5 = false → Q (.ref u) G3 := fun d hd hw => q _ _ b (w.up (by omega)) (.rnd (at9 nu eu) hd.k.dp hw) ((sh_tup (at9 nu eu) (.cons (hd.sh.up (Nat.le_refl _) (show 2 ≤ 8 by decide)) (.cons sC (.cons sW .nil))) (by decide)))
    have hj8 : j0 < 7 := (List.getElem?_eq_some_iff.mp hj0).1
    obtain rfl | rfl | rfl | rfl | rfl | rfl | rfl : j0 = 0 ∨ j0 = 1 ∨ j0 = 2 ∨ j0 = 3 ∨ j0 = 4 ∨ j0 = 5 ∨ j0 = 6 := by omega
    · cases hj0
      exact fin (.int (-1)) (dt_of (dpk_int _) (by decide +kernel)) (by decide)
    · cases hj0
      exact fin (.int 6) (dt_of (dpk_int _) (by decide +kernel)) (by decide)
    · cases hj0
      exact fin (.bool true) (dt_of (dpk_bl _) (by decide +kernel)) rfl
    · cases hj0
      exact fin .none (dt_of dpk_non (by decide +kernel)) rfl
    · cases hj0
      exact fin (.str "1") (dt_of (dpk_str _) (by decide +kernel)) rfl
    · cases hj0
      have hd : DT K (vw (pA a) G3) 200 2 (.int ((r : Int) + 1)) (.int ((r : Int) + 1)) := (dt_int ⟨by omega, by omega⟩).up (by decide) (by decide)
      by_cases c5 : r = 5
      · exact fin _ hd (by show decide _ = false; exact decide_eq_false (by omega))
      · refine q _ _ b (w.up (by omega)) (.wlk (r := r + 1) (at9 nu eu) (by omega) (gC b) (.inl (rounds_odd hW h4 (PrF.mono b.vw B) bol ?_))) (sh_tup (at9 nu eu) (.cons (hd.sh.up (Nat.le_refl _) (show 2 ≤ 8 by decide)) (.cons sC (.cons sW .nil))) (by decide))
        have := Nat.pow_pos (n := r) (show 0 < 3 by decide)
        rw [Nat.pow_succ]
        omega
    · cases hj0
      exact fin (.list [.int (r : Int)]) ((dt_lst (m := 1) (at9 nz1 ez1) (dt_ints (row := [(r : Int)]) (fun y hy => by
        obtain rfl := List.mem_singleton.mp hy
        exact ⟨by omega, by omega⟩)) (Nat.le_refl 1)).up (by decide) (by decide)) rfl
  refine iteF' (decide_eq_false (fun z => c0 (by injection z))) ?_
  refine ⟨_, rfl, rfl, _, rfl, ?_⟩
  by_cases c1 : g = 1
  · refine iteT' (decide_eq_true (congrArg V.int c1)) ?_
    refine ⟨_, rfl, _, rfl, _, rfl, a, cal, _, D, ch, rfl, w, by omega, by omega, hW, gC b, fun v H5 b5 w5 hro => ?_⟩
    obtain ⟨dv, hdv, hsm, hcb⟩ := hro
    have ht := b5 _ _ nt ht
    have b := b.trans b5
    have w := w5
    refine ⟨_, rfl, szl _ (by show 3 ≤ 1000; decide), fun u hu3 => ?_⟩
    have hdv := hdv.mono (.same (But.vw (.same (same_new hu3 (.tup [V.int (r : Int), v, V.ref wd])))))
    have t4 := same_new hu3 (.tup [V.int (r : Int), v, V.ref wd])
    have nu : u ≠ a := Ne.symm (w.ne hu3)
    have eu : (upd H5 u (.tup [V.int (r : Int), v, V.ref wd])) u = some (.tup [V.int (r : Int), v, V.ref wd]) := upd_same
    have ht := t4 _ _ ht
    have b := b.trans (.same t4)
    have w := w.same t4
    generalize upd H5 u (.tup [V.int (r : Int), v, V.ref wd]) = G4 at t4 eu ht hdv b w ⊢
    clear t4
    obtain ⟨sR, sC, sW⟩ := shs b
    exact q _ _ b (w.up (by omega)) (.cho (at9 nu eu) hr5 hdv.k.dp hsm hcb) (sh_tup (at9 nu eu) (.cons sR (.cons hdv.sh (.cons sW .nil))) (by decide))
  refine iteF' (decide_eq_false (fun z => c1 (by injection z))) ?_
  refine ⟨_, rfl, rfl, _, rfl, ?_⟩
  by_cases c2 : g = 2
  · refine iteT' (decide_eq_true (congrArg V.int c2)) ?_
    have hys' : A2 (TpAt H1) ys ((sb D).map fun e => iI e.1) := hys.imp fun _ _ z => by
      obtain ⟨tq, e1, e2⟩ := z
      exact ⟨tq, e1, b _ _ (ne_of e2 ea0 (fun z => by cases z)) e2⟩
    refine ⟨_, rfl, _, rfl, _, rfl, _, rfl, _, rfl, a, x, d2, t, lp, _, D, r, ch, wk, cal, wd, kvs, ys, rfl, w, by omega, by omega, hW, h4, hV.but ea0 b, PrF.mono b.vw B, b _ _ nlp hlp, nlp, hys', fun v H5 b5 w5 hwo => ?_⟩
    have ht := b5 _ _ nt ht
    have b := b.trans b5
    have w := w5
    obtain ⟨hwo, hsh⟩ := hwo
    refine ⟨szl _ (by show 3 ≤ 1000; decide), fun u hu3 => ?_⟩
    have hwo := wo_mono (But.vw (.same (same_new hu3 (.tup [V.int (r : Int), V.ref cal, v])))) hwo
    have hsh := hsh.mono (But.vw (.same (same_new hu3 (.tup [V.int (r : Int), V.ref cal, v]))))
    have t5 := same_new hu3 (.tup [V.int (r : Int), V.ref cal, v])
    have nu : u ≠ a := Ne.symm (w.ne hu3)
    have eu : (upd H5 u (.tup [V.int (r : Int), V.ref cal, v])) u = some (.tup [V.int (r : Int), V.ref cal, v]) := upd_same
    have ht := t5 _ _ ht
    have b := b.trans (.same t5)
    have w := w.same t5
    generalize upd H5 u (.tup [V.int (r : Int), V.ref cal, v]) = G5 at t5 eu ht hwo hsh b w ⊢
    clear t5
    obtain ⟨sR, sC, sW⟩ := shs b
    exact q _ _ b (w.up (by omega)) (.wlk (at9 nu eu) hr5 (gC b) hwo) (sh_tup (at9 nu eu) (.cons sR (.cons sC (.cons (hsh.up (Nat.le_refl _) (show 5 ≤ 8 by decide)) .nil))) (by decide))
  refine iteF' (decide_eq_false (fun z => c2 (by injection z))) ?_
  refine ⟨_, rfl, _, rfl, t, _, rfl, .inr (SqT.of ht), fun m1 hm1 => ?_⟩
  have t6 := same_new hm1 (.lst [V.int (r : Int), V.ref cal, V.ref wd])
  have nm1 : m1 ≠ a := Ne.symm (w.ne hm1)
  have em1 : (upd H1 m1 (.lst [V.int (r : Int), V.ref cal, V.ref wd])) m1 = some (.lst [V.int (r : Int), V.ref cal, V.ref wd]) := upd_same
  have ht := t6 _ _ ht
  have b := b.trans (.same t6)
  have w := w.same t6
  generalize upd H1 m1 (.lst [V.int (r : Int), V.ref cal, V.ref wd]) = G6 at t6 em1 ht b w ⊢
  clear t6
  refine ⟨_, rfl, _, rfl, t, _, rfl, SqT.of ht, (by show ¬ (HT.sIx 3 0 none = 0 ∧ HT.sIx 3 3 (some 2) = 3); decide), fun s1 hs1 => ?_⟩
  have t7 := same_new hs1 (.tup (cutV [V.int (r : Int), V.ref cal, V.ref wd] none (some 2)))
  have ns1 : s1 ≠ a := Ne.symm (w.ne hs1)
  have es1 : (upd G6 s1 (.tup (cutV [V.int (r : Int), V.ref cal, V.ref wd] none (some 2)))) s1 = some (.tup (cutV [V.int (r : Int), V.ref cal, V.ref wd] none (some 2))) := upd_same
  have ht := t7 _ _ ht
  have em1 := t7 _ _ em1
  have b := b.trans (.same t7)
  have w := w.same t7
  generalize upd G6 s1 (.tup (cutV [V.int (r : Int), V.ref cal, V.ref wd] none (some 2))) = G7 at t7 es1 ht em1 b w ⊢
  clear t7
  refine ⟨_, rfl, szl _ (by show 1 ≤ 1000; decide), fun z2 hz2 => ?_⟩
  have t8 := same_new hz2 (.tup [V.int 0])
  have nz2 : z2 ≠ a := Ne.symm (w.ne hz2)
  have ez2 : (upd G7 z2 (.tup [V.int 0])) z2 = some (.tup [V.int 0]) := upd_same
  have ht := t8 _ _ ht
  have em1 := t8 _ _ em1
  have es1 := t8 _ _ es1
  have b := b.trans (.same t8)
  have w := w.same t8
  generalize upd G7 z2 (.tup [V.int 0]) = G8 at t8 ez2 ht em1 es1 b w ⊢
  clear t8
  refine ⟨t, z2, _, _, rfl, rfl, SqT.of ht, SqT.of ez2, (fun c => by cases c), szl _ (by show 4 ≤ 1000; decide), (fun c => by cases c), fun _ s2 hs2 => ?_⟩
  have t9 := same_new hs2 (.tup ([V.int (r : Int), V.ref cal, V.ref wd] ++ [V.int 0]))
  have ns2 : s2 ≠ a := Ne.symm (w.ne hs2)
  have es2 : (upd G8 s2 (.tup ([V.int (r : Int), V.ref cal, V.ref wd] ++ [V.int 0]))) s2 = some (.tup ([V.int (r : Int), V.ref cal, V.ref wd] ++ [V.int 0])) := upd_same
  have ht := t9 _ _ ht
  have em1 := t9 _ _ em1
  have es1 := t9 _ _ es1
  have ez2 := t9 _ _ ez2
  have b := b.trans (.same t9)
  have w := w.same t9
  generalize upd G8 s2 (.tup ([V.int (r : Int), V.ref cal, V.ref wd] ++ [V.int 0])) = G9 at t9 es2 ht em1 es1 ez2 b w ⊢
  clear t9
  refine ⟨szl _ (by show 0 ≤ 1000; decide), fun z3 hz3 => ?_⟩
  have t10 := same_new hz3 (.tup [])
  have nz3 : z3 ≠ a := Ne.symm (w.ne hz3)
  have ez3 : (upd G9 z3 (.tup [])) z3 = some (.tup []) := upd_same
  have ht := t10 _ _ ht
  have em1 := t10 _ _ em1
  have es1 := t10 _ _ es1
  have ez2 := t10 _ _ ez2
  have es2 := t10 _ _ es2
  have b := b.trans (.same t10)
  have w := w.same t10
  generalize upd G9 z3 (.tup []) = G10 at t10 ez3 ht em1 es1 ez2 es2 b w ⊢
  clear t10
  refine fun em hem => ?_
  have t11 := same_new hem (.dT [])
  have nem : em ≠ a := Ne.symm (w.ne hem)
  have eem : (upd G10 em (.dT [])) em = some (.dT []) := upd_same
  have ht := t11 _ _ ht
  have em1 := t11 _ _ em1
  have es1 := t11 _ _ es1
  have ez2 := t11 _ _ ez2
  have es2 := t11 _ _ es2
  have ez3 := t11 _ _ ez3
  have b := b.trans (.same t11)
  have w := w.same t11
  generalize upd G10 em (.dT []) = G11 at t11 eem ht em1 es1 ez2 es2 ez3 b w ⊢
  clear t11
  refine ⟨szl _ (by show 8 ≤ 1000; decide), fun l2 hl2 => ?_⟩
  have t12 := same_new hl2 (.lst [V.non, V.ref m1, V.ref s1, V.ref s2, V.str "protocol", V.ref z3, V.ref em, V.int 3])
  have nl2 : l2 ≠ a := Ne.symm (w.ne hl2)
  have el2 : (upd G11 l2 (.lst [V.non, V.ref m1, V.ref s1, V.ref s2, V.str "protocol", V.ref z3, V.ref em, V.int 3])) l2 = some (.lst [V.non, V.ref m1, V.ref s1, V.ref s2, V.str "protocol", V.ref z3, V.ref em, V.int 3]) := upd_same
  have ht := t12 _ _ ht
  have em1 := t12 _ _ em1
  have es1 := t12 _ _ es1
  have ez2 := t12 _ _ ez2
  have es2 := t12 _ _ es2
  have ez3 := t12 _ _ ez3
  have eem := t12 _ _ eem
  have b := b.trans (.same t12)
  have w := w.same t12
  generalize upd G11 l2 (.lst [V.non, V.ref m1, V.ref s1, V.ref s2, V.str "protocol", V.ref z3, V.ref em, V.int 3]) = G12 at t12 el2 ht em1 es1 ez2 es2 ez3 eem b w ⊢
  clear t12
  refine ⟨a, l2, _, _, rfl, .inr w, by omega, by omega, el2, nl2, (by show 0 < 8; decide), (by show 8 < 1000; decide), fun j2 vn H8 hj2 b8 w8 => ?_⟩
  have ht := b8 _ _ nt ht
  have em1 := b8 _ _ nm1 em1
  have es1 := b8 _ _ ns1 es1
  have ez2 := b8 _ _ nz2 ez2
  have es2 := b8 _ _ ns2 es2
  have ez3 := b8 _ _ nz3 ez3
  have eem := b8 _ _ nem eem
  have el2 := b8 _ _ nl2 el2
  have b := b.trans b8
  have w := w8
  obtain ⟨sR, sC, sW⟩ := shs b
  have h8 : j2 < 8 := (List.getElem?_eq_some_iff.mp hj2).1
  obtain rfl | rfl | rfl | rfl | rfl | rfl | rfl | rfl : j2 = 0 ∨ j2 = 1 ∨ j2 = 2 ∨ j2 = 3 ∨ j2 = 4 ∨ j2 = 5 ∨ j2 = 6 ∨ j2 = 7 := by omega
  · cases hj2
    exact q _ _ b (w.up (by omega)) (.nt .non rfl) (dt_non.sh.up (by decide) (by decide))
  · cases hj2
    exact q _ _ b (w.up (by omega)) (.lst (at9 nm1 em1)) (sh_lst (at9 nm1 em1) (.cons sR (.cons sC (.cons sW .nil))) (by decide))
  · cases hj2
    have es1 : H8 s1 = some (.tup [V.int (r : Int), V.ref cal]) := es1
    exact q _ _ b (w.up (by omega)) (.tlen (at9 ns1 es1) (by show 2 ≠ 3; decide)) (sh_tup (at9 ns1 es1) (.cons sR (.cons sC .nil)) (by decide))
  · cases hj2
    have es2 : H8 s2 = some (.tup [V.int (r : Int), V.ref cal, V.ref wd, V.int 0]) := es2
    exact q _ _ b (w.up (by omega)) (.tlen (at9 ns2 es2) (by show 4 ≠ 3; decide)) (sh_tup (at9 ns2 es2) (.cons sR (.cons sC (.cons sW (.cons ((dt_int (i := 0) ⟨by decide, by decide⟩).sh.up (Nat.le_refl 6) (show 1 ≤ 8 by decide)) .nil)))) (by decide))
  · cases hj2
    exact q _ _ b (w.up (by omega)) (.nt (.str _) rfl) ((dt_of (dpk_str "protocol") (by decide +kernel)).sh.up (by decide) (by decide))
  · cases hj2
    exact q _ _ b (w.up (by omega)) (.tlen (at9 nz3 ez3) (by decide)) (sh_tup (n := 8) (at9 nz3 ez3) .nil (by decide))
  · cases hj2
    obtain ⟨d, y, z⟩ := dic_sh (K := K) (dat := fun _ => .none) (at9 nem eem) (fun kv hkv => nomatch hkv) (Nat.zero_le _)
    exact q _ _ b (w.up (by omega)) (.dic (at9 nem eem)) ⟨d, .even y, z.up (by decide) (by decide)⟩
  · cases hj2
    exact q _ _ b (w.up (by omega)) (.nt (.int 3) rfl) ((dt_of (dpk_int 3) (by decide +kernel)).sh.up (by decide) (by decide))
end
end TA

set_option Elab.async false
set_option maxRecDepth 100000
set_option maxHeartbeats 4000000
namespace TA
open PySem PySem.Spec L2 PyProof.Rows LamX
set_option linter.unusedVariables false
/-- what a def keeps where no repr is under way around it -/
structure Quiet (P : Program) (w : World) (K : PySem.W.Frag) (mg : Str → Option Value) (base : Heap) (k : Nat) (f : Addr) (fd : FuncData) (ps : List Str) (sp : Sp) : Prop where
  len : ∀ vs H Q E, sp vs H Q E → vs.length = ps.length
  run : ∀ (A : Around) (outer : List Env) (s : Shared) (H : Hp) (args : Args) (us : List Value) (vs : List V) (Q : VK) (E : XK), A.guards = some [] → Room k A → Env0 P w K mg base A outer s H → BindsTo s fd args (ps.zip us) → Vals vs us → sp vs H Q E →
    codeAny (model P w) A (.call (.ref f) args) (CR CX0 outer P w H s Q E) s
section
variable {P : Program} {w : World} {K : PySem.W.Frag} {mg : Str → Option Value} {base : Heap}
theorem quiet_of {x qual : Str} {st : Stmt} {f : Addr} {fd : FuncData} {N ps : List Str} {k : Nat} {sp : Sp} (F : Fun K x qual st f fd) (S : FnScope N ps (defScope st)) (len : ∀ vs H Q E, sp vs H Q E → vs.length = ps.length)
    (body : ∀ (cdv : Value) (A : Around) (outer : List Env) (s : Shared) (H : Hp) (vs : List V) (Q : VK) (E : XK), A.guards = some [] → Room k (A.deeper (envOfC qual (defScope st) s.heap.objs.size f cdv)) → sp vs H Q E →
      ∃ t, PSs (cxOf CX0 P w K mg base N qual (defScope st) f cdv A outer s H E).nox (defBody st) t ∧ t { nx := fun _ H' => Q .non H', rt := Q } (L2.start N vs) H) : Quiet P w K mg base (k + 1) f fd ps sp := by
  obtain ⟨oc, od, kV, doc, pm, an, cdv, ct, osl, rfl, lk, hcd⟩ := F.ex
  refine ⟨len, fun A outer s H args us vs Q E hg hr e0 hb hv hs => ?_⟩
  refine run_ofS (N := N) (ps := ps) lk hcd S hr e0 hb hv (len _ _ _ _ hs) fun hr2 => ?_
  obtain ⟨t, p, q⟩ := body cdv A outer s H vs Q E hg hr2 hs
  exact ⟨t, p.nox, q⟩
end
/-! the law called, nothing under way, no table of code -/
section
variable {P : Program} {w : World} {K : PySem.W.Frag} {mg mb : Str → Option Value}
def atCall (K : PySem.W.Frag) (a : Addr) (ob : Obj) (xs : List V) : Hp := fun b => if b = a then (if (K.lookup a).isSome then none else some (.frz ob (.lst xs))) else none
theorem atCall_a {a : Addr} {ob : Obj} {xs : List V} : atCall K a ob xs a = if (K.lookup a).isSome then none else some (.frz ob (.lst xs)) := if_pos rfl
theorem atCall_no {a b : Addr} {ob : Obj} {xs : List V} (m : b ≠ a) : atCall K a ob xs b = none := if_neg m
theorem quiet_end0 {k : Nat} {fa a : Addr} {fd : FuncData} {x : Str} {sp : Sp} {s : Shared} {vs : List Value} {ns : List Int}
    (KX : K.In s.heap) (gl : s.heap.Ns mainGlobals mg) (bn : s.heap.Ns builtinsNs mb) (bb : ∀ x : Str, x ≠ "__name__" → mb x = bootBuiltins x) (nl : s.heap.NoLimit) (gs : s.gens = #[])
    (sc : s.heap.get? a = some { cls := .type "list", data := .seq vs.toArray }) (hi : IntsAre vs ns) (hz : ns.length ≤ sizeLine) (hr : Room k callerA)
    (F : ∀ base : Heap, K.In base → base.Ns mainGlobals mg → Quiet P w K mg base k fa fd [x] sp) (bd : ∀ (s : Shared) (u : Value), BindsTo s fd ⟨[u], []⟩ [(x, u)])
    (hsp : ∀ H : Hp, SqL K H a (ns.map V.int) → sp [.ref a] H (fun v _ => v = .bl true) fun _ _ _ => False) :
    codeAny (model P w) callerA (.call (.ref fa) ⟨[.ref a], []⟩) (fun r s' => r = .ok (.ret (.bool true)) ∧ OldK s.heap s'.heap ∧ s'.os = s.os ∧ AllBare s'.gens) s := by
  have rv := vals_ints hi
  have ln := hi.length
  obtain ⟨H, Ha, Ho⟩ : ∃ H : Hp, (H a = if (K.lookup a).isSome then none else some (.frz { cls := .type "list", data := .seq vs.toArray } (.lst (ns.map V.int)))) ∧ ∀ b, b ≠ a → H b = none := ⟨_, atCall_a, fun b m => atCall_no m⟩
  have seen : SqL K H a (ns.map V.int) := by
    cases e : K.lookup a with
    | none =>
      rw [e] at Ha
      exact .inl (.inr ⟨_, Ha⟩)
    | some o =>
      have q := KX a o e
      rw [sc] at q
      cases q
      exact .inr ⟨_, vs.toArray, _, e, rfl, rfl, rfl, by rw [List.size_toArray, ln]; exact hz, by simpa using rv⟩
  have ok : HOk P w H s.heap := fun b u e => by
    by_cases h2 : b = a
    · subst h2
      rw [Ha] at e
      cases q : (K.lookup b).isSome with
      | true => simp [q] at e
      | false =>
        simp [q] at e
        subst e
        exact ⟨sc, by rw [List.length_map]; exact hz, vs, _, rv, sc⟩
    · rw [Ho b h2] at e
      cases e
  have keepO : ∀ {b : Addr} {o : Obj}, s.heap.get? b = some o → (∀ xs n, o.data ≠ .seq xs n) → (hidT s.heap H).get? b = some o := fun {b o} e n1 =>
    hidT_get e (Ho b fun z => by rw [z, sc] at e; cases e; exact n1 _ _ rfl)
  have keepN : ∀ {b : Addr} {m : Str → Option Value}, s.heap.Ns b m → (hidT s.heap H).Ns b m := fun {b m} h => by
    obtain ⟨o, es, ep, e, d, r⟩ := h
    exact ⟨o, es, ep, keepO e (fun xs n z => by rw [d] at z; cases z), d, r⟩
  have keepK : K.In (hidT s.heap H) := fun b o e => hidT_get (KX b o e) (by
    by_cases h2 : b = a
    · subst h2
      rw [Ha, e]
      rfl
    · exact Ho b h2)
  have e0 : Env0 P w K mg (hidT s.heap H) callerA [] s H := by
    refine ⟨rfl, ⟨keepK, keepN gl, ⟨mb, keepN bn, bb⟩, ?_⟩, fun b o e => of_hidT e, Nat.le_of_eq (hidT_size _ _), trivial, fun b hb => absurd (show b ∈ ([] : List Addr) from hb) (by simp), ok, .of_eq gs⟩
    obtain ⟨mc, h1, h2⟩ := nl
    exact ⟨mc, keepN h1, h2⟩
  refine codeAny_mono ((F _ keepK (keepN gl)).run callerA [] s H ⟨[.ref a], []⟩ [.ref a] [.ref a] (fun v _ => v = .bl true) (fun _ _ _ => False) rfl hr e0 (bd s (.ref a)) (.cons rfl .nil) (hsp H seen)) fun r s' h => ?_
  match r, h with
  | .error _, h => exact False.elim h
  | .ok (.ret u), h =>
    obtain ⟨v, H', os, bare, un, ok', rr, q⟩ := h
    have ev : v = .bl true := q
    subst ev
    obtain rfl : u = Value.bool true := rr
    refine ⟨rfl, OldK.of_keep fun b o e => ?_, os, bare⟩
    cases g : H b with
    | none => exact un.keep b o e g (fun z => absurd (show b ∈ ([] : List Addr) from z) (by simp)) (by simp)
    | some u =>
      by_cases h2 : b = a
      · subst h2
        have fz : ∃ ob xs, u = .frz ob (.lst xs) := by
          rw [Ha] at g
          cases q2 : (K.lookup b).isSome with
          | true => simp [q2] at g
          | false =>
            simp [q2] at g
            exact ⟨_, _, g.symm⟩
        obtain ⟨ob, xs, rfl⟩ := fz
        obtain ⟨g1, _⟩ := ok b _ g
        obtain ⟨g2, _⟩ := ok' b _ (un.frzs b ob _ g)
        rw [e] at g1
        cases g1
        exact g2
      · rw [Ho b h2] at g
        cases g
end
theorem cut_ints {ns : List Int} {lo hi : Option Int} {x : V} (h : x ∈ cutV (ns.map V.int) lo hi) : ∃ c : Int, x = .int c := by
  unfold cutV at h
  have h1 := List.mem_of_mem_drop (List.mem_of_mem_take h)
  obtain ⟨c, _, e⟩ := List.mem_map.mp h1
  exact ⟨c, e.symm⟩
structure KDef (P : Program) (w : World) (K : PySem.W.Frag) (mg : Str → Option Value) (base : Heap) (C : Addr) (x : Str) (ps : List Str) (k : Nat) (sp : Sp) (f : Addr) (fd : FuncData) : Prop where
  G : FnOk P w K mg base CX0 k f fd ps sp
  b : Binds K fd ps []
  M : Mk K C f
  m : mg x = some (.ref C)
theorem PartsV.but {st : Addr} {H H' : Hp} {al d : Addr} {T : TD} {zs : List V} (h : PartsV st H al d T) (es : H st = some (.lst zs)) (b : But st H H') : PartsV st H' al d T := by
  obtain ⟨h1, kvs, h2, h3⟩ := h
  exact ⟨h1.mono (vwA_but b), kvs, b _ _ (ne_of h2 es (fun z => by cases z)) h2, h3.imp fun _ _ r => r.mono (vwA_but b)⟩
theorem SchV.but {st : Addr} {H H' : Hp} {t : Addr} {T : TD} {r ch wk al wd kvs} {zs : List V} (h : SchV st H t T r ch wk al wd kvs) (es : H st = some (.lst zs)) (b : But st H H') : SchV st H' t T r ch wk al wd kvs :=
  ⟨b _ _ (ne_of h.ht es (fun z => by cases z)) h.ht, h.hal.mono (vwA_but b), b _ _ (ne_of h.hwd es (fun z => by cases z)) h.hwd, h.hwk.imp fun _ _ r => r.mono (vwA_but b), h.len, h.outc, h.wlen, h.wout, h.w0, h.w1⟩
end TA

set_option Elab.async false
set_option maxRecDepth 100000
set_option maxHeartbeats 4000000
namespace TA
open PySem L2 PyProof.Rows
set_option linter.unusedVariables false
def okHs (r : Nat) (hs : List Nat) : Prop := (∀ h ∈ hs, h < 2) ∧ (∀ h < 2, hs.count h ≤ 2 * r) ∧ hs.length ≤ 40
theorem len_two : ∀ {hs : List Nat}, (∀ h ∈ hs, h < 2) → hs.length = hs.count 0 + hs.count 1
  | [], _ => rfl
  | h :: hs, q => by
    have ih := len_two (hs := hs) fun x hx => q x (List.mem_cons_of_mem _ hx)
    have hh := q h List.mem_cons_self
    obtain rfl | rfl : h = 0 ∨ h = 1 := by omega
    · rw [List.length_cons, List.count_cons_self, List.count_cons_of_ne (by decide)]
      omega
    · rw [List.length_cons, List.count_cons_self, List.count_cons_of_ne (by decide)]
      omega
theorem okInts (l : List Int) : Ok 2 (.list (l.map PyData.int)) := ok_list fun d hd => by
  obtain ⟨x, _, rfl⟩ := List.mem_map.mp hd
  exact ok_int x
theorem eqv_two (a b c d : Int) : PyData.eqv (.list [.int a, .int b]) (.list [.int c, .int d]) = (decide (a = c) && decide (b = d)) := by
  show ((a == c) && ((b == d) && true)) = _
  rw [Bool.and_true]
  rfl
theorem rep_flat (k : Nat) (v : V) : (List.replicate k [v]).flatten = List.replicate k v := by
  induction k with
  | zero => rfl
  | succ k ih => rw [List.replicate_succ, List.replicate_succ, List.flatten_cons, ih]; rfl
theorem hl_app (xs ys : List Nat) : TB.hl xs ++ TB.hl ys = TB.hl (xs ++ ys) := by unfold TB.hl; rw [List.map_append]
theorem hl_rep (n z : Nat) : List.replicate n (V.int (z : Int)) = TB.hl (List.replicate n z) := by unfold TB.hl; rw [List.map_replicate]
theorem hl_len (xs : List Nat) : (TB.hl xs).length = xs.length := List.length_map _
theorem ix2 {h : Nat} (hh : h < 2) (x y : V) : ixN ([x, y] : List V).length (h : Int) = some h := by
  unfold ixN
  rw [if_pos (by omega), if_pos (by show (h : Int) < 2; omega)]
  rfl
theorem orW {b : Bool} {T F R : Prop} (c : Prop) (kT : c → T) (h : b = true → c) (r : b = false → (c → T) → R) : if b = true then (if true = true then T else F) else R := by
  cases b with
  | true => exact iteT (iteT (kT (h rfl)))
  | false => exact iteF (r rfl kT)
/-- a weaving under way -/
def WIn (r : Nat) (hs : List Nat) (l : Nat → Nat) : Prop := (∀ h ∈ hs, h < 2) ∧ ∀ h, h < 2 → hs.count h + l h ≤ 2 * r
theorem WIn.more {r : Nat} {hs : List Nat} {l : Nat → Nat} (w : WIn r hs l) {h k : Nat} (hh : h < 2) (hk : k ≤ l h) : WIn r (hs ++ List.replicate k h) (TB.upf l h (l h - k)) := by
  refine ⟨fun x hx => ?_, fun i hi => ?_⟩
  · rcases List.mem_append.mp hx with z | z
    · exact w.1 x z
    · rw [(List.mem_replicate.mp z).2]
      exact hh
  · rw [List.count_append, List.count_replicate]
    have := w.2 i hi
    by_cases c : i = h
    · subst c
      rw [TB.upf_same, if_pos (by simp)]
      omega
    · rw [TB.upf_ne c, if_neg (by simpa using Ne.symm c)]
      omega
theorem WIn.len {r : Nat} {hs : List Nat} {l : Nat → Nat} (w : WIn r hs l) : hs.length + l 0 + l 1 ≤ 4 * r := by
  rw [len_two w.1]
  have := w.2 0 (by decide)
  have := w.2 1 (by decide)
  omega
def spLWv : Sp := fun vs H Q _ => ∃ (a : Addr) (n : Int) (r : Nat), vs = [.ref a, .int (r : Int)] ∧ WellAt H a n ∧ 0 ≤ n ∧ n < 900000 ∧ r ≤ 5 ∧
  ∀ (lw : Addr) (hs : List Nat) (H' : Hp), But a H H' → H lw = none → H' lw = some (.lst (TB.hl hs)) → okHs r hs → WellAt H' a (n + 200) → Q (.ref lw) H'
section
variable {P : Program} {w : World} {K : PySem.W.Frag} {mg : Str → Option Value} {base : Heap}
abbrev nLW : List Str := ["_law_state", "_law_rounds", "_law_left", "_law_found", "_law_runs", "_law_hand", "_law_many"]
theorem sc_lw : FnScope nLW ["_law_state", "_law_rounds"] (defScope sLawWeav) := ⟨rfl, rfl, rfl, by decide +kernel, rfl, by decide +kernel, by decide +kernel⟩
theorem ok_lw {f g1 : Addr} {fd d1 : FuncData} (F : Fun K "_law_weaving" "_law_weaving" sLawWeav f fd) (T : Txt K mg) (Dg : Def P w K mg base "_law_digit" ["_law_state", "_law_base"] 1 spDigit g1 d1) : FnOk P w K mg base CX0 2 f fd ["_law_state", "_law_rounds"] spLWv := by
  refine F.ok sc_lw (fun vs H Q E h => ?_) (fun cdv A outer s H vs Q E hr h => ?_)
  · obtain ⟨a, n, r, rfl, _⟩ := h
    rfl
  obtain ⟨a, n, r, rfl, hw, hn0, hn, hr5, q⟩ := h
  have nd := sc_lw.nd
  refine ⟨_, (pss_cons (ps_set (i := 2) nd rfl (Or.inl rfl) (pe_lst (pa_cons (pe_op op_mul pe_int (pv 1)) (pa_cons (pe_op op_mul pe_int (pv 1)) pa_nil))))
    (pss_cons (ps_if (pt_cmpR op_eq (pe_call Dg.G (hr.mono (by decide)) rfl Dg.m Dg.k Dg.b .nil pass0 (pa_cons (pv 0) (pa_cons pe_int pa_nil))) pe_int (nomark _))
      (pss_one (ps_asg (pe_call Dg.G (hr.mono (by decide)) rfl Dg.m Dg.k Dg.b .nil pass0 (pa_cons (pv 0) (pa_cons (pe_op op_add (pe_op op_mul pe_int (pv 1)) pe_int) pa_nil))) (pg_sub (pv 2) (pe_call Dg.G (hr.mono (by decide)) rfl Dg.m Dg.k Dg.b .nil pass0 (pa_cons (pv 0) (pa_cons pe_int pa_nil))) set_list)))
      pss_nil)
    (pss_cons (ps_set (i := 3) nd rfl (Or.inl rfl) (pe_lst pa_nil))
    (pss_cons (ps_set (i := 4) nd rfl (Or.inl rfl) (pe_op op_add pe_int (pe_call Dg.G (hr.mono (by decide)) rfl Dg.m Dg.k Dg.b .nil pass0 (pa_cons (pv 0) (pa_cons pe_int pa_nil)))))
    (pss_cons (ps_while PassesOwn.never (pt_cmpR (op_neD hr.units) (pv 2) (pe_lst (pa_cons pe_int (pa_cons pe_int pa_nil))) (nomark _))
      (pss_cons (ps_set (i := 5) nd rfl (Or.inl rfl) (pe_call Dg.G (hr.mono (by decide)) rfl Dg.m Dg.k Dg.b .nil pass0 (pa_cons (pv 0) (pa_cons pe_int pa_nil))))
    (pss_cons (ps_set (i := 6) nd rfl (Or.inl rfl) (pe_callB (call_min2 rfl) (by rfl) T.min (by decide +kernel) (pa_cons (pe_ix ix_list (pv 2) (pv 5) (fun _ _ => rfl)) (pa_cons (pe_op op_add pe_int (pe_call Dg.G (hr.mono (by decide)) rfl Dg.m Dg.k Dg.b .nil pass0 (pa_cons (pv 0) (pa_cons (pv 4) pa_nil)))) pa_nil))))
    (pss_cons (ps_set (i := 3) nd rfl (Or.inl rfl) (pe_op op_cat (pv 3) (pe_op op_rep (pe_lst (pa_cons (pv 5) pa_nil)) (pv 6))))
    (pss_cons (ps_asg (pe_op op_sub (pe_ix ix_list (pv 2) (pv 5) (fun _ _ => rfl)) (pv 6)) (pg_sub (pv 2) (pv 5) set_list))
    (pss_one (ps_if (PW.pt (pw_or (pt_cmpR op_eq (pe_ix ix_list (pv 2) (pe_op op_sub pe_int (pv 5)) (fun _ _ => rfl)) pe_int (nomark _)) (pw_or1 (PW.pt (pw_and (pt_cmpR op_eq (pe_ix ix_list (pv 2) (pv 5) (fun _ _ => rfl)) pe_int (nomark _)) (pw_and1 (pt_cmpR op_eq (pv 6) pe_int (nomark _))))))))
      (pss_cons (ps_set (i := 3) nd rfl (Or.inl rfl) (pe_op op_cat (pe_op op_cat (pv 3) (pe_op op_rep (pe_lst (pa_cons (pv 5) pa_nil)) (pe_ix ix_list (pv 2) (pv 5) (fun _ _ => rfl)))) (pe_op op_rep (pe_lst (pa_cons (pe_op op_sub pe_int (pv 5)) pa_nil)) (pe_ix ix_list (pv 2) (pe_op op_sub pe_int (pv 5)) (fun _ _ => rfl)))))
    (pss_one (ps_set (i := 2) nd rfl (Or.inl rfl) (pe_lst (pa_cons pe_int (pa_cons pe_int pa_nil))))))
      pss_nil)))))))
    (pss_one (ps_ret (pv 3)))))))), ?_⟩
  have e2 : 2 * (r : Int) = ((2 * r : Nat) : Int) := by omega
  refine ⟨_, rfl, _, _, rfl, rfl, .inl ⟨by decide, by decide⟩, _, rfl, _, _, rfl, rfl, .inl ⟨by decide, by decide⟩, (by show 2 ≤ sizeLine; decide), fun lf hlf => ?_⟩
  have s1 := same_new hlf (.lst [V.int (2 * (r : Int)), V.int (2 * (r : Int))])
  have el : (upd H lf (.lst [V.int (2 * (r : Int)), V.int (2 * (r : Int))])) lf = some (.lst [V.int ((2 * r : Nat) : Int), V.int ((2 * r : Nat) : Int)]) := by rw [upd_same, e2]
  have nalf : a ≠ lf := hw.ne hlf
  have w1 := hw.same s1
  have b1 : But a H (upd H lf (.lst [V.int (2 * (r : Int)), V.int (2 * (r : Int))])) := .same s1
  generalize upd H lf (.lst [V.int (2 * (r : Int)), V.int (2 * (r : Int))]) = H1 at el w1 b1 ⊢
  refine ⟨_, rfl, a, n, 4, rfl, .inr w1, hn0, by omega, by decide, by decide, fun x2 H2 _ _ b2 w2 => ?_⟩
  refine ⟨rfl, _, rfl, ?_⟩
  refine join2 (fun σ Hn => σ = [some (.ref a), some (.int (r : Int)), some (.ref lf), none, none, none, none] ∧ But a H Hn ∧ WellAt Hn a (n + 3) ∧ ∃ l : Nat → Nat, Hn lf = some (.lst [.int ((l 0 : Nat) : Int), .int ((l 1 : Nat) : Int)]) ∧ ∀ h, h < 2 → l h ≤ 2 * r) ⟨rfl, b1.trans b2, w2.up (by omega), fun _ => 2 * r, b2 _ _ (Ne.symm nalf) el, fun h hh => Nat.le_refl _⟩ ?_ ?_
  rotate_left
  · intro _ k
    refine ⟨_, rfl, _, rfl, _, _, rfl, rfl, .inl ⟨by decide, by decide⟩, _, _, rfl, rfl, a, n + 1, 2 * (r : Int) + 1, rfl, .inr w2, by omega, by omega, by omega, by omega, fun x3 H3 x30 x31 b3 w3 => ?_⟩
    refine ⟨_, rfl, _, rfl, a, n + 1 + 1, 2, rfl, .inr w3, by omega, by omega, by decide, by decide, fun x4 H4 x40 x41 b4 w4 => ?_⟩
    obtain ⟨y3, rfl⟩ : ∃ y : Nat, x3 = (y : Int) := ⟨x3.toNat, by omega⟩
    obtain ⟨y4, rfl⟩ : ∃ y : Nat, x4 = (y : Int) := ⟨x4.toNat, by omega⟩
    have h4 : y4 < 2 := by omega
    have el4 := b4 _ _ (Ne.symm nalf) (b3 _ _ (Ne.symm nalf) (b2 _ _ (Ne.symm nalf) el))
    refine ⟨lf, _, _, y4, rfl, rfl, el4, ix2 h4 _ _, ?_⟩
    have et := TB.two_set (fun _ : Nat => V.int ((2 * r : Nat) : Int)) h4 (V.int (y3 : Int))
    refine k _ _ ⟨rfl, (((b1.trans b2).trans b3).trans b4).new hlf, (w4.but nalf But.at).up (by omega), TB.upf (fun _ => 2 * r) y4 y3, ?_, fun h hh => ?_⟩
    · rw [upd_same]
      show some (HO.lst (([(fun _ : Nat => V.int ((2 * r : Nat) : Int)) 0, (fun _ : Nat => V.int ((2 * r : Nat) : Int)) 1] : List V).set y4 (V.int (y3 : Int)))) = _
      rw [et]
      obtain rfl | rfl : y4 = 0 ∨ y4 = 1 := by omega
      · rfl
      · rfl
    · by_cases c : h = y4
      · subst c
        rw [TB.upf_same]
        omega
      · rw [TB.upf_ne c]
        exact Nat.le_refl _
  rintro σ H5 ⟨rfl, b5, w5, l0, el5, hl0⟩
  clear el w1 b1 b2 w2 s1
  refine ⟨(by show 0 ≤ sizeLine; decide), fun fo hfo => ?_⟩
  have s6 := same_new hfo (.lst [])
  have nafo : a ≠ fo := w5.ne hfo
  have nlfo : lf ≠ fo := ne_of_none el5 hfo
  have hfoH : H fo = none := none_of_but b5 (Ne.symm nafo) hfo
  have ef6 : (upd H5 fo (.lst [])) fo = some (.lst (TB.hl [])) := upd_same
  refine ⟨_, rfl, a, n + 3, 3, rfl, .inr (w5.same s6), by omega, by omega, by decide, by decide, fun x7 H7 x70 x71 b7 w7 => ?_⟩
  refine ⟨_, _, rfl, rfl, ?_⟩
  have hb7 : But a H H7 := (b5.trans (.same s6)).trans b7
  have el7 := b7 _ _ (Ne.symm nalf) (s6 _ _ el5)
  have ef7 := b7 _ _ (Ne.symm nafo) ef6
  refine ⟨fun m σ H' => ∃ (lf fo : Addr) (g5 g6 : Option V) (l : Nat → Nat) (hs : List Nat), σ = [some (.ref a), some (.int (r : Int)), some (.ref lf), some (.ref fo), some (.int (1 + x7)), g5, g6] ∧ m = l 0 + l 1 ∧ But a H H' ∧ WellAt H' a (n + 84 - 4 * (m : Int)) ∧ H lf = none ∧ H' lf = some (.lst [.int ((l 0 : Nat) : Int), .int ((l 1 : Nat) : Int)]) ∧ H fo = none ∧ H' fo = some (.lst (TB.hl hs)) ∧ lf ≠ fo ∧ a ≠ lf ∧ a ≠ fo ∧ WIn r hs l, ⟨l0 0 + l0 1, lf, fo, _, _, l0, [], rfl, rfl, hb7, ?_, hlf, el7, hfoH, ef7, nlfo, nalf, nafo, ⟨fun h hh => (nomatch hh), fun h hh => by rw [List.count_nil]; have := hl0 h hh; omega⟩⟩, ?_⟩
  · have := hl0 0 (by decide)
    have := hl0 1 (by decide)
    exact w7.up (by omega)
  clear hfo s6 ef6 b7 w7 hb7 el7 ef7 nlfo nafo hfoH b5 w5 el5 hl0 l0 hlf nalf
  rintro m σ H8 ⟨lf, fo, g5, g6, l, hs, rfl, rfl, b8, w8, hlf, el8, hfo, ef8, nlf, nalf, nafo, hW⟩
  have hlen := hW.len
  have hll := hW.2 0 (by decide)
  have hll1 := hW.2 1 (by decide)
  refine ⟨_, rfl, (by show 2 ≤ sizeLine; decide), fun t0 ht0 => ?_⟩
  have t9 := same_new ht0 (.lst [V.int 0, V.int 0])
  have el9 := t9 _ _ el8
  have ef9 := t9 _ _ ef8
  have w9 := w8.same t9
  have b9 := b8.trans (.same t9)
  have e0 : (upd H8 t0 (.lst [V.int 0, V.int 0])) t0 = some (.lst [V.int 0, V.int 0]) := upd_same
  generalize upd H8 t0 (.lst [V.int 0, V.int 0]) = H9 at el9 ef9 w9 b9 e0 ⊢
  clear t9 b8 w8 el8 ef8 ht0
  refine ⟨.list [.int ((l 0 : Nat) : Int), .int ((l 1 : Nat) : Int)], .list [.int 0, .int 0], Dp.lst (SqL.of el9) (.cons (.int _) (.cons (.int _) .nil)), Dp.lst (SqL.of e0) (.cons (.int _) (.cons (.int _) .nil)), (okInts [_, _]).shaped (by decide), (okInts [0, 0]).shaped (by decide), _, rfl, ?_⟩
  rw [eqv_two]
  by_cases c : l 0 = 0 ∧ l 1 = 0
  · obtain ⟨c0, c1⟩ := c
    refine iteF' (by rw [c0, c1]; rfl) ⟨_, rfl, ?_⟩
    refine q fo hs H9 b9 hfo ef9 ⟨hW.1, fun h hh => by have := hW.2 h hh; omega, by omega⟩ (w9.up (by omega))
  refine iteT' (by
    by_cases c0 : l 0 = 0
    · rw [decide_eq_false (show ¬ ((l 1 : Nat) : Int) = 0 from fun z => c ⟨c0, by omega⟩), Bool.and_false]
      rfl
    · rw [decide_eq_false (show ¬ ((l 0 : Nat) : Int) = 0 by omega), Bool.false_and]
      rfl) ?_
  refine ⟨fun σ' H'' => ∃ m' < l 0 + l 1, ∃ (lf fo : Addr) (g5 g6 : Option V) (l : Nat → Nat) (hs : List Nat), σ' = [some (.ref a), some (.int (r : Int)), some (.ref lf), some (.ref fo), some (.int (1 + x7)), g5, g6] ∧ m' = l 0 + l 1 ∧ But a H H'' ∧ WellAt H'' a (n + 84 - 4 * (m' : Int)) ∧ H lf = none ∧ H'' lf = some (.lst [.int ((l 0 : Nat) : Int), .int ((l 1 : Nat) : Int)]) ∧ H fo = none ∧ H'' fo = some (.lst (TB.hl hs)) ∧ lf ≠ fo ∧ a ≠ lf ∧ a ≠ fo ∧ WIn r hs l, fun σ' H'' h => h, ?_⟩
  refine ⟨_, rfl, a, _, 2, rfl, .inr w9, by omega, by omega, by decide, by decide, fun xh H10 xh0 xh1 b10 w10 => ?_⟩
  obtain ⟨h, rfl⟩ : ∃ y : Nat, xh = (y : Int) := ⟨xh.toNat, by omega⟩
  have hh : h < 2 := by omega
  have el10 := b10 _ _ (Ne.symm nalf) el9
  have ef10 := b10 _ _ (Ne.symm nafo) ef9
  have gl : ([V.int ((l 0 : Nat) : Int), V.int ((l 1 : Nat) : Int)] : List V)[h]? = some (.int ((l h : Nat) : Int)) := TB.two_get (fun i => V.int ((l i : Nat) : Int)) hh
  refine ⟨_, rfl, _, rfl, lf, _, _, _, rfl, rfl, SqL.of el10, atI_nat gl, _, rfl, _, rfl, a, _, 1 + x7, rfl, .inr w10, by omega, by omega, by omega, by omega, fun xm H11 xm0 xm1 b11 w11 => ?_⟩
  refine ⟨_, _, rfl, rfl, _, _, rfl, ?_⟩
  obtain ⟨k, ek, hk, hk0⟩ : ∃ k : Nat, (if 1 + xm < ((l h : Nat) : Int) then 1 + xm else ((l h : Nat) : Int)) = (k : Int) ∧ k ≤ l h ∧ (k = 0 → l h = 0) := by
    by_cases c : 1 + xm < ((l h : Nat) : Int)
    · rw [if_pos c]
      exact ⟨(1 + xm).toNat, by omega, by omega, by omega⟩
    · rw [if_neg c]
      exact ⟨l h, rfl, Nat.le_refl _, fun z => z⟩
  rw [ek]
  have el11 := b11 _ _ (Ne.symm nalf) el10
  have ef11 := b11 _ _ (Ne.symm nafo) ef10
  have hlh : l h ≤ l 0 + l 1 := by
    obtain rfl | rfl : h = 0 ∨ h = 1 := by omega
    · omega
    · omega
  have hl2 : l h ≤ 2 * r := by have := hW.2 h hh; omega
  refine ⟨_, rfl, _, rfl, (by show 1 ≤ sizeLine; decide), fun q0 hq0 => ?_⟩
  have u1 := same_new hq0 (.lst [V.int (h : Int)])
  refine ⟨_, rfl, q0, _, _, rfl, rfl, upd_same, by omega, by omega, ?_, fun q1 hq1 => ?_⟩
  · exact Nat.le_trans (show 1 * ((k : Nat) : Int).toNat ≤ 100 by omega) (by decide)
  rw [rep_flat, Int.toNat_natCast, hl_rep]
  have u2 := same_new hq1 (.lst (TB.hl (List.replicate k h)))
  refine ⟨fo, q1, _, _, rfl, rfl, (u1.trans u2) _ _ ef11, upd_same, ?_, fun q2 hq2 => ?_⟩
  · rw [hl_len, hl_len, List.length_replicate]
    exact Nat.le_trans (show hs.length + k ≤ 100 by omega) (by decide)
  rw [hl_app]
  have u3 := same_new hq2 (.lst (TB.hl (hs ++ List.replicate k h)))
  have ef12 : (upd (upd (upd H11 q0 (.lst [V.int (h : Int)])) q1 (.lst (TB.hl (List.replicate k h)))) q2 (.lst (TB.hl (hs ++ List.replicate k h)))) q2 = some (.lst (TB.hl (hs ++ List.replicate k h))) := upd_same
  have u13 := (u1.trans u2).trans u3
  have hq2H : H q2 = none := by
    have z := (w11.same (u1.trans u2)).ne hq2
    exact none_of_but ((((b9.trans b10).trans b11).trans (.same (u1.trans u2)))) (Ne.symm z) hq2
  have naq2 : a ≠ q2 := (w11.same (u1.trans u2)).ne hq2
  have nlq2 : lf ≠ q2 := ne_of_none ((u1.trans u2) _ _ el11) hq2
  have w12 := w11.same u13
  have el12 := u13 _ _ el11
  have b12 := (((b9.trans b10).trans b11).trans (.same u13))
  generalize upd (upd (upd H11 q0 (.lst [V.int (h : Int)])) q1 (.lst (TB.hl (List.replicate k h)))) q2 (.lst (TB.hl (hs ++ List.replicate k h))) = H12 at ef12 w12 el12 b12 ⊢
  clear u1 u2 u3 u13 hq0 hq1 hq2 w11 w10 w9 b9 b10 b11 el9 el10 el11 ef9 ef10 ef11 e0
  have hW1 := hW.more hh hk
  have et := TB.two_set (fun i : Nat => V.int ((l i : Nat) : Int)) hh (V.int ((l h - k : Nat) : Int))
  have e13 : ([TB.upf (fun i : Nat => V.int ((l i : Nat) : Int)) h (V.int ((l h - k : Nat) : Int)) 0, TB.upf (fun i : Nat => V.int ((l i : Nat) : Int)) h (V.int ((l h - k : Nat) : Int)) 1] : List V) = [V.int ((TB.upf l h (l h - k) 0 : Nat) : Int), V.int ((TB.upf l h (l h - k) 1 : Nat) : Int)] := by
    obtain rfl | rfl : h = 0 ∨ h = 1 := by omega
    · rfl
    · rfl
  rw [e13] at et
  have et : ([V.int ((l 0 : Nat) : Int), V.int ((l 1 : Nat) : Int)] : List V).set h (V.int ((l h - k : Nat) : Int)) = [V.int ((TB.upf l h (l h - k) 0 : Nat) : Int), V.int ((TB.upf l h (l h - k) 1 : Nat) : Int)] := et
  have ed : ((l h : Nat) : Int) - (k : Int) = ((l h - k : Nat) : Int) := by omega
  refine ⟨_, rfl, _, rfl, lf, _, _, _, rfl, rfl, SqL.of el12, atI_nat gl, _, rfl, _, _, rfl, rfl, _, rfl, _, rfl, lf, _, _, h, rfl, rfl, el12, ix2 hh _ _, ?_⟩
  dsimp only
  rw [ed, et]
  have ef13 := (But.at (a := lf) (o := .lst [V.int ((TB.upf l h (l h - k) 0 : Nat) : Int), V.int ((TB.upf l h (l h - k) 1 : Nat) : Int)]) : But lf H12 _) _ _ (Ne.symm nlq2) ef12
  have el13 : (upd H12 lf (.lst [V.int ((TB.upf l h (l h - k) 0 : Nat) : Int), V.int ((TB.upf l h (l h - k) 1 : Nat) : Int)])) lf = some (.lst [V.int ((TB.upf l h (l h - k) 0 : Nat) : Int), V.int ((TB.upf l h (l h - k) 1 : Nat) : Int)]) := upd_same
  have w13 := w12.but nalf (But.at (a := lf) (o := .lst [V.int ((TB.upf l h (l h - k) 0 : Nat) : Int), V.int ((TB.upf l h (l h - k) 1 : Nat) : Int)]))
  have b13 := b12.new hlf (o := .lst [V.int ((TB.upf l h (l h - k) 0 : Nat) : Int), V.int ((TB.upf l h (l h - k) 1 : Nat) : Int)])
  generalize upd H12 lf (.lst [V.int ((TB.upf l h (l h - k) 0 : Nat) : Int), V.int ((TB.upf l h (l h - k) 1 : Nat) : Int)]) = H13 at ef13 el13 w13 b13 ⊢
  have sum : TB.upf l h (l h - k) 0 + TB.upf l h (l h - k) 1 + k = l 0 + l 1 := by
    obtain rfl | rfl : h = 0 ∨ h = 1 := by omega
    · show l 0 - k + l 1 + k = _
      omega
    · show l 0 + (l 1 - k) + k = _
      omega
  have hup : TB.upf l h (l h - k) h = l h - k := TB.upf_same
  generalize TB.upf l h (l h - k) = l' at *
  generalize hs ++ List.replicate k h = hs' at *
  clear ef12 el12 w12 b12 et e13 ed gl
  have hlen' := hW1.len
  have h1 : 1 - h < 2 := by omega
  have gh : ([V.int ((l' 0 : Nat) : Int), V.int ((l' 1 : Nat) : Int)] : List V)[h]? = some (.int ((l' h : Nat) : Int)) := TB.two_get (fun i => V.int ((l' i : Nat) : Int)) hh
  have g1 : ([V.int ((l' 0 : Nat) : Int), V.int ((l' 1 : Nat) : Int)] : List V)[1 - h]? = some (.int ((l' (1 - h) : Nat) : Int)) := TB.two_get (fun i => V.int ((l' i : Nat) : Int)) h1
  have e1h : 1 - (h : Int) = ((1 - h : Nat) : Int) := by omega
  have le1 := hW1.2 h hh
  have le2 := hW1.2 (1 - h) h1
  refine ⟨_, rfl, _, rfl, _, _, rfl, rfl, lf, _, _, _, rfl, rfl, SqL.of el13, (by rw [e1h]; exact atI_nat g1), rfl, _, rfl, ?_⟩
  refine orW (l' (1 - h) = 0 ∨ (l' h = 0 ∧ k = 0)) ?_ (fun z => .inl (by have z := of_decide_eq_true z; injection z with z; omega)) ?_
  · intro cond
    refine ⟨_, rfl, _, rfl, (by show 1 ≤ sizeLine; decide), fun p0 h0 => ?_⟩
    have t0 := same_new h0 (.lst [V.int (h : Int)])
    refine ⟨_, rfl, _, rfl, lf, _, _, _, rfl, rfl, SqL.of (t0 _ _ el13), atI_nat gh, p0, _, _, rfl, rfl, upd_same, by omega, by omega, ?_, fun p1 hp1 => ?_⟩
    · exact Nat.le_trans (show 1 * ((l' h : Nat) : Int).toNat ≤ 100 by omega) (by decide)
    rw [rep_flat, Int.toNat_natCast, hl_rep]
    have t1 := t0.trans (same_new hp1 (.lst (TB.hl (List.replicate (l' h) h))))
    refine ⟨q2, p1, _, _, rfl, rfl, t1 _ _ ef13, upd_same, ?_, fun p2 hp2 => ?_⟩
    · rw [hl_len, hl_len, List.length_replicate]
      exact Nat.le_trans (show hs'.length + l' h ≤ 100 by omega) (by decide)
    rw [hl_app]
    have t2 := t1.trans (same_new hp2 (.lst (TB.hl (hs' ++ List.replicate (l' h) h))))
    have ep2 : (upd (upd (upd H13 p0 (.lst [V.int (h : Int)])) p1 (.lst (TB.hl (List.replicate (l' h) h)))) p2 (.lst (TB.hl (hs' ++ List.replicate (l' h) h)))) p2 = some (.lst (TB.hl (hs' ++ List.replicate (l' h) h))) := upd_same
    generalize upd (upd (upd H13 p0 (.lst [V.int (h : Int)])) p1 (.lst (TB.hl (List.replicate (l' h) h)))) p2 (.lst (TB.hl (hs' ++ List.replicate (l' h) h))) = H14 at t2 ep2 ⊢
    clear t0 t1 h0 hp1 hp2
    refine ⟨_, rfl, _, _, rfl, rfl, (by show 1 ≤ sizeLine; decide), fun p3 hp3 => ?_⟩
    dsimp only
    rw [e1h]
    have t3 := same_new hp3 (.lst [V.int ((1 - h : Nat) : Int)])
    refine ⟨_, rfl, _, rfl, _, _, rfl, rfl, lf, _, _, _, rfl, rfl, SqL.of (t3 _ _ (t2 _ _ el13)), (by rw [e1h]; exact atI_nat g1), p3, _, _, rfl, rfl, upd_same, by omega, by omega, ?_, fun p4 hp4 => ?_⟩
    · exact Nat.le_trans (show 1 * ((l' (1 - h) : Nat) : Int).toNat ≤ 100 by omega) (by decide)
    rw [rep_flat, Int.toNat_natCast, hl_rep]
    have t4 := t3.trans (same_new hp4 (.lst (TB.hl (List.replicate (l' (1 - h)) (1 - h)))))
    refine ⟨p2, p4, _, _, rfl, rfl, t4 _ _ ep2, upd_same, ?_, fun p5 hp5 => ?_⟩
    · rw [hl_len, hl_len, List.length_append, List.length_replicate, List.length_replicate]
      exact Nat.le_trans (show hs'.length + l' h + l' (1 - h) ≤ 100 by omega) (by decide)
    rw [hl_app]
    have t5 := t4.trans (same_new hp5 (.lst (TB.hl (hs' ++ List.replicate (l' h) h ++ List.replicate (l' (1 - h)) (1 - h)))))
    have ep5 : (upd (upd (upd H14 p3 (.lst [V.int ((1 - h : Nat) : Int)])) p4 (.lst (TB.hl (List.replicate (l' (1 - h)) (1 - h))))) p5 (.lst (TB.hl (hs' ++ List.replicate (l' h) h ++ List.replicate (l' (1 - h)) (1 - h))))) p5 = some (.lst (TB.hl (hs' ++ List.replicate (l' h) h ++ List.replicate (l' (1 - h)) (1 - h)))) := upd_same
    have w15 : WellAt (upd (upd (upd H14 p3 (.lst [V.int ((1 - h : Nat) : Int)])) p4 (.lst (TB.hl (List.replicate (l' (1 - h)) (1 - h))))) p5 (.lst (TB.hl (hs' ++ List.replicate (l' h) h ++ List.replicate (l' (1 - h)) (1 - h))))) a _ := w13.same (t2.trans t5)
    have b15 : But a H (upd (upd (upd H14 p3 (.lst [V.int ((1 - h : Nat) : Int)])) p4 (.lst (TB.hl (List.replicate (l' (1 - h)) (1 - h))))) p5 (.lst (TB.hl (hs' ++ List.replicate (l' h) h ++ List.replicate (l' (1 - h)) (1 - h))))) := b13.trans (.same (t2.trans t5))
    have hp5H : H p5 = none := none_of_but (b13.trans (.same (t2.trans t4))) (Ne.symm ((w13.same (t2.trans t4)).ne hp5)) hp5
    generalize upd (upd (upd H14 p3 (.lst [V.int ((1 - h : Nat) : Int)])) p4 (.lst (TB.hl (List.replicate (l' (1 - h)) (1 - h))))) p5 (.lst (TB.hl (hs' ++ List.replicate (l' h) h ++ List.replicate (l' (1 - h)) (1 - h)))) = H15 at ep5 w15 b15 ⊢
    refine ⟨(by show 2 ≤ sizeLine; decide), fun p6 hp6 => ?_⟩
    have t6 := same_new hp6 (.lst [V.int 0, V.int 0])
    have hp6H : H p6 = none := none_of_but b15 (Ne.symm (w15.ne hp6)) hp6
    have n65 : p6 ≠ p5 := (ne_of_none ep5 hp6).symm
    have a6 := w15.ne hp6
    have a5 : a ≠ p5 := by
      obtain ⟨zw, ez⟩ := (w13.same (t2.trans t4)).lst
      exact ne_of_none ez hp5
    refine ⟨0, ?_, p6, p5, _, _, fun _ => 0, _, rfl, rfl, b15.trans (.same t6), (w15.same t6).up (by omega), hp6H, upd_same, hp5H, t6 _ _ ep5, n65, a6, a5, ?_⟩
    · omega
    · have hW2 := (hW1.more hh (Nat.le_refl _)).more h1 (k := l' (1 - h)) (by rw [TB.upf_ne (by omega)]; exact Nat.le_refl _)
      exact ⟨hW2.1, fun i hi => by have := hW2.2 i hi; show _ + 0 ≤ 2 * r; omega⟩
  · intro c kT
    refine ⟨_, rfl, _, rfl, lf, _, _, _, rfl, rfl, SqL.of el13, atI_nat gh, rfl, _, rfl, ?_⟩
    by_cases c1 : l' h = 0
    · refine iteT' (decide_eq_true (by rw [c1]; rfl)) ⟨_, rfl, rfl, _, rfl, ?_⟩
      by_cases c2 : k = 0
      · exact iteT' (decide_eq_true (by rw [c2]; rfl)) (kT (.inr ⟨c1, c2⟩))
      · refine iteF' (decide_eq_false fun z => c2 (by injection z with z; omega)) ?_
        exact ⟨_, by omega, lf, q2, _, _, l', hs', rfl, rfl, b13, w13.up (by omega), hlf, el13, hq2H, ef13, nlq2, nalf, naq2, hW1⟩
    · refine iteF' (decide_eq_false fun z => c1 (by injection z with z; omega)) (iteF ?_)
      have k1 : k ≠ 0 := fun z => c1 (by have := hk0 z; omega)
      exact ⟨_, by omega, lf, q2, _, _, l', hs', rfl, rfl, b13, w13.up (by omega), hlf, el13, hq2H, ef13, nlq2, nalf, naq2, hW1⟩
end
end TA

set_option Elab.async false
set_option maxRecDepth 100000
set_option maxHeartbeats 4000000
namespace TA
open PySem PySem.Spec L2 PyProof.Rows
set_option linter.unusedVariables false
/-- inputs that are no pair of the task's -/
inductive OIv (K : PySem.W.Frag) (H : Hp) (T : TD) : V → Prop
  | data {v : V} {d : PyData} : Dp K H v d → inB (T.al 0).length (T.al 1).length d = false → OIv K H T v
  | dic {a : Addr} : H a = some (.dT []) → OIv K H T (.ref a)
theorem OIv.mono {K : PySem.W.Frag} {H H' : Hp} (s : Same H H') {T : TD} {v : V} (h : OIv K H T v) : OIv K H' T v := by
  cases h with
  | data h a => exact .data (dp_mono s _ _ h) a
  | dic h => exact .dic (s _ _ h)
def spInpD : Sp := fun vs H Q _ => ∃ (a : Addr) (al : V), vs = [.ref a, al] ∧ H a = some (.dT []) ∧ Q (.bl false) H
def spPairD (K : PySem.W.Frag) (C : Addr) : Sp := fun vs H Q _ => ∃ (p a : Addr) (T : TD), vs = [.ref p, .ref a] ∧ TaskR C H p T ∧ H a = some (.dT []) ∧ ∀ H', Same H H' → Q (.bl false) H'
def spPairY (K : PySem.W.Frag) (C : Addr) : Sp := fun vs H Q E => spPairX K C vs H Q E ∨ spPairD K C vs H Q E
/-- what a hand knows, and what is refused -/
def spKnownY (K : PySem.W.Frag) (cR cI cW : Addr) : Sp := fun vs H Q E => TB.spKnown K vs H Q E ∨ TB.spKnownX K cR cI cW vs H Q E
structure KDefX (P : Program) (w : World) (K : PySem.W.Frag) (mg : Str → Option Value) (base : Heap) (cR cI cW : Addr) (f : Addr) (fd : FuncData) : Prop where
  G : FnOk P w K mg base (L2.CX P w) 5 f fd ["inputs", "weaving", "rounds"] (spKnownY K cR cI cW)
  b : TB.KnB K fd
  k : PySem.W.keepIn K (.ref f) = true
  m : mg "known" = some (.ref f)
/-- what is no weaving of so many rounds -/
def OWv (K : PySem.W.Frag) (H : Hp) (r : Nat) (v : V) : Prop := ∃ d, TB.Kd K H v d ∧ (∀ ds, d = .list ds → ds.length ≤ 1000) ∧ ¬ TB.WOk r d
theorem OWv.mono {K : PySem.W.Frag} {H H' : Hp} (s : Same H H') {r : Nat} {v : V} (h : OWv K H r v) : OWv K H' r v := let ⟨d, a, b, c⟩ := h; ⟨d, TB.kd_mono s a, b, c⟩
def spTell (K : PySem.W.Frag) (C cP cI cW : Addr) : Sp := fun vs H Q E =>
  (∃ (p : Addr) (v vi vw : V) (T : TD), vs = [.ref p, v, vi, vw] ∧ WF T ∧ TaskR C H p T ∧ OddPr K C H p T v ∧ ∀ H', Same H H' → E (.ref cP) none H') ∨
  (∃ (p t : Addr) (T : TD) (r : Nat) (ch : Nat → List Int) (wk : EB → List Int) (al wd : Addr) (kvs : List (List Key × V)) (vi vw : V), vs = [.ref p, .ref t, vi, vw] ∧ WF T ∧ PrF C H p t T r ch wk al wd kvs ∧ OIv K H T vi ∧ ∀ H', Same H H' → E (.ref cI) none H') ∨
  (∃ (p t : Addr) (T : TD) (r : Nat) (ch : Nat → List Int) (wk : EB → List Int) (al wd : Addr) (kvs : List (List Key × V)) (tt : Addr) (vw : V) (e : EB), vs = [.ref p, .ref t, .ref tt, vw] ∧ WF T ∧ PrF C H p t T r ch wk al wd kvs ∧ e ∈ T.bo ∧ TpAt H (.ref tt) (iI e.1) ∧ OWv K H r vw ∧ ∀ H', Same H H' → E (.ref cW) none H') ∨
  (∃ (p t : Addr) (T : TD) (r : Nat) (ch : Nat → List Int) (wk : EB → List Int) (al wd : Addr) (kvs : List (List Key × V)) (tt lw : Addr) (hs : List Nat) (e : EB), vs = [.ref p, .ref t, .ref tt, .ref lw] ∧ WF T ∧ PrF C H p t T r ch wk al wd kvs ∧ e ∈ T.bo ∧ TpAt H (.ref tt) (iI e.1) ∧
    SqL K H lw (TB.hl hs) ∧ (∀ h ∈ hs, h < 2) ∧ (∀ h < 2, hs.count h ≤ 2 * r) ∧ hs.length ≤ 40 ∧ ∀ (u : Addr) (H' : Hp), Same H H' → Q (.ref u) H')
section
variable {P : Program} {w : World} {K : PySem.W.Frag} {mg : Str → Option Value} {base : Heap}
/-- a def that lets nothing out, where something may be let out -/
theorem lift0 {k : Nat} {f : Addr} {fd : FuncData} {ps : List Str} {sp : Sp} (F : FnOk P w K mg base CX0 k f fd ps sp) : FnOk P w K mg base (L2.CX P w) k f fd ps sp :=
  ⟨F.len, fun A outer s H args us vs Q E hr he hb hv hs => codeAny_mono (F.run A outer s H args us vs Q E hr he hb hv hs) fun r s' h => by
    cases r with
    | error e => exact False.elim h
    | ok o => cases o <;> exact h⟩
theorem ok_inpD {f g1 : Addr} {fd d1 : FuncData} (F : Fun K "is_input_pair" "is_input_pair" s_is_input_pair f fd) (T : Txt K mg) (U : TxtH K mg) (W : Def P w K mg base "is_whole_within" ["thing", "least", "most"] 2 (spWithinG K) g1 d1) : FnOk P w K mg base CX0 3 f fd ["thing", "alone"] spInpD := by
  refine F.ok sc_inp (fun vs H Q E h => ?_) (fun cdv A outer s H vs Q E hr h => ?_)
  · obtain ⟨a, al, rfl, _⟩ := h
    rfl
  obtain ⟨a, al, rfl, ha, q⟩ := h
  obtain ⟨hT, mH, hH⟩ := U.hands
  have nd := sc_inp.nd
  refine ⟨_, pss_one (ps_ret (pe_and (pe_callB call_isi (by rfl) T.isi boot_isinstance (pa_cons (pv 0) (pa_cons (pe_bltn (v := .ty "tuple") (by rfl) T.tuple boot_tuple rfl) pa_nil)))
    (pe_and (pe_cmpR op_eq (pe_callB call_len_seq (by rfl) T.len PySem.boot_len (pa_cons (pv 0) pa_nil)) pe_int (nomark _))
    (pe_one (pe_callB (cr_all rfl) (by rfl) T.all (by decide +kernel) (pa_cons
      (pe_lc (own := [("hand", 2)]) (g := gName 2) (tt := tYes) (te := tCall (spWithinG K) [] E0 (tCons (tOp (rIxT K) (tVar 0) (tVar 2)) (tCons (tC (.int 0)) (tCons (tOp (rI0 fun i j => .int (i - j)) (tCB (fun xs H Q => ∃ p ys, xs = [.ref p] ∧ (SqL K H p ys ∨ SqT K H p ys) ∧ Q (.int ys.length) H) (tCons (tOp (rIxL K) (tVar 1) (tVar 2)) tNil)) (tC (.int 1))) tNil)))) rfl nd
        (pi_tup (pe_glob (v := .ref hT) rfl mH rfl)) (blkOk_by (N := nInp) (sc := defScope s_is_input_pair) (by decide +kernel)) (fun _ _ _ _ _ => pg_name (i := 2) nd rfl (Or.inl rfl)) (fun _ _ _ _ _ => pts_nil)
        (fun _ _ _ _ _ => (by refine pe_call W.G hr rfl W.m W.k W.b .nil pass0 (pa_cons ?_ (pa_cons pe_int (pa_cons (pe_op op_sub ?_ pe_int) pa_nil))); (exact pe_ix ix_tup (pv 0) (pv 2) (fun _ _ => rfl)); (refine pe_callB call_len_seq (by rfl) T.len PySem.boot_len (pa_cons ?_ pa_nil); (exact pe_ix ix_list (pv 1) (pv 2) (fun _ _ => rfl)))))) pa_nil)))))), ?_⟩
  exact ⟨_, rfl, V.ref a, V.ty "tuple", .type "dict", _, false, rfl, .ty "tuple", .base (.dT ha), kit_ty (by decide +kernel), _, rfl, iteF q⟩
theorem ok_ispairD {f g C : Addr} {fd gd : FuncData} (F : Fun K "is_pair" "is_pair" s_is_pair f fd) (T : Txt K mg) (Z : TxtC K mg C) (W1 : Def P w K mg base "is_input_pair" ["thing", "alone"] 3 spInpD g gd) : FnOk P w K mg base CX0 4 f fd nIsPair (spPairD K C) := by
  refine F.ok sc_ispair (fun vs H Q E h => ?_) (fun cdv A outer s H vs Q E hr h => ?_)
  · obtain ⟨p, v, D, rfl, _⟩ := h
    rfl
  obtain ⟨p, v, D, rfl, hT, hv, q⟩ := h
  have hu := hu_of hr
  refine ⟨_, (pss_one (ps_ret (pe_and (pe_call W1.G (hr.mono (by decide)) rfl W1.m W1.k W1.b .nil pass0 (pa_cons (pv 1) (pa_cons (pe_fld (pv 0) rfl) pa_nil))) (pe_one (pe_cmp (pc_din hu (pv 1) (pe_fld (pv 0) rfl)) rfl))))), ?_⟩
  obtain ⟨dx, a, d, hp, hA, hB⟩ := hT
  exact ⟨_, rfl, _, rfl, p, C, dx, _, _, rfl, hp, Z.cl, Z.nA, flds_alone _ _, v, _, rfl, hv, _, rfl, iteF (q _ (Same.refl H))⟩
abbrev nTell : List Str := ["task", "protocol", "inputs", "weaving", "knows", "hand"]
theorem sc_tell : FnScope nTell ["task", "protocol", "inputs", "weaving"] (defScope s_tell) := ⟨rfl, rfl, rfl, by decide +kernel, rfl, by decide +kernel, by decide +kernel⟩
theorem ok_tell {f g1 g2 g3 g4 C cP cI cW cR : Addr} {fd d1 d2 d3 d4 : FuncData} (F : Fun K "tell" "tell" s_tell f fd) (T : Txt K mg) (U : TxtH K mg) (R1 : TB.RaiseC K mg "NoProtocol" cP) (R2 : TB.RaiseC K mg "NoInputs" cI) (WPr : Def P w K mg base "is_protocol" ["task", "thing"] 6 (spIsPrX K C) g1 d1) (WP : Def P w K mg base "is_pair" ["task", "thing"] 4 (spPairY K C) g2 d2)
    (KD : KDefX P w K mg base cR cI cW g3 d3) (OO : Def P w K mg base "output_of" ["protocol", "inputs", "hand", "thing"] 10 (spOutOf C) g4 d4) : FnOk P w K mg base (L2.CX P w) 11 f fd ["task", "protocol", "inputs", "weaving"] (spTell K C cP cI cW) := by
  refine F.okX sc_tell (fun vs H Q E h => ?_) (fun cdv A outer s H vs Q E hr h => ?_)
  · rcases h with ⟨p, v, vi, vw, D, rfl, _⟩ | ⟨p, t, D, r, ch, wk, al, wd, kvs, vi, vw, rfl, _⟩ | ⟨p, t, D, r, ch, wk, al, wd, kvs, tt, vw, e, rfl, _⟩ | ⟨p, t, D, r, ch, wk, al, wd, kvs, tt, lw, hs, e, rfl, _⟩
    · rfl
    · rfl
    · rfl
    · rfl
  have nd := sc_tell.nd
  obtain ⟨hT, mH, hH⟩ := U.hands
  refine ⟨_, (pss_cons (ps_if (pt_not (pt_val (pe_call WPr.G (hr.mono (by decide)) rfl WPr.m WPr.k WPr.b .nil pass0 (pa_cons (pv 0) (pa_cons (pv 1) pa_nil)))))
      (pss_one (ps_raise rfl (takes_of rfl rfl rfl rfl) (pmk_own PySem.F.excBase_ValueError R1.x R1.m R1.k (raises_own R1.b R1.t) (by exact rfl))))
      pss_nil)
    (pss_cons (ps_if (pt_not (pt_val (pe_call WP.G (hr.mono (by decide)) rfl WP.m WP.k WP.b .nil pass0 (pa_cons (pv 0) (pa_cons (pv 2) pa_nil)))))
      (pss_one (ps_raise rfl (takes_of rfl rfl rfl rfl) (pmk_own PySem.F.excBase_ValueError R2.x R2.m R2.k (raises_own R2.b R2.t) (by exact rfl))))
      pss_nil)
    (pss_cons (ps_set (i := 4) nd rfl (Or.inr rfl) (pe_callN KD.G (hr.mono (by decide)) rfl KD.m KD.k KD.b (passes_call (takes_of rfl rfl rfl rfl) (fun _ _ _ _ h => h)) (pa_cons (pv 2) (pa_cons (pv 3) pa_nil)) (pk_cons (pe_ix ix_tup (pv 1) pe_int (fun _ _ => rfl)) pk_nil)))
    (pss_one (ps_ret (pe_callTy call_tuple_of (by rfl) T.tuple boot_tuple (pa_cons (pe_lc (own := [("hand", 5)]) (g := (gName 5)) (tt := tYes) (te := (tCall (spOutOf C) [] E0 (tCons (tVar 1) (tCons (tVar 2) (tCons (tVar 5) (tCons (tOp (rIxL K) (tVar 4) (tVar 5)) tNil)))))) rfl nd (pi_tup (pe_glob (v := .ref hT) rfl mH rfl)) (blkOk_by (N := nTell) (sc := defScope s_tell) (by decide +kernel)) (fun _ _ _ _ _ => (by exact (pg_name (i := 5) nd rfl (Or.inl rfl)))) (fun _ _ _ _ _ => pts_nil) (fun _ _ _ _ _ => (by exact (pe_call OO.G (hr.mono (by decide)) rfl OO.m OO.k OO.b .nil pass0 (pa_cons (pv 1) (pa_cons (pv 2) (pa_cons (pv 5) (pa_cons (pe_ix ix_list (pv 4) (pv 5) (fun _ _ => rfl)) pa_nil)))))))) pa_nil))))))), ?_⟩
  rcases h with ⟨p, v, vi, vw, D, rfl, hW, hX, hO, q⟩ | ⟨p, t, D, r, ch, wk, al, wd, kvs, vi, vw, rfl, hW, B, hI, q⟩ | ⟨p, t, D, r, ch, wk, al, wd, kvs, tt, vw, e, rfl, hW, B, he, htt, hO, q⟩ | ⟨p, t, D, r, ch, wk, al, wd, kvs, tt, lw, hs, e, rfl, hW, B, he, htt, hlw, h2, hc, hl, q⟩
  · exact ⟨_, rfl, _, rfl, .inr ⟨p, v, D, rfl, hW, hX, hO, fun H1 s1 => ⟨false, rfl, iteT (q _ s1)⟩⟩⟩
  · refine ⟨_, rfl, _, rfl, .inl ⟨p, t, D, r, ch, wk, al, wd, kvs, rfl, hW, B, fun H1 s1 => ⟨true, rfl, iteF ?_⟩⟩⟩
    have B1 := B.mono s1
    cases hI.mono s1 with
    | data hv hi => exact ⟨_, rfl, _, rfl, .inl (.inr ⟨p, vi, D, _, rfl, B1.x.task, hv, hi, fun H2 s2 => ⟨false, rfl, iteT (q _ (s1.trans s2))⟩⟩)⟩
    | dic ha => exact ⟨_, rfl, _, rfl, .inr ⟨p, _, D, rfl, B1.x.task, ha, fun H2 s2 => ⟨false, rfl, iteT (q _ (s1.trans s2))⟩⟩⟩
  · refine ⟨_, rfl, _, rfl, .inl ⟨p, t, D, r, ch, wk, al, wd, kvs, rfl, hW, B, fun H1 s1 => ⟨true, rfl, iteF ?_⟩⟩⟩
    have B1 := B.mono s1
    refine ⟨_, rfl, _, rfl, .inl (.inl ⟨p, _, D, iI e.1, rfl, B1.x.task, hW, htt.mono (.same s1), fun H2 s2 => ?_⟩)⟩
    rw [hasK_yes he]
    have s12 := s1.trans s2
    have B2 := B.mono s12
    refine ⟨true, rfl, iteF ?_⟩
    obtain ⟨ttt, ett, htt'⟩ := htt.mono (.same s12)
    obtain rfl : tt = ttt := by injection ett
    have n0 : (0 : Int) ≤ (e.1.1 : Int) := by omega
    have n1 : (0 : Int) ≤ (e.1.2 : Int) := by omega
    obtain ⟨dw, kw, zw, no⟩ := hO.mono s12
    have hrr := B.rr
    have iok : TB.IOk (.tuple [.int (e.1.1 : Int), .int (e.1.2 : Int)]) := ⟨_, _, rfl, n0, n1⟩
    have wi : TB.within (.int (r : Int)) 0 5 = true := decide_eq_true (by omega)
    refine ⟨_, rfl, _, rfl, _, rfl, t, _, _, _, rfl, rfl, SqT.of B2.ht, (by rfl), rfl, rfl, .inr ⟨.ref tt, vw, .int (r : Int), _, dw, .int (r : Int), rfl, .dp (.tup (SqT.of htt') (.cons (.int _) (.cons (.int _) .nil))), kw, .dp (.int _), (fun ds e => by cases e; exact (by show 2 ≤ 1000; decide)), zw, fun c => ?_, fun _ c => absurd iok c, fun d ed h5 _ nw H3 s3 => q _ (s12.trans s3), fun d ed h5 _ yw => ?_⟩⟩
    · rw [wi] at c
      cases c
    · exfalso
      injection ed with ed
      have : d = r := by omega
      subst this
      exact no yw
  refine ⟨_, rfl, _, rfl, .inl ⟨p, t, D, r, ch, wk, al, wd, kvs, rfl, hW, B, fun H1 s1 => ⟨true, rfl, iteF ?_⟩⟩⟩
  have B1 := B.mono s1
  refine ⟨_, rfl, _, rfl, .inl (.inl ⟨p, _, D, iI e.1, rfl, B1.x.task, hW, htt.mono (.same s1), fun H2 s2 => ?_⟩)⟩
  rw [hasK_yes he]
  have s12 := s1.trans s2
  have B2 := B.mono s12
  refine ⟨true, rfl, iteF ?_⟩
  obtain ⟨ttt, ett, htt'⟩ := htt.mono (.same s12)
  obtain rfl : tt = ttt := by injection ett
  have n0 : (0 : Int) ≤ (e.1.1 : Int) := by omega
  have n1 : (0 : Int) ≤ (e.1.2 : Int) := by omega
  refine ⟨_, rfl, _, rfl, _, rfl, t, _, _, _, rfl, rfl, SqT.of B2.ht, (by rfl), rfl, rfl, .inl ⟨lw, hs, r, (e.1.1 : Int), (e.1.2 : Int), ⟨tt, rfl, htt', s12.seq hlw⟩, h2, hc, hl, B.rr, n0, n1, fun o v H3 s3 hon ho hk => ?_⟩⟩
  have s13 := s12.trans s3
  refine ⟨hT, rfl, ⟨_, hH _⟩, fun L hL => ?_⟩
  have sL := same_new hL (.lst [])
  let tv : Nat → V := fun h => oI (tellP r ch wk e hs h)
  refine tup_turns (xs := [V.int 0, V.int 1]) (fun i H' => Same H3 H' ∧ H' L = some (.lst (([tv 0, tv 1] : List V).take i))) ⟨sL, upd_same⟩ (fun i H' _ _ => hH H') ?_ ?_
  · rintro i z H' hz ⟨s4, h4⟩
    obtain ⟨hi, rfl⟩ := hand_at hz
    have s14 := s13.trans s4
    have B4 := B.mono s14
    have hv : ([v 0, v 1] : List V)[i]? = some (v i) := by
      obtain rfl | rfl : i = 0 ∨ i = 1 := by omega
      · rfl
      · rfl
    refine ⟨rfl, _, rfl, _, rfl, _, rfl, _, rfl, _, rfl, o, _, _, _, rfl, rfl, SqL.of (s4 _ _ ho), atI_nat hv, p, t, D, r, ch, wk, al, wd, kvs, tt, i, v i, _, e, if hs.count i = 2 * r then some ((TB.P0.run hs).cur i) else none, rfl, hW, B4, he, htt.mono (.same s14), hi, (hk i hi).mono (TB.Tups.same s4), ?_, fun H5 s5 => ?_⟩
    · by_cases c : hs.count i = 2 * r
      · obtain ⟨z1, z2, z3, z4⟩ := TB.behind n0 n1 h2 hi c
        obtain ⟨z5, z6, z7⟩ := TB.cur_facts n0 n1 h2 hi c
        rw [if_pos c, z1]
        refine .inr ⟨_, rfl, ?_, z2.place B.rr, z6, ?_⟩
        · obtain ⟨u, eu, _⟩ := z2
          exact TB.stand_isN eu
        · rw [Int.natCast_pow]
          exact z7
      · rw [if_neg c]
        exact .inl ⟨rfl, (TB.stopped_res c).1⟩
    · have etv : oI ((if hs.count i = 2 * r then some ((TB.P0.run hs).cur i) else none).map (outAt ch wk r e i)) = tv i := by
        show _ = oI (tellP r ch wk e hs i)
        unfold tellP
        by_cases c : hs.count i = 2 * r
        · rw [if_pos c, if_pos c]
          rfl
        · rw [if_neg c, if_neg c]
          rfl
      rw [etv]
      refine ⟨_, s5 _ _ h4, ?_, same_upd (s4.trans s5) hL, ?_⟩
      · obtain rfl | rfl : i = 0 ∨ i = 1 := by omega
        · exact (by show 0 < sizeLine; decide)
        · exact (by show 1 < sizeLine; decide)
      · rw [upd_same]
        obtain rfl | rfl : i = 0 ∨ i = 1 := by omega
        · rfl
        · rfl
  · rintro H4 ⟨s4, h4⟩
    refine ⟨L, _, rfl, .inl ⟨SqL.of h4, fun u hu' => ?_⟩⟩
    exact q u _ ((s13.trans s4).trans (same_new hu' _))
end
end TA


set_option Elab.async false
set_option maxRecDepth 100000
set_option maxHeartbeats 4000000
namespace TA
open PySem PySem.Spec L2 PyProof.Rows
set_option linter.unusedVariables false
/-! try: .. except A as n: .. and further clauses: where the body raises, the first clause takes it -/
def wFirst (K : PySem.W.Frag) (c : Value) (i : Nat) (ts : Addr → Value → Option Addr → TS) (D : Ends) : WX := fun cls d σ H => PySem.W.exmOne K cls c = some true ∧ ∀ a, H a = none → ts a cls d { nx := fun σ' H' => D.nx (σ'.set i none) H', rt := D.rt, bk := fun σ' H' => D.bk (σ'.set i none) H', ct := fun σ' H' => D.ct (σ'.set i none) H' } (σ.set i (some (.ref a))) H
theorem ps_try_first {X : Cx} {x n : Str} {c : Value} {i : Nat} {body suite : List Stmt} {b₀ : Stmt} {np pos pos' : Pos} {more : List ExceptHandler} {tb : WX → TS} {ts : Addr → Value → Option Addr → TS} (stk : X.stack = X.env :: X.outer) (frm : X.env.frame = some X.env.locals) (nodup : X.N.Nodup) (slot : X.N[i]? = some n) (isLoc : X.env.kindOf n = some .local) (named : Names X x c)
    (inner : ∀ (W : WX) (pn : List (Addr × Obj)) (xe : Value → Shared → Prop), Takes (X.tr pn xe) W → PassesOwn (model X.prog X.w) X.A X.env xe → PSs (X.tr pn xe) body (tb W)) (clause : ∀ (a : Addr) (oe : Obj) (cls : Value) (d : Option Addr) (pn : List (Addr × Obj)), Zc cls d oe → (∃ vs, oe.data = .fields vs) → PSs (X.suite a ((a, oe) :: pn)) (b₀ :: suite) (ts a cls d)) :
    PS X (.Try body (.ExceptHandler (some (.Name x np)) (some n) (b₀ :: suite) pos' :: more) [] [] pos) (fun D σ H => tb (wFirst X.K c i ts D) D σ H) := by
  refine ⟨fun pins s σ H D inv given => ?_⟩
  have fine := inv.ok
  have local' : Loc X.env.scope n := .inl isLoc
  refine wpAny_Try_except ?_
  have runs := (inner (wFirst X.K c i ts D) (X.pn ++ pins) (fun e s₁ => wpAny (model X.prog X.w) X.A (noteFrame e X.env) (fun _ s₂ => wpAny (model X.prog X.w) X.A (setFlight e none) (fun _ s₃ => wpAny (model X.prog X.w) X.A (handleBy e X.env (.ExceptHandler (some (.Name x np)) (some n) (b₀ :: suite) pos' :: more)) (SP X pins D) X.xe s₃) X.xe s₂) X.xe s₁) (fun u s' met => ?caught) PassesOwn.looking).run [] s σ H D (inv.toTry _) given
  case caught =>
    obtain ⟨a, B, sI, pins', σ', H', cls, d, rfl, J', nb, up, sky, na, os, ag, hb1, hyes⟩ := met
    have J : Inv X pins σ' H' sI := J'.ofTry fine
    have above : Sky B (X.env :: X.outer) a (Zc cls d) X.env.locals s'.heap := by rw [← stk]; exact sky
    show wpAny (model X.prog X.w) X.A (noteFrame (.ref a) X.env) _ _ _
    refine Sky.land Zc.steady (by rw [fine.frames, stk]) frm above fun h3 fl3 up3 => ?_
    have J3 : Inv X pins σ' H' { s' with heap := h3 } := J.landed nb fl3.1 (up.trans up3) os ag
    obtain ⟨oe3, vs3, he3, hz3, hd3⟩ := fl3.there
    have outside : a ∉ frs (X.env :: X.outer) := fun hm => by
      obtain ⟨_, o', e', hnf⟩ := fl3.2.2.1.mem hm
      rw [he3] at e'; cases e'
      exact hnf _ hd3
    have notL : a ≠ X.env.locals := fun z => outside (List.mem_filterMap.mpr ⟨X.env, List.mem_cons_self, by rw [frm, z]⟩)
    have notF : a ∉ X.fs := fun hm => by
      obtain ⟨v, hv, q⟩ := List.mem_filterMap.mp hm
      exact outside (List.mem_filterMap.mpr ⟨v, List.mem_cons_of_mem _ hv, q⟩)
    have S3 := J3.suite he3 hd3 na notL notF
    refine wpAny_handleBy_cons (codeAny_handlers_test ?_) (fun q => nomatch q)
    have looks : PySem.W.Looks (model X.prog X.w) h3 (typeOf (.ref a)) cls := fun _ _ _ _ k q => wpAny_typeOf_ref (k _ _ he3) (by rw [hz3.1]; exact q)
    have asked := PySem.W.exm_one (M := model X.prog X.w) (J3.kIn) looks hb1
    have named' : ∀ {Q E : Value → Shared → Prop}, Q c { s' with heap := h3 } → wpAny (model X.prog X.w) (X.A.mark (some (.ref a))) (eval (.Name x np) X.env) Q E { s' with heap := h3 } := fun q => by
      obtain ⟨g1, g2, m1 | ⟨m1, m2, m3⟩⟩ := named
      · exact ld_glob (X := X.suite a ((a, oe3) :: (X.pn ++ pins))) S3 g1 m1 q g2
      · exact ld_blt (X := X.suite a ((a, oe3) :: (X.pn ++ pins))) S3 g1 m1 m2 q m3 g2
    refine named' (asked.here (codeAny_handlers_suite_as ?_))
    refine HandSPX.lands_againZ fl3 fun h4 fl4 up4 => ?_
    have J4 : Inv X pins σ' H' { s' with heap := h4 } := J.landed nb fl4.1 ((up.trans up3).trans up4) os ag
    obtain ⟨oe4, vs4, he4, hz4, hd4⟩ := fl4.there
    have S4 := J4.suite he4 hd4 na notL notF
    refine store_ok (X := X.suite a ((a, oe4) :: (X.pn ++ pins))) (v := .ref a) S4 nodup slot local' rfl (fun s5 S5 => ?_) (.inr isLoc)
    refine wpAny_mono ((clause a oe4 cls d (X.pn ++ pins) hz4 ⟨_, hd4⟩).run [] s5 _ H' _ S5 (hyes a na)) (fun f s6 past => ?_) (fun _ _ z => z.elim)
    have over : ∀ {σ6 : L2.St} {H6 : Hp} {Q : Shared → Prop}, Inv (X.suite a ((a, oe4) :: (X.pn ++ pins))) [] σ6 H6 s6 → (∀ s7, Inv X pins (σ6.set i none) H6 s7 → Q s7) → wpAny (model X.prog X.w) X.A (do bindName X.env n .none; unbindBehindTheSuite X.env n pos') (fun _ s7 => Q s7) X.xe s6 := fun S6 hq => gone_ok (S6.unsuite fine) nodup slot isLoc hq
    cases f with
    | next => obtain ⟨_, _, S6, q6⟩ := past; exact over S6 fun s7 J7 => ⟨_, _, J7, q6⟩
    | brk => obtain ⟨_, _, S6, q6⟩ := past; exact over S6 fun s7 J7 => ⟨_, _, J7, q6⟩
    | cont => obtain ⟨_, _, S6, q6⟩ := past; exact over S6 fun s7 J7 => ⟨_, _, J7, q6⟩
    | ret u => obtain ⟨_, _, _, S6, r6, q6⟩ := past; exact over S6 fun s7 J7 => ⟨_, _, _, J7, r6, q6⟩
  refine wpAny_mono runs (fun f s1 past => ?_) (fun _ _ he => he)
  cases f with
  | next => obtain ⟨_, _, J', q⟩ := past; exact wpAny_execs_nil ⟨_, _, J'.ofTry fine, q⟩
  | brk => obtain ⟨_, _, J', q⟩ := past; exact ⟨_, _, J'.ofTry fine, q⟩
  | cont => obtain ⟨_, _, J', q⟩ := past; exact ⟨_, _, J'.ofTry fine, q⟩
  | ret u => obtain ⟨_, _, _, J', r, q⟩ := past; exact ⟨_, _, _, J'.ofTry fine, r, q⟩
/-- isinstance of the error that an except suite holds: which class it has is said by the reading -/
theorem call_isE2 {X : Cx} {a : Addr} {oe : Obj} {cls : Value} {d : Option Addr} {pn : List (Addr × Obj)} (hz : Zc cls d oe) (hf : ∃ vs, oe.data = .fields vs) : CallR (X.suite a ((a, oe) :: pn)) (.builtin "isinstance") (fun xs H Q => ∃ D : Addr, cls = .ref D ∧ d = none ∧ ExcC X.K D ∧ rIsE X.K D a xs H Q) := by
  intro pins s σ H xs us Q I r h
  obtain ⟨D, rfl, rfl, T, h⟩ := h
  exact call_isE T hz hf pins s σ H xs us Q I r h
theorem pss_read {X : Cx} {b : List Stmt} {T : TS} (h : ∀ (pins : List (Addr × Obj)) (s : Shared) (σ : L2.St) (H : Hp) (D : Ends), Inv X pins σ H s → T D σ H → ∃ t, PSs X b t ∧ t D σ H) : PSs X b T := ⟨fun pins s σ H D I q => by
  obtain ⟨t, p, r⟩ := h pins s σ H D I q
  exact p.run pins s σ H D I r⟩
section
variable {X : Cx} {pins : List (Addr × Obj)} {σ : L2.St} {H : Hp} {s : Shared}
/-- xs.count(y) over data -/
def rCntD (K : PySem.W.Frag) : V → List V → Hp → VK → Prop := fun x xs H Q => ∃ (p : Addr) (vs : List V) (y : V) (ds : List PyData) (d : PyData), x = .ref p ∧ xs = [y] ∧ SqL K H p vs ∧ DpAll K H vs ds ∧ Dp K H y d ∧ PyData.plainAll ds = true ∧ d.plain = true ∧ d.depth ≤ 10 ∧ Q (.int ((ds.countP fun z => PyData.eqv z d : Nat) : Int)) H
theorem mt_countD (hu : X.A.units + 64 < cLine) : MtR X "list.count" (rCntD X.K) := by
  intro pins s σ H x xs v us Q I rx rxs h
  obtain ⟨p, vs, y, ds, d, rfl, rfl, hs, hd, hy, h1, h2, h3, q⟩ := h
  cases rx
  cases rxs with
  | @cons _ u _ ur ry rn =>
    cases rn
    obtain ⟨its, rv, pl, hz⟩ := I.list hs
    obtain ⟨as, r1⟩ := Dp.readsAll I ds _ its hd rv
    obtain ⟨bs, r2⟩ := Dp.reads I d _ _ hy ry
    have := Nat.min_le_right (PyData.depthAll ds) d.depth
    exact PySem.SeqAt.count_list_data pl.isList r1 r2 h1 h2 (by omega) ⟨.int _, H, I.tok _, ⟨_, rfl⟩, q⟩
end
def cls3 (cP cI cW : Addr) : Nat → Addr
  | 0 => cP
  | 1 => cI
  | _ => cW
def word3 : Nat → Str
  | 0 => "protocol"
  | 1 => "inputs"
  | _ => "weaving"
def cls6 (cP cI cW cR cH cN : Addr) : Nat → Addr
  | 0 => cP
  | 1 => cI
  | 2 => cW
  | 3 => cR
  | 4 => cH
  | _ => cN
structure SaidC (K : PySem.W.Frag) (cA cP cI cW cR cH cN : Addr) : Prop where
  t : ∀ j, j < 3 → ExcC K (cls3 cP cI cW j)
  e : ∀ j, j < 3 → PySem.W.exmOne K (.ref (cls3 cP cI cW j)) (.ref cA) = some true
  k : ∀ i j, i < 3 → j < 6 → PySem.W.kitOne K (.ref (cls3 cP cI cW i)) (.ref (cls6 cP cI cW cR cH cN j)) = some (decide (i = j))
  v : ∀ i, i < 3 → PySem.W.kitOne K (.ref (cls3 cP cI cW i)) (.type "ValueError") = some true
structure SaidT (mg : Str → Option Value) (cA cP cI cW cR cH cN : Addr) : Prop where
  isi : mg "isinstance" = none
  ve : mg "ValueError" = none
  a : mg "AloneError" = some (.ref cA)
  w : mg "NoWeaving" = some (.ref cW)
  i : mg "NoInputs" = some (.ref cI)
  p : mg "NoProtocol" = some (.ref cP)
  r : mg "NoRounds" = some (.ref cR)
  h : mg "NoHand" = some (.ref cH)
  n : mg "NoKnown" = some (.ref cN)
structure TDef (P : Program) (w : World) (K : PySem.W.Frag) (mg : Str → Option Value) (base : Heap) (C cP cI cW : Addr) (f : Addr) (fd : FuncData) : Prop where
  G : FnOk P w K mg base (L2.CX P w) 11 f fd ["task", "protocol", "inputs", "weaving"] (spTell K C cP cI cW)
  b : Binds K fd ["task", "protocol", "inputs", "weaving"] []
  k : PySem.W.keepIn K (.ref f) = true
  m : mg "tell" = some (.ref f)
/-- what is said: the word of what is refused, or told -/
def spRefused (K : PySem.W.Frag) (C : Addr) : Sp := fun vs H Q _ => ∃ (v0 v1 v2 v3 : V), vs = [v0, v1, v2, v3] ∧ ∀ cP cI cW : Addr,
  spTell K C cP cI cW vs H (fun _ H' => ∀ H'', Same H' H'' → Q (.str "told") H'') (fun c d H' => ∃ j, j < 3 ∧ c = .ref (cls3 cP cI cW j) ∧ d = none ∧ ∀ H'', Same H' H'' → Q (.str (word3 j)) H'')
theorem spTell_mono {K : PySem.W.Frag} {C cP cI cW : Addr} {vs : List V} {H : Hp} {Q Q' : VK} {E E' : XK} (hq : ∀ v H', Q v H' → Q' v H') (he : ∀ c d H', E c d H' → E' c d H') (h : spTell K C cP cI cW vs H Q E) : spTell K C cP cI cW vs H Q' E' := by
  rcases h with ⟨p, v, vi, vw, D, ev, hW, hX, hO, q⟩ | ⟨p, t, D, r, ch, wk, al, wd, kvs, vi, vw, ev, hW, B, hI, q⟩ | ⟨p, t, D, r, ch, wk, al, wd, kvs, tt, vw, e, ev, hW, B, hE, htt, hO, q⟩ | ⟨p, t, D, r, ch, wk, al, wd, kvs, tt, lw, hs, e, ev, hW, B, hE, htt, hlw, h2, hc, hl, q⟩
  · exact .inl ⟨p, v, vi, vw, D, ev, hW, hX, hO, fun H' s => he _ _ _ (q H' s)⟩
  · exact .inr (.inl ⟨p, t, D, r, ch, wk, al, wd, kvs, vi, vw, ev, hW, B, hI, fun H' s => he _ _ _ (q H' s)⟩)
  · exact .inr (.inr (.inl ⟨p, t, D, r, ch, wk, al, wd, kvs, tt, vw, e, ev, hW, B, hE, htt, hO, fun H' s => he _ _ _ (q H' s)⟩))
  · exact .inr (.inr (.inr ⟨p, t, D, r, ch, wk, al, wd, kvs, tt, lw, hs, e, ev, hW, B, hE, htt, hlw, h2, hc, hl, fun u H' s => hq _ _ (q u H' s)⟩))
def wd6 : List V := [.str "protocol", .str "inputs", .str "weaving", .str "rounds", .str "hand", .str "known"]
theorem wd6_at {j : Nat} (h : j < 3) : wd6[j]? = some (.str (word3 j)) := by
  obtain rfl | rfl | rfl : j = 0 ∨ j = 1 ∨ j = 2 := by omega
  · rfl
  · rfl
  · rfl
def six (j : Nat) : List V := [.bl (decide (j = 0)), .bl (decide (j = 1)), .bl (decide (j = 2)), .bl (decide (j = 3)), .bl (decide (j = 4)), .bl (decide (j = 5))]
def sixD (j : Nat) : List PyData := [.bool (decide (j = 0)), .bool (decide (j = 1)), .bool (decide (j = 2)), .bool (decide (j = 3)), .bool (decide (j = 4)), .bool (decide (j = 5))]
theorem six_dp {K : PySem.W.Frag} {H : Hp} (j : Nat) : DpAll K H (six j) (sixD j) := .cons (.bl _) (.cons (.bl _) (.cons (.bl _) (.cons (.bl _) (.cons (.bl _) (.cons (.bl _) .nil)))))
theorem six_count {j : Nat} (h : j < 3) : ((sixD j).countP fun z => PyData.eqv z (.bool true)) = 1 := by
  obtain rfl | rfl | rfl : j = 0 ∨ j = 1 ∨ j = 2 := by omega
  all_goals decide +kernel
theorem six_at {j : Nat} (h : j < 3) : (sixD j)[j]? = some (.bool true) := by
  obtain rfl | rfl | rfl : j = 0 ∨ j = 1 ∨ j = 2 := by omega
  all_goals rfl
theorem six_no {j : Nat} (h : j < 3) : ∀ (m : Nat) (z' : PyData), m < j → (sixD j)[m]? = some z' → PyData.eqv z' (.bool true) = false := by
  intro m z' hm e
  obtain rfl | rfl | rfl : j = 0 ∨ j = 1 ∨ j = 2 := by omega
  · omega
  · obtain rfl : m = 0 := by omega
    cases e; decide +kernel
  · obtain rfl | rfl : m = 0 ∨ m = 1 := by omega
    · cases e; decide +kernel
    · cases e; decide +kernel
section
variable {P : Program} {w : World} {K : PySem.W.Frag} {mg : Str → Option Value} {base : Heap}
abbrev nRef : List Str := ["_law_task", "_law_scheme_here", "_law_pair", "_law_weaving_here", "e", "_law_some"]
theorem scRef : FnScope nRef ["_law_task", "_law_scheme_here", "_law_pair", "_law_weaving_here"] (defScope s__law_refused) := ⟨rfl, rfl, rfl, by decide +kernel, rfl, by decide +kernel, by decide +kernel⟩
theorem ok_refused {f g C cA cP cI cW cR cH cN : Addr} {fd gd : FuncData} (F : Fun K "_law_refused" "_law_refused" s__law_refused f fd) (T : SaidT mg cA cP cI cW cR cH cN) (SC : SaidC K cA cP cI cW cR cH cN) (W : TDef P w K mg base C cP cI cW g gd) : FnOk P w K mg base CX0 12 f fd ["_law_task", "_law_scheme_here", "_law_pair", "_law_weaving_here"] (spRefused K C) := by
  refine F.ok scRef (fun vs H Q E h => ?_) (fun cdv A outer s H vs Q E hr h => ?_)
  · obtain ⟨v0, v1, v2, v3, rfl, _⟩ := h
    rfl
  obtain ⟨v0, v1, v2, v3, rfl, h⟩ := h
  have h := h cP cI cW
  have nd := scRef.nd
  have hu65 := hu65_of hr
  refine ⟨_, pss_cons (ps_try_first (i := 4) (ts := fun a cls o Dn σ H' => σ = [some v0, some v1, some v2, some v3, some (.ref a), none] ∧ ∃ j, j < 3 ∧ cls = .ref (cls3 cP cI cW j) ∧ o = none ∧ ∀ H'', Same H' H'' → Dn.rt (.str (word3 j)) H'') rfl rfl nd rfl rfl ⟨rfl, by decide, .inl T.a⟩
      (fun W' pn xe tk _ => pss_one (ps_expr (pe_callS W.G hr rfl W.m W.k W.b (fun σ => passAt tk σ) (pa_cons (pv 0) (pa_cons (pv 1) (pa_cons (pv 2) (pa_cons (pv 3) pa_nil)))))))
      (fun a oe cls o pn hz hf => ?S)) (pss_one (ps_ret pe_str)), ?_⟩
  case S =>
    refine pss_read fun pins s' σ H' Dn I h' => ?_
    obtain ⟨rfl, j, hj, rfl, rfl, h⟩ := h'
    have isi := call_isE2 (X := (cxOf CX0 P w K mg base nRef "_law_refused" (defScope s__law_refused) f cdv A outer s H E)) (a := a) (pn := pn) hz hf
    refine ⟨_, pss_cons (ps_set (i := 5) nd rfl (Or.inl rfl) (pe_lst
        (pa_cons (pe_callB isi (by rfl) T.isi boot_isinstance (pa_cons (pv 4) (pa_cons (pe_glob (v := .ref cP) rfl T.p rfl) pa_nil)))
        (pa_cons (pe_callB isi (by rfl) T.isi boot_isinstance (pa_cons (pv 4) (pa_cons (pe_glob (v := .ref cI) rfl T.i rfl) pa_nil)))
        (pa_cons (pe_callB isi (by rfl) T.isi boot_isinstance (pa_cons (pv 4) (pa_cons (pe_glob (v := .ref cW) rfl T.w rfl) pa_nil)))
        (pa_cons (pe_callB isi (by rfl) T.isi boot_isinstance (pa_cons (pv 4) (pa_cons (pe_glob (v := .ref cR) rfl T.r rfl) pa_nil))) pa_nil))))))
      (pss_cons (ps_set (i := 5) nd rfl (Or.inl rfl) (pe_op op_cat (pv 5) (pe_lst
        (pa_cons (pe_callB isi (by rfl) T.isi boot_isinstance (pa_cons (pv 4) (pa_cons (pe_glob (v := .ref cH) rfl T.h rfl) pa_nil)))
        (pa_cons (pe_callB isi (by rfl) T.isi boot_isinstance (pa_cons (pv 4) (pa_cons (pe_glob (v := .ref cN) rfl T.n rfl) pa_nil))) pa_nil)))))
      (pss_cons (ps_if (PW.pt (pw_or (pt_cmpR op_ne (pe_bm PySem.F.plainAttrs_list PySem.F.slot_list_count PySem.F.type_list_count (mt_countD hr.units) (pv 5) (pa_cons pe_bl pa_nil)) pe_int (nomark _))
          (pw_or1 (pt_not (pt_val (pe_callB isi (by rfl) T.isi boot_isinstance (pa_cons (pv 4) (pa_cons (pe_bltn (v := .ty "ValueError") (by rfl) T.ve (by decide +kernel) rfl) pa_nil)))))))) (pss_one (ps_ret pe_str)) pss_nil)
      (pss_one (ps_ret (pe_ix ix_list (pe_lst (pa_cons pe_str (pa_cons pe_str (pa_cons pe_str (pa_cons pe_str (pa_cons pe_str (pa_cons pe_str pa_nil))))))) (pe_bm PySem.F.plainAttrs_list PySem.F.slot_list_index PySem.F.type_list_index (mt_indexD hu65) (pv 5) (pa_cons pe_bl pa_nil)) (fun _ _ => rfl)))))), ?_⟩
    have kk := fun i (hi : i < 6) => SC.k j i hj hi
    refine ⟨_, rfl, _, rfl, rfl, SC.t j hj, .ref cP, .ref cP, _, rfl, (fun u h => h), kk 0 (by decide), ?_⟩
    refine ⟨_, rfl, _, rfl, rfl, SC.t j hj, .ref cI, .ref cI, _, rfl, (fun u h => h), kk 1 (by decide), ?_⟩
    refine ⟨_, rfl, _, rfl, rfl, SC.t j hj, .ref cW, .ref cW, _, rfl, (fun u h => h), kk 2 (by decide), ?_⟩
    refine ⟨_, rfl, _, rfl, rfl, SC.t j hj, .ref cR, .ref cR, _, rfl, (fun u h => h), kk 3 (by decide), ?_⟩
    refine ⟨(by show 4 ≤ sizeLine; decide), fun l1 hl1 => ?_⟩
    have s1 := same_new hl1 (.lst [V.bl (decide (j = 0)), V.bl (decide (j = 1)), V.bl (decide (j = 2)), V.bl (decide (j = 3))])
    refine ⟨_, rfl, _, rfl, _, rfl, rfl, SC.t j hj, .ref cH, .ref cH, _, rfl, (fun u h => h), kk 4 (by decide), ?_⟩
    refine ⟨_, rfl, _, rfl, rfl, SC.t j hj, .ref cN, .ref cN, _, rfl, (fun u h => h), kk 5 (by decide), ?_⟩
    refine ⟨(by show 2 ≤ sizeLine; decide), fun l2 hl2 => ?_⟩
    have s2 := same_new hl2 (.lst [V.bl (decide (j = 4)), V.bl (decide (j = 5))])
    refine ⟨l1, l2, _, _, rfl, rfl, s2 _ _ upd_same, upd_same, (by show 6 ≤ sizeLine; decide), fun l hl => ?_⟩
    have s3 := same_new hl (.lst (six j))
    have e1 := upd_same (H := upd (upd H' l1 (.lst [V.bl (decide (j = 0)), V.bl (decide (j = 1)), V.bl (decide (j = 2)), V.bl (decide (j = 3))])) l2 (.lst [V.bl (decide (j = 4)), V.bl (decide (j = 5))])) (a := l) (o := .lst (six j))
    refine ⟨_, rfl, .inl ⟨rfl, _, SqL.of e1⟩, l, six j, .bl true, sixD j, .bool true, rfl, rfl, SqL.of e1, six_dp j, .bl true, rfl, rfl, (by decide), ?_⟩
    rw [six_count hj]
    refine ⟨rfl, _, rfl, iteF ⟨_, rfl, _, rfl, rfl, SC.t j hj, .ty "ValueError", _, true, rfl, (fun u h => h), SC.v j hj, true, rfl, iteF ?_⟩⟩
    refine ⟨(by show 6 ≤ sizeLine; decide), fun L hL => ?_⟩
    have s4 := same_new hL (.lst wd6)
    have e2 := s4 _ _ e1
    exact ⟨_, rfl, .inl ⟨rfl, _, SqL.of e2⟩, l, .bl true, .bool true, sixD j, j, .bool true, rfl, rfl, .lst (SqL.of e2) (six_dp j), .bl true, rfl, rfl, six_at hj, (by decide +kernel), six_no hj, L, _, _, _, rfl, rfl, SqL.of upd_same, atI_nat (wd6_at hj), h _ (((s1.trans s2).trans s3).trans s4)⟩
  refine ⟨_, rfl, _, rfl, _, rfl, _, rfl, ?_⟩
  unfold tNil
  refine spTell_mono (fun v H' q => ?_) (fun c d H' q => ?_) h
  · exact q H' (Same.refl H')
  · obtain ⟨j, hj, rfl, rfl, q⟩ := q
    exact ⟨SC.e j hj, fun a na => ⟨rfl, j, hj, rfl, rfl, fun H'' s => q _ s⟩⟩
end
end TA

set_option Elab.async false
set_option maxRecDepth 100000
set_option maxHeartbeats 4000000
namespace TA
open PySem L2 PyProof.Rows
set_option linter.unusedVariables false
theorem tn_of {d : PyData} (h : (d.showable && d.leavesShort 48 && decide (d.weight ≤ 300) && decide (d.depth ≤ 3)) = true) : Tn d 300 3 := by
  simp only [Bool.and_eq_true, decide_eq_true_eq] at h
  exact ⟨h.1.1.1, h.1.1.2, h.1.2, h.2⟩
def oddP (a b : Nat) : List PyData := [.tuple [.int 9, .int (b : Int)], .tuple [.int (a : Int), .int 9], .list [.int (a : Int), .int (b : Int)], .tuple [.int (a : Int)], .tuple [.int (a : Int), .int (b : Int), .int 0], .none, .str "pair", .tuple [.int (a : Int), .none], .tuple [.int (-1), .int (b : Int)], .tuple [.int (a : Int), .bool true], .int 5]
theorem oddP_tn : ((List.range 4).all fun a => (List.range 4).all fun b => (oddP a b).all fun d => (d.showable && d.leavesShort 48 && decide (d.weight ≤ 300) && decide (d.depth ≤ 3))) = true := by decide +kernel
theorem oddP_in : ((List.range 5).all fun n0 => (List.range 5).all fun n1 => (List.range 4).all fun a => (List.range 4).all fun b => (oddP a b).all fun d => !inB n0 n1 d) = true := by decide +kernel
theorem oddP_ok {n0 n1 a b : Nat} (h0 : n0 ≤ 4) (h1 : n1 ≤ 4) (ha : a < 4) (hb : b < 4) {d : PyData} (h : d ∈ oddP a b) : inB n0 n1 d = false ∧ Tn d 300 3 := by
  have x := List.all_eq_true.mp (List.all_eq_true.mp (List.all_eq_true.mp (List.all_eq_true.mp (List.all_eq_true.mp oddP_in n0 (List.mem_range.mpr (by omega))) n1 (List.mem_range.mpr (by omega))) a (List.mem_range.mpr ha)) b (List.mem_range.mpr hb)) d h
  refine ⟨by simpa using x, tn_of (List.all_eq_true.mp (List.all_eq_true.mp (List.all_eq_true.mp oddP_tn a (List.mem_range.mpr ha)) b (List.mem_range.mpr hb)) d h)⟩
theorem dic_sh0 {K : PySem.W.Frag} {V : Hp} {wd : Addr} (e : V wd = some (.dT [])) : ∃ d, DX K V (.ref wd) d ∧ Tn d 300 3 := ⟨.dict [], .dic (es := []) e rfl .nil rfl rfl, tn_of (by decide +kernel)⟩
/-- inputs that are none, as they are handed in -/
def OIs (K : PySem.W.Frag) (H : Hp) (T : TD) (v : V) : Prop := OIv K H T v ∧ ShY K H 300 3 v
def spOP (K : PySem.W.Frag) : Sp := fun vs H Q _ => ∃ (a tt : Addr) (n : Int) (T : TD) (e : EB), vs = [.ref a, .ref tt] ∧ WellAt H a n ∧ 0 ≤ n ∧ n < 900000 ∧ WF T ∧ (∀ h, h < 2 → (T.al h).length ≤ 4) ∧ e ∈ T.bo ∧ TpAt H (.ref tt) (iI e.1) ∧
  ∀ (v : V) (H' : Hp), But a H H' → WellAt H' a (n + 1) → OIs K (vw (pA a) H') T v → Q v H'
section
variable {P : Program} {w : World} {K : PySem.W.Frag} {mg : Str → Option Value} {base : Heap}
abbrev nOP : List Str := ["_law_state", "_law_pair", "_law_a", "_law_b"]
theorem sc_op : FnScope nOP ["_law_state", "_law_pair"] (defScope s__law_odd_pair) := ⟨rfl, rfl, rfl, by decide +kernel, rfl, by decide +kernel, by decide +kernel⟩
theorem ok_op {f g1 : Addr} {fd d1 : FuncData} (F : Fun K "_law_odd_pair" "_law_odd_pair" s__law_odd_pair f fd) (Of : Def P w K mg base "_law_of" nOf 2 (spOf K) g1 d1) : FnOk P w K mg base CX0 3 f fd ["_law_state", "_law_pair"] (spOP K) := by
  refine F.ok sc_op (fun vs H Q E h => ?_) (fun cdv A outer s H vs Q E hr h => ?_)
  · obtain ⟨a, tt, n, D, e, rfl, _⟩ := h
    rfl
  obtain ⟨a, tt, n, D, e, rfl, w, hn0, hn1, hW, h4, he, htt, q⟩ := h
  have nd := sc_op.nd
  have hu := hu_of hr
  refine ⟨_, (pss_cons (ps_asg (pv 1) (pg_tup (by rfl) (pgs_cons (pg_name (i := 2) nd rfl (Or.inl rfl)) (pgs_cons (pg_name (i := 3) nd rfl (Or.inl rfl)) pgs_nil))))
    (pss_one (ps_ret (pe_call Of.G (hr.mono (by decide)) rfl Of.m Of.k Of.b .nil pass0 (pa_cons (pv 0) (pa_cons (pe_lst (pa_cons (pe_tup (pa_cons pe_int (pa_cons (pv 3) pa_nil))) (pa_cons (pe_tup (pa_cons (pv 2) (pa_cons pe_int pa_nil))) (pa_cons (pe_lst (pa_cons (pv 2) (pa_cons (pv 3) pa_nil))) (pa_cons (pe_tup (pa_cons (pv 2) pa_nil)) (pa_cons (pe_tup (pa_cons (pv 2) (pa_cons (pv 3) (pa_cons pe_int pa_nil)))) (pa_cons pe_non (pa_cons pe_str (pa_cons (pe_tup (pa_cons (pv 2) (pa_cons pe_non pa_nil))) (pa_cons (pe_tup (pa_cons (pe_un un_neg pe_int) (pa_cons (pv 3) pa_nil))) (pa_cons (pe_tup (pa_cons (pv 2) (pa_cons pe_bl pa_nil))) (pa_cons pe_int (pa_cons pe_dnewT pa_nil))))))))))))) pa_nil)))))), ?_⟩
  obtain ⟨z0, ea0⟩ := w.lst
  have b : But a H H := fun _ _ _ e => e
  have szl : ∀ m : Nat, m ≤ 1000 → m ≤ sizeLine := fun m h => Nat.le_trans h (by decide)
  have rg := hW.rng e he
  have l0 := h4 0 (by decide)
  have l1 := h4 1 (by decide)
  obtain ⟨tq, etq, htq⟩ := id htt
  obtain rfl : tt = tq := by injection etq
  refine ⟨_, rfl, tt, _, rfl, SqT.of htq, rfl, _, _, rfl, _, _, rfl, rfl, ?_⟩
  show _
  refine ⟨_, rfl, _, rfl, szl _ (by show 2 ≤ 1000; decide), fun p1 hp1 => ?_⟩
  have t1 := same_new hp1 (.tup [V.int 9, V.int (iI e.1).2])
  have np1 : p1 ≠ a := Ne.symm (w.ne hp1)
  have ep1 : (upd H p1 (.tup [V.int 9, V.int (iI e.1).2])) p1 = some (.tup [V.int 9, V.int (iI e.1).2]) := upd_same
  have b := b.trans (.same t1)
  have w := w.same t1
  generalize upd H p1 (.tup [V.int 9, V.int (iI e.1).2]) = G1 at t1 ep1  b w ⊢
  clear t1
  refine ⟨_, rfl, szl _ (by show 2 ≤ 1000; decide), fun p2 hp2 => ?_⟩
  have t2 := same_new hp2 (.tup [V.int (iI e.1).1, V.int 9])
  have np2 : p2 ≠ a := Ne.symm (w.ne hp2)
  have ep2 : (upd G1 p2 (.tup [V.int (iI e.1).1, V.int 9])) p2 = some (.tup [V.int (iI e.1).1, V.int 9]) := upd_same
  have ep1 := t2 _ _ ep1
  have b := b.trans (.same t2)
  have w := w.same t2
  generalize upd G1 p2 (.tup [V.int (iI e.1).1, V.int 9]) = G2 at t2 ep2 ep1 b w ⊢
  clear t2
  refine ⟨_, rfl, _, rfl, szl _ (by show 2 ≤ 1000; decide), fun p3 hp3 => ?_⟩
  have t3 := same_new hp3 (.lst [V.int (iI e.1).1, V.int (iI e.1).2])
  have np3 : p3 ≠ a := Ne.symm (w.ne hp3)
  have ep3 : (upd G2 p3 (.lst [V.int (iI e.1).1, V.int (iI e.1).2])) p3 = some (.lst [V.int (iI e.1).1, V.int (iI e.1).2]) := upd_same
  have ep1 := t3 _ _ ep1
  have ep2 := t3 _ _ ep2
  have b := b.trans (.same t3)
  have w := w.same t3
  generalize upd G2 p3 (.lst [V.int (iI e.1).1, V.int (iI e.1).2]) = G3 at t3 ep3 ep1 ep2 b w ⊢
  clear t3
  refine ⟨_, rfl, szl _ (by show 1 ≤ 1000; decide), fun p4 hp4 => ?_⟩
  have t4 := same_new hp4 (.tup [V.int (iI e.1).1])
  have np4 : p4 ≠ a := Ne.symm (w.ne hp4)
  have ep4 : (upd G3 p4 (.tup [V.int (iI e.1).1])) p4 = some (.tup [V.int (iI e.1).1]) := upd_same
  have ep1 := t4 _ _ ep1
  have ep2 := t4 _ _ ep2
  have ep3 := t4 _ _ ep3
  have b := b.trans (.same t4)
  have w := w.same t4
  generalize upd G3 p4 (.tup [V.int (iI e.1).1]) = G4 at t4 ep4 ep1 ep2 ep3 b w ⊢
  clear t4
  refine ⟨_, rfl, _, rfl, szl _ (by show 3 ≤ 1000; decide), fun p5 hp5 => ?_⟩
  have t5 := same_new hp5 (.tup [V.int (iI e.1).1, V.int (iI e.1).2, V.int 0])
  have np5 : p5 ≠ a := Ne.symm (w.ne hp5)
  have ep5 : (upd G4 p5 (.tup [V.int (iI e.1).1, V.int (iI e.1).2, V.int 0])) p5 = some (.tup [V.int (iI e.1).1, V.int (iI e.1).2, V.int 0]) := upd_same
  have ep1 := t5 _ _ ep1
  have ep2 := t5 _ _ ep2
  have ep3 := t5 _ _ ep3
  have ep4 := t5 _ _ ep4
  have b := b.trans (.same t5)
  have w := w.same t5
  generalize upd G4 p5 (.tup [V.int (iI e.1).1, V.int (iI e.1).2, V.int 0]) = G5 at t5 ep5 ep1 ep2 ep3 ep4 b w ⊢
  clear t5
  refine ⟨_, rfl, szl _ (by show 2 ≤ 1000; decide), fun p8 hp8 => ?_⟩
  have t6 := same_new hp8 (.tup [V.int (iI e.1).1, V.non])
  have np8 : p8 ≠ a := Ne.symm (w.ne hp8)
  have ep8 : (upd G5 p8 (.tup [V.int (iI e.1).1, V.non])) p8 = some (.tup [V.int (iI e.1).1, V.non]) := upd_same
  have ep1 := t6 _ _ ep1
  have ep2 := t6 _ _ ep2
  have ep3 := t6 _ _ ep3
  have ep4 := t6 _ _ ep4
  have ep5 := t6 _ _ ep5
  have b := b.trans (.same t6)
  have w := w.same t6
  generalize upd G5 p8 (.tup [V.int (iI e.1).1, V.non]) = G6 at t6 ep8 ep1 ep2 ep3 ep4 ep5 b w ⊢
  clear t6
  refine ⟨_, rfl, _, rfl, szl _ (by show 2 ≤ 1000; decide), fun p9 hp9 => ?_⟩
  have t7 := same_new hp9 (.tup [(fun i : Int => V.int (-i)) 1, V.int (iI e.1).2])
  have np9 : p9 ≠ a := Ne.symm (w.ne hp9)
  have ep9 : (upd G6 p9 (.tup [(fun i : Int => V.int (-i)) 1, V.int (iI e.1).2])) p9 = some (.tup [(fun i : Int => V.int (-i)) 1, V.int (iI e.1).2]) := upd_same
  have ep1 := t7 _ _ ep1
  have ep2 := t7 _ _ ep2
  have ep3 := t7 _ _ ep3
  have ep4 := t7 _ _ ep4
  have ep5 := t7 _ _ ep5
  have ep8 := t7 _ _ ep8
  have b := b.trans (.same t7)
  have w := w.same t7
  generalize upd G6 p9 (.tup [(fun i : Int => V.int (-i)) 1, V.int (iI e.1).2]) = G7 at t7 ep9 ep1 ep2 ep3 ep4 ep5 ep8 b w ⊢
  clear t7
  have ep9 : G7 p9 = some (.tup [V.int (-1), V.int (iI e.1).2]) := ep9
  refine ⟨_, rfl, szl _ (by show 2 ≤ 1000; decide), fun p10 hp10 => ?_⟩
  have t8 := same_new hp10 (.tup [V.int (iI e.1).1, V.bl true])
  have np10 : p10 ≠ a := Ne.symm (w.ne hp10)
  have ep10 : (upd G7 p10 (.tup [V.int (iI e.1).1, V.bl true])) p10 = some (.tup [V.int (iI e.1).1, V.bl true]) := upd_same
  have ep1 := t8 _ _ ep1
  have ep2 := t8 _ _ ep2
  have ep3 := t8 _ _ ep3
  have ep4 := t8 _ _ ep4
  have ep5 := t8 _ _ ep5
  have ep8 := t8 _ _ ep8
  have ep9 := t8 _ _ ep9
  have b := b.trans (.same t8)
  have w := w.same t8
  generalize upd G7 p10 (.tup [V.int (iI e.1).1, V.bl true]) = G8 at t8 ep10 ep1 ep2 ep3 ep4 ep5 ep8 ep9 b w ⊢
  clear t8
  refine fun em hem => ?_
  have t9 := same_new hem (.dT [])
  have nem : em ≠ a := Ne.symm (w.ne hem)
  have eem : (upd G8 em (.dT [])) em = some (.dT []) := upd_same
  have ep1 := t9 _ _ ep1
  have ep2 := t9 _ _ ep2
  have ep3 := t9 _ _ ep3
  have ep4 := t9 _ _ ep4
  have ep5 := t9 _ _ ep5
  have ep8 := t9 _ _ ep8
  have ep9 := t9 _ _ ep9
  have ep10 := t9 _ _ ep10
  have b := b.trans (.same t9)
  have w := w.same t9
  generalize upd G8 em (.dT []) = G9 at t9 eem ep1 ep2 ep3 ep4 ep5 ep8 ep9 ep10 b w ⊢
  clear t9
  refine ⟨szl _ (by show 12 ≤ 1000; decide), fun l hl => ?_⟩
  have t10 := same_new hl (.lst [V.ref p1, V.ref p2, V.ref p3, V.ref p4, V.ref p5, V.non, V.str "pair", V.ref p8, V.ref p9, V.ref p10, V.int 5, V.ref em])
  have nl : l ≠ a := Ne.symm (w.ne hl)
  have el : (upd G9 l (.lst [V.ref p1, V.ref p2, V.ref p3, V.ref p4, V.ref p5, V.non, V.str "pair", V.ref p8, V.ref p9, V.ref p10, V.int 5, V.ref em])) l = some (.lst [V.ref p1, V.ref p2, V.ref p3, V.ref p4, V.ref p5, V.non, V.str "pair", V.ref p8, V.ref p9, V.ref p10, V.int 5, V.ref em]) := upd_same
  have ep1 := t10 _ _ ep1
  have ep2 := t10 _ _ ep2
  have ep3 := t10 _ _ ep3
  have ep4 := t10 _ _ ep4
  have ep5 := t10 _ _ ep5
  have ep8 := t10 _ _ ep8
  have ep9 := t10 _ _ ep9
  have ep10 := t10 _ _ ep10
  have eem := t10 _ _ eem
  have b := b.trans (.same t10)
  have w := w.same t10
  generalize upd G9 l (.lst [V.ref p1, V.ref p2, V.ref p3, V.ref p4, V.ref p5, V.non, V.str "pair", V.ref p8, V.ref p9, V.ref p10, V.int 5, V.ref em]) = G10 at t10 el ep1 ep2 ep3 ep4 ep5 ep8 ep9 ep10 eem b w ⊢
  clear t10
  refine ⟨a, l, _, _, rfl, .inr w, by omega, by omega, el, nl, (by show 0 < 12; decide), (by show 12 < 1000; decide), fun j v H5 hj b5 w5 => ?_⟩
  have ep1 := b5 _ _ np1 ep1
  have ep2 := b5 _ _ np2 ep2
  have ep3 := b5 _ _ np3 ep3
  have ep4 := b5 _ _ np4 ep4
  have ep5 := b5 _ _ np5 ep5
  have ep8 := b5 _ _ np8 ep8
  have ep9 := b5 _ _ np9 ep9
  have ep10 := b5 _ _ np10 ep10
  have eem := b5 _ _ nem eem
  have el := b5 _ _ nl el
  have b := b.trans b5
  have w := w5
  have at9 : ∀ {b : Addr} {o : HO}, b ≠ a → H5 b = some o → vw (pA a) H5 b = some o := fun n e => vw_put (pA_ok.mpr n) e
  have fin : ∀ {v : V} {d : PyData}, d ∈ oddP e.1.1 e.1.2 → Dp K (vw (pA a) H5) v d → d.hasDict = false → Q v H5 := fun hd hv hh => by
    obtain ⟨o1, o2⟩ := oddP_ok l0 l1 (by omega) (by omega) hd
    exact q _ _ b w ⟨.data hv o1, _, .even (.flat hv hh), o2⟩
  have hj12 : j < 12 := (List.getElem?_eq_some_iff.mp hj).1
  obtain rfl | rfl | rfl | rfl | rfl | rfl | rfl | rfl | rfl | rfl | rfl | rfl : j = 0 ∨ j = 1 ∨ j = 2 ∨ j = 3 ∨ j = 4 ∨ j = 5 ∨ j = 6 ∨ j = 7 ∨ j = 8 ∨ j = 9 ∨ j = 10 ∨ j = 11 := by omega
  · cases hj
    exact fin (List.mem_of_getElem? (i := 0) rfl) (.tup (SqT.of (at9 np1 ep1)) (.cons (.int _) (.cons (.int _) .nil))) rfl
  · cases hj
    exact fin (List.mem_of_getElem? (i := 1) rfl) (.tup (SqT.of (at9 np2 ep2)) (.cons (.int _) (.cons (.int _) .nil))) rfl
  · cases hj
    exact fin (List.mem_of_getElem? (i := 2) rfl) (.lst (SqL.of (at9 np3 ep3)) (.cons (.int _) (.cons (.int _) .nil))) rfl
  · cases hj
    exact fin (List.mem_of_getElem? (i := 3) rfl) (.tup (SqT.of (at9 np4 ep4)) (.cons (.int _) .nil)) rfl
  · cases hj
    exact fin (List.mem_of_getElem? (i := 4) rfl) (.tup (SqT.of (at9 np5 ep5)) (.cons (.int _) (.cons (.int _) (.cons (.int _) .nil)))) rfl
  · cases hj
    exact fin (List.mem_of_getElem? (i := 5) rfl) (.non) rfl
  · cases hj
    exact fin (List.mem_of_getElem? (i := 6) rfl) (.str _) rfl
  · cases hj
    exact fin (List.mem_of_getElem? (i := 7) rfl) (.tup (SqT.of (at9 np8 ep8)) (.cons (.int _) (.cons (.non) .nil))) rfl
  · cases hj
    exact fin (List.mem_of_getElem? (i := 8) rfl) (.tup (SqT.of (at9 np9 ep9)) (.cons (.int _) (.cons (.int _) .nil))) rfl
  · cases hj
    exact fin (List.mem_of_getElem? (i := 9) rfl) (.tup (SqT.of (at9 np10 ep10)) (.cons (.int _) (.cons (.bl _) .nil))) rfl
  · cases hj
    exact fin (List.mem_of_getElem? (i := 10) rfl) (.int _) rfl
  · cases hj
    refine q _ _ b w ⟨.dic (at9 nem eem), ?_⟩
    obtain ⟨d, y, z⟩ := dic_sh0 (K := K) (at9 nem eem)
    exact ⟨d, .even y, z⟩
/-! what is no weaving -/
theorem rep_flat2 (n : Nat) (xs : List Nat) : (List.replicate n (TB.hl xs)).flatten = TB.hl (List.replicate n xs).flatten := by
  induction n with
  | zero => rfl
  | succ n ih =>
    rw [List.replicate_succ, List.replicate_succ, List.flatten_cons, List.flatten_cons, ih]
    unfold TB.hl
    rw [List.map_append]
theorem hl_dpA {K : PySem.W.Frag} {H : Hp} : ∀ hs : List Nat, DpAll K H (TB.hl hs) (hs.map fun h : Nat => PyData.int (h : Int))
  | [] => .nil
  | h :: hs => .cons (.int _) (hl_dpA hs)
theorem int_inj {hs gs : List Nat} (h : (hs.map fun h : Nat => PyData.int (h : Int)) = gs.map fun h : Nat => PyData.int (h : Int)) : hs = gs := by
  induction hs generalizing gs with
  | nil => cases gs with
    | nil => rfl
    | cons => cases h
  | cons x hs ih => cases gs with
    | nil => cases h
    | cons y gs =>
      rw [List.map_cons, List.map_cons] at h
      injection h with h1 h2
      injection h1 with h1
      rw [ih h2, show x = y by omega]
/-- data that is no weaving of so many rounds -/
def owB (r : Nat) : PyData → Bool
  | .list ds => !(ds.all fun d => TB.within d 0 1) || decide (2 * r < (ds.countP fun d => PyData.eqv d (.int 0))) || decide (2 * r < (ds.countP fun d => PyData.eqv d (.int 1)))
  | _ => true
theorem cnt_int (hs : List Nat) (k : Nat) : ((hs.map fun h : Nat => PyData.int (h : Int)).countP fun d => PyData.eqv d (.int (k : Int))) = hs.count k := by
  rw [List.countP_map, List.count_eq_countP]
  refine List.countP_congr fun x _ => ?_
  show PyData.eqv (.int (x : Int)) (.int (k : Int)) = true ↔ (x == k) = true
  rw [show PyData.eqv (.int (x : Int)) (.int (k : Int)) = ((x : Int) == (k : Int)) from rfl, beq_iff_eq, beq_iff_eq]
  omega
theorem owB_ok {r : Nat} {d : PyData} (h : owB r d = true) : ¬ TB.WOk r d := by
  rintro ⟨hs, rfl, h1, h2⟩
  have h : (!((hs.map fun h : Nat => PyData.int (h : Int)).all fun d => TB.within d 0 1) || decide (2 * r < ((hs.map fun h : Nat => PyData.int (h : Int)).countP fun d => PyData.eqv d (.int ((0 : Nat) : Int)))) || decide (2 * r < ((hs.map fun h : Nat => PyData.int (h : Int)).countP fun d => PyData.eqv d (.int ((1 : Nat) : Int))))) = true := h
  rw [cnt_int, cnt_int, Bool.or_eq_true, Bool.or_eq_true, decide_eq_true_eq, decide_eq_true_eq, Bool.not_eq_true', List.all_eq_false] at h
  have c0 := h2 0 (by decide)
  have c1 := h2 1 (by decide)
  rcases h with (⟨d, hd, e⟩ | h) | h
  · obtain ⟨x, hx, rfl⟩ := List.mem_map.mp hd
    have := h1 x hx
    exact e (decide_eq_true (by omega))
  · omega
  · omega
theorem nd_ns (hs : List Nat) : PyData.hasDictAll (hs.map fun h : Nat => PyData.int (h : Int)) = false := by
  induction hs with
  | nil => rfl
  | cons x hs ih => rw [List.map_cons, PyData.hasDictAll, ih, PyData.hasDict]; rfl
/-- what is handed in as a weaving and is none -/
def OWs (K : PySem.W.Frag) (H : Hp) (r : Nat) (v : V) : Prop := OWv K H r v ∧ ShY K H 300 3 v
def owL (r : Nat) : List PyData := [.list ((List.replicate (2 * r + 1) 0).map fun h : Nat => PyData.int (h : Int)), .list ((List.replicate (2 * r + 1) 1 ++ [0]).map fun h : Nat => PyData.int (h : Int)), .list [.int 2], .list [.int (-1)], .list [.bool true], .list [.none], .list [.str "0"], .none, .tuple [.int 0, .int 1], .str "01", .int 0, .list [.list [.int 0]], .list (((List.replicate (2 * r) [0, 1]).flatten ++ [0]).map fun h : Nat => PyData.int (h : Int))]
theorem owL_all : ((List.range 4).all fun r => (owL r).all fun d => owB r d && (d.showable && d.leavesShort 48 && decide (d.weight ≤ 300) && decide (d.depth ≤ 3))) = true := by decide +kernel
theorem owL_ok {r : Nat} (hr : r ≤ 3) {d : PyData} (h : d ∈ owL r) : ¬ TB.WOk r d ∧ Tn d 300 3 := by
  have x := List.all_eq_true.mp (List.all_eq_true.mp owL_all r (List.mem_range.mpr (by omega))) d h
  exact ⟨owB_ok (Bool.and_eq_true_iff.mp x).1, tn_of (Bool.and_eq_true_iff.mp x).2⟩
theorem owL_len {r : Nat} (hr : r ≤ 3) : ((List.range 4).all fun r => (owL r).all fun d => match d with | .list ds => decide (ds.length ≤ 1000) | _ => true) = true := by decide +kernel
theorem owL_len' {r : Nat} (hr : r ≤ 3) {d : PyData} (h : d ∈ owL r) : ∀ ds, d = .list ds → ds.length ≤ 1000 := by
  rintro ds rfl
  have x := List.all_eq_true.mp (List.all_eq_true.mp (owL_len hr) r (List.mem_range.mpr (by omega))) _ h
  exact of_decide_eq_true x
def spOW2 (K : PySem.W.Frag) : Sp := fun vs H Q _ => ∃ (a : Addr) (n : Int) (r : Nat), vs = [.ref a, .int (r : Int)] ∧ WellAt H a n ∧ 0 ≤ n ∧ n < 900000 ∧ r ≤ 3 ∧
  ∀ (v : V) (H' : Hp), But a H H' → WellAt H' a (n + 1) → OWs K (vw (pA a) H') r v → Q v H'
abbrev nOWv : List Str := ["_law_state", "_law_rounds", "_law_some"]
theorem sc_owv : FnScope nOWv ["_law_state", "_law_rounds"] (defScope s__law_odd_weaving) := ⟨rfl, rfl, rfl, by decide +kernel, rfl, by decide +kernel, by decide +kernel⟩
theorem ok_owv {f g1 : Addr} {fd d1 : FuncData} (F : Fun K "_law_odd_weaving" "_law_odd_weaving" s__law_odd_weaving f fd) (Of : Def P w K mg base "_law_of" nOf 2 (spOf K) g1 d1) : FnOk P w K mg base CX0 3 f fd ["_law_state", "_law_rounds"] (spOW2 K) := by
  refine F.ok sc_owv (fun vs H Q E h => ?_) (fun cdv A outer s H vs Q E hr h => ?_)
  · obtain ⟨a, n, r, rfl, _⟩ := h
    rfl
  obtain ⟨a, n, r, rfl, w, hn0, hn1, hr3, q⟩ := h
  have nd := sc_owv.nd
  have hu := hu_of hr
  refine ⟨_, (pss_cons (ps_set (i := 2) nd rfl (Or.inl rfl) (pe_lst (pa_cons (pe_op op_rep (pe_lst (pa_cons pe_int pa_nil)) (pe_op op_add (pe_op op_mul pe_int (pv 1)) pe_int)) (pa_cons (pe_op op_cat (pe_op op_rep (pe_lst (pa_cons pe_int pa_nil)) (pe_op op_add (pe_op op_mul pe_int (pv 1)) pe_int)) (pe_lst (pa_cons pe_int pa_nil))) (pa_cons (pe_lst (pa_cons pe_int pa_nil)) (pa_cons (pe_lst (pa_cons (pe_un un_neg pe_int) pa_nil)) (pa_cons (pe_lst (pa_cons pe_bl pa_nil)) (pa_cons (pe_lst (pa_cons pe_non pa_nil)) (pa_cons (pe_lst (pa_cons pe_str pa_nil)) (pa_cons pe_non (pa_cons (pe_tup (pa_cons pe_int (pa_cons pe_int pa_nil))) (pa_cons pe_dnewT pa_nil))))))))))))
    (pss_one (ps_ret (pe_call Of.G (hr.mono (by decide)) rfl Of.m Of.k Of.b .nil pass0 (pa_cons (pv 0) (pa_cons (pe_op op_cat (pv 2) (pe_lst (pa_cons pe_str (pa_cons pe_int (pa_cons (pe_lst (pa_cons (pe_lst (pa_cons pe_int pa_nil)) pa_nil)) (pa_cons (pe_op op_cat (pe_op op_rep (pe_lst (pa_cons pe_int (pa_cons pe_int pa_nil))) (pe_op op_mul pe_int (pv 1))) (pe_lst (pa_cons pe_int pa_nil))) pa_nil)))))) pa_nil)))))), ?_⟩
  have b : But a H H := fun _ _ _ e => e
  have szl : ∀ m : Nat, m ≤ 1000 → m ≤ sizeLine := fun m h => Nat.le_trans h (by decide)
  have e1 : (2 * (r : Int) + 1).toNat = 2 * r + 1 := by omega
  have e2 : (2 * (r : Int)).toNat = 2 * r := by omega
  refine ⟨szl _ (by show 1 ≤ 1000; decide), fun a0 ha0 => ?_⟩
  have t1 := same_new ha0 (.lst [V.int 0])
  have na0 : a0 ≠ a := Ne.symm (w.ne ha0)
  have ea0 : (upd H a0 (.lst [V.int 0])) a0 = some (.lst [V.int 0]) := upd_same
  have b := b.trans (.same t1)
  have w := w.same t1
  generalize upd H a0 (.lst [V.int 0]) = G1 at t1 ea0  b w ⊢
  clear t1
  refine ⟨_, rfl, _, _, rfl, rfl, .inl ⟨by decide, by decide⟩, _, _, rfl, rfl, a0, _, _, rfl, rfl, ea0, by omega, by omega, ?_, fun w0 hw0 => ?_⟩
  · rw [e1]
    exact szl _ (by show 1 * _ ≤ 1000; omega)
  have eh : (List.replicate (2 * (r : Int) + 1).toNat [V.int 0]).flatten = TB.hl (List.replicate (2 * r + 1) 0) := by
    rw [e1, show ([V.int 0] : List V) = TB.hl [0] from rfl, rep_flat2]
    congr 1
    exact (by rw [List.flatten_replicate_singleton])
  rw [eh]
  clear eh
  have t2 := same_new hw0 (.lst (TB.hl (List.replicate (2 * r + 1) 0)))
  have nw0 : w0 ≠ a := Ne.symm (w.ne hw0)
  have ew0 : (upd G1 w0 (.lst (TB.hl (List.replicate (2 * r + 1) 0)))) w0 = some (.lst (TB.hl (List.replicate (2 * r + 1) 0))) := upd_same
  have ea0 := t2 _ _ ea0
  have b := b.trans (.same t2)
  have w := w.same t2
  generalize upd G1 w0 (.lst (TB.hl (List.replicate (2 * r + 1) 0))) = G2 at t2 ew0 ea0 b w ⊢
  clear t2
  refine ⟨szl _ (by show 1 ≤ 1000; decide), fun a1 ha1 => ?_⟩
  have t3 := same_new ha1 (.lst [V.int 1])
  have na1 : a1 ≠ a := Ne.symm (w.ne ha1)
  have ea1 : (upd G2 a1 (.lst [V.int 1])) a1 = some (.lst [V.int 1]) := upd_same
  have ea0 := t3 _ _ ea0
  have ew0 := t3 _ _ ew0
  have b := b.trans (.same t3)
  have w := w.same t3
  generalize upd G2 a1 (.lst [V.int 1]) = G3 at t3 ea1 ea0 ew0 b w ⊢
  clear t3
  refine ⟨_, rfl, _, _, rfl, rfl, .inl ⟨by decide, by decide⟩, _, _, rfl, rfl, a1, _, _, rfl, rfl, ea1, by omega, by omega, ?_, fun b1 hb1 => ?_⟩
  · rw [e1]
    exact szl _ (by show 1 * _ ≤ 1000; omega)
  have eh : (List.replicate (2 * (r : Int) + 1).toNat [V.int 1]).flatten = TB.hl (List.replicate (2 * r + 1) 1) := by
    rw [e1, show ([V.int 1] : List V) = TB.hl [1] from rfl, rep_flat2]
    congr 1
    exact (by rw [List.flatten_replicate_singleton])
  rw [eh]
  clear eh
  have t4 := same_new hb1 (.lst (TB.hl (List.replicate (2 * r + 1) 1)))
  have nb1 : b1 ≠ a := Ne.symm (w.ne hb1)
  have eb1 : (upd G3 b1 (.lst (TB.hl (List.replicate (2 * r + 1) 1)))) b1 = some (.lst (TB.hl (List.replicate (2 * r + 1) 1))) := upd_same
  have ea0 := t4 _ _ ea0
  have ew0 := t4 _ _ ew0
  have ea1 := t4 _ _ ea1
  have b := b.trans (.same t4)
  have w := w.same t4
  generalize upd G3 b1 (.lst (TB.hl (List.replicate (2 * r + 1) 1))) = G4 at t4 eb1 ea0 ew0 ea1 b w ⊢
  clear t4
  refine ⟨szl _ (by show 1 ≤ 1000; decide), fun c0 hc0 => ?_⟩
  have t5 := same_new hc0 (.lst [V.int 0])
  have nc0 : c0 ≠ a := Ne.symm (w.ne hc0)
  have ec0 : (upd G4 c0 (.lst [V.int 0])) c0 = some (.lst [V.int 0]) := upd_same
  have ea0 := t5 _ _ ea0
  have ew0 := t5 _ _ ew0
  have ea1 := t5 _ _ ea1
  have eb1 := t5 _ _ eb1
  have b := b.trans (.same t5)
  have w := w.same t5
  generalize upd G4 c0 (.lst [V.int 0]) = G5 at t5 ec0 ea0 ew0 ea1 eb1 b w ⊢
  clear t5
  refine ⟨b1, c0, _, _, rfl, rfl, eb1, ec0, ?_, fun w1 hw1 => ?_⟩
  · rw [hl_len, List.length_replicate]
    exact szl _ (by show 2 * r + 1 + 1 ≤ 1000; omega)
  have eh : TB.hl (List.replicate (2 * r + 1) 1) ++ [V.int 0] = TB.hl (List.replicate (2 * r + 1) 1 ++ [0]) := by
    unfold TB.hl
    rw [List.map_append]
    rfl
  rw [eh]
  clear eh
  have t6 := same_new hw1 (.lst (TB.hl (List.replicate (2 * r + 1) 1 ++ [0])))
  have nw1 : w1 ≠ a := Ne.symm (w.ne hw1)
  have ew1 : (upd G5 w1 (.lst (TB.hl (List.replicate (2 * r + 1) 1 ++ [0])))) w1 = some (.lst (TB.hl (List.replicate (2 * r + 1) 1 ++ [0]))) := upd_same
  have ea0 := t6 _ _ ea0
  have ew0 := t6 _ _ ew0
  have ea1 := t6 _ _ ea1
  have eb1 := t6 _ _ eb1
  have ec0 := t6 _ _ ec0
  have b := b.trans (.same t6)
  have w := w.same t6
  generalize upd G5 w1 (.lst (TB.hl (List.replicate (2 * r + 1) 1 ++ [0]))) = G6 at t6 ew1 ea0 ew0 ea1 eb1 ec0 b w ⊢
  clear t6
  refine ⟨szl _ (by show 1 ≤ 1000; decide), fun w2 hw2 => ?_⟩
  have t7 := same_new hw2 (.lst [V.int 2])
  have nw2 : w2 ≠ a := Ne.symm (w.ne hw2)
  have ew2 : (upd G6 w2 (.lst [V.int 2])) w2 = some (.lst [V.int 2]) := upd_same
  have ea0 := t7 _ _ ea0
  have ew0 := t7 _ _ ew0
  have ea1 := t7 _ _ ea1
  have eb1 := t7 _ _ eb1
  have ec0 := t7 _ _ ec0
  have ew1 := t7 _ _ ew1
  have b := b.trans (.same t7)
  have w := w.same t7
  generalize upd G6 w2 (.lst [V.int 2]) = G7 at t7 ew2 ea0 ew0 ea1 eb1 ec0 ew1 b w ⊢
  clear t7
  refine ⟨_, rfl, szl _ (by show 1 ≤ 1000; decide), fun w3 hw3 => ?_⟩
  have t8 := same_new hw3 (.lst [(fun i : Int => V.int (-i)) 1])
  have nw3 : w3 ≠ a := Ne.symm (w.ne hw3)
  have ew3 : (upd G7 w3 (.lst [(fun i : Int => V.int (-i)) 1])) w3 = some (.lst [(fun i : Int => V.int (-i)) 1]) := upd_same
  have ea0 := t8 _ _ ea0
  have ew0 := t8 _ _ ew0
  have ea1 := t8 _ _ ea1
  have eb1 := t8 _ _ eb1
  have ec0 := t8 _ _ ec0
  have ew1 := t8 _ _ ew1
  have ew2 := t8 _ _ ew2
  have b := b.trans (.same t8)
  have w := w.same t8
  generalize upd G7 w3 (.lst [(fun i : Int => V.int (-i)) 1]) = G8 at t8 ew3 ea0 ew0 ea1 eb1 ec0 ew1 ew2 b w ⊢
  clear t8
  have ew3 : G8 w3 = some (.lst [V.int (-1)]) := ew3
  refine ⟨szl _ (by show 1 ≤ 1000; decide), fun w4 hw4 => ?_⟩
  have t9 := same_new hw4 (.lst [V.bl true])
  have nw4 : w4 ≠ a := Ne.symm (w.ne hw4)
  have ew4 : (upd G8 w4 (.lst [V.bl true])) w4 = some (.lst [V.bl true]) := upd_same
  have ea0 := t9 _ _ ea0
  have ew0 := t9 _ _ ew0
  have ea1 := t9 _ _ ea1
  have eb1 := t9 _ _ eb1
  have ec0 := t9 _ _ ec0
  have ew1 := t9 _ _ ew1
  have ew2 := t9 _ _ ew2
  have ew3 := t9 _ _ ew3
  have b := b.trans (.same t9)
  have w := w.same t9
  generalize upd G8 w4 (.lst [V.bl true]) = G9 at t9 ew4 ea0 ew0 ea1 eb1 ec0 ew1 ew2 ew3 b w ⊢
  clear t9
  refine ⟨szl _ (by show 1 ≤ 1000; decide), fun w5 hw5 => ?_⟩
  have t10 := same_new hw5 (.lst [V.non])
  have nw5 : w5 ≠ a := Ne.symm (w.ne hw5)
  have ew5 : (upd G9 w5 (.lst [V.non])) w5 = some (.lst [V.non]) := upd_same
  have ea0 := t10 _ _ ea0
  have ew0 := t10 _ _ ew0
  have ea1 := t10 _ _ ea1
  have eb1 := t10 _ _ eb1
  have ec0 := t10 _ _ ec0
  have ew1 := t10 _ _ ew1
  have ew2 := t10 _ _ ew2
  have ew3 := t10 _ _ ew3
  have ew4 := t10 _ _ ew4
  have b := b.trans (.same t10)
  have w := w.same t10
  generalize upd G9 w5 (.lst [V.non]) = G10 at t10 ew5 ea0 ew0 ea1 eb1 ec0 ew1 ew2 ew3 ew4 b w ⊢
  clear t10
  refine ⟨szl _ (by show 1 ≤ 1000; decide), fun w6 hw6 => ?_⟩
  have t11 := same_new hw6 (.lst [V.str "0"])
  have nw6 : w6 ≠ a := Ne.symm (w.ne hw6)
  have ew6 : (upd G10 w6 (.lst [V.str "0"])) w6 = some (.lst [V.str "0"]) := upd_same
  have ea0 := t11 _ _ ea0
  have ew0 := t11 _ _ ew0
  have ea1 := t11 _ _ ea1
  have eb1 := t11 _ _ eb1
  have ec0 := t11 _ _ ec0
  have ew1 := t11 _ _ ew1
  have ew2 := t11 _ _ ew2
  have ew3 := t11 _ _ ew3
  have ew4 := t11 _ _ ew4
  have ew5 := t11 _ _ ew5
  have b := b.trans (.same t11)
  have w := w.same t11
  generalize upd G10 w6 (.lst [V.str "0"]) = G11 at t11 ew6 ea0 ew0 ea1 eb1 ec0 ew1 ew2 ew3 ew4 ew5 b w ⊢
  clear t11
  refine ⟨szl _ (by show 2 ≤ 1000; decide), fun w8 hw8 => ?_⟩
  have t12 := same_new hw8 (.tup [V.int 0, V.int 1])
  have nw8 : w8 ≠ a := Ne.symm (w.ne hw8)
  have ew8 : (upd G11 w8 (.tup [V.int 0, V.int 1])) w8 = some (.tup [V.int 0, V.int 1]) := upd_same
  have ea0 := t12 _ _ ea0
  have ew0 := t12 _ _ ew0
  have ea1 := t12 _ _ ea1
  have eb1 := t12 _ _ eb1
  have ec0 := t12 _ _ ec0
  have ew1 := t12 _ _ ew1
  have ew2 := t12 _ _ ew2
  have ew3 := t12 _ _ ew3
  have ew4 := t12 _ _ ew4
  have ew5 := t12 _ _ ew5
  have ew6 := t12 _ _ ew6
  have b := b.trans (.same t12)
  have w := w.same t12
  generalize upd G11 w8 (.tup [V.int 0, V.int 1]) = G12 at t12 ew8 ea0 ew0 ea1 eb1 ec0 ew1 ew2 ew3 ew4 ew5 ew6 b w ⊢
  clear t12
  refine fun em hem => ?_
  have t13 := same_new hem (.dT [])
  have nem : em ≠ a := Ne.symm (w.ne hem)
  have eem : (upd G12 em (.dT [])) em = some (.dT []) := upd_same
  have ea0 := t13 _ _ ea0
  have ew0 := t13 _ _ ew0
  have ea1 := t13 _ _ ea1
  have eb1 := t13 _ _ eb1
  have ec0 := t13 _ _ ec0
  have ew1 := t13 _ _ ew1
  have ew2 := t13 _ _ ew2
  have ew3 := t13 _ _ ew3
  have ew4 := t13 _ _ ew4
  have ew5 := t13 _ _ ew5
  have ew6 := t13 _ _ ew6
  have ew8 := t13 _ _ ew8
  have b := b.trans (.same t13)
  have w := w.same t13
  generalize upd G12 em (.dT []) = G13 at t13 eem ea0 ew0 ea1 eb1 ec0 ew1 ew2 ew3 ew4 ew5 ew6 ew8 b w ⊢
  clear t13
  refine ⟨szl _ (by show 10 ≤ 1000; decide), fun m0 hm0 => ?_⟩
  have t14 := same_new hm0 (.lst [V.ref w0, V.ref w1, V.ref w2, V.ref w3, V.ref w4, V.ref w5, V.ref w6, V.non, V.ref w8, V.ref em])
  have nm0 : m0 ≠ a := Ne.symm (w.ne hm0)
  have em0 : (upd G13 m0 (.lst [V.ref w0, V.ref w1, V.ref w2, V.ref w3, V.ref w4, V.ref w5, V.ref w6, V.non, V.ref w8, V.ref em])) m0 = some (.lst [V.ref w0, V.ref w1, V.ref w2, V.ref w3, V.ref w4, V.ref w5, V.ref w6, V.non, V.ref w8, V.ref em]) := upd_same
  have ea0 := t14 _ _ ea0
  have ew0 := t14 _ _ ew0
  have ea1 := t14 _ _ ea1
  have eb1 := t14 _ _ eb1
  have ec0 := t14 _ _ ec0
  have ew1 := t14 _ _ ew1
  have ew2 := t14 _ _ ew2
  have ew3 := t14 _ _ ew3
  have ew4 := t14 _ _ ew4
  have ew5 := t14 _ _ ew5
  have ew6 := t14 _ _ ew6
  have ew8 := t14 _ _ ew8
  have eem := t14 _ _ eem
  have b := b.trans (.same t14)
  have w := w.same t14
  generalize upd G13 m0 (.lst [V.ref w0, V.ref w1, V.ref w2, V.ref w3, V.ref w4, V.ref w5, V.ref w6, V.non, V.ref w8, V.ref em]) = G14 at t14 em0 ea0 ew0 ea1 eb1 ec0 ew1 ew2 ew3 ew4 ew5 ew6 ew8 eem b w ⊢
  clear t14
  refine ⟨_, rfl, _, rfl, ?_⟩
  refine ⟨szl _ (by show 1 ≤ 1000; decide), fun i0 hi0 => ?_⟩
  have t15 := same_new hi0 (.lst [V.int 0])
  have ni0 : i0 ≠ a := Ne.symm (w.ne hi0)
  have ei0 : (upd G14 i0 (.lst [V.int 0])) i0 = some (.lst [V.int 0]) := upd_same
  have ea0 := t15 _ _ ea0
  have ew0 := t15 _ _ ew0
  have ea1 := t15 _ _ ea1
  have eb1 := t15 _ _ eb1
  have ec0 := t15 _ _ ec0
  have ew1 := t15 _ _ ew1
  have ew2 := t15 _ _ ew2
  have ew3 := t15 _ _ ew3
  have ew4 := t15 _ _ ew4
  have ew5 := t15 _ _ ew5
  have ew6 := t15 _ _ ew6
  have ew8 := t15 _ _ ew8
  have eem := t15 _ _ eem
  have em0 := t15 _ _ em0
  have b := b.trans (.same t15)
  have w := w.same t15
  generalize upd G14 i0 (.lst [V.int 0]) = G15 at t15 ei0 ea0 ew0 ea1 eb1 ec0 ew1 ew2 ew3 ew4 ew5 ew6 ew8 eem em0 b w ⊢
  clear t15
  refine ⟨szl _ (by show 1 ≤ 1000; decide), fun w11 hw11 => ?_⟩
  have t16 := same_new hw11 (.lst [V.ref i0])
  have nw11 : w11 ≠ a := Ne.symm (w.ne hw11)
  have ew11 : (upd G15 w11 (.lst [V.ref i0])) w11 = some (.lst [V.ref i0]) := upd_same
  have ea0 := t16 _ _ ea0
  have ew0 := t16 _ _ ew0
  have ea1 := t16 _ _ ea1
  have eb1 := t16 _ _ eb1
  have ec0 := t16 _ _ ec0
  have ew1 := t16 _ _ ew1
  have ew2 := t16 _ _ ew2
  have ew3 := t16 _ _ ew3
  have ew4 := t16 _ _ ew4
  have ew5 := t16 _ _ ew5
  have ew6 := t16 _ _ ew6
  have ew8 := t16 _ _ ew8
  have eem := t16 _ _ eem
  have em0 := t16 _ _ em0
  have ei0 := t16 _ _ ei0
  have b := b.trans (.same t16)
  have w := w.same t16
  generalize upd G15 w11 (.lst [V.ref i0]) = G16 at t16 ew11 ea0 ew0 ea1 eb1 ec0 ew1 ew2 ew3 ew4 ew5 ew6 ew8 eem em0 ei0 b w ⊢
  clear t16
  refine ⟨szl _ (by show 2 ≤ 1000; decide), fun a2 ha2 => ?_⟩
  have t17 := same_new ha2 (.lst [V.int 0, V.int 1])
  have na2 : a2 ≠ a := Ne.symm (w.ne ha2)
  have ea2 : (upd G16 a2 (.lst [V.int 0, V.int 1])) a2 = some (.lst [V.int 0, V.int 1]) := upd_same
  have ea0 := t17 _ _ ea0
  have ew0 := t17 _ _ ew0
  have ea1 := t17 _ _ ea1
  have eb1 := t17 _ _ eb1
  have ec0 := t17 _ _ ec0
  have ew1 := t17 _ _ ew1
  have ew2 := t17 _ _ ew2
  have ew3 := t17 _ _ ew3
  have ew4 := t17 _ _ ew4
  have ew5 := t17 _ _ ew5
  have ew6 := t17 _ _ ew6
  have ew8 := t17 _ _ ew8
  have eem := t17 _ _ eem
  have em0 := t17 _ _ em0
  have ei0 := t17 _ _ ei0
  have ew11 := t17 _ _ ew11
  have b := b.trans (.same t17)
  have w := w.same t17
  generalize upd G16 a2 (.lst [V.int 0, V.int 1]) = G17 at t17 ea2 ea0 ew0 ea1 eb1 ec0 ew1 ew2 ew3 ew4 ew5 ew6 ew8 eem em0 ei0 ew11 b w ⊢
  clear t17
  refine ⟨_, rfl, _, _, rfl, rfl, .inl ⟨by decide, by decide⟩, a2, _, _, rfl, rfl, ea2, by omega, by omega, ?_, fun b2 hb2 => ?_⟩
  · rw [e2]
    exact szl _ (by show 2 * _ ≤ 1000; omega)
  have eh : (List.replicate (2 * (r : Int)).toNat [V.int 0, V.int 1]).flatten = TB.hl ((List.replicate (2 * r) [0, 1]).flatten) := by
    rw [e2, show ([V.int 0, V.int 1] : List V) = TB.hl [0, 1] from rfl, rep_flat2]
  rw [eh]
  clear eh
  have t18 := same_new hb2 (.lst (TB.hl ((List.replicate (2 * r) [0, 1]).flatten)))
  have nb2 : b2 ≠ a := Ne.symm (w.ne hb2)
  have eb2 : (upd G17 b2 (.lst (TB.hl ((List.replicate (2 * r) [0, 1]).flatten)))) b2 = some (.lst (TB.hl ((List.replicate (2 * r) [0, 1]).flatten))) := upd_same
  have ea0 := t18 _ _ ea0
  have ew0 := t18 _ _ ew0
  have ea1 := t18 _ _ ea1
  have eb1 := t18 _ _ eb1
  have ec0 := t18 _ _ ec0
  have ew1 := t18 _ _ ew1
  have ew2 := t18 _ _ ew2
  have ew3 := t18 _ _ ew3
  have ew4 := t18 _ _ ew4
  have ew5 := t18 _ _ ew5
  have ew6 := t18 _ _ ew6
  have ew8 := t18 _ _ ew8
  have eem := t18 _ _ eem
  have em0 := t18 _ _ em0
  have ei0 := t18 _ _ ei0
  have ew11 := t18 _ _ ew11
  have ea2 := t18 _ _ ea2
  have b := b.trans (.same t18)
  have w := w.same t18
  generalize upd G17 b2 (.lst (TB.hl ((List.replicate (2 * r) [0, 1]).flatten))) = G18 at t18 eb2 ea0 ew0 ea1 eb1 ec0 ew1 ew2 ew3 ew4 ew5 ew6 ew8 eem em0 ei0 ew11 ea2 b w ⊢
  clear t18
  refine ⟨szl _ (by show 1 ≤ 1000; decide), fun c2 hc2 => ?_⟩
  have t19 := same_new hc2 (.lst [V.int 0])
  have nc2 : c2 ≠ a := Ne.symm (w.ne hc2)
  have ec2 : (upd G18 c2 (.lst [V.int 0])) c2 = some (.lst [V.int 0]) := upd_same
  have ea0 := t19 _ _ ea0
  have ew0 := t19 _ _ ew0
  have ea1 := t19 _ _ ea1
  have eb1 := t19 _ _ eb1
  have ec0 := t19 _ _ ec0
  have ew1 := t19 _ _ ew1
  have ew2 := t19 _ _ ew2
  have ew3 := t19 _ _ ew3
  have ew4 := t19 _ _ ew4
  have ew5 := t19 _ _ ew5
  have ew6 := t19 _ _ ew6
  have ew8 := t19 _ _ ew8
  have eem := t19 _ _ eem
  have em0 := t19 _ _ em0
  have ei0 := t19 _ _ ei0
  have ew11 := t19 _ _ ew11
  have ea2 := t19 _ _ ea2
  have eb2 := t19 _ _ eb2
  have b := b.trans (.same t19)
  have w := w.same t19
  generalize upd G18 c2 (.lst [V.int 0]) = G19 at t19 ec2 ea0 ew0 ea1 eb1 ec0 ew1 ew2 ew3 ew4 ew5 ew6 ew8 eem em0 ei0 ew11 ea2 eb2 b w ⊢
  clear t19
  refine ⟨b2, c2, _, _, rfl, rfl, eb2, ec2, ?_, fun w12 hw12 => ?_⟩
  · rw [hl_len, List.length_flatten, List.map_replicate, List.sum_replicate_nat]
    exact szl _ (by show 2 * r * 2 + 1 ≤ 1000; omega)
  have eh : TB.hl (List.replicate (2 * r) [0, 1]).flatten ++ [V.int 0] = TB.hl ((List.replicate (2 * r) [0, 1]).flatten ++ [0]) := by
    unfold TB.hl
    rw [List.map_append]
    rfl
  rw [eh]
  clear eh
  have t20 := same_new hw12 (.lst (TB.hl ((List.replicate (2 * r) [0, 1]).flatten ++ [0])))
  have nw12 : w12 ≠ a := Ne.symm (w.ne hw12)
  have ew12 : (upd G19 w12 (.lst (TB.hl ((List.replicate (2 * r) [0, 1]).flatten ++ [0])))) w12 = some (.lst (TB.hl ((List.replicate (2 * r) [0, 1]).flatten ++ [0]))) := upd_same
  have ea0 := t20 _ _ ea0
  have ew0 := t20 _ _ ew0
  have ea1 := t20 _ _ ea1
  have eb1 := t20 _ _ eb1
  have ec0 := t20 _ _ ec0
  have ew1 := t20 _ _ ew1
  have ew2 := t20 _ _ ew2
  have ew3 := t20 _ _ ew3
  have ew4 := t20 _ _ ew4
  have ew5 := t20 _ _ ew5
  have ew6 := t20 _ _ ew6
  have ew8 := t20 _ _ ew8
  have eem := t20 _ _ eem
  have em0 := t20 _ _ em0
  have ei0 := t20 _ _ ei0
  have ew11 := t20 _ _ ew11
  have ea2 := t20 _ _ ea2
  have eb2 := t20 _ _ eb2
  have ec2 := t20 _ _ ec2
  have b := b.trans (.same t20)
  have w := w.same t20
  generalize upd G19 w12 (.lst (TB.hl ((List.replicate (2 * r) [0, 1]).flatten ++ [0]))) = G20 at t20 ew12 ea0 ew0 ea1 eb1 ec0 ew1 ew2 ew3 ew4 ew5 ew6 ew8 eem em0 ei0 ew11 ea2 eb2 ec2 b w ⊢
  clear t20
  refine ⟨szl _ (by show 4 ≤ 1000; decide), fun m1 hm1 => ?_⟩
  have t21 := same_new hm1 (.lst [V.str "01", V.int 0, V.ref w11, V.ref w12])
  have nm1 : m1 ≠ a := Ne.symm (w.ne hm1)
  have em1 : (upd G20 m1 (.lst [V.str "01", V.int 0, V.ref w11, V.ref w12])) m1 = some (.lst [V.str "01", V.int 0, V.ref w11, V.ref w12]) := upd_same
  have ea0 := t21 _ _ ea0
  have ew0 := t21 _ _ ew0
  have ea1 := t21 _ _ ea1
  have eb1 := t21 _ _ eb1
  have ec0 := t21 _ _ ec0
  have ew1 := t21 _ _ ew1
  have ew2 := t21 _ _ ew2
  have ew3 := t21 _ _ ew3
  have ew4 := t21 _ _ ew4
  have ew5 := t21 _ _ ew5
  have ew6 := t21 _ _ ew6
  have ew8 := t21 _ _ ew8
  have eem := t21 _ _ eem
  have em0 := t21 _ _ em0
  have ei0 := t21 _ _ ei0
  have ew11 := t21 _ _ ew11
  have ea2 := t21 _ _ ea2
  have eb2 := t21 _ _ eb2
  have ec2 := t21 _ _ ec2
  have ew12 := t21 _ _ ew12
  have b := b.trans (.same t21)
  have w := w.same t21
  generalize upd G20 m1 (.lst [V.str "01", V.int 0, V.ref w11, V.ref w12]) = G21 at t21 em1 ea0 ew0 ea1 eb1 ec0 ew1 ew2 ew3 ew4 ew5 ew6 ew8 eem em0 ei0 ew11 ea2 eb2 ec2 ew12 b w ⊢
  clear t21
  refine ⟨m0, m1, _, _, rfl, rfl, em0, em1, szl _ (by show 14 ≤ 1000; decide), fun l hl => ?_⟩
  have t22 := same_new hl (.lst ([V.ref w0, V.ref w1, V.ref w2, V.ref w3, V.ref w4, V.ref w5, V.ref w6, V.non, V.ref w8, V.ref em] ++ [V.str "01", V.int 0, V.ref w11, V.ref w12]))
  have nl : l ≠ a := Ne.symm (w.ne hl)
  have el : (upd G21 l (.lst ([V.ref w0, V.ref w1, V.ref w2, V.ref w3, V.ref w4, V.ref w5, V.ref w6, V.non, V.ref w8, V.ref em] ++ [V.str "01", V.int 0, V.ref w11, V.ref w12]))) l = some (.lst ([V.ref w0, V.ref w1, V.ref w2, V.ref w3, V.ref w4, V.ref w5, V.ref w6, V.non, V.ref w8, V.ref em] ++ [V.str "01", V.int 0, V.ref w11, V.ref w12])) := upd_same
  have ea0 := t22 _ _ ea0
  have ew0 := t22 _ _ ew0
  have ea1 := t22 _ _ ea1
  have eb1 := t22 _ _ eb1
  have ec0 := t22 _ _ ec0
  have ew1 := t22 _ _ ew1
  have ew2 := t22 _ _ ew2
  have ew3 := t22 _ _ ew3
  have ew4 := t22 _ _ ew4
  have ew5 := t22 _ _ ew5
  have ew6 := t22 _ _ ew6
  have ew8 := t22 _ _ ew8
  have eem := t22 _ _ eem
  have em0 := t22 _ _ em0
  have ei0 := t22 _ _ ei0
  have ew11 := t22 _ _ ew11
  have ea2 := t22 _ _ ea2
  have eb2 := t22 _ _ eb2
  have ec2 := t22 _ _ ec2
  have ew12 := t22 _ _ ew12
  have em1 := t22 _ _ em1
  have b := b.trans (.same t22)
  have w := w.same t22
  generalize upd G21 l (.lst ([V.ref w0, V.ref w1, V.ref w2, V.ref w3, V.ref w4, V.ref w5, V.ref w6, V.non, V.ref w8, V.ref em] ++ [V.str "01", V.int 0, V.ref w11, V.ref w12])) = G22 at t22 el ea0 ew0 ea1 eb1 ec0 ew1 ew2 ew3 ew4 ew5 ew6 ew8 eem em0 ei0 ew11 ea2 eb2 ec2 ew12 em1 b w ⊢
  clear t22
  refine ⟨a, l, _, _, rfl, .inr w, by omega, by omega, el, nl, (by show 0 < 14; decide), (by show 14 < 1000; decide), fun j v H5 hj b5 w5' => ?_⟩
  have ea0 := b5 _ _ na0 ea0
  have ew0 := b5 _ _ nw0 ew0
  have ea1 := b5 _ _ na1 ea1
  have eb1 := b5 _ _ nb1 eb1
  have ec0 := b5 _ _ nc0 ec0
  have ew1 := b5 _ _ nw1 ew1
  have ew2 := b5 _ _ nw2 ew2
  have ew3 := b5 _ _ nw3 ew3
  have ew4 := b5 _ _ nw4 ew4
  have ew5 := b5 _ _ nw5 ew5
  have ew6 := b5 _ _ nw6 ew6
  have ew8 := b5 _ _ nw8 ew8
  have eem := b5 _ _ nem eem
  have em0 := b5 _ _ nm0 em0
  have ei0 := b5 _ _ ni0 ei0
  have ew11 := b5 _ _ nw11 ew11
  have ea2 := b5 _ _ na2 ea2
  have eb2 := b5 _ _ nb2 eb2
  have ec2 := b5 _ _ nc2 ec2
  have ew12 := b5 _ _ nw12 ew12
  have em1 := b5 _ _ nm1 em1
  have el := b5 _ _ nl el
  have b := b.trans b5
  have w := w5'
  have at9 : ∀ {b : Addr} {o : HO}, b ≠ a → H5 b = some o → vw (pA a) H5 b = some o := fun n e => vw_put (pA_ok.mpr n) e
  have fin : ∀ {v : V} {d : PyData}, d ∈ owL r → Dp K (vw (pA a) H5) v d → d.hasDict = false → Q v H5 := fun hd hv hh => by
    obtain ⟨o1, o2⟩ := owL_ok hr3 hd
    exact q _ _ b w ⟨⟨_, .dp hv, owL_len' hr3 hd, o1⟩, _, .even (.flat hv hh), o2⟩
  have hj14 : j < 14 := (List.getElem?_eq_some_iff.mp hj).1
  obtain rfl | rfl | rfl | rfl | rfl | rfl | rfl | rfl | rfl | rfl | rfl | rfl | rfl | rfl : j = 0 ∨ j = 1 ∨ j = 2 ∨ j = 3 ∨ j = 4 ∨ j = 5 ∨ j = 6 ∨ j = 7 ∨ j = 8 ∨ j = 9 ∨ j = 10 ∨ j = 11 ∨ j = 12 ∨ j = 13 := by omega
  · cases hj
    exact fin (List.mem_of_getElem? (i := 0) rfl) (.lst (SqL.of (at9 nw0 ew0)) (hl_dpA _)) (by rw [PyData.hasDict]; exact nd_ns _)
  · cases hj
    exact fin (List.mem_of_getElem? (i := 1) rfl) (.lst (SqL.of (at9 nw1 ew1)) (hl_dpA _)) (by rw [PyData.hasDict]; exact nd_ns _)
  · cases hj
    exact fin (List.mem_of_getElem? (i := 2) rfl) (.lst (SqL.of (at9 nw2 ew2)) (.cons (.int _) .nil)) rfl
  · cases hj
    exact fin (List.mem_of_getElem? (i := 3) rfl) (.lst (SqL.of (at9 nw3 ew3)) (.cons (.int _) .nil)) rfl
  · cases hj
    exact fin (List.mem_of_getElem? (i := 4) rfl) (.lst (SqL.of (at9 nw4 ew4)) (.cons (.bl _) .nil)) rfl
  · cases hj
    exact fin (List.mem_of_getElem? (i := 5) rfl) (.lst (SqL.of (at9 nw5 ew5)) (.cons (.non) .nil)) rfl
  · cases hj
    exact fin (List.mem_of_getElem? (i := 6) rfl) (.lst (SqL.of (at9 nw6 ew6)) (.cons (.str _) .nil)) rfl
  · cases hj
    exact fin (List.mem_of_getElem? (i := 7) rfl) (.non) rfl
  · cases hj
    exact fin (List.mem_of_getElem? (i := 8) rfl) ((.tup (SqT.of (at9 nw8 ew8)) (.cons (.int _) (.cons (.int _) .nil)))) rfl
  · cases hj
    obtain ⟨d, y, z⟩ := dic_sh0 (K := K) (at9 nem eem)
    exact q _ _ b w ⟨⟨.dict [], .dic (at9 nem eem), (fun ds e => by cases e), fun ⟨hs, e, _⟩ => by cases e⟩, d, .even y, z⟩
  · cases hj
    exact fin (List.mem_of_getElem? (i := 9) rfl) (.str _) rfl
  · cases hj
    exact fin (List.mem_of_getElem? (i := 10) rfl) (.int _) rfl
  · cases hj
    exact fin (List.mem_of_getElem? (i := 11) rfl) (.lst (SqL.of (at9 nw11 ew11)) (.cons (.lst (SqL.of (at9 ni0 ei0)) (.cons (.int _) .nil)) .nil)) rfl
  · cases hj
    exact fin (List.mem_of_getElem? (i := 12) rfl) (.lst (SqL.of (at9 nw12 ew12)) (hl_dpA _)) (by rw [PyData.hasDict]; exact nd_ns _)
end
end TA

set_option Elab.async false
set_option maxRecDepth 100000
set_option maxHeartbeats 4000000
namespace TA
open PySem PySem.Spec L2 PyProof.Rows
set_option linter.unusedVariables false
def bothD (bo : BD) : PyData := .dict (bo.map fun e => (pairD (iI e.1), letD e.2))
def walksD (wk : EB → List Int) (bo : BD) : PyData := .dict (bo.map fun e => (pairD (iI e.1), rowD (wk e)))
def schD (r : Nat) (ch : Nat → List Int) (wk : EB → List Int) (bo : BD) : PyData := .tuple [.int (r : Int), rowsD [ch 0, ch 1], walksD wk bo]
theorem nd_ints (l : List Int) : (rowD l).hasDict = false := by
  unfold rowD
  rw [PyData.hasDict]
  induction l with
  | nil => rw [List.map_nil, PyData.hasDictAll]
  | cons x l ih => rw [List.map_cons, PyData.hasDictAll, ih, PyData.hasDict]; rfl
theorem nd_map {α : Type} {f : α → PyData} (h : ∀ x, (f x).hasDict = false) (l : List α) : PyData.hasDictAll (l.map f) = false := by
  induction l with
  | nil => rw [List.map_nil, PyData.hasDictAll]
  | cons x l ih => rw [List.map_cons, PyData.hasDictAll, ih, h]; rfl
theorem nd_int (i : Int) : (PyData.int i).hasDict = false := by rw [PyData.hasDict]
theorem nd_rows (l : List (List Int)) : (rowsD l).hasDict = false := by
  unfold rowsD
  rw [PyData.hasDict]
  exact nd_map nd_ints l
theorem nd_al (al : Nat → List (List Int)) : (alD al).hasDict = false := by
  unfold alD
  rw [PyData.hasDict, PyData.hasDictAll, PyData.hasDictAll, PyData.hasDictAll, nd_rows, nd_rows]
  rfl
theorem nd_pair (p : Int × Int) : (pairD p).hasDict = false := by
  unfold pairD
  rw [PyData.hasDict, PyData.hasDictAll, PyData.hasDictAll, PyData.hasDictAll, nd_int, nd_int]
  rfl
theorem nd_let (l : List (Int × Int)) : (letD l).hasDict = false := by
  unfold letD
  rw [PyData.hasDict]
  exact nd_map nd_pair l
theorem both_dx {K : PySem.W.Frag} {H : Hp} {d : Addr} {kvs : List (List Key × V)} {bo : BD} (hd : H d = some (.dT kvs)) (a : A2 (EnAt H) kvs bo) : DX K H (.ref d) (bothD bo) := by
  have g : ∀ {kvs : List (List Key × V)} {bo : BD}, A2 (EnAt H) kvs bo → DXs K H (kvs.map (·.2)) (bo.map fun e => letD e.2) ∧ (bo.map fun e => pairD (iI e.1)) = kvs.map fun kv => keyD kv.1 := fun a => by
    induction a with
    | nil => exact ⟨.nil, rfl⟩
    | cons x _ ih => exact ⟨.cons (.flat x.2.dp (nd_let _)) ih.1, by rw [List.map_cons, List.map_cons, ih.2, x.1]; rfl⟩
  obtain ⟨g1, g2⟩ := g a
  refine .dic hd rfl g1 ?_ ?_
  · rw [List.map_map]
    exact g2
  · rw [List.map_map]
    rfl
theorem walks_dx {K : PySem.W.Frag} {H : Hp} {d : Addr} {kvs : List (List Key × V)} {bo : BD} {wk : EB → List Int} (hd : H d = some (.dT kvs)) (a : A2 (WkAt H wk) kvs bo) : DX K H (.ref d) (walksD wk bo) := by
  have g : ∀ {kvs : List (List Key × V)} {bo : BD}, A2 (WkAt H wk) kvs bo → DXs K H (kvs.map (·.2)) (bo.map fun e => rowD (wk e)) ∧ (bo.map fun e => pairD (iI e.1)) = kvs.map fun kv => keyD kv.1 := fun a => by
    induction a with
    | nil => exact ⟨.nil, rfl⟩
    | cons x _ ih => exact ⟨.cons (.flat x.2.dp (nd_ints _)) ih.1, by rw [List.map_cons, List.map_cons, ih.2, x.1]; rfl⟩
  obtain ⟨g1, g2⟩ := g a
  refine .dic hd rfl g1 ?_ ?_
  · rw [List.map_map]
    exact g2
  · rw [List.map_map]
    rfl
theorem sch_dx {K : PySem.W.Frag} {C : Addr} {H : Hp} {p t : Addr} {T : TD} {r ch wk al wd kvs} (B : PrF C H p t T r ch wk al wd kvs) : DX K H (.ref t) (schD r ch wk T.bo) :=
  .tup (SqT.of B.ht) (.cons (.flat (.int _) (nd_int _)) (.cons (.flat B.hal.dp (nd_rows _)) (.cons (walks_dx B.hwd B.hwk) .nil)))
/-! a list of ints is changed -/
theorem RowAt.rev {H : Hp} {a : Addr} {c c' : List Int} (ea : H a = some (.lst (c.map V.int))) (hl : c'.length = c.length) (hm : ∀ x ∈ c', x ∈ c) {v : V} {row : List Int} (h : RowAt H v row) : ∃ row', RowAt (upd H a (.lst (c'.map V.int))) v row' ∧ row'.length = row.length ∧ ∀ x ∈ row', x ∈ row := by
  obtain ⟨t, rfl, ht⟩ := h
  by_cases e : t = a
  · subst e
    rw [ea] at ht
    injection ht with ht
    injection ht with ht
    have : c = row := List.map_inj_right (fun x y h => by injection h) |>.mp ht
    subst this
    exact ⟨c', ⟨t, rfl, upd_same⟩, hl, hm⟩
  · exact ⟨row, ⟨t, rfl, by rw [upd_ne e]; exact ht⟩, rfl, fun x h => h⟩
theorem PrF.rev {C : Addr} {H : Hp} {p t : Addr} {T : TD} {r ch wk al wd kvs} (B : PrF C H p t T r ch wk al wd kvs) (W : WF T) {a : Addr} {c c' : List Int} (ea : H a = some (.lst (c.map V.int))) (hl : c'.length = c.length) (hm : ∀ x ∈ c', x ∈ c) (hx : TaskX C (upd H a (.lst (c'.map V.int))) p T wd) : ∃ ch' wk', PrF C (upd H a (.lst (c'.map V.int))) p t T r ch' wk' al wd kvs := by
  have nt : t ≠ a := ne_of B.ht ea (fun z => by cases z)
  have nw : wd ≠ a := ne_of B.hwd ea (fun z => by cases z)
  obtain ⟨tl, xs, e, htl, ar⟩ := B.hal
  injection e with e
  subst e
  obtain ⟨x0, x1, rfl, r0, r1⟩ : ∃ x0 x1, xs = [x0, x1] ∧ RowAt H x0 (ch 0) ∧ RowAt H x1 (ch 1) := by
    cases ar with
    | cons x y =>
      cases y with
      | cons y z =>
        cases z
        exact ⟨_, _, rfl, x, y⟩
  have na : al ≠ a := fun q => by
    subst q
    rw [htl] at ea
    injection ea with ea
    injection ea with ea
    obtain ⟨t0, rfl, _⟩ := r0
    cases c with
    | nil => cases ea
    | cons => injection ea with ea; cases ea
  obtain ⟨c0, a0, l0, m0⟩ := r0.rev ea hl hm
  obtain ⟨c1, a1, l1, m1⟩ := r1.rev ea hl hm
  have walks : ∀ {ks : List (List Key × V)} {bo : BD}, A2 (WkAt H wk) ks bo → ∃ ps : List (EB × List Int), A2 (fun kv (p : EB × List Int) => kv.1 = kI p.1.1 ∧ RowAt (upd H a (.lst (c'.map V.int))) kv.2 p.2) ks ps ∧ ps.map (·.1) = bo ∧ ∀ p ∈ ps, p.2.length = (wk p.1).length ∧ ∀ x ∈ p.2, x ∈ wk p.1 := fun g => by
    induction g with
    | nil => exact ⟨[], .nil, rfl, fun p h => nomatch h⟩
    | @cons kv e ks bo x _ ih =>
      obtain ⟨ps, h1, h2, h3⟩ := ih
      obtain ⟨w', b1, b2, b3⟩ := x.2.rev ea hl hm
      refine ⟨(e, w') :: ps, .cons ⟨x.1, b1⟩ h1, by rw [List.map_cons, h2], fun p hp => ?_⟩
      rcases List.mem_cons.mp hp with rfl | hp
      · exact ⟨b2, b3⟩
      · exact h3 p hp
  obtain ⟨ps, h1, h2, h3⟩ := walks B.hwk
  have nd : (ps.map (·.1)).Nodup := by
    rw [h2]
    exact List.Pairwise.of_map (·.1) (fun x y h c => h (by rw [c])) W.srt
  obtain ⟨wk', hw'⟩ := wk_of ps nd
  have mem : ∀ e ∈ T.bo, ∃ p ∈ ps, p.1 = e := fun e he => by
    rw [← h2] at he
    exact List.mem_map.mp he
  refine ⟨fun h => if h = 0 then c0 else c1, wk', by rw [upd_ne nt]; exact B.ht, ⟨al, [x0, x1], rfl, by rw [upd_ne na]; exact htl, .cons a0 (.cons a1 .nil)⟩, by rw [upd_ne nw]; exact B.hwd, ?_, hx, B.rr, fun h hh => ?_, fun h hh x m => ?_, fun e he => ?_, fun e he x m => ?_⟩
  · have := h1.mapR (S := WkAt (upd H a (.lst (c'.map V.int))) wk') (·.1) fun x y m g => ⟨g.1, by rw [hw' y m]; exact g.2⟩
    rw [h2] at this
    exact this
  · obtain rfl | rfl : h = 0 ∨ h = 1 := by omega
    · show c0.length = _
      rw [l0]; exact B.len 0 (by decide)
    · show c1.length = _
      rw [l1]; exact B.len 1 (by decide)
  · obtain rfl | rfl : h = 0 ∨ h = 1 := by omega
    · exact B.outc 0 (by decide) x (m0 x m)
    · exact B.outc 1 (by decide) x (m1 x m)
  · obtain ⟨p, hp, rfl⟩ := mem e he
    rw [hw' p hp, (h3 p hp).1]
    exact B.wlen _ he
  · obtain ⟨p, hp, rfl⟩ := mem e he
    rw [hw' p hp] at m
    exact B.wout _ he x ((h3 p hp).2 x m)
/-! the task, whose lists stand where p is -/
def TaskW (C : Addr) (p : Addr → Bool) (H : Hp) (x d : Addr) (T : TD) : Prop := ∃ dx aa kvs, H x = some (.ins C dx (flds aa d)) ∧ AlAt (vw p H) (.ref aa) T.al ∧ H d = some (.dT kvs) ∧ A2 (En2 (vw p H) H) kvs T.bo
theorem TaskW.task {C : Addr} {p : Addr → Bool} {H : Hp} {x d : Addr} {T : TD} (h : TaskW C p H x d T) : TaskAt C H x T := by
  obtain ⟨dx, aa, kvs, h1, h2, h3, h4⟩ := h
  exact ⟨dx, aa, d, h1, h2.mono vw_kp, kvs, h3, h4.imp fun _ _ r => r.en vw_kp⟩
theorem TaskW.x {C : Addr} {p : Addr → Bool} {H : Hp} {x d d0 : Addr} {T : TD} (h : TaskW C p H x d T) (n : d ≠ d0) : TaskX C H x T d0 := by
  obtain ⟨dx, aa, kvs, h1, h2, h3, h4⟩ := h
  exact ⟨dx, aa, d, h1, h2.mono vw_kp, ⟨kvs, .inl h3, h4.imp fun _ _ r => r.en vw_kp⟩, n⟩
theorem TaskW.but {C : Addr} {p : Addr → Bool} {H H' : Hp} {x d a : Addr} {T : TD} {zs : List V} (h : TaskW C p H x d T) (ea : H a = some (.lst zs)) (pa : p a = false) (s : But a H H') : TaskW C p H' x d T := by
  obtain ⟨dx, aa, kvs, h1, h2, h3, h4⟩ := h
  have kp : Kp (vw p H) (vw p H') := vw_mono fun b o hb f e => ⟨hb, s b o (fun c => by subst c; rw [pa] at hb; cases hb) e⟩
  refine ⟨dx, aa, kvs, s _ _ (ne_of h1 ea (fun z => by cases z)) h1, h2.mono kp, s _ _ (ne_of h3 ea (fun z => by cases z)) h3, h4.imp fun u y r => ?_⟩
  obtain ⟨e, t, xs, e2, ht, az⟩ := r
  exact ⟨e, t, xs, e2, kp.lst ht, az.imp fun v q z => z.but ea s⟩
theorem NewAt.w {C : Addr} {Hx H' : Hp} {x : Addr} {T : TD} (h : NewAt C Hx H' x T) (p : Addr → Bool) (hp : ∀ b, Hx b = none → H' b ≠ none → p b = true) : ∃ d, Hx d = none ∧ TaskW C p H' x d T := by
  obtain ⟨dx, aa, d, kvs, h1, h2, hd, h3, h4⟩ := h
  have kp : Kp (nwx Hx x H') (vw p H') := fun b o f e => by
    obtain ⟨e1, e2, e3⟩ := nwx_some e
    exact vw_put (hp b e1 (by rw [e3]; exact fun c => by cases c)) e3
  exact ⟨d, hd, dx, aa, kvs, h1, h2.mono kp, h3, h4.imp fun _ _ r => r.mono kp (Kp.refl _)⟩

theorem TaskW.v {C : Addr} {p : Addr → Bool} {H : Hp} {x d a : Addr} {T : TD} {zs : List V} (h : TaskW C p H x d T) (pa : p a = false) (ea : H a = some (.lst zs)) : TaskV C a H x d T := by
  obtain ⟨dx, aa, kvs, h1, h2, h3, h4⟩ := h
  have kp : Kp (vw p H) (vw (pA a) H) := vw_mono fun b o hb _ e => ⟨pA_ok.mpr (fun c => by subst c; rw [pa] at hb; cases hb), e⟩
  refine ⟨dx, aa, kvs, h1, h2.mono kp, h3, h4.imp fun u y r => ?_⟩
  obtain ⟨e, t, xs, e2, ht, az⟩ := r
  refine ⟨e, t, xs, e2, kp.lst ht, az.imp fun v q z => ?_⟩
  obtain ⟨t2, e3, ht2⟩ := z
  exact ⟨t2, e3, vw_put (pA_ok.mpr (ne_of ht2 ea (fun z => by cases z))) ht2⟩
/-- the parts of a task, whose lists stand where q is -/
def PartsW (q : Addr → Bool) (H : Hp) (al d : Addr) (T : TD) (kvs : List (List Key × V)) : Prop := AlAt (vw q H) (.ref al) T.al ∧ H d = some (.dT kvs) ∧ A2 (EnAt (vw q H)) kvs T.bo
theorem PartsW.but {q : Addr → Bool} {H H' : Hp} {al d a : Addr} {T : TD} {kvs : List (List Key × V)} {zs : List V} (h : PartsW q H al d T kvs) (ea : H a = some (.lst zs)) (qa : q a = false) (s : But a H H') : PartsW q H' al d T kvs := by
  obtain ⟨h1, h2, h3⟩ := h
  have kp : Kp (vw q H) (vw q H') := vw_mono fun b o hb f e => ⟨hb, s b o (fun c => by subst c; rw [qa] at hb; cases hb) e⟩
  exact ⟨h1.mono kp, s _ _ (ne_of h2 ea (fun z => by cases z)) h2, h3.imp fun _ _ r => r.mono kp⟩
theorem PartsW.al {q : Addr → Bool} {H : Hp} {al d : Addr} {T : TD} {kvs : List (List Key × V)} (h : PartsW q H al d T kvs) : AlAt H (.ref al) T.al := h.1.mono vw_kp
theorem PartsW.en {q : Addr → Bool} {H : Hp} {al d : Addr} {T : TD} {kvs : List (List Key × V)} (h : PartsW q H al d T kvs) : A2 (EnAt H) kvs T.bo := h.2.2.imp fun _ _ r => r.mono vw_kp
theorem PartsV.w {st : Addr} {H : Hp} {al d : Addr} {T : TD} (h : PartsV st H al d T) : ∃ kvs, PartsW (fun b => decide (b ≠ st) && (H b).isSome) H al d T kvs := by
  obtain ⟨h1, kvs, h2, h3⟩ := h
  have kp : Kp (vw (pA st) H) (vw (fun b => decide (b ≠ st) && (H b).isSome) H) := vw_mono fun b o hb _ e => ⟨by
    show (decide (b ≠ st) && (H b).isSome) = true
    rw [decide_eq_true (pA_ok.mp hb), e]
    rfl, e⟩
  exact ⟨kvs, h1.mono kp, h2, h3.imp fun _ _ r => r.mono kp⟩
/-! how much is shown -/
theorem tn_row {row : List Int} {m : Nat} (h : ∀ x ∈ row, okOut x) (hm : row.length ≤ m) : Tn (rowD row) (7 * m) 2 := tn_list (w := 6) (n := 1) (fun d hd => by
  obtain ⟨x, hx, rfl⟩ := List.mem_map.mp hd
  exact tn_int (h x hx)) (by rw [List.length_map]; exact hm)
theorem tn_pair {p : Int × Int} (h1 : okOut p.1) (h2 : okOut p.2) : Tn (pairD p) 14 2 := tn_tuple (w := 6) (n := 1) (m := 2) (fun d hd => by
  rcases List.mem_cons.mp hd with rfl | hd
  · exact tn_int h1
  · obtain rfl := List.mem_singleton.mp hd
    exact tn_int h2) (Nat.le_refl _)
theorem tn_key {T : TD} (W : WF T) {e : EB} (he : e ∈ T.bo) : Tn (pairD (iI e.1)) 14 2 := by
  have rg := W.rng e he
  have n0 := (W.n0 0 (by decide)).2
  have n1 := (W.n0 1 (by decide)).2
  exact tn_pair (by show (0 : Int) ≤ (e.1.1 : Int) ∧ (e.1.1 : Int) ≤ 63; omega) (by show (0 : Int) ≤ (e.1.2 : Int) ∧ (e.1.2 : Int) ≤ 63; omega)
theorem tn_al {T : TD} (W : WF T) : Tn (alD T.al) 20000 4 := by
  have rows : ∀ h, h < 2 → Tn (rowsD (T.al h)) ((420 + 1) * 20) 3 := fun h hh => tn_list (w := 420) (n := 2) (fun d hd => by
    obtain ⟨r, hr, rfl⟩ := List.mem_map.mp hd
    have ok := W.row h hh r hr
    exact tn_row (m := 60) ok.2.2.2 ok.2.1) (by rw [List.length_map]; exact (W.n0 h hh).2)
  refine (tn_list (w := (420 + 1) * 20) (n := 3) (m := 2) (fun d hd => ?_) (Nat.le_refl _)).up (by decide) (by decide)
  rcases List.mem_cons.mp hd with rfl | hd
  · exact rows 0 (by decide)
  · obtain rfl := List.mem_singleton.mp hd
    exact rows 1 (by decide)
theorem tn_both {T : TD} (W : WF T) : Tn (bothD T.bo) 60000 4 := by
  refine (tn_dict (a := 14) (b := 900) (n := 3) (m := 60) (fun e he => ?_) (by rw [List.length_map]; exact W.many)).up (by decide) (by decide)
  obtain ⟨e, hb, rfl⟩ := List.mem_map.mp he
  have ok := W.lets e hb
  refine ⟨(tn_key W hb).up (by decide) (by decide), tn_list (w := 14) (m := 60) (n := 2) (fun d hd => ?_) (by rw [List.length_map]; exact ok.2.1)⟩
  obtain ⟨p, hp, rfl⟩ := List.mem_map.mp hd
  exact tn_pair (ok.2.2.2 p hp).1 (ok.2.2.2 p hp).2
theorem tn_sch {C : Addr} {H : Hp} {p t : Addr} {T : TD} {r ch wk al wd kvs} (W : WF T) (h4 : ∀ h, h < 2 → (T.al h).length ≤ 4) (B : PrF C H p t T r ch wk al wd kvs) : Tn (schD r ch wk T.bo) 130000 5 := by
  have p3 := pow_le B.rr
  have rr := B.rr
  have b16 := bo_16 W h4
  have hr : Tn (.int (r : Int)) 40000 4 := (tn_int (i := (r : Int)) ⟨by omega, by omega⟩).up (by decide) (by decide)
  have hc : Tn (rowsD [ch 0, ch 1]) 40000 4 := by
    have row : ∀ h, h < 2 → Tn (rowD (ch h)) (7 * 20) 2 := fun h hh => tn_row (B.outc h hh) (by rw [B.len h hh]; exact (W.n0 h hh).2)
    refine (tn_list (w := 7 * 20) (m := 2) (n := 2) (fun d hd => ?_) (Nat.le_refl _)).up (by decide) (by decide)
    rcases List.mem_cons.mp hd with rfl | hd
    · exact row 0 (by decide)
    · obtain rfl := List.mem_singleton.mp hd
      exact row 1 (by decide)
  have hw : Tn (walksD wk T.bo) 40000 4 := by
    refine (tn_dict (a := 14) (b := 7 * 244) (n := 2) (m := 16) (fun e he => ?_) (by rw [List.length_map]; exact b16)).up (by decide) (by decide)
    obtain ⟨e, hb, rfl⟩ := List.mem_map.mp he
    exact ⟨tn_key W hb, tn_row (B.wout e hb) (by rw [B.wlen e hb]; omega)⟩
  refine (tn_tuple (w := 40000) (m := 3) (n := 4) (fun d hd => ?_) (Nat.le_refl _)).up (by decide) (by decide)
  rcases List.mem_cons.mp hd with rfl | hd
  · exact hr
  rcases List.mem_cons.mp hd with rfl | hd
  · exact hc
  · obtain rfl := List.mem_singleton.mp hd
    exact hw
theorem tn_hl {r : Nat} {hs : List Nat} (h : okHs r hs) : Tn (.list (hs.map fun h : Nat => PyData.int (h : Int))) 1000 3 := by
  refine (tn_list (w := 6) (m := 40) (n := 1) (fun d hd => ?_) (by rw [List.length_map]; exact h.2.2)).up (by decide) (by decide)
  obtain ⟨x, hx, rfl⟩ := List.mem_map.mp hd
  have := h.1 x hx
  exact tn_int ⟨by omega, by omega⟩
theorem kept_ok {d1 d2 d3 d4 d5 : PyData} (t1 : Tn d1 20000 4) (t2 : Tn d2 60000 4) (t3 : Tn d3 130000 9) (t4 : Tn d4 300 3) (t5 : Tn d5 1000 3) : (PyData.tuple [d1, d2, d3, d4, d5]).showable = true ∧ (PyData.tuple [d1, d2, d3, d4, d5]).depth ≤ 40 ∧ (PyData.tuple [d1, d2, d3, d4, d5]).shown.length ≤ sizeLine := by
  obtain ⟨p, q, u, v⟩ := tn_sum (n := 9) (ds := [d1, d2, d3, d4, d5]) (ws := [20000, 60000, 130000, 300, 1000]) (.cons (t1.up (by decide) (by decide)) (.cons (t2.up (by decide) (by decide)) (.cons t3 (.cons (t4.up (by decide) (by decide)) (.cons (t5.up (by decide) (by decide)) .nil)))))
  have t : Tn (.tuple [d1, d2, d3, d4, d5]) 220000 10 := ⟨by rw [PyData.showable]; exact p, by rw [PyData.leavesShort]; exact q, by rw [PyData.weight]; exact Nat.le_trans u (by decide), by rw [PyData.depth]; omega⟩
  exact ⟨t.s, Nat.le_trans t.d (by decide), tn_shown t (by decide)⟩
theorem zip_turns {K : PySem.W.Frag} {a b : Addr} {xs ys : List V} {H0 : Hp} {Qd : Hp → Prop} {B : (Hp → Prop) → V → Hp → Prop} (hl : xs.length = ys.length) (Pv : Nat → Hp → Prop) (start : Pv 0 H0) (still : ∀ i H, Pv i H → SqL K H a xs ∧ SqL K H b ys)
    (turn : ∀ i x y T H, xs[i]? = some x → ys[i]? = some y → H T = none → Pv i H → B (Pv (i + 1)) (.ref T) (upd H T (.tup [x, y]))) (last : ∀ H, Pv xs.length H → Qd H) :
    ∃ W : Nat → Nat → Hp → Prop, (∃ m, W 0 m H0) ∧ ∀ i m H, W i m H →
      ((Itz K a b).stop i H ∧ Qd H) ∨ ((Itz K a b).go i H ∧ ∃ Nx : Hp → Prop, (∀ H', Nx H' → ∃ m', m' < m ∧ W (i + 1) m' H') ∧ ∀ x H', (Itz K a b).yld i H x H' → B Nx x H') :=
  turns (J := Itz K a b) xs.length Pv start (fun H h => ⟨⟨xs, ys, (still _ _ h).1, (still _ _ h).2, .inl (Nat.le_refl _)⟩, last H h⟩) fun i H hi h => by
    obtain ⟨qx, qy⟩ := still _ _ h
    have hx : xs[i]? = some xs[i] := List.getElem?_eq_getElem hi
    have hi2 : i < ys.length := by omega
    have hy : ys[i]? = some ys[i] := List.getElem?_eq_getElem hi2
    refine ⟨⟨xs, ys, _, _, qx, qy, hx, hy⟩, fun v H' y => ?_⟩
    obtain ⟨T, x', y', rfl, hT, rfl, f1, f2⟩ := y
    exact turn i x' y' T H (f1 xs qx) (f2 ys qy) hT h
/-! repr of data without a dict -/
mutual
theorem dp_noDict {K : PySem.W.Frag} {H : Hp} : ∀ (d : PyData) (v : V), Dp K H v d → d.hasDict = false
  | .none, _, _ => rfl
  | .bool _, _, _ => rfl
  | .int _, _, _ => rfl
  | .str _, _, _ => rfl
  | .list ds, _, h => by
    cases h with
    | lst _ b => exact dpAll_noDict ds _ b
  | .tuple ds, _, h => by
    cases h with
    | tup _ b => exact dpAll_noDict ds _ b
  | .dict _, _, h => by cases h
theorem dpAll_noDict {K : PySem.W.Frag} {H : Hp} : ∀ (ds : List PyData) (vs : List V), DpAll K H vs ds → PyData.hasDictAll ds = false
  | [], _, _ => rfl
  | d :: ds, _, h => by
    cases h with
    | cons a b =>
      show (d.hasDict || PyData.hasDictAll ds) = false
      rw [dp_noDict d _ a, dpAll_noDict ds _ b]
      rfl
end
def rReprD (K : PySem.W.Frag) : List V → Hp → VK → Prop := fun xs H Q => ∃ (x : V) (d : PyData), xs = [x] ∧ Dp K H x d ∧ d.showable = true ∧ d.depth ≤ 40 ∧ d.shown.length ≤ sizeLine ∧ Q (.str d.shown) H
theorem call_reprD {X : Cx} (hg : X.A.guards = some []) (hu : X.A.units + 64 < cLine) : CallR X (.builtin "repr") (rReprD X.K) := by
  intro pins s σ H xs us Q I r h
  obtain ⟨x, d, rfl, hx, h1, h2, h3, q⟩ := h
  cases r with
  | @cons _ u _ ur ru rn =>
    cases rn
    cases hx with
    | non =>
      obtain rfl : u = Value.none := ru
      exact PySem.P.repr_of_none ⟨.str _, H, I.tok _, ⟨_, rfl⟩, q⟩
    | bl b =>
      obtain rfl : u = Value.bool b := ru
      exact PySem.P.repr_of_bool ⟨.str _, H, I.tok _, ⟨_, rfl⟩, q⟩
    | int i =>
      obtain ⟨t, rfl⟩ : ∃ t, u = Value.int i t := ru
      exact PySem.P.repr_of_int (of_decide_eq_true h1) ⟨.str _, H, I.tok _, ⟨_, rfl⟩, q⟩
    | str x =>
      obtain ⟨t, rfl⟩ : ∃ t, u = Value.str x t := ru
      exact PySem.P.repr_of_str ⟨.str _, H, I.tok _, ⟨_, rfl⟩, q⟩ h3
    | lst h4 h5 =>
      obtain rfl : u = Value.ref _ := ru
      have hx : Dp X.K H _ _ := .lst h4 h5
      obtain ⟨as, ra⟩ := Dp.reads I _ _ _ hx rfl
      exact PySem.repr_of_reads' ra h1 (fun hd => by rw [dp_noDict _ _ hx] at hd; cases hd) hg (by omega) (fun _ _ z => z) (fun h' u tk hk => ⟨.str _, H, I.kept (t' := tk) hk, ⟨_, rfl⟩, q⟩) h3
    | tup h4 h5 =>
      obtain rfl : u = Value.ref _ := ru
      have hx : Dp X.K H _ _ := .tup h4 h5
      obtain ⟨as, ra⟩ := Dp.reads I _ _ _ hx rfl
      exact PySem.repr_of_reads' ra h1 (fun hd => by rw [dp_noDict _ _ hx] at hd; cases hd) hg (by omega) (fun _ _ z => z) (fun h' u tk hk => ⟨.str _, H, I.kept (t' := tk) hk, ⟨_, rfl⟩, q⟩) h3
theorem valV_mem {kvs : List (List Key × V)} {k : List Key} {v : V} (h : valV kvs k = some v) : ∃ kv ∈ kvs, kv.2 = v := by
  unfold valV at h
  obtain ⟨kv, h1, h2⟩ := Option.map_eq_some_iff.mp h
  exact ⟨kv, List.mem_of_find?_eq_some h1, h2⟩
theorem dy_idx {K : PySem.W.Frag} {H : Hp} {xs : List V} {ds : List PyData} (h : A2 (DY K H) xs ds) : ∀ (i : Nat) (x : V) (d : PyData), xs[i]? = some x → ds[i]? = some d → DY K H x d := fun i x d hx hd => by
  obtain ⟨d', h1, h2⟩ := h.get hx
  rw [hd] at h1
  cases h1
  exact h2
end TA

set_option Elab.async false
set_option maxRecDepth 100000
set_option maxHeartbeats 4000000
namespace TA
open PySem PySem.Spec L2 PyProof.Rows
set_option linter.unusedVariables false
def spLaw (K : PySem.W.Frag) : Sp := fun vs H Q _ => ∃ (a : Addr) (ns : List Int), vs = [.ref a] ∧ SqL K H a (ns.map V.int) ∧ ns.length ≤ 63 ∧ ∀ H', Q (.bl true) H'
def dueW (b0 b1 b2 : Bool) : Str := if b0 = true then "protocol" else if b1 = true then "inputs" else if b2 = true then "weaving" else "told"
def preW (b0 b1 b2 : Bool) : Nat → List V
  | 0 => []
  | 1 => if b0 = true then [.str "protocol"] else []
  | 2 => (if b0 = true then [.str "protocol"] else []) ++ if b1 = true then [.str "inputs"] else []
  | _ => (if b0 = true then [.str "protocol"] else []) ++ (if b1 = true then [.str "inputs"] else []) ++ if b2 = true then [.str "weaving"] else []
theorem pre_len (b0 b1 b2 : Bool) (i : Nat) : (preW b0 b1 b2 i).length ≤ 3 := by
  rcases i with _ | _ | _ | i <;> cases b0 <;> cases b1 <;> cases b2 <;> first | decide | exact (by simp [preW])
theorem due_at (b0 b1 b2 : Bool) : (preW b0 b1 b2 3 ++ [.str "told"])[0]? = some (.str (dueW b0 b1 b2)) := by
  cases b0 <;> cases b1 <;> cases b2 <;> rfl
section
variable {P : Program} {w : World} {K : PySem.W.Frag} {mg : Str → Option Value} {base : Heap}
abbrev nLaw : List Str := ["_law_script", "_law_cell", "_law_state", "_law_turn", "_law_bad", "_law_alone", "_law_both", "_law_rounds", "_law_scheme_here", "_law_pairs", "_law_pair", "_law_weaving_here", "_law_task", "_law_due", "_law_kept", "_law_word", "_law_odd_here"]
theorem sc_law : FnScope nLaw ["_law_script"] (defScope sLaw) := ⟨rfl, rfl, rfl, by decide +kernel, rfl, by decide +kernel, by decide +kernel⟩
theorem ok_law {f g1 g2 g3 g4 g5 g6 g7 g8 g9 g10 g11 C : Addr} {fd d1 d2 d3 d4 d5 d6 d7 d8 d9 d10 d11 : FuncData} (F : Fun K "law" "law" sLaw f fd) (T : Txt K mg) (T2 : Txt2 K mg) (Z : TxtC K mg C) (RP : mg "repr" = none) (Ca : Def P w K mg base "_law_cell_at" ["_law_script", "_law_k"] 1 (spCell K) g1 d1)
    (Pa : Def P w K mg base "_law_parts" ["_law_state", "_law_most"] 4 spParts g2 d2) (Of : Def P w K mg base "_law_of" nOf 2 (spOf K) g3 d3) (Sc : Def P w K mg base "_law_scheme" ["_law_state", "_law_alone", "_law_both", "_law_rounds"] 4 spScheme g4 d4) (Dg : Def P w K mg base "_law_digit" ["_law_state", "_law_base"] 1 spDigit g5 d5)
    (Tk : KDef P w K mg base C "Task" ["self", "alone", "both"] 7 (spInit K C) g6 d6) (LW : Def P w K mg base "_law_weaving" ["_law_state", "_law_rounds"] 2 spLWv g7 d7) (Od : Def P w K mg base "_law_odd" ["_law_state", "_law_scheme_here", "_law_pairs"] 4 (spOdd K C) g8 d8)
    (OP : Def P w K mg base "_law_odd_pair" ["_law_state", "_law_pair"] 3 (spOP K) g9 d9) (OWv_ : Def P w K mg base "_law_odd_weaving" ["_law_state", "_law_rounds"] 3 (spOW2 K) g10 d10) (Rf : Def P w K mg base "_law_refused" ["_law_task", "_law_scheme_here", "_law_pair", "_law_weaving_here"] 12 (spRefused K C) g11 d11) : Quiet P w K mg base 14 f fd ["_law_script"] (spLaw K) := by
  refine quiet_of F sc_law (fun vs H Q E h => ?_) (fun cdv A outer s H vs Q E hgu hr h => ?_)
  · obtain ⟨a, ns, rfl, _⟩ := h
    rfl
  obtain ⟨a, ns, rfl, hS, h63, q⟩ := h
  have nd := sc_law.nd
  have hu := hu_of hr
  have hu65 := hu65_of hr
  refine ⟨_, (pss_cons (ps_for PassesOwn.never (by rfl) (pi_list (pe_op op_cat (pe_lst (pa_cons (pe_call Ca.G (hr.mono (by decide)) rfl Ca.m Ca.k Ca.b .nil pass0 (pa_cons (pv 0) (pa_cons pe_int pa_nil))) pa_nil)) (pe_slice sl_list (pv 0) (po_some pe_int) (po_some pe_int)))) (pg_name (i := 1) nd rfl (Or.inl rfl))
      (pss_cons (ps_set (i := 2) nd rfl (Or.inr rfl) (pe_lst (pa_cons (pv 1) pa_nil)))
    (pss_cons (ps_setLc (i := 4) (own := [("_law_turn", 3)]) (g := (gName 3)) (tt := tYes) (te := (tOp rEq (tCall spDigit [] E0 (tCons (tVar 2) (tCons (tC (.int 3)) tNil))) (tC (.int 0)))) rfl nd rfl rfl (sw_true rfl rfl rfl (by decide +kernel)) (pi_range1 (by rfl) T.range (pa_cons pe_int pa_nil)) (blkOk_by (N := nLaw) (sc := defScope sLaw) (by decide +kernel)) (fun _ _ _ _ _ => (by exact (pg_name (i := 3) nd rfl (Or.inl rfl)))) (fun _ _ _ _ _ => pts_nil) (fun _ _ _ _ _ => (by exact (pe_cmpR op_eq (pe_call Dg.G (hr.mono (by decide)) rfl Dg.m Dg.k Dg.b .nil pass0 (pa_cons (pv 2) (pa_cons pe_int pa_nil))) pe_int (nomark _)))))
    (pss_cons (ps_asg (pe_call Pa.G (hr.mono (by decide)) rfl Pa.m Pa.k Pa.b .nil pass0 (pa_cons (pv 2) (pa_cons pe_int pa_nil))) (pg_tup (by rfl) (pgs_cons (pg_name (i := 5) nd rfl (Or.inl rfl)) (pgs_cons (pg_name (i := 6) nd rfl (Or.inl rfl)) pgs_nil))))
    (pss_cons (ps_set (i := 7) nd rfl (Or.inl rfl) (pe_call Dg.G (hr.mono (by decide)) rfl Dg.m Dg.k Dg.b .nil pass0 (pa_cons (pv 2) (pa_cons pe_int pa_nil))))
    (pss_cons (ps_set (i := 8) nd rfl (Or.inl rfl) (pe_call Sc.G (hr.mono (by decide)) rfl Sc.m Sc.k Sc.b .nil pass0 (pa_cons (pv 2) (pa_cons (pv 5) (pa_cons (pv 6) (pa_cons (pv 7) pa_nil))))))
    (pss_cons (ps_set (i := 9) nd rfl (Or.inl rfl) (pe_callB (cr_sortT (d := 2) (B := 64) (by decide)) (by rfl) T2.sorted (by decide +kernel) (pa_cons (pe_callTy (call_list_dT rfl) (by rfl) T.list boot_list (pa_cons (pv 6) pa_nil)) pa_nil)))
    (pss_cons (ps_set (i := 10) nd rfl (Or.inl rfl) (pe_call Of.G (hr.mono (by decide)) rfl Of.m Of.k Of.b .nil pass0 (pa_cons (pv 2) (pa_cons (pv 9) pa_nil))))
    (pss_cons (ps_set (i := 11) nd rfl (Or.inl rfl) (pe_call LW.G (hr.mono (by decide)) rfl LW.m LW.k LW.b .nil pass0 (pa_cons (pv 2) (pa_cons (pv 7) pa_nil))))
    (pss_cons (ps_set (i := 12) nd rfl (Or.inl rfl) (pe_make Tk.M Tk.G (hr.mono (by decide)) (by rfl) Tk.m Tk.b .nil pass0 (pa_cons (pv 5) (pa_cons (pv 6) pa_nil))))
    (pss_cons (ps_if (pt_val (pe_ix ix_list (pv 4) pe_int (fun _ _ => rfl)))
      (pss_one (ps_set (i := 8) nd rfl (Or.inl rfl) (pe_call Od.G (hr.mono (by decide)) rfl Od.m Od.k Od.b .nil pass0 (pa_cons (pv 2) (pa_cons (pv 8) (pa_cons (pv 9) pa_nil))))))
      pss_nil)
    (pss_cons (ps_if (pt_val (pe_ix ix_list (pv 4) pe_int (fun _ _ => rfl)))
      (pss_one (ps_set (i := 10) nd rfl (Or.inl rfl) (pe_call OP.G (hr.mono (by decide)) rfl OP.m OP.k OP.b .nil pass0 (pa_cons (pv 2) (pa_cons (pv 10) pa_nil)))))
      pss_nil)
    (pss_cons (ps_if (pt_val (pe_ix ix_list (pv 4) pe_int (fun _ _ => rfl)))
      (pss_one (ps_set (i := 11) nd rfl (Or.inl rfl) (pe_call OWv_.G (hr.mono (by decide)) rfl OWv_.m OWv_.k OWv_.b .nil pass0 (pa_cons (pv 2) (pa_cons (pv 7) pa_nil)))))
      pss_nil)
    (pss_cons (ps_set (i := 13) nd rfl (Or.inl rfl) (pe_ix ix_list (pe_op op_cat (pe_lc (own := [("_law_word", 15), ("_law_odd_here", 16)]) (g := (gTup K 2 (gCons (gName 15) (gCons (gName 16) gNil)))) (tt := (tTest (tVar 16))) (te := (tVar 15)) rfl nd (pi_zip (by rfl) T2.zip (pa_cons (pe_lst (pa_cons pe_str (pa_cons pe_str (pa_cons pe_str pa_nil)))) (pa_cons (pv 4) pa_nil))) (blkOk_by (N := nLaw) (sc := defScope sLaw) (by decide +kernel)) (fun _ _ _ _ _ => (by exact (pg_tup (by rfl) (pgs_cons (pg_name (i := 15) nd rfl (Or.inl rfl)) (pgs_cons (pg_name (i := 16) nd rfl (Or.inl rfl)) pgs_nil))))) (fun _ _ _ _ _ => pts_one (by exact (pt_val (pv 16)))) (fun _ _ _ _ _ => (by exact (pv 15)))) (pe_lst (pa_cons pe_str pa_nil))) pe_int (fun _ _ => rfl)))
    (pss_cons (ps_set (i := 14) nd rfl (Or.inl rfl) (pe_callB (call_reprY hgu (Nat.lt_of_succ_lt hu65)) (by rfl) RP (by decide +kernel) (pa_cons (pe_tup (pa_cons (pv 5) (pa_cons (pv 6) (pa_cons (pv 8) (pa_cons (pv 10) (pa_cons (pv 11) pa_nil)))))) pa_nil)))
    (pss_cons (ps_for PassesOwn.never (by rfl) (pi_range1 (by rfl) T.range (pa_cons pe_int pa_nil)) (pg_name (i := 3) nd rfl (Or.inl rfl))
      (pss_one (ps_if (pt_cmpR op_ne (pe_call Rf.G (hr.mono (by decide)) rfl Rf.m Rf.k Rf.b .nil pass0 (pa_cons (pv 12) (pa_cons (pv 8) (pa_cons (pv 10) (pa_cons (pv 11) pa_nil))))) (pv 13) (nomark _))
      (pss_one (ps_ret pe_bl))
      pss_nil)))
    (pss_one (ps_if (pt_cmpR op_ne (pe_callB (call_reprY hgu (Nat.lt_of_succ_lt hu65)) (by rfl) RP (by decide +kernel) (pa_cons (pe_tup (pa_cons (pe_fld (pv 12) rfl) (pa_cons (pe_fld (pv 12) rfl) (pa_cons (pv 8) (pa_cons (pv 10) (pa_cons (pv 11) pa_nil)))))) pa_nil)) (pv 14) (nomark _))
      (pss_one (ps_ret pe_bl))
      pss_nil))))))))))))))))))
    (pss_one (ps_ret pe_bl))), ?_⟩
  refine ⟨_, rfl, a, ns, 0, rfl, hS, by omega, Int.le_refl 0, fun c => ⟨(by show 1 ≤ sizeLine; decide), fun l hl0 => ?_⟩⟩
  have s1 := same_new hl0 (.lst [V.int c])
  refine ⟨_, rfl, _, rfl, _, rfl, a, _, rfl, s1.seq hS, fun p hp => ?_⟩
  have s2 := same_new hp (.lst (cutV (ns.map V.int) (some 1) (some 8)))
  have hcl := cutV_length (ns.map V.int) (some 1) (some 8)
  rw [List.length_map] at hcl
  refine ⟨l, p, _, _, rfl, rfl, s2 _ _ upd_same, upd_same, small13 (by show 1 + _ ≤ _; omega), fun ct hct => ?_⟩
  have hint : ∀ x ∈ [V.int c] ++ cutV (ns.map V.int) (some 1) (some 8), ∃ z : Int, x = .int z := fun x hx => by
    rcases List.mem_append.mp hx with m | m
    · exact ⟨c, by simpa using m⟩
    · exact cut_ints m
  refine ⟨ct, rfl, ⟨_, SqL.of upd_same⟩, for_list (K := K) (a := ct) (xs := [V.int c] ++ cutV (ns.map V.int) (some 1) (some 8)) (fun i σ Hc => ∃ g1 g2 g3 g4 g5 g6 g7 g8 g9 g10 g11 g12 g13 g14 g15 g16, σ = [some (.ref a), g1, g2, g3, g4, g5, g6, g7, g8, g9, g10, g11, g12, g13, g14, g15, g16] ∧ Hc ct = some (.lst ([V.int c] ++ cutV (ns.map V.int) (some 1) (some 8)))) ⟨_, _, _, _, _, _, _, _, _, _, _, _, _, _, _, _, rfl, upd_same⟩ ?_ ?_ ?_⟩
  · rintro i σ Hc _ ⟨_, _, _, _, _, _, _, _, _, _, _, _, _, _, _, _, _, h⟩
    exact SqL.of h
  rotate_left
  · rintro σ Hc ⟨_, _, _, _, _, _, _, _, _, _, _, _, _, _, _, _, rfl, h⟩
    exact q _
  rintro i x σ Hc hx ⟨k1, k2, k3, k4, k5, k6, k7, k8, k9, k10, k11, k12, k13, k14, k15, k16, rfl, h⟩
  obtain ⟨z, rfl⟩ := hint x (List.mem_of_getElem? hx)
  generalize [V.int c] ++ cutV (ns.map V.int) (some 1) (some 8) = xs at h ⊢
  clear hint hx hct hcl s2 hp s1 hl0
  refine ⟨_, rfl, (by show 1 ≤ sizeLine; decide), fun st hst => ?_⟩
  have t1 := same_new hst (.lst [V.int z])
  have nct : ct ≠ st := ne_of_none h hst
  have h1 := t1 _ _ h
  have es1 : (upd Hc st (.lst [V.int z])) st = some (.lst [V.int z]) := upd_same
  generalize upd Hc st (.lst [V.int z]) = H1 at h1 es1 ⊢
  -- which are to be none
  refine ⟨3, rfl, by decide, by decide, fun bd hbd => ?_⟩
  have nbd : bd ≠ st := Ne.symm (ne_of_none es1 hbd)
  have sbd := same_new hbd (.lst [])
  refine range_turns (n := 3) (fun i H' => But st H1 H' ∧ ((i = 0 ∧ ∃ x : Int, H' st = some (.lst [.int x])) ∨ WellAt H' st (i : Int)) ∧ ∃ bs : List Bool, H' bd = some (.lst (bs.map V.bl)) ∧ bs.length = i) ⟨.same sbd, .inl ⟨rfl, _, sbd _ _ es1⟩, [], upd_same, rfl⟩ ?_ ?_
  · rintro i H' hi ⟨b1, hw, bs, hb, hbl⟩
    refine ⟨rfl, _, rfl, st, (i : Int), 3, rfl, hw.imp (fun h => h.2) id, by omega, by omega, by decide, by decide, fun g H2 g0 g1 b2 w2 => ⟨rfl, _, b2 _ _ nbd hb, ?_, ?_⟩⟩
    · rw [List.length_map, hbl]
      exact Nat.lt_of_lt_of_le (show i < 100 by omega) (by decide)
    · have hbn : H1 bd = none := hbd
      refine ⟨(b1.trans b2).new hbn, .inr ?_, bs ++ [decide (V.int g = V.int 0)], by rw [upd_same, List.map_append]; rfl, by rw [List.length_append, hbl]; rfl⟩
      rw [show ((i + 1 : Nat) : Int) = (i : Int) + 1 by omega]
      exact w2.but (Ne.symm nbd) But.at
  rintro H2 ⟨b1, hw, bs, hb, hbl⟩
  obtain ⟨c0, c1, c2, rfl⟩ : ∃ x y z, bs = [x, y, z] := by
    match bs, hbl with
    | [x, y, z], _ => exact ⟨x, y, z, rfl⟩
  have w2 : WellAt H2 st 3 := by
    rcases hw with ⟨hx, _⟩ | hw
    · cases hx
    · exact hw
  have h2 := b1 _ _ nct h1
  have hb : H2 bd = some (.lst [V.bl c0, V.bl c1, V.bl c2]) := hb
  clear hw hbl sbd hbd b1 h1 es1 t1
  -- parts
  refine ⟨_, rfl, st, 3, 3, rfl, .inr w2, by decide, by decide, by decide, by decide, fun u al d r0 r1 D H3 b3 un aln dn hu' hP hW hal nr w3 hm4 => ?_⟩
  have h3 := b3 _ _ nct h2
  have hb3 := b3 _ _ nbd hb
  refine ⟨u, _, rfl, SqT.of hu', rfl, _, _, rfl, _, _, rfl, rfl, ?_⟩
  obtain ⟨z3, es3⟩ := w3.lst
  refine ⟨_, rfl, st, _, 4, rfl, .inr w3, by decide, by decide, by decide, by decide, fun ra H4 ra0 ra1 b4 w4 => ?_⟩
  obtain ⟨z4, es4⟩ := w4.lst
  obtain ⟨r, rfl⟩ : ∃ r : Nat, ra = (r : Int) := ⟨ra.toNat, by omega⟩
  have hr3 : r ≤ 3 := by omega
  have hP4 := hP.but es3 b4
  have h4 := b4 _ _ nct h3
  have hb4 := b4 _ _ nbd hb3
  refine ⟨_, rfl, _, rfl, _, rfl, _, rfl, st, al, d, _, D, r, rfl, w4, by decide, by decide, hP4, hW, by omega, fun t cal wd ch wk kvs H5 b5 tn caln wdn hS5 w5 hfr => ?_⟩
  obtain ⟨z5, es5⟩ := w5.lst
  have hP5 := hP4.but es4 b5
  have h5 := b5 _ _ nct h4
  have hb5 := b5 _ _ nbd hb4
  clear hP hP4 w2 w3 w4 es3 es4 b3 b4 b5 un aln dn hu' tn caln wdn h2 h3 h4 nr hal ra0 ra1 hb hb3 hb4 hfr h hst
  obtain ⟨hA5, kvs0, hd5, hE5⟩ := id hP5
  refine ⟨_, rfl, d, kvs0, rfl, .inl hd5, fun pl bs hpl hkeys => ?_⟩
  have hkt := keys_tp hkeys hE5
  have hbl := hkt.len
  rw [List.length_map] at hbl
  rw [List.length_map] at hbl
  have hmany := hW.many
  have s2 := same_new hpl (.lst (bs.map V.ref))
  refine ⟨pl, bs.map V.ref, rfl, SqL.of upd_same, by rw [List.length_map]; omega, fun v hv => ?_, fun ys po pm pw hpo => ?_⟩
  · obtain ⟨y, hy, tq, rfl, htq⟩ := hkt.mem hv
    obtain ⟨e, he, rfl⟩ := List.mem_map.mp hy
    have rg := hW.rng e he
    have q0 := (hW.n0 0 (by decide)).2
    have q1 := (hW.n0 1 (by decide)).2
    refine ⟨[(iI e.1).1, (iI e.1).2], ⟨tq, rfl, SqT.of (s2 _ _ htq)⟩, rfl, fun z hz => ?_⟩
    rcases List.mem_cons.mp hz with rfl | hz
    · show (0 : Int) ≤ (e.1.1 : Int) ∧ (e.1.1 : Int) < 64
      omega
    · obtain rfl := List.mem_singleton.mp hz
      show (0 : Int) ≤ (e.1.2 : Int) ∧ (e.1.2 : Int) < 64
      omega
  have aS := sorted_at hW (hkt.imp fun _ _ r => r.mono (.same s2)) pm pw
  have s3 := same_new hpo (.lst ys)
  have epo : (upd (upd H5 pl (.lst (bs.map V.ref))) po (.lst ys)) po = some (.lst ys) := upd_same
  have aS2 := aS.imp fun _ _ r => TpAt.mono (.same s3) r
  have s13 := s2.trans s3
  generalize upd (upd H5 pl (.lst (bs.map V.ref))) po (.lst ys) = H6 at s13 epo aS2 ⊢
  have npo : po ≠ st := Ne.symm (ne_of_none (s2 _ _ es5) hpo)
  clear s2 s3 aS pm pw hpo hkt hkeys hpl
  have es6 := s13 _ _ es5
  have h6 := s13 _ _ h5
  have hb6 := s13 _ _ hb5
  have hP6 := hP5.but es5 (.same s13)
  have hS6 := hS5.but es5 (.same s13)
  have w6 := w5.same s13
  clear hA5 hd5 hE5
  -- a pair, a weaving
  have hyl := aS2.len
  rw [List.length_map] at hyl
  have bol : 1 ≤ (sb D).length := by
    rw [(sb_perm D).length_eq]
    obtain ⟨e, he, _⟩ := hW.com0 0 (by have := (hW.n0 0 (by decide)).1; omega)
    exact List.length_pos_of_mem he
  have sbl : (sb D).length ≤ 60 := by rw [(sb_perm D).length_eq]; exact hW.many
  refine ⟨_, rfl, _, rfl, st, po, _, ys, rfl, .inr w6, by decide, by decide, epo, npo, by omega, by omega, fun k v H7 hv b7 w7 => ?_⟩
  obtain ⟨y, hy, tq, rfl, htq⟩ := aS2.get hv
  rw [List.getElem?_map] at hy
  obtain ⟨e, hbe, rfl⟩ := Option.map_eq_some_iff.mp hy
  have he := sb_mem.mp (List.mem_of_getElem? hbe)
  have ntq : tq ≠ st := ne_of htq es6 (fun z => by cases z)
  refine ⟨_, rfl, _, rfl, st, _, r, rfl, w7, by decide, by decide, by omega, fun lw hs H8 b8 lwn hlw ok w8 => ?_⟩
  have b78 := b7.trans b8
  have nlw : lw ≠ st := Ne.symm (w7.ne lwn)
  obtain ⟨z8, es8⟩ := w8.lst
  have hP8 := hP6.but es6 b78
  have hS8 := hS6.but es6 b78
  have h8 := b78 _ _ nct h6
  have hb8 := b78 _ _ nbd hb6
  have epo8 := b78 _ _ npo epo
  have htq8 := b78 _ _ ntq htq
  have aS8 : A2 (TpAt H8) ys ((sb D).map fun e => iI e.1) := aS2.imp fun _ _ z => by
    obtain ⟨tq, e1, e2⟩ := z
    exact ⟨tq, e1, b78 _ _ (ne_of e2 es6 (fun z => by cases z)) e2⟩
  clear hP5 hS5 h5 hb5 w5 hP6 hS6 h6 hb6 w6 epo aS2 hyl bol sbl hv hy hbe b7 b8 lwn w7 htq s13 es5 es6 b78
  -- the task
  obtain ⟨hA8, kvs1, hd8, hE8⟩ := id hP8
  refine ⟨_, rfl, _, rfl, ?_⟩
  intro x dx nx ndx nex
  have s8 : Same H8 (upd (upd H8 dx (.own x)) x (.ins C dx [])) := fun b o e => by
    rw [upd_ne (ne_of_none e nx), upd_ne (ne_of_none e ndx)]
    exact e
  have hB8 : BoAt H8 d D.bo := ⟨kvs1, hd8, hE8.imp fun _ _ r => EnAt.mono vw_kp r⟩
  refine ⟨x, dx, al, d, D, rfl, upd_same, (hA8.mono vw_kp).mono (.same s8), hB8.mono s8, hW, fun H9 b9 hnew => ⟨rfl, ?_⟩⟩
  have sT : Same H8 H9 := fun b o e => b9 _ _ (ne_of_none e nx) (s8 _ _ e)
  obtain ⟨d2, hd2, hV⟩ := hnew.v (s8 _ _ es8) (sT _ _ es8)
  have n2 : d2 ≠ wd := fun c => by subst c; rw [s8 _ _ hS8.hwd] at hd2; cases hd2
  have es9 := sT _ _ es8
  have hS9 := hS8.but es8 (.same sT)
  have hP9 := hP8.but es8 (.same sT)
  have h9 := sT _ _ h8
  have hb9 := sT _ _ hb8
  have w9 := w8.same sT
  have epo9 := sT _ _ epo8
  have htq9 := sT _ _ htq8
  have hlw9 := sT _ _ hlw
  have aS9 := aS8.imp fun _ _ r => TpAt.mono (.same sT) r
  have nt : t ≠ st := ne_of hS9.ht es9 (fun z => by cases z)
  have nwd : wd ≠ st := ne_of hS9.hwd es9 (fun z => by cases z)
  have B9 : PrF C (vw (pA st) H9) x t D r ch wk cal wd kvs := by
    obtain ⟨dxx, aax, kvx, hpx, hAx, hdx, hEx⟩ := id hV
    exact ⟨vw_put (pA_ok.mpr nt) hS9.ht, hS9.hal, vw_put (pA_ok.mpr nwd) hS9.hwd, hS9.hwk, hV.vx (ne_of hpx es9 (fun z => by cases z)) (ne_of hdx es9 (fun z => by cases z)) n2, by omega, hS9.len, hS9.outc, hS9.wlen, hS9.wout⟩
  have htv : TpAt (vw (pA st) H9) (.ref tq) (iI e.1) := ⟨tq, rfl, vw_put (pA_ok.mpr ntq) htq9⟩
  have hlv : (vw (pA st) H9) lw = some (.lst (TB.hl hs)) := vw_put (pA_ok.mpr nlw) hlw9
  clear hnew hd2 hS8 hP8 h8 hb8 w8 hA8 hE8 hd8 hB8 b9 nex ndx nx es8 epo8 aS8 s8 sT htq8 htq9 hlw hlw9 hS9 nwd nt n2
  -- what is to be none is made none
  refine ⟨_, rfl, bd, _, _, _, rfl, rfl, SqL.of hb9, atI_nat (j := 0) rfl, c0, rfl, ?_⟩
  refine join3 (fun σ Hn => ∃ v8, σ = [some (.ref a), some (.int z), some (.ref st), k3, some (.ref bd), some (.ref al), some (.ref d), some (.int (r : Int)), some v8, some (.ref po), some (.ref tq), some (.ref lw), some (.ref x), k13, k14, k15, k16] ∧ But st H9 Hn ∧ WellAt Hn st 62000 ∧ ((c0 = false ∧ v8 = .ref t) ∨ (c0 = true ∧ OddPr K C (vw (pA st) Hn) x D v8)) ∧ ShY K (vw (pA st) Hn) 130000 9 v8) (fun ec => ⟨_, rfl, fun _ _ _ e => e, w9.up (by decide), .inl ⟨ec, rfl⟩, ⟨_, .even (sch_dx B9), (tn_sch hW hm4 B9).up (Nat.le_refl _) (by decide)⟩⟩) ?_ ?_
  rotate_left
  · intro ec k
    refine ⟨_, rfl, _, rfl, _, rfl, st, x, d2, t, po, _, D, r, ch, wk, cal, wd, kvs, ys, rfl, w9, by decide, by decide, hW, hm4, hV, B9, epo9, npo, aS9, fun v2 H10 b10 w10 hO2 sh2 => k _ _ ⟨v2, rfl, b10, w10.up (by decide), .inr ⟨ec, hO2⟩, sh2⟩⟩
  rintro σ H10 ⟨v8, rfl, b10, w10, hs8, sh8⟩
  have hb10 := b10 _ _ nbd hb9
  refine ⟨_, rfl, bd, _, _, _, rfl, rfl, SqL.of hb10, atI_nat (j := 1) rfl, c1, rfl, ?_⟩
  have htv10 : TpAt (vw (pA st) H10) (.ref tq) (iI e.1) := htv.mono (.same b10.vw)
  refine join3 (fun σ Hn => ∃ v10, σ = [some (.ref a), some (.int z), some (.ref st), k3, some (.ref bd), some (.ref al), some (.ref d), some (.int (r : Int)), some v8, some (.ref po), some v10, some (.ref lw), some (.ref x), k13, k14, k15, k16] ∧ But st H10 Hn ∧ WellAt Hn st 62010 ∧ ((c1 = false ∧ v10 = .ref tq) ∨ (c1 = true ∧ OIv K (vw (pA st) Hn) D v10)) ∧ ShY K (vw (pA st) Hn) 300 3 v10) (fun ec => ⟨_, rfl, fun _ _ _ e => e, w10.up (by decide), .inl ⟨ec, rfl⟩, ⟨_, .even (.flat htv10.dp (nd_pair _)), (tn_key hW he).up (by decide) (by decide)⟩⟩) ?_ ?_
  rotate_left
  · intro ec k
    refine ⟨_, rfl, _, rfl, st, tq, _, D, e, rfl, w10, by decide, by decide, hW, hm4, he, htv10.mono vw_kp, fun v2 H11 b11 w11 hO2 => k _ _ ⟨v2, rfl, b11, w11.up (by decide), .inr ⟨ec, hO2.1⟩, hO2.2⟩⟩
  rintro σ H11 ⟨v10, rfl, b11, w11, hs10, sh10⟩
  have hb11 := b11 _ _ nbd hb10
  have hlv11 : (vw (pA st) H11) lw = some (.lst (TB.hl hs)) := (b10.trans b11).vw _ _ hlv
  refine ⟨_, rfl, bd, _, _, _, rfl, rfl, SqL.of hb11, atI_nat (j := 2) rfl, c2, rfl, ?_⟩
  refine join3 (fun σ Hn => ∃ v11, σ = [some (.ref a), some (.int z), some (.ref st), k3, some (.ref bd), some (.ref al), some (.ref d), some (.int (r : Int)), some v8, some (.ref po), some v10, some v11, some (.ref x), k13, k14, k15, k16] ∧ But st H11 Hn ∧ (∃ zs, Hn st = some (.lst zs)) ∧ ((c2 = false ∧ v11 = .ref lw) ∨ (c2 = true ∧ OWv K (vw (pA st) Hn) r v11)) ∧ ShY K (vw (pA st) Hn) 1000 3 v11) (fun ec => ⟨_, rfl, fun _ _ _ e => e, w11.lst, .inl ⟨ec, rfl⟩, ⟨_, .even (.flat (.lst (SqL.of hlv11) (hl_dpA hs)) (by rw [PyData.hasDict]; exact nd_ns _)), tn_hl ok⟩⟩) ?_ ?_
  rotate_left
  · intro ec k
    refine ⟨_, rfl, _, rfl, st, _, r, rfl, w11, by decide, by decide, hr3, fun v2 H12 b12 w12 hO2 => k _ _ ⟨v2, rfl, b12, w12.lst, .inr ⟨ec, hO2.1⟩, hO2.2.up (by decide) (by decide)⟩⟩
  rintro σ H12 ⟨v11, rfl, b12, ⟨z12, es12⟩, hs11, sh11⟩
  have b912 := (b10.trans b11).trans b12
  have hV := hV.but es9 b912
  have hP := hP9.but es9 b912
  have B := PrF.mono vw_same (PrF.mono b912.vw B9)
  have h12 := b912 _ _ nct h9
  have hb12 := b12 _ _ nbd hb11
  have htq12 : TpAt H12 (.ref tq) (iI e.1) := (htv.mono (.same b912.vw)).mono vw_kp
  have hlw12 : H12 lw = some (.lst (TB.hl hs)) := vw_same _ _ (b912.vw _ _ hlv)
  have hs8 := hs8.imp id fun z => (⟨z.1, (z.2.mono (b11.trans b12).vw).mono vw_same⟩ : c0 = true ∧ OddPr K C H12 x D v8)
  have hs10 := hs10.imp id fun z => (⟨z.1, (z.2.mono b12.vw).mono vw_same⟩ : c1 = true ∧ OIv K H12 D v10)
  have hs11 := hs11.imp id fun z => (⟨z.1, z.2.mono vw_same⟩ : c2 = true ∧ OWv K H12 r v11)
  obtain ⟨y8, x8, t8⟩ := (sh8.mono (b11.trans b12).vw).mono vw_same
  obtain ⟨y10, x10, t10⟩ := (sh10.mono b12.vw).mono vw_same
  obtain ⟨y11, x11, t11⟩ := sh11.mono vw_same
  obtain ⟨o1, o2, o3⟩ := kept_ok (tn_al hW) (tn_both hW) t8 t10 t11
  clear sh8 sh10 sh11 b10 b11 b12 b912 hb9 hb10 hb11 hlv hlv11 htv htv10 w9 w10 w11 aS9 epo9 B9 hP9 h9 es9
  -- what is said of it
  have said : ∀ (Hn : Hp) (Q : VK) (E : XK), Same H12 Hn → (∀ H', Same Hn H' → Q (.str (dueW c0 c1 c2)) H') → spRefused K C [V.ref x, v8, v10, v11] Hn Q E := fun Hn Q E sn q => by
    refine ⟨_, _, _, _, rfl, fun cP cI cW => ?_⟩
    have hV := hV.but es12 (.same sn)
    rcases hs8 with ⟨rfl, rfl⟩ | ⟨rfl, hO⟩
    · rcases hs10 with ⟨rfl, rfl⟩ | ⟨rfl, hO⟩
      · rcases hs11 with ⟨rfl, rfl⟩ | ⟨rfl, hO⟩
        · exact .inr (.inr (.inr ⟨x, t, D, r, ch, wk, cal, wd, kvs, tq, lw, hs, e, rfl, hW, PrF.mono sn B, he, htq12.mono (.same sn), SqL.of (sn _ _ hlw12), ok.1, ok.2.1, ok.2.2, fun u H' s1 H'' s2 => q _ (s1.trans s2)⟩))
        · exact .inr (.inr (.inl ⟨x, t, D, r, ch, wk, cal, wd, kvs, tq, v11, e, rfl, hW, PrF.mono sn B, he, htq12.mono (.same sn), hO.mono sn, fun H' s1 => ⟨2, by decide, rfl, rfl, fun H'' s2 => q _ (s1.trans s2)⟩⟩))
      · exact .inr (.inl ⟨x, t, D, r, ch, wk, cal, wd, kvs, v10, v11, rfl, hW, PrF.mono sn B, hO.mono sn, fun H' s1 => ⟨1, by decide, rfl, rfl, fun H'' s2 => q _ (s1.trans s2)⟩⟩)
    · exact .inl ⟨x, v8, v10, v11, D, rfl, hW, hV.task.r, hO.mono sn, fun H' s1 => ⟨0, by decide, rfl, rfl, fun H'' s2 => q _ (s1.trans s2)⟩⟩
  clear hs8 hs10 hs11 B hlw12 htq12
  -- due
  refine ⟨(by show 3 ≤ sizeLine; decide), fun wl hwl => ?_⟩
  have s13 := same_new hwl (.lst [V.str "protocol", V.str "inputs", V.str "weaving"])
  have ewl : (upd H12 wl (.lst [V.str "protocol", V.str "inputs", V.str "weaving"])) wl = some (.lst [V.str "protocol", V.str "inputs", V.str "weaving"]) := upd_same
  have hb13 := s13 _ _ hb12
  generalize upd H12 wl (.lst [V.str "protocol", V.str "inputs", V.str "weaving"]) = H13 at s13 ewl hb13 ⊢
  refine ⟨_, rfl, wl, bd, _, _, rfl, SqL.of ewl, SqL.of hb13, fun L hL => ?_⟩
  refine zip_turns (xs := [V.str "protocol", V.str "inputs", V.str "weaving"]) (ys := [V.bl c0, V.bl c1, V.bl c2]) rfl (fun i H' => Same H13 H' ∧ H' L = some (.lst (preW c0 c1 c2 i))) ⟨same_new hL _, upd_same⟩ (fun i H' h => ⟨SqL.of (h.1 _ _ ewl), SqL.of (h.1 _ _ hb13)⟩) ?_ ?_
  · rintro i u y Tz H' hx hy hTz ⟨s1, h1⟩
    have s2 := same_new hTz (.tup [u, y])
    have hi3 : i < 3 := (List.getElem?_eq_some_iff.mp hx).1
    have nL : L ≠ Tz := ne_of_none h1 hTz
    refine ⟨Tz, _, rfl, SqT.of upd_same, rfl, _, _, rfl, _, _, rfl, rfl, rfl, ?_⟩
    obtain ⟨bb, rfl⟩ : ∃ bb, y = V.bl bb := by
      obtain rfl | rfl | rfl : i = 0 ∨ i = 1 ∨ i = 2 := by omega
      · cases hy; exact ⟨_, rfl⟩
      · cases hy; exact ⟨_, rfl⟩
      · cases hy; exact ⟨_, rfl⟩
    have pre : preW c0 c1 c2 (i + 1) = preW c0 c1 c2 i ++ if bb = true then [u] else [] := by
      obtain rfl | rfl | rfl : i = 0 ∨ i = 1 ∨ i = 2 := by omega
      · cases hy; cases hx; rfl
      · cases hy; cases hx; rfl
      · cases hy; cases hx; rfl
    refine ⟨_, rfl, bb, rfl, ?_⟩
    cases bb with
    | false =>
      rw [if_neg (by decide), List.append_nil] at pre
      refine iteF ⟨s1.trans s2, ?_⟩
      rw [upd_ne nL, pre]
      exact h1
    | true =>
      rw [if_pos rfl] at pre
      refine iteT ⟨_, rfl, _, by rw [upd_ne nL]; exact h1, Nat.lt_of_le_of_lt (pre_len c0 c1 c2 i) (by decide), same_upd (s1.trans s2) hL, ?_⟩
      rw [upd_same, pre]
  rintro H14 ⟨s14, h14⟩
  have h14 : H14 L = some (.lst (preW c0 c1 c2 3)) := h14
  refine ⟨(by show 1 ≤ sizeLine; decide), fun m1 hm1 => ?_⟩
  have s15 := same_new hm1 (.lst [V.str "told"])
  refine ⟨L, m1, _, _, rfl, rfl, s15 _ _ h14, upd_same, ?_, fun m2 hm2 => ?_⟩
  · exact Nat.le_trans (Nat.add_le_add_right (pre_len c0 c1 c2 3) 1) (by decide)
  have s16 := same_new hm2 (.lst (preW c0 c1 c2 3 ++ [V.str "told"]))
  refine ⟨m2, _, _, _, rfl, rfl, SqL.of upd_same, atI_nat (due_at c0 c1 c2), ?_⟩
  have sG := ((s13.trans s14).trans s15).trans s16
  generalize upd (upd H14 m1 (.lst [V.str "told"])) m2 (.lst (preW c0 c1 c2 3 ++ [V.str "told"])) = H16 at sG ⊢
  clear s13 s14 s15 s16 h14 ewl hb13 hwl hL hm1 hm2
  -- kept
  have parts : ∀ {Hn : Hp}, Same H12 Hn → AlAt Hn (.ref al) D.al ∧ ∃ kvb, Hn d = some (.dT kvb) ∧ A2 (EnAt Hn) kvb D.bo := fun s => by
    obtain ⟨p1, kvb, p2, p3⟩ := hP.but es12 (.same s)
    exact ⟨p1.mono vw_kp, kvb, p2, p3.imp fun _ _ r => EnAt.mono vw_kp r⟩
  refine ⟨_, rfl, _, rfl, _, rfl, _, rfl, _, rfl, (by show 5 ≤ sizeLine; decide), fun kt hkt => ?_⟩
  have u1 := same_new hkt (.tup [V.ref al, V.ref d, v8, v10, v11])
  have s17 := sG.trans u1
  obtain ⟨p1, kvb, p2, p3⟩ := parts s17
  refine ⟨kt, _, [alD D.al, bothD D.bo, y8, y10, y11], rfl, SqT.of upd_same, rfl, dy_idx (.cons (.even (.flat p1.dp (nd_al _))) (.cons (.even (both_dx p2 p3)) (.cons (dy_mono s17 x8) (.cons (dy_mono s17 x10) (.cons (dy_mono s17 x11) .nil))))), o1, o2, o3, ?_⟩
  generalize upd H16 kt (.tup [V.ref al, V.ref d, v8, v10, v11]) = H17 at s17 p1 p2 p3 ⊢
  clear u1 hkt sG p1 p2 p3
  refine ⟨2, rfl, by decide, by decide, for_range (n := 2) (fun j σ H' => ∃ g3, σ = [some (.ref a), some (.int z), some (.ref st), g3, some (.ref bd), some (.ref al), some (.ref d), some (.int (r : Int)), some v8, some (.ref po), some v10, some v11, some (.ref x), some (.str (dueW c0 c1 c2)), some (.str (PyData.tuple [alD D.al, bothD D.bo, y8, y10, y11]).shown), k15, k16] ∧ Same H12 H') ⟨_, rfl, s17⟩ ?_ ?_⟩
  · rintro j σ H' hj ⟨g3, rfl, s18⟩
    refine ⟨_, rfl, _, rfl, _, rfl, _, rfl, ?_⟩
    unfold tNil
    exact said H' _ _ s18 fun H'' s19 => ⟨_, rfl, rfl, _, rfl, iteF' (by rw [decide_eq_true rfl]; rfl) ⟨_, rfl, s18.trans s19⟩⟩
  · rintro σ H' ⟨g3, rfl, s18⟩
    obtain ⟨dx', aa, kvb2, f1, f2, f3, f4⟩ := hV.but es12 (.same s18)
    refine ⟨_, rfl, x, C, dx', _, _, rfl, f1, Z.cl, Z.nA, flds_alone _ _, _, rfl, x, C, dx', _, _, rfl, f1, Z.cl, Z.nB, flds_both _ _, _, rfl, _, rfl, _, rfl, (by show 5 ≤ sizeLine; decide), fun kt hkt => ?_⟩
    have u1 := same_new hkt (.tup [V.ref aa, V.ref d2, v8, v10, v11])
    have s19 := s18.trans u1
    refine ⟨kt, _, [alD D.al, bothD D.bo, y8, y10, y11], rfl, SqT.of upd_same, rfl, dy_idx (.cons (.even (.flat ((f2.mono vw_kp).mono (.same u1)).dp (nd_al _))) (.cons (.even (both_dx (u1 _ _ f3) (f4.imp fun _ _ r => EnAt.mono (vw_kp.trans (.same u1)) r))) (.cons (dy_mono s19 x8) (.cons (dy_mono s19 x10) (.cons (dy_mono s19 x11) .nil))))), o1, o2, o3, _, rfl, rfl, _, rfl, iteF' (by rw [decide_eq_true rfl]; rfl) ?_⟩
    exact ⟨_, _, _, _, _, _, _, _, _, _, _, _, _, _, _, _, rfl, s19 _ _ h12⟩
end
end TA

set_option Elab.async false
set_option maxRecDepth 100000
set_option maxHeartbeats 4000000
set_option linter.unusedVariables false
namespace TA
open PySem PySem.Spec L2 PyProof.Rows LamX
def excB (K : PySem.W.Frag) (D : Addr) : Bool :=
  decide (PySem.W.findIn K (.ref D) "__getattribute__" = some (some (.builtin "BaseException.__getattribute__"))) && (decide (PySem.W.findIn K (.ref D) "__getattr__" = some none) && (decide (PySem.W.subIn K (.ref D) (.type "BaseException") = some true) &&
  (PySem.W.hasDictIn K D && (decide (PySem.W.findIn K (.ref D) "__class__" = some (some (.builtin "object.__class__"))) && (decide (PySem.W.specialIn K (.builtin "object.__class__") "__get__" = some (some (.builtin "getset_descriptor.__get__"))) &&
  (decide (PySem.W.takesIn K (.builtin "object.__class__") = some true) && decide (PySem.W.mroIn K D (.type "object") = some true)))))))
theorem excB_ok {K : PySem.W.Frag} {D : Addr} (h : excB K D = true) : ExcC K D := by
  obtain ⟨a, h⟩ := Bool.and_eq_true_iff.mp h
  obtain ⟨b, h⟩ := Bool.and_eq_true_iff.mp h
  obtain ⟨c, h⟩ := Bool.and_eq_true_iff.mp h
  obtain ⟨d, h⟩ := Bool.and_eq_true_iff.mp h
  obtain ⟨e, h⟩ := Bool.and_eq_true_iff.mp h
  obtain ⟨f, h⟩ := Bool.and_eq_true_iff.mp h
  obtain ⟨g, h⟩ := Bool.and_eq_true_iff.mp h
  exact ⟨of_decide_eq_true a, of_decide_eq_true b, of_decide_eq_true c, d, of_decide_eq_true e, of_decide_eq_true f, of_decide_eq_true g, of_decide_eq_true h⟩
def raiseB (K : PySem.W.Frag) (C : Addr) : Bool := decide (PySem.W.subIn K (.ref C) (.type "BaseException") = some true) && decide (PySem.W.typeIn K (.ref C) = some (.type "type"))
theorem raiseB_ok {K : PySem.W.Frag} {mg : Str → Option Value} {n : Str} {C : Addr} (h : raiseB K C = true) (m : mg n = some (.ref C)) (x : PySem.W.excIn K C [.type "ValueError", .type "Exception", .type "BaseException", .type "object"] "ValueError.__new__" = true) (k : PySem.W.keepIn K (.ref C) = true) : TB.RaiseC K mg n C := by
  obtain ⟨a, b⟩ := Bool.and_eq_true_iff.mp h
  exact ⟨m, x, k, of_decide_eq_true a, of_decide_eq_true b⟩
def saidB (K : PySem.W.Frag) (cA cP cI cW cR cH cN : Addr) : Bool := (List.range 3).all fun j => excB K (cls3 cP cI cW j) && (decide (PySem.W.exmOne K (.ref (cls3 cP cI cW j)) (.ref cA) = some true) && (decide (PySem.W.kitOne K (.ref (cls3 cP cI cW j)) (.type "ValueError") = some true) && (List.range 6).all fun i => decide (PySem.W.kitOne K (.ref (cls3 cP cI cW j)) (.ref (cls6 cP cI cW cR cH cN i)) = some (decide (j = i)))))
theorem saidB_ok {K : PySem.W.Frag} {cA cP cI cW cR cH cN : Addr} (h : saidB K cA cP cI cW cR cH cN = true) : SaidC K cA cP cI cW cR cH cN := by
  have all := fun j (hj : j < 3) => Bool.and_eq_true_iff.mp (List.all_eq_true.mp h j (List.mem_range.mpr hj))
  have al2 := fun j (hj : j < 3) => Bool.and_eq_true_iff.mp (all j hj).2
  have al3 := fun j (hj : j < 3) => Bool.and_eq_true_iff.mp (al2 j hj).2
  exact ⟨fun j hj => excB_ok (all j hj).1, fun j hj => of_decide_eq_true (al2 j hj).1, fun j i hj hi => of_decide_eq_true (List.all_eq_true.mp (al3 j hj).2 i (List.mem_range.mpr hi)), fun j hj => of_decide_eq_true (al3 j hj).1⟩
theorem all_mk {l : PySem.W.OpenLaw} {w : World} {K : PySem.W.Frag} {h : Heap} {mg : Str → Option Value} {fa f1 f2 f3 f4 f5 f6 f7 f8 f9 f10 f11 f12 f13 f14 f15 f16 f17 f18 f19 f20 f21 f22 f23 f24 f25 f26 f27 f28 f29 f30 f31 f32 f33 f34 f35 f36 f37 f38 f39 f40 f41 f42 f43 f44 f45 hA0 hA1 cA cP cI cW cR cH cN C y1 y2 y3 : Addr} (X : K.In h) (G : h.Ns mainGlobals mg) (hfa : mg "law" = some (.ref fa))
    {od1 an1 od2 an2 od3 an3 od4 an4 od5 an5 od6 an6 od7 an7 od8 an8 od9 an9 od10 an10 od11 an11 od12 an12 od13 an13 od14 an14 od15 an15 od16 an16 od17 an17 od18 an18 od19 an19 od20 an20 od21 an21 od22 an22 od23 an23 od24 an24 od25 an25 od26 an26 od27 an27 od28 an28 od29 an29 od30 an30 od31 an31 od32 an32 od33 an33 od34 an34 od35 an35 od36 an36 od37 an37 od38 an38 od39 an39 od40 an40 od41 an41 od42 an42 od43 an43 od44 an44 od45 an45 odH0 odH1 : Option Addr} {sl1 sl2 sl3 sl4 sl5 sl6 sl7 sl8 sl9 sl10 sl11 sl12 sl13 sl14 sl15 sl16 sl17 sl18 sl19 sl20 sl21 sl22 sl23 sl24 sl25 sl26 sl27 sl28 sl29 sl30 sl31 sl32 sl33 sl34 sl35 sl36 sl37 sl38 sl39 sl40 sl41 sl42 sl43 sl44 sl45 slH0 slH1 : Array (Option Value)} {oc1 kV1 dc1 pm1 cd1 ct1 oc2 kV2 dc2 pm2 cd2 ct2 oc3 kV3 dc3 pm3 cd3 ct3 oc4 kV4 dc4 pm4 cd4 ct4 oc5 kV5 dc5 pm5 cd5 ct5 oc6 kV6 dc6 pm6 cd6 ct6 oc7 kV7 dc7 pm7 cd7 ct7 oc8 kV8 dc8 pm8 cd8 ct8 oc9 kV9 dc9 pm9 cd9 ct9 oc10 kV10 dc10 pm10 cd10 ct10 oc11 kV11 dc11 pm11 cd11 ct11 oc12 kV12 dc12 pm12 cd12 ct12 oc13 kV13 dc13 pm13 cd13 ct13 oc14 kV14 dc14 pm14 cd14 ct14 oc15 kV15 dc15 pm15 cd15 ct15 oc16 kV16 dc16 pm16 cd16 ct16 oc17 kV17 dc17 pm17 cd17 ct17 oc18 kV18 dc18 pm18 cd18 ct18 oc19 kV19 dc19 pm19 cd19 ct19 oc20 kV20 dc20 pm20 cd20 ct20 oc21 kV21 dc21 pm21 cd21 ct21 oc22 kV22 dc22 pm22 cd22 ct22 oc23 kV23 dc23 pm23 cd23 ct23 oc24 kV24 dc24 pm24 cd24 ct24 oc25 kV25 dc25 pm25 cd25 ct25 oc26 kV26 dc26 pm26 cd26 ct26 oc27 kV27 dc27 pm27 cd27 ct27 oc28 kV28 dc28 pm28 cd28 ct28 oc29 kV29 dc29 pm29 cd29 ct29 oc30 kV30 dc30 pm30 cd30 ct30 oc31 kV31 dc31 pm31 cd31 ct31 oc32 kV32 dc32 pm32 cd32 ct32 oc33 kV33 dc33 pm33 cd33 ct33 oc34 kV34 dc34 pm34 cd34 ct34 oc35 kV35 dc35 pm35 cd35 ct35 oc36 kV36 dc36 pm36 cd36 ct36 oc37 kV37 dc37 pm37 cd37 ct37 oc38 kV38 dc38 pm38 cd38 ct38 oc39 kV39 dc39 pm39 cd39 ct39 oc40 kV40 dc40 pm40 cd40 ct40 oc41 kV41 dc41 pm41 cd41 ct41 oc42 kV42 dc42 pm42 cd42 ct42 oc43 kV43 dc43 pm43 cd43 ct43 oc44 kV44 dc44 pm44 cd44 ct44 oc45 kV45 dc45 pm45 cd45 ct45 : Value} {tI0 tI1 tI2 tT0_0 tT0_1 tT1_0 tT1_1 tT1_2 tT1_3 tT1_4 tT1_5 : Tok} {nH0 nH1 : Nat}
    {yod1 yan1 yod2 yan2 yod3 yan3 : Option Addr} {ysl1 ysl2 ysl3 : Array (Option Value)} {yoc1 ykV1 ydc1 ypm1 ycd1 yct1 yoc2 ykV2 ydc2 ypm2 ycd2 yct2 yoc3 ykV3 ydc3 ypm3 ycd3 yct3 : Value}
    (aC : PySem.W.nsIn K mainGlobals "Task" = some (some (.ref C)))
    (ya1 : PySem.W.findIn K (.ref C) "__init__" = some (some (.ref y1))) (yi1 : PySem.W.isFn K (.ref y1) = true) (yl1 : K.lookup y1 = some ⟨yoc1, yod1, .func (PySem.W.fnOf "__init__" "Task.__init__" (defArgs s_init) (defBody s_init) (defScope s_init) .none ykV1 ydc1 ypm1 yan1 ycd1 yct1), ysl1⟩) (yc1 : PySem.W.codeIn K ycd1 "Task.__init__" = true) (yk1 : PySem.W.keepIn K (.ref y1) = true)
    (ya2 : PySem.W.findIn K (.ref C) "inputs" = some (some (.ref y2))) (yi2 : PySem.W.isFn K (.ref y2) = true) (yl2 : K.lookup y2 = some ⟨yoc2, yod2, .func (PySem.W.fnOf "inputs" "Task.inputs" (defArgs s_inputs) (defBody s_inputs) (defScope s_inputs) .none ykV2 ydc2 ypm2 yan2 ycd2 yct2), ysl2⟩) (yc2 : PySem.W.codeIn K ycd2 "Task.inputs" = true) (yk2 : PySem.W.keepIn K (.ref y2) = true)
    (ya3 : PySem.W.findIn K (.ref C) "pairs" = some (some (.ref y3))) (yi3 : PySem.W.isFn K (.ref y3) = true) (yl3 : K.lookup y3 = some ⟨yoc3, yod3, .func (PySem.W.fnOf "pairs" "Task.pairs" (defArgs s_pairs) (defBody s_pairs) (defScope s_pairs) .none ykV3 ydc3 ypm3 yan3 ycd3 yct3), ysl3⟩) (yc3 : PySem.W.codeIn K ycd3 "Task.pairs" = true) (yk3 : PySem.W.keepIn K (.ref y3) = true)
    (pg : PySem.W.plainGet K C Str.empty = true) (hd : PySem.W.hasDictIn K C = true) (po : PySem.W.plainOver K C = true) (sa : PySem.W.findIn K (.ref C) "__setattr__" = some (some (.builtin "object.__setattr__"))) (mkC : PySem.W.makesIn K C = true) (kC : PySem.W.keepIn K (.ref C) = true) (nA : PySem.W.findIn K (.ref C) "alone" = some none) (nB : PySem.W.findIn K (.ref C) "both" = some none)
    (a1 : PySem.W.nsIn K mainGlobals "is_whole" = some (some (.ref f1))) (l1 : K.lookup f1 = some ⟨oc1, od1, .func (PySem.W.fnOf "is_whole" "is_whole" (defArgs sWhole) (defBody sWhole) (defScope sWhole) .none kV1 dc1 pm1 an1 cd1 ct1), sl1⟩) (c1 : PySem.W.codeIn K cd1 "is_whole" = true) (k1 : PySem.W.keepIn K (.ref f1) = true)
    (a2 : PySem.W.nsIn K mainGlobals "is_whole_within" = some (some (.ref f2))) (l2 : K.lookup f2 = some ⟨oc2, od2, .func (PySem.W.fnOf "is_whole_within" "is_whole_within" (defArgs sWithin) (defBody sWithin) (defScope sWithin) .none kV2 dc2 pm2 an2 cd2 ct2), sl2⟩) (c2 : PySem.W.codeIn K cd2 "is_whole_within" = true) (k2 : PySem.W.keepIn K (.ref f2) = true)
    (a3 : PySem.W.nsIn K mainGlobals "is_hand" = some (some (.ref f3))) (l3 : K.lookup f3 = some ⟨oc3, od3, .func (PySem.W.fnOf "is_hand" "is_hand" (defArgs sHand) (defBody sHand) (defScope sHand) .none kV3 dc3 pm3 an3 cd3 ct3), sl3⟩) (c3 : PySem.W.codeIn K cd3 "is_hand" = true) (k3 : PySem.W.keepIn K (.ref f3) = true)
    (a4 : PySem.W.nsIn K mainGlobals "is_rising" = some (some (.ref f4))) (l4 : K.lookup f4 = some ⟨oc4, od4, .func (PySem.W.fnOf "is_rising" "is_rising" (defArgs s_is_rising) (defBody s_is_rising) (defScope s_is_rising) .none kV4 dc4 pm4 an4 cd4 ct4), sl4⟩) (c4 : PySem.W.codeIn K cd4 "is_rising" = true) (k4 : PySem.W.keepIn K (.ref f4) = true)
    (a5 : PySem.W.nsIn K mainGlobals "is_inputs" = some (some (.ref f5))) (l5 : K.lookup f5 = some ⟨oc5, od5, .func (PySem.W.fnOf "is_inputs" "is_inputs" (defArgs sInputs) (defBody sInputs) (defScope sInputs) .none kV5 dc5 pm5 an5 cd5 ct5), sl5⟩) (c5 : PySem.W.codeIn K cd5 "is_inputs" = true) (k5 : PySem.W.keepIn K (.ref f5) = true)
    (a6 : PySem.W.nsIn K mainGlobals "is_weaving" = some (some (.ref f6))) (l6 : K.lookup f6 = some ⟨oc6, od6, .func (PySem.W.fnOf "is_weaving" "is_weaving" (defArgs sWeaving) (defBody sWeaving) (defScope sWeaving) .none kV6 dc6 pm6 an6 cd6 ct6), sl6⟩) (c6 : PySem.W.codeIn K cd6 "is_weaving" = true) (k6 : PySem.W.keepIn K (.ref f6) = true)
    (a7 : PySem.W.nsIn K mainGlobals "put_in" = some (some (.ref f7))) (l7 : K.lookup f7 = some ⟨oc7, od7, .func (PySem.W.fnOf "put_in" "put_in" (defArgs sPut) (defBody sPut) (defScope sPut) .none kV7 dc7 pm7 an7 cd7 ct7), sl7⟩) (c7 : PySem.W.codeIn K cd7 "put_in" = true) (k7 : PySem.W.keepIn K (.ref f7) = true)
    (a8 : PySem.W.nsIn K mainGlobals "known" = some (some (.ref f8))) (l8 : K.lookup f8 = some ⟨oc8, od8, .func (PySem.W.fnOf "known" "known" (defArgs sKnown) (defBody sKnown) (defScope sKnown) .none kV8 dc8 pm8 an8 cd8 ct8), sl8⟩) (c8 : PySem.W.codeIn K cd8 "known" = true) (k8 : PySem.W.keepIn K (.ref f8) = true)
    (a9 : PySem.W.nsIn K mainGlobals "rounds_behind" = some (some (.ref f9))) (l9 : K.lookup f9 = some ⟨oc9, od9, .func (PySem.W.fnOf "rounds_behind" "rounds_behind" (defArgs s_rounds_behind) (defBody s_rounds_behind) (defScope s_rounds_behind) .none kV9 dc9 pm9 an9 cd9 ct9), sl9⟩) (c9 : PySem.W.codeIn K cd9 "rounds_behind" = true) (k9 : PySem.W.keepIn K (.ref f9) = true)
    (a10 : PySem.W.nsIn K mainGlobals "agrees" = some (some (.ref f10))) (l10 : K.lookup f10 = some ⟨oc10, od10, .func (PySem.W.fnOf "agrees" "agrees" (defArgs s_agrees) (defBody s_agrees) (defScope s_agrees) .none kV10 dc10 pm10 an10 cd10 ct10), sl10⟩) (c10 : PySem.W.codeIn K cd10 "agrees" = true) (k10 : PySem.W.keepIn K (.ref f10) = true)
    (a11 : PySem.W.nsIn K mainGlobals "met" = some (some (.ref f11))) (l11 : K.lookup f11 = some ⟨oc11, od11, .func (PySem.W.fnOf "met" "met" (defArgs s_met) (defBody s_met) (defScope s_met) .none kV11 dc11 pm11 an11 cd11 ct11), sl11⟩) (c11 : PySem.W.codeIn K cd11 "met" = true) (k11 : PySem.W.keepIn K (.ref f11) = true)
    (a12 : PySem.W.nsIn K mainGlobals "standing" = some (some (.ref f12))) (l12 : K.lookup f12 = some ⟨oc12, od12, .func (PySem.W.fnOf "standing" "standing" (defArgs s_standing) (defBody s_standing) (defScope s_standing) .none kV12 dc12 pm12 an12 cd12 ct12), sl12⟩) (c12 : PySem.W.codeIn K cd12 "standing" = true) (k12 : PySem.W.keepIn K (.ref f12) = true)
    (a13 : PySem.W.nsIn K mainGlobals "place" = some (some (.ref f13))) (l13 : K.lookup f13 = some ⟨oc13, od13, .func (PySem.W.fnOf "place" "place" (defArgs sPlace) (defBody sPlace) (defScope sPlace) .none kV13 dc13 pm13 an13 cd13 ct13), sl13⟩) (c13 : PySem.W.codeIn K cd13 "place" = true) (k13 : PySem.W.keepIn K (.ref f13) = true)
    (a14 : PySem.W.nsIn K mainGlobals "is_output" = some (some (.ref f14))) (l14 : K.lookup f14 = some ⟨oc14, od14, .func (PySem.W.fnOf "is_output" "is_output" (defArgs s_is_output) (defBody s_is_output) (defScope s_is_output) .none kV14 dc14 pm14 an14 cd14 ct14), sl14⟩) (c14 : PySem.W.codeIn K cd14 "is_output" = true) (k14 : PySem.W.keepIn K (.ref f14) = true)
    (a15 : PySem.W.nsIn K mainGlobals "is_outputs" = some (some (.ref f15))) (l15 : K.lookup f15 = some ⟨oc15, od15, .func (PySem.W.fnOf "is_outputs" "is_outputs" (defArgs s_is_outputs) (defBody s_is_outputs) (defScope s_is_outputs) .none kV15 dc15 pm15 an15 cd15 ct15), sl15⟩) (c15 : PySem.W.codeIn K cd15 "is_outputs" = true) (k15 : PySem.W.keepIn K (.ref f15) = true)
    (a16 : PySem.W.nsIn K mainGlobals "is_rows" = some (some (.ref f16))) (l16 : K.lookup f16 = some ⟨oc16, od16, .func (PySem.W.fnOf "is_rows" "is_rows" (defArgs s_is_rows) (defBody s_is_rows) (defScope s_is_rows) .none kV16 dc16 pm16 an16 cd16 ct16), sl16⟩) (c16 : PySem.W.codeIn K cd16 "is_rows" = true) (k16 : PySem.W.keepIn K (.ref f16) = true)
    (a17 : PySem.W.nsIn K mainGlobals "is_alone" = some (some (.ref f17))) (l17 : K.lookup f17 = some ⟨oc17, od17, .func (PySem.W.fnOf "is_alone" "is_alone" (defArgs s_is_alone) (defBody s_is_alone) (defScope s_is_alone) .none kV17 dc17 pm17 an17 cd17 ct17), sl17⟩) (c17 : PySem.W.codeIn K cd17 "is_alone" = true) (k17 : PySem.W.keepIn K (.ref f17) = true)
    (a18 : PySem.W.nsIn K mainGlobals "is_output_pair" = some (some (.ref f18))) (l18 : K.lookup f18 = some ⟨oc18, od18, .func (PySem.W.fnOf "is_output_pair" "is_output_pair" (defArgs s_is_output_pair) (defBody s_is_output_pair) (defScope s_is_output_pair) .none kV18 dc18 pm18 an18 cd18 ct18), sl18⟩) (c18 : PySem.W.codeIn K cd18 "is_output_pair" = true) (k18 : PySem.W.keepIn K (.ref f18) = true)
    (a19 : PySem.W.nsIn K mainGlobals "is_let" = some (some (.ref f19))) (l19 : K.lookup f19 = some ⟨oc19, od19, .func (PySem.W.fnOf "is_let" "is_let" (defArgs s_is_let) (defBody s_is_let) (defScope s_is_let) .none kV19 dc19 pm19 an19 cd19 ct19), sl19⟩) (c19 : PySem.W.codeIn K cd19 "is_let" = true) (k19 : PySem.W.keepIn K (.ref f19) = true)
    (a20 : PySem.W.nsIn K mainGlobals "is_input_pair" = some (some (.ref f20))) (l20 : K.lookup f20 = some ⟨oc20, od20, .func (PySem.W.fnOf "is_input_pair" "is_input_pair" (defArgs s_is_input_pair) (defBody s_is_input_pair) (defScope s_is_input_pair) .none kV20 dc20 pm20 an20 cd20 ct20), sl20⟩) (c20 : PySem.W.codeIn K cd20 "is_input_pair" = true) (k20 : PySem.W.keepIn K (.ref f20) = true)
    (a21 : PySem.W.nsIn K mainGlobals "each_comes" = some (some (.ref f21))) (l21 : K.lookup f21 = some ⟨oc21, od21, .func (PySem.W.fnOf "each_comes" "each_comes" (defArgs s_each_comes) (defBody s_each_comes) (defScope s_each_comes) .none kV21 dc21 pm21 an21 cd21 ct21), sl21⟩) (c21 : PySem.W.codeIn K cd21 "each_comes" = true) (k21 : PySem.W.keepIn K (.ref f21) = true)
    (a22 : PySem.W.nsIn K mainGlobals "is_both" = some (some (.ref f22))) (l22 : K.lookup f22 = some ⟨oc22, od22, .func (PySem.W.fnOf "is_both" "is_both" (defArgs s_is_both) (defBody s_is_both) (defScope s_is_both) .none kV22 dc22 pm22 an22 cd22 ct22), sl22⟩) (c22 : PySem.W.codeIn K cd22 "is_both" = true) (k22 : PySem.W.keepIn K (.ref f22) = true)
    (a23 : PySem.W.nsIn K mainGlobals "is_pair" = some (some (.ref f23))) (l23 : K.lookup f23 = some ⟨oc23, od23, .func (PySem.W.fnOf "is_pair" "is_pair" (defArgs s_is_pair) (defBody s_is_pair) (defScope s_is_pair) .none kV23 dc23 pm23 an23 cd23 ct23), sl23⟩) (c23 : PySem.W.codeIn K cd23 "is_pair" = true) (k23 : PySem.W.keepIn K (.ref f23) = true)
    (a24 : PySem.W.nsIn K mainGlobals "is_row" = some (some (.ref f24))) (l24 : K.lookup f24 = some ⟨oc24, od24, .func (PySem.W.fnOf "is_row" "is_row" (defArgs s_is_row) (defBody s_is_row) (defScope s_is_row) .none kV24 dc24 pm24 an24 cd24 ct24), sl24⟩) (c24 : PySem.W.codeIn K cd24 "is_row" = true) (k24 : PySem.W.keepIn K (.ref f24) = true)
    (a25 : PySem.W.nsIn K mainGlobals "is_chosen" = some (some (.ref f25))) (l25 : K.lookup f25 = some ⟨oc25, od25, .func (PySem.W.fnOf "is_chosen" "is_chosen" (defArgs s_is_chosen) (defBody s_is_chosen) (defScope s_is_chosen) .none kV25 dc25 pm25 an25 cd25 ct25), sl25⟩) (c25 : PySem.W.codeIn K cd25 "is_chosen" = true) (k25 : PySem.W.keepIn K (.ref f25) = true)
    (a26 : PySem.W.nsIn K mainGlobals "is_walks" = some (some (.ref f26))) (l26 : K.lookup f26 = some ⟨oc26, od26, .func (PySem.W.fnOf "is_walks" "is_walks" (defArgs s_is_walks) (defBody s_is_walks) (defScope s_is_walks) .none kV26 dc26 pm26 an26 cd26 ct26), sl26⟩) (c26 : PySem.W.codeIn K cd26 "is_walks" = true) (k26 : PySem.W.keepIn K (.ref f26) = true)
    (a27 : PySem.W.nsIn K mainGlobals "is_protocol" = some (some (.ref f27))) (l27 : K.lookup f27 = some ⟨oc27, od27, .func (PySem.W.fnOf "is_protocol" "is_protocol" (defArgs s_is_protocol) (defBody s_is_protocol) (defScope s_is_protocol) .none kV27 dc27 pm27 an27 cd27 ct27), sl27⟩) (c27 : PySem.W.codeIn K cd27 "is_protocol" = true) (k27 : PySem.W.keepIn K (.ref f27) = true)
    (a28 : PySem.W.nsIn K mainGlobals "output_of" = some (some (.ref f28))) (l28 : K.lookup f28 = some ⟨oc28, od28, .func (PySem.W.fnOf "output_of" "output_of" (defArgs s_output_of) (defBody s_output_of) (defScope s_output_of) .none kV28 dc28 pm28 an28 cd28 ct28), sl28⟩) (c28 : PySem.W.codeIn K cd28 "output_of" = true) (k28 : PySem.W.keepIn K (.ref f28) = true)
    (a29 : PySem.W.nsIn K mainGlobals "tell" = some (some (.ref f29))) (l29 : K.lookup f29 = some ⟨oc29, od29, .func (PySem.W.fnOf "tell" "tell" (defArgs s_tell) (defBody s_tell) (defScope s_tell) .none kV29 dc29 pm29 an29 cd29 ct29), sl29⟩) (c29 : PySem.W.codeIn K cd29 "tell" = true) (k29 : PySem.W.keepIn K (.ref f29) = true)
    (a30 : PySem.W.nsIn K mainGlobals "_law_cell_at" = some (some (.ref f30))) (l30 : K.lookup f30 = some ⟨oc30, od30, .func (PySem.W.fnOf "_law_cell_at" "_law_cell_at" (defArgs sCell) (defBody sCell) (defScope sCell) .none kV30 dc30 pm30 an30 cd30 ct30), sl30⟩) (c30 : PySem.W.codeIn K cd30 "_law_cell_at" = true) (k30 : PySem.W.keepIn K (.ref f30) = true)
    (a31 : PySem.W.nsIn K mainGlobals "_law_digit" = some (some (.ref f31))) (l31 : K.lookup f31 = some ⟨oc31, od31, .func (PySem.W.fnOf "_law_digit" "_law_digit" (defArgs s__law_digit) (defBody s__law_digit) (defScope s__law_digit) .none kV31 dc31 pm31 an31 cd31 ct31), sl31⟩) (c31 : PySem.W.codeIn K cd31 "_law_digit" = true) (k31 : PySem.W.keepIn K (.ref f31) = true)
    (a32 : PySem.W.nsIn K mainGlobals "_law_of" = some (some (.ref f32))) (l32 : K.lookup f32 = some ⟨oc32, od32, .func (PySem.W.fnOf "_law_of" "_law_of" (defArgs s__law_of) (defBody s__law_of) (defScope s__law_of) .none kV32 dc32 pm32 an32 cd32 ct32), sl32⟩) (c32 : PySem.W.codeIn K cd32 "_law_of" = true) (k32 : PySem.W.keepIn K (.ref f32) = true)
    (a33 : PySem.W.nsIn K mainGlobals "_law_rising" = some (some (.ref f33))) (l33 : K.lookup f33 = some ⟨oc33, od33, .func (PySem.W.fnOf "_law_rising" "_law_rising" (defArgs s__law_rising) (defBody s__law_rising) (defScope s__law_rising) .none kV33 dc33 pm33 an33 cd33 ct33), sl33⟩) (c33 : PySem.W.codeIn K cd33 "_law_rising" = true) (k33 : PySem.W.keepIn K (.ref f33) = true)
    (a34 : PySem.W.nsIn K mainGlobals "_law_outs" = some (some (.ref f34))) (l34 : K.lookup f34 = some ⟨oc34, od34, .func (PySem.W.fnOf "_law_outs" "_law_outs" (defArgs s__law_outs) (defBody s__law_outs) (defScope s__law_outs) .none kV34 dc34 pm34 an34 cd34 ct34), sl34⟩) (c34 : PySem.W.codeIn K cd34 "_law_outs" = true) (k34 : PySem.W.keepIn K (.ref f34) = true)
    (a35 : PySem.W.nsIn K mainGlobals "_law_parts" = some (some (.ref f35))) (l35 : K.lookup f35 = some ⟨oc35, od35, .func (PySem.W.fnOf "_law_parts" "_law_parts" (defArgs s__law_parts) (defBody s__law_parts) (defScope s__law_parts) .none kV35 dc35 pm35 an35 cd35 ct35), sl35⟩) (c35 : PySem.W.codeIn K cd35 "_law_parts" = true) (k35 : PySem.W.keepIn K (.ref f35) = true)
    (a36 : PySem.W.nsIn K mainGlobals "_law_walk" = some (some (.ref f36))) (l36 : K.lookup f36 = some ⟨oc36, od36, .func (PySem.W.fnOf "_law_walk" "_law_walk" (defArgs s__law_walk) (defBody s__law_walk) (defScope s__law_walk) .none kV36 dc36 pm36 an36 cd36 ct36), sl36⟩) (c36 : PySem.W.codeIn K cd36 "_law_walk" = true) (k36 : PySem.W.keepIn K (.ref f36) = true)
    (a37 : PySem.W.nsIn K mainGlobals "_law_scheme" = some (some (.ref f37))) (l37 : K.lookup f37 = some ⟨oc37, od37, .func (PySem.W.fnOf "_law_scheme" "_law_scheme" (defArgs s__law_scheme) (defBody s__law_scheme) (defScope s__law_scheme) .none kV37 dc37 pm37 an37 cd37 ct37), sl37⟩) (c37 : PySem.W.codeIn K cd37 "_law_scheme" = true) (k37 : PySem.W.keepIn K (.ref f37) = true)
    (a38 : PySem.W.nsIn K mainGlobals "_law_weaving" = some (some (.ref f38))) (l38 : K.lookup f38 = some ⟨oc38, od38, .func (PySem.W.fnOf "_law_weaving" "_law_weaving" (defArgs sLawWeav) (defBody sLawWeav) (defScope sLawWeav) .none kV38 dc38 pm38 an38 cd38 ct38), sl38⟩) (c38 : PySem.W.codeIn K cd38 "_law_weaving" = true) (k38 : PySem.W.keepIn K (.ref f38) = true)
    (a39 : PySem.W.nsIn K mainGlobals "_law_odd_rows" = some (some (.ref f39))) (l39 : K.lookup f39 = some ⟨oc39, od39, .func (PySem.W.fnOf "_law_odd_rows" "_law_odd_rows" (defArgs s__law_odd_rows) (defBody s__law_odd_rows) (defScope s__law_odd_rows) .none kV39 dc39 pm39 an39 cd39 ct39), sl39⟩) (c39 : PySem.W.codeIn K cd39 "_law_odd_rows" = true) (k39 : PySem.W.keepIn K (.ref f39) = true)
    (a40 : PySem.W.nsIn K mainGlobals "_law_odd_walks" = some (some (.ref f40))) (l40 : K.lookup f40 = some ⟨oc40, od40, .func (PySem.W.fnOf "_law_odd_walks" "_law_odd_walks" (defArgs s__law_odd_walks) (defBody s__law_odd_walks) (defScope s__law_odd_walks) .none kV40 dc40 pm40 an40 cd40 ct40), sl40⟩) (c40 : PySem.W.codeIn K cd40 "_law_odd_walks" = true) (k40 : PySem.W.keepIn K (.ref f40) = true)
    (a41 : PySem.W.nsIn K mainGlobals "_law_odd" = some (some (.ref f41))) (l41 : K.lookup f41 = some ⟨oc41, od41, .func (PySem.W.fnOf "_law_odd" "_law_odd" (defArgs s__law_odd) (defBody s__law_odd) (defScope s__law_odd) .none kV41 dc41 pm41 an41 cd41 ct41), sl41⟩) (c41 : PySem.W.codeIn K cd41 "_law_odd" = true) (k41 : PySem.W.keepIn K (.ref f41) = true)
    (a42 : PySem.W.nsIn K mainGlobals "_law_refused" = some (some (.ref f42))) (l42 : K.lookup f42 = some ⟨oc42, od42, .func (PySem.W.fnOf "_law_refused" "_law_refused" (defArgs s__law_refused) (defBody s__law_refused) (defScope s__law_refused) .none kV42 dc42 pm42 an42 cd42 ct42), sl42⟩) (c42 : PySem.W.codeIn K cd42 "_law_refused" = true) (k42 : PySem.W.keepIn K (.ref f42) = true)
    (a43 : PySem.W.nsIn K mainGlobals "_law_odd_pair" = some (some (.ref f43))) (l43 : K.lookup f43 = some ⟨oc43, od43, .func (PySem.W.fnOf "_law_odd_pair" "_law_odd_pair" (defArgs s__law_odd_pair) (defBody s__law_odd_pair) (defScope s__law_odd_pair) .none kV43 dc43 pm43 an43 cd43 ct43), sl43⟩) (c43 : PySem.W.codeIn K cd43 "_law_odd_pair" = true) (k43 : PySem.W.keepIn K (.ref f43) = true)
    (a44 : PySem.W.nsIn K mainGlobals "_law_odd_weaving" = some (some (.ref f44))) (l44 : K.lookup f44 = some ⟨oc44, od44, .func (PySem.W.fnOf "_law_odd_weaving" "_law_odd_weaving" (defArgs s__law_odd_weaving) (defBody s__law_odd_weaving) (defScope s__law_odd_weaving) .none kV44 dc44 pm44 an44 cd44 ct44), sl44⟩) (c44 : PySem.W.codeIn K cd44 "_law_odd_weaving" = true) (k44 : PySem.W.keepIn K (.ref f44) = true)
    (a45 : PySem.W.nsIn K mainGlobals "law" = some (some (.ref f45))) (l45 : K.lookup f45 = some ⟨oc45, od45, .func (PySem.W.fnOf "law" "law" (defArgs sLaw) (defBody sLaw) (defScope sLaw) .none kV45 dc45 pm45 an45 cd45 ct45), sl45⟩) (c45 : PySem.W.codeIn K cd45 "law" = true) (k45 : PySem.W.keepIn K (.ref f45) = true)
    (z0 : PySem.W.nsIn K mainGlobals "isinstance" = some none)
    (z1 : PySem.W.nsIn K mainGlobals "int" = some none)
    (z2 : PySem.W.nsIn K mainGlobals "bool" = some none)
    (z3 : PySem.W.nsIn K mainGlobals "len" = some none)
    (z4 : PySem.W.nsIn K mainGlobals "range" = some none)
    (z5 : PySem.W.nsIn K mainGlobals "list" = some none)
    (z6 : PySem.W.nsIn K mainGlobals "tuple" = some none)
    (z7 : PySem.W.nsIn K mainGlobals "all" = some none)
    (z8 : PySem.W.nsIn K mainGlobals "sum" = some none)
    (z9 : PySem.W.nsIn K mainGlobals "min" = some none)
    (z10 : PySem.W.nsIn K mainGlobals "sorted" = some none)
    (z11 : PySem.W.nsIn K mainGlobals "set" = some none)
    (z12 : PySem.W.nsIn K mainGlobals "max" = some none)
    (z13 : PySem.W.nsIn K mainGlobals "zip" = some none)
    (z14 : PySem.W.nsIn K mainGlobals "dict" = some none)
    (z15 : PySem.W.nsIn K mainGlobals "abs" = some none)
    (z16 : PySem.W.nsIn K mainGlobals "repr" = some none)
    (z17 : PySem.W.nsIn K mainGlobals "ValueError" = some none)
    (i0 : PySem.W.nsIn K mainGlobals "MOST_OUTPUT" = some (some (.int 63 tI0)))
    (i1 : PySem.W.nsIn K mainGlobals "STEPS" = some (some (.int 2 tI1)))
    (i2 : PySem.W.nsIn K mainGlobals "MOST_ROUNDS" = some (some (.int 5 tI2)))
    (t0 : PySem.W.nsIn K mainGlobals "HANDS" = some (some (.ref hA0))) (u0 : K.lookup hA0 = some ⟨.type "tuple", odH0, .seq (Array.mk [.int 0 tT0_0, .int 1 tT0_1]) nH0, slH0⟩)
    (t1 : PySem.W.nsIn K mainGlobals "LAST_PLACES" = some (some (.ref hA1))) (u1 : K.lookup hA1 = some ⟨.type "tuple", odH1, .seq (Array.mk [.int 1 tT1_0, .int 3 tT1_1, .int 9 tT1_2, .int 27 tT1_3, .int 81 tT1_4, .int 243 tT1_5]) nH1, slH1⟩)
    (n0 : PySem.W.nsIn K mainGlobals "AloneError" = some (some (.ref cA)))
    (n1 : PySem.W.nsIn K mainGlobals "NoProtocol" = some (some (.ref cP)))
    (n2 : PySem.W.nsIn K mainGlobals "NoInputs" = some (some (.ref cI)))
    (n3 : PySem.W.nsIn K mainGlobals "NoWeaving" = some (some (.ref cW)))
    (n4 : PySem.W.nsIn K mainGlobals "NoRounds" = some (some (.ref cR)))
    (n5 : PySem.W.nsIn K mainGlobals "NoHand" = some (some (.ref cH)))
    (n6 : PySem.W.nsIn K mainGlobals "NoKnown" = some (some (.ref cN)))
    (q_cP : PySem.W.excIn K cP [.type "ValueError", .type "Exception", .type "BaseException", .type "object"] "ValueError.__new__" = true) (kk_cP : PySem.W.keepIn K (.ref cP) = true) (r_cP : raiseB K cP = true)
    (q_cI : PySem.W.excIn K cI [.type "ValueError", .type "Exception", .type "BaseException", .type "object"] "ValueError.__new__" = true) (kk_cI : PySem.W.keepIn K (.ref cI) = true) (r_cI : raiseB K cI = true)
    (q_cW : PySem.W.excIn K cW [.type "ValueError", .type "Exception", .type "BaseException", .type "object"] "ValueError.__new__" = true) (kk_cW : PySem.W.keepIn K (.ref cW) = true) (r_cW : raiseB K cW = true)
    (q_cR : PySem.W.excIn K cR [.type "ValueError", .type "Exception", .type "BaseException", .type "object"] "ValueError.__new__" = true) (kk_cR : PySem.W.keepIn K (.ref cR) = true) (r_cR : raiseB K cR = true)
    (q_cN : PySem.W.excIn K cN [.type "ValueError", .type "Exception", .type "BaseException", .type "object"] "ValueError.__new__" = true) (kk_cN : PySem.W.keepIn K (.ref cN) = true) (r_cN : raiseB K cN = true)
    (xs0 : saidB K cA cP cI cW cR cH cN = true)
    : ∃ fd : FuncData, (∀ (s : Shared) (v : Value), BindsTo s fd ⟨[v], []⟩ [("_law_script", v)]) ∧ ∀ base : Heap, K.In base → base.Ns mainGlobals mg → Quiet l.prog w K mg base 14 fa fd ["_law_script"] (spLaw K) := by
  have e := hfa.symm.trans (PySem.W.mg_of X G a45)
  cases e
  have F1 := fun_mk (st := sWhole) l1 c1 k1
  have b1 := F1.binds (ps := ["thing"]) fun _ _ _ _ _ _ us hl => match us, hl with | [_], _ => rfl
  have F2 := fun_mk (st := sWithin) l2 c2 k2
  have b2 := F2.binds (ps := ["thing", "least", "most"]) fun _ _ _ _ _ _ us hl => match us, hl with | [_, _, _], _ => rfl
  have F3 := fun_mk (st := sHand) l3 c3 k3
  have b3 := F3.binds (ps := ["thing"]) fun _ _ _ _ _ _ us hl => match us, hl with | [_], _ => rfl
  have F4 := fun_mk (st := s_is_rising) l4 c4 k4
  have b4 := F4.binds (ps := ["things"]) fun _ _ _ _ _ _ us hl => match us, hl with | [_], _ => rfl
  have F5 := fun_mk (st := sInputs) l5 c5 k5
  have b5 := F5.binds (ps := ["thing"]) fun _ _ _ _ _ _ us hl => match us, hl with | [_], _ => rfl
  have F6 := fun_mk (st := sWeaving) l6 c6 k6
  have b6 := F6.binds (ps := ["thing", "rounds"]) fun _ _ _ _ _ _ us hl => match us, hl with | [_, _], _ => rfl
  have F7 := fun_mk (st := sPut) l7 c7 k7
  have b7 := F7.binds (ps := ["cells", "at"]) fun _ _ _ _ _ _ us hl => match us, hl with | [_, _], _ => rfl
  have F8 := fun_mk (st := sKnown) l8 c8 k8
  have F9 := fun_mk (st := s_rounds_behind) l9 c9 k9
  have b9 := F9.binds (ps := ["thing"]) fun _ _ _ _ _ _ us hl => match us, hl with | [_], _ => rfl
  have F10 := fun_mk (st := s_agrees) l10 c10 k10
  have b10 := F10.binds (ps := ["one", "other"]) fun _ _ _ _ _ _ us hl => match us, hl with | [_, _], _ => rfl
  have F11 := fun_mk (st := s_met) l11 c11 k11
  have b11 := F11.binds (ps := ["own", "other"]) fun _ _ _ _ _ _ us hl => match us, hl with | [_, _], _ => rfl
  have F12 := fun_mk (st := s_standing) l12 c12 k12
  have b12 := F12.binds (ps := ["thing", "hand", "rounds"]) fun _ _ _ _ _ _ us hl => match us, hl with | [_, _, _], _ => rfl
  have F13 := fun_mk (st := sPlace) l13 c13 k13
  have b13 := F13.binds (ps := ["known", "hand"]) fun _ _ _ _ _ _ us hl => match us, hl with | [_, _], _ => rfl
  have F14 := fun_mk (st := s_is_output) l14 c14 k14
  have b14 := F14.binds (ps := ["thing"]) fun _ _ _ _ _ _ us hl => match us, hl with | [_], _ => rfl
  have F15 := fun_mk (st := s_is_outputs) l15 c15 k15
  have b15 := F15.binds (ps := ["thing"]) fun _ _ _ _ _ _ us hl => match us, hl with | [_], _ => rfl
  have F16 := fun_mk (st := s_is_rows) l16 c16 k16
  have b16 := F16.binds (ps := ["thing"]) fun _ _ _ _ _ _ us hl => match us, hl with | [_], _ => rfl
  have F17 := fun_mk (st := s_is_alone) l17 c17 k17
  have b17 := F17.binds (ps := ["thing"]) fun _ _ _ _ _ _ us hl => match us, hl with | [_], _ => rfl
  have F18 := fun_mk (st := s_is_output_pair) l18 c18 k18
  have b18 := F18.binds (ps := ["thing"]) fun _ _ _ _ _ _ us hl => match us, hl with | [_], _ => rfl
  have F19 := fun_mk (st := s_is_let) l19 c19 k19
  have b19 := F19.binds (ps := ["thing"]) fun _ _ _ _ _ _ us hl => match us, hl with | [_], _ => rfl
  have F20 := fun_mk (st := s_is_input_pair) l20 c20 k20
  have b20 := F20.binds (ps := ["thing", "alone"]) fun _ _ _ _ _ _ us hl => match us, hl with | [_, _], _ => rfl
  have F21 := fun_mk (st := s_each_comes) l21 c21 k21
  have b21 := F21.binds (ps := ["both", "alone", "hand"]) fun _ _ _ _ _ _ us hl => match us, hl with | [_, _, _], _ => rfl
  have F22 := fun_mk (st := s_is_both) l22 c22 k22
  have b22 := F22.binds (ps := ["thing", "alone"]) fun _ _ _ _ _ _ us hl => match us, hl with | [_, _], _ => rfl
  have F23 := fun_mk (st := s_is_pair) l23 c23 k23
  have b23 := F23.binds (ps := ["task", "thing"]) fun _ _ _ _ _ _ us hl => match us, hl with | [_, _], _ => rfl
  have F24 := fun_mk (st := s_is_row) l24 c24 k24
  have b24 := F24.binds (ps := ["thing", "many"]) fun _ _ _ _ _ _ us hl => match us, hl with | [_, _], _ => rfl
  have F25 := fun_mk (st := s_is_chosen) l25 c25 k25
  have b25 := F25.binds (ps := ["task", "thing"]) fun _ _ _ _ _ _ us hl => match us, hl with | [_, _], _ => rfl
  have F26 := fun_mk (st := s_is_walks) l26 c26 k26
  have b26 := F26.binds (ps := ["task", "thing", "many"]) fun _ _ _ _ _ _ us hl => match us, hl with | [_, _, _], _ => rfl
  have F27 := fun_mk (st := s_is_protocol) l27 c27 k27
  have b27 := F27.binds (ps := ["task", "thing"]) fun _ _ _ _ _ _ us hl => match us, hl with | [_, _], _ => rfl
  have F28 := fun_mk (st := s_output_of) l28 c28 k28
  have b28 := F28.binds (ps := ["protocol", "inputs", "hand", "thing"]) fun _ _ _ _ _ _ us hl => match us, hl with | [_, _, _, _], _ => rfl
  have F29 := fun_mk (st := s_tell) l29 c29 k29
  have b29 := F29.binds (ps := ["task", "protocol", "inputs", "weaving"]) fun _ _ _ _ _ _ us hl => match us, hl with | [_, _, _, _], _ => rfl
  have F30 := fun_mk (st := sCell) l30 c30 k30
  have b30 := F30.binds (ps := ["_law_script", "_law_k"]) fun _ _ _ _ _ _ us hl => match us, hl with | [_, _], _ => rfl
  have F31 := fun_mk (st := s__law_digit) l31 c31 k31
  have b31 := F31.binds (ps := ["_law_state", "_law_base"]) fun _ _ _ _ _ _ us hl => match us, hl with | [_, _], _ => rfl
  have F32 := fun_mk (st := s__law_of) l32 c32 k32
  have b32 := F32.binds (ps := ["_law_state", "_law_some"]) fun _ _ _ _ _ _ us hl => match us, hl with | [_, _], _ => rfl
  have F33 := fun_mk (st := s__law_rising) l33 c33 k33
  have b33 := F33.binds (ps := ["_law_state", "_law_some", "_law_most"]) fun _ _ _ _ _ _ us hl => match us, hl with | [_, _, _], _ => rfl
  have F34 := fun_mk (st := s__law_outs) l34 c34 k34
  have b34 := F34.binds (ps := ["_law_state", "_law_some", "_law_most"]) fun _ _ _ _ _ _ us hl => match us, hl with | [_, _, _], _ => rfl
  have F35 := fun_mk (st := s__law_parts) l35 c35 k35
  have b35 := F35.binds (ps := ["_law_state", "_law_most"]) fun _ _ _ _ _ _ us hl => match us, hl with | [_, _], _ => rfl
  have F36 := fun_mk (st := s__law_walk) l36 c36 k36
  have b36 := F36.binds (ps := ["_law_state", "_law_first", "_law_last", "_law_outs_here", "_law_many"]) fun _ _ _ _ _ _ us hl => match us, hl with | [_, _, _, _, _], _ => rfl
  have F37 := fun_mk (st := s__law_scheme) l37 c37 k37
  have b37 := F37.binds (ps := ["_law_state", "_law_alone", "_law_both", "_law_rounds"]) fun _ _ _ _ _ _ us hl => match us, hl with | [_, _, _, _], _ => rfl
  have F38 := fun_mk (st := sLawWeav) l38 c38 k38
  have b38 := F38.binds (ps := ["_law_state", "_law_rounds"]) fun _ _ _ _ _ _ us hl => match us, hl with | [_, _], _ => rfl
  have F39 := fun_mk (st := s__law_odd_rows) l39 c39 k39
  have b39 := F39.binds (ps := ["_law_state", "_law_rows"]) fun _ _ _ _ _ _ us hl => match us, hl with | [_, _], _ => rfl
  have F40 := fun_mk (st := s__law_odd_walks) l40 c40 k40
  have b40 := F40.binds (ps := ["_law_state", "_law_walks", "_law_pairs"]) fun _ _ _ _ _ _ us hl => match us, hl with | [_, _, _], _ => rfl
  have F41 := fun_mk (st := s__law_odd) l41 c41 k41
  have b41 := F41.binds (ps := ["_law_state", "_law_scheme_here", "_law_pairs"]) fun _ _ _ _ _ _ us hl => match us, hl with | [_, _, _], _ => rfl
  have F42 := fun_mk (st := s__law_refused) l42 c42 k42
  have b42 := F42.binds (ps := ["_law_task", "_law_scheme_here", "_law_pair", "_law_weaving_here"]) fun _ _ _ _ _ _ us hl => match us, hl with | [_, _, _, _], _ => rfl
  have F43 := fun_mk (st := s__law_odd_pair) l43 c43 k43
  have b43 := F43.binds (ps := ["_law_state", "_law_pair"]) fun _ _ _ _ _ _ us hl => match us, hl with | [_, _], _ => rfl
  have F44 := fun_mk (st := s__law_odd_weaving) l44 c44 k44
  have b44 := F44.binds (ps := ["_law_state", "_law_rounds"]) fun _ _ _ _ _ _ us hl => match us, hl with | [_, _], _ => rfl
  have F45 := fun_mk (st := sLaw) l45 c45 k45
  have Zc : TxtC K mg C := ⟨⟨pg, hd, po, sa⟩, nA, nB, PySem.W.mg_of X G aC⟩
  have Y1 := fun_mk (st := s_init) yl1 yc1 yk1
  have yb1 := Y1.binds (ps := ["self", "alone", "both"]) fun _ _ _ _ _ _ us hl => match us, hl with | [_, _, _], _ => rfl
  have Y2 := fun_mk (st := s_inputs) yl2 yc2 yk2
  have yb2 := Y2.binds (ps := ["self", "hand"]) fun _ _ _ _ _ _ us hl => match us, hl with | [_, _], _ => rfl
  have Y3 := fun_mk (st := s_pairs) yl3 yc3 yk3
  have yb3 := Y3.binds (ps := ["self"]) fun _ _ _ _ _ _ us hl => match us, hl with | [_], _ => rfl
  have m := fun {n : Str} {v : Value} (e : PySem.W.nsIn K mainGlobals n = some (some v)) => PySem.W.mg_of X G e
  have mz := fun {n : Str} (e : PySem.W.nsIn K mainGlobals n = some none) => PySem.W.mg_none_of X G e
  have T : Txt K mg := ⟨mz z0, mz z1, mz z2, mz z3, mz z4, mz z5, mz z6, mz z7, mz z8, mz z9⟩
  have TT : TB.Txt K mg := ⟨mz z0, mz z1, mz z2, mz z3, mz z4, mz z5, mz z6, mz z7, mz z8, mz z9⟩
  have T2 : Txt2 K mg := ⟨mz z10, mz z11, mz z12, mz z13, mz z14⟩
  have U : TxtH K mg := ⟨_, m t0, fun H => .inr ⟨_, _, _, u0, rfl, rfl, (by show 2 ≤ sizeLine; decide), .cons ⟨_, rfl⟩ (.cons ⟨_, rfl⟩ .nil)⟩⟩
  have UT : TB.Txt2 K mg := ⟨⟨_, m i1⟩, ⟨_, m i2⟩, ⟨_, m t0, fun H => .inr ⟨_, _, _, u0, rfl, rfl, (by show 2 ≤ sizeLine; decide), .cons ⟨_, rfl⟩ (.cons ⟨_, rfl⟩ .nil)⟩⟩⟩
  have UP : TxtP K mg := ⟨⟨_, m t1, fun H => .inr ⟨_, _, _, u1, rfl, rfl, (by show 6 ≤ sizeLine; decide), .cons ⟨_, rfl⟩ (.cons ⟨_, rfl⟩ (.cons ⟨_, rfl⟩ (.cons ⟨_, rfl⟩ (.cons ⟨_, rfl⟩ (.cons ⟨_, rfl⟩ .nil)))))⟩⟩, ⟨_, m i2⟩⟩
  have RcP := raiseB_ok (mg := mg) r_cP (m n1) q_cP kk_cP
  have RcI := raiseB_ok (mg := mg) r_cI (m n2) q_cI kk_cI
  have RcW := raiseB_ok (mg := mg) r_cW (m n3) q_cW kk_cW
  have RcR := raiseB_ok (mg := mg) r_cR (m n4) q_cR kk_cR
  have RcN := raiseB_ok (mg := mg) r_cN (m n6) q_cN kk_cN
  have TS : SaidT mg cA cP cI cW cR cH cN := ⟨mz z0, mz z17, m n0, m n3, m n2, m n1, m n4, m n5, m n6⟩
  have BK := TB.kn_binds F8
  refine ⟨PySem.W.fnOf "law" "law" (defArgs sLaw) (defBody sLaw) (defScope sLaw) .none kV45 dc45 pm45 an45 cd45 ct45, fun s v => .of_eq rfl, fun base _ _ => ?_⟩
  have e1 : Def l.prog w K mg base "is_whole" ["thing"] 1 (spWholeG K) f1 _ := ⟨ok_wholeG F1 T, b1, k1, m a1⟩
  have e2 : Def l.prog w K mg base "is_whole_within" ["thing", "least", "most"] 2 (spWithinG K) f2 _ := ⟨ok_withinG F2 e1, b2, k2, m a2⟩
  have e3 : Def l.prog w K mg base "is_hand" ["thing"] 3 (spHandG K) f3 _ := ⟨ok_handG F3 e2, b3, k3, m a3⟩
  have t1 : TB.Def l.prog w K mg base "is_whole" ["thing"] 1 TB.spWhole f1 _ := ⟨TB.ok_whole F1 TT, b1, k1, m a1⟩
  have tk1 : TB.Def l.prog w K mg base "is_whole" ["thing"] 1 TB.spWholeK f1 _ := ⟨TB.ok_wholeK F1 TT, b1, k1, m a1⟩
  have tx1 : TB.Def l.prog w K mg base "is_whole" ["thing"] 1 (TB.spWholeG K) f1 _ := ⟨TB.ok_wholeG F1 TT, b1, k1, m a1⟩
  have t2 : TB.Def l.prog w K mg base "is_whole_within" ["thing", "least", "most"] 2 TB.spWithin f2 _ := ⟨TB.ok_within F2 t1.G t1.b t1.k t1.m, b2, k2, m a2⟩
  have tx2 : TB.Def l.prog w K mg base "is_whole_within" ["thing", "least", "most"] 2 (TB.spWithinG K) f2 _ := ⟨TB.ok_withinG F2 tx1, b2, k2, m a2⟩
  have t3 : TB.Def l.prog w K mg base "is_hand" ["thing"] 3 TB.spHand f3 _ := ⟨TB.ok_hand F3 t2, b3, k3, m a3⟩
  have tx3 : TB.Def l.prog w K mg base "is_hand" ["thing"] 3 (TB.spHandG K) f3 _ := ⟨TB.ok_handG F3 tx2, b3, k3, m a3⟩
  have t5 : TB.Def l.prog w K mg base "is_inputs" ["thing"] 2 TB.spInputs f5 _ := ⟨TB.ok_inputs F5 TT t1, b5, k5, m a5⟩
  have tx5 : TB.Def l.prog w K mg base "is_inputs" ["thing"] 2 (TB.spInputsG K) f5 _ := ⟨TB.ok_inputsG F5 TT tx1, b5, k5, m a5⟩
  have t6 : TB.Def l.prog w K mg base "is_weaving" ["thing", "rounds"] 4 (TB.spWeaving K) f6 _ := ⟨TB.ok_weaving F6 TT UT t3, b6, k6, m a6⟩
  have tx6 : TB.Def l.prog w K mg base "is_weaving" ["thing", "rounds"] 4 (TB.spWeavingG K) f6 _ := ⟨TB.ok_weavingG F6 TT UT tx3, b6, k6, m a6⟩
  have t7 : TB.Def l.prog w K mg base "put_in" ["cells", "at"] 1 (TB.spPut K) f7 _ := ⟨TB.ok_put F7 TT, b7, k7, m a7⟩
  have KD : KDefX l.prog w K mg base cR cI cW f8 _ := ⟨fnOr (lift0 (TB.ok_known F8 TT UT t2 t5 t6 t7)) (TB.ok_knownX F8 TT UT RcR RcI RcW tx2 tx5 tx6 t7), BK, k8, m a8⟩
  have t9 : TB.Def l.prog w K mg base "rounds_behind" ["thing"] 1 TB.spRb f9 _ := ⟨TB.ok_rb F9 TT UT, b9, k9, m a9⟩
  have t10 : TB.Def l.prog w K mg base "agrees" ["one", "other"] 1 TB.spAgr f10 _ := ⟨TB.ok_agr F10, b10, k10, m a10⟩
  have t11 : TB.Def l.prog w K mg base "met" ["own", "other"] 2 TB.spMet f11 _ := ⟨TB.ok_met F11 (mz z15) t10, b11, k11, m a11⟩
  have eS := fun r => TB.ok_stand (P := l.prog) (w := w) (base := base) F12 TT tk1 t11 b12 k12 (m a12) r
  have PD : TB.PDef l.prog w K mg base cN f13 _ := ⟨TB.ok_place F13 RcN t3 t9 b12 k12 (m a12) (fun r _ => eS r), b13, k13, m a13⟩
  have eRI : Def l.prog w K mg base "is_rising" ["things"] 1 (spRisI K) f4 _ := ⟨ok_risI F4 T, b4, k4, m a4⟩
  have eRP : Def l.prog w K mg base "is_rising" ["things"] 1 (spRisP K) f4 _ := ⟨ok_risP F4 T, b4, k4, m a4⟩
  have e14 : Def l.prog w K mg base "is_output" ["thing"] 3 (spOut K) f14 _ := ⟨ok_out F14 (m i0) e2, b14, k14, m a14⟩
  have e15 : Def l.prog w K mg base "is_outputs" ["thing"] 4 (spOuts K) f15 _ := ⟨ok_outs F15 T e14 eRI, b15, k15, m a15⟩
  have e16 : Def l.prog w K mg base "is_rows" ["thing"] 5 (spRows K) f16 _ := ⟨ok_rows F16 T e15, b16, k16, m a16⟩
  have e17 : Def l.prog w K mg base "is_alone" ["thing"] 6 (spAlone K) f17 _ := ⟨ok_alone F17 T e16, b17, k17, m a17⟩
  have e18 : Def l.prog w K mg base "is_output_pair" ["thing"] 4 (spPairB K) f18 _ := ⟨ok_outpair F18 T e14, b18, k18, m a18⟩
  have e19 : Def l.prog w K mg base "is_let" ["thing"] 5 (spLetB K) f19 _ := ⟨ok_let F19 T e18 eRP, b19, k19, m a19⟩
  have e20 : Def l.prog w K mg base "is_input_pair" ["thing", "alone"] 3 (spInp K) f20 _ := ⟨ok_inp F20 T U e2, b20, k20, m a20⟩
  have eID : Def l.prog w K mg base "is_input_pair" ["thing", "alone"] 3 spInpD f20 _ := ⟨ok_inpD F20 T U e2, b20, k20, m a20⟩
  have e21 : Def l.prog w K mg base "each_comes" ["both", "alone", "hand"] 1 (spEach K) f21 _ := ⟨ok_each F21 T T2, b21, k21, m a21⟩
  have e22 : Def l.prog w K mg base "is_both" ["thing", "alone"] 6 (spBoth K) f22 _ := ⟨ok_both F22 T T2 U e20 e19 e21, b22, k22, m a22⟩
  have tk : KDef l.prog w K mg base C "Task" ["self", "alone", "both"] 7 (spInit K C) y1 _ := ⟨ok_init Y1 T T2 Zc e17 e22, yb1, ⟨mkC, ya1, yi1, kC⟩, Zc.mg⟩
  have inp : MDef l.prog w K mg base C "inputs" nInputs 4 (spInputs K C) y2 _ := ⟨ok_inputs Y2 T Zc e3, yb2, ⟨ya2, yi2, yk2⟩⟩
  have e23 : Def l.prog w K mg base "is_pair" ["task", "thing"] 4 (spPairX K C) f23 _ := ⟨ok_ispairX F23 T Zc e20, b23, k23, m a23⟩
  have eIP : Def l.prog w K mg base "is_pair" ["task", "thing"] 4 (spPairY K C) f23 _ := ⟨fnOr (ok_ispairX F23 T Zc e20) (ok_ispairD F23 T Zc eID), b23, k23, m a23⟩
  have e24 : Def l.prog w K mg base "is_row" ["thing", "many"] 4 (spRow K) f24 _ := ⟨ok_row F24 T e14, b24, k24, m a24⟩
  have e25 : Def l.prog w K mg base "is_chosen" ["task", "thing"] 5 (spChosen K C) f25 _ := ⟨ok_chosen F25 T U Zc e24 inp, b25, k25, m a25⟩
  have e26 : Def l.prog w K mg base "is_walks" ["task", "thing", "many"] 5 (spIsWalksX K C) f26 _ := ⟨ok_iswalksX F26 T T2 Zc e23 e24, b26, k26, m a26⟩
  have e27 : Def l.prog w K mg base "is_protocol" ["task", "thing"] 6 (spIsPrX K C) f27 _ := ⟨ok_isprX F27 T UP Zc e2 e25 e26, b27, k27, m a27⟩
  have e28 : Def l.prog w K mg base "output_of" ["protocol", "inputs", "hand", "thing"] 10 (spOutOf C) f28 _ := ⟨ok_outof F28 UP PD, b28, k28, m a28⟩
  have eT : TDef l.prog w K mg base C cP cI cW f29 _ := ⟨ok_tell F29 T U RcP RcI e27 eIP KD e28, b29, k29, m a29⟩
  have e30 : Def l.prog w K mg base "_law_cell_at" ["_law_script", "_law_k"] 1 (spCell K) f30 _ := ⟨ok_cell F30 T, b30, k30, m a30⟩
  have e31 : Def l.prog w K mg base "_law_digit" ["_law_state", "_law_base"] 1 spDigit f31 _ := ⟨ok_digit F31 T, b31, k31, m a31⟩
  have e32 : Def l.prog w K mg base "_law_of" ["_law_state", "_law_some"] 2 (spOf K) f32 _ := ⟨ok_of F32 T e31, b32, k32, m a32⟩
  have e33 : Def l.prog w K mg base "_law_rising" ["_law_state", "_law_some", "_law_most"] 3 (spRising K) f33 _ := ⟨ok_rs F33 T T2 e31 e32, b33, k33, m a33⟩
  have e34 : Def l.prog w K mg base "_law_outs" ["_law_state", "_law_some", "_law_most"] 3 (spOutsL K) f34 _ := ⟨ok_os F34 T T2 e31 e32, b34, k34, m a34⟩
  have e35 : Def l.prog w K mg base "_law_parts" ["_law_state", "_law_most"] 4 spParts f35 _ := ⟨ok_pa F35 T T2 e31 e32 e33 e34, b35, k35, m a35⟩
  have e36 : Def l.prog w K mg base "_law_walk" ["_law_state", "_law_first", "_law_last", "_law_outs_here", "_law_many"] 3 spWalk f36 _ := ⟨ok_wk F36 T e32, b36, k36, m a36⟩
  have e37 : Def l.prog w K mg base "_law_scheme" ["_law_state", "_law_alone", "_law_both", "_law_rounds"] 4 spScheme f37 _ := ⟨ok_sc F37 T e32 e36, b37, k37, m a37⟩
  have e38 : Def l.prog w K mg base "_law_weaving" ["_law_state", "_law_rounds"] 2 spLWv f38 _ := ⟨ok_lw F38 T e31, b38, k38, m a38⟩
  have e39 : Def l.prog w K mg base "_law_odd_rows" ["_law_state", "_law_rows"] 3 (spOR K) f39 _ := ⟨ok_or F39 T e31 e32, b39, k39, m a39⟩
  have e40 : Def l.prog w K mg base "_law_odd_walks" ["_law_state", "_law_walks", "_law_pairs"] 3 (spOW K C) f40 _ := ⟨ok_ow F40 T T2 e31 e32, b40, k40, m a40⟩
  have e41 : Def l.prog w K mg base "_law_odd" ["_law_state", "_law_scheme_here", "_law_pairs"] 4 (spOdd K C) f41 _ := ⟨ok_od F41 T T2 e31 e32 e39 e40, b41, k41, m a41⟩
  have e42 : Def l.prog w K mg base "_law_refused" ["_law_task", "_law_scheme_here", "_law_pair", "_law_weaving_here"] 12 (spRefused K C) f42 _ := ⟨ok_refused F42 TS (saidB_ok xs0) eT, b42, k42, m a42⟩
  have e43 : Def l.prog w K mg base "_law_odd_pair" ["_law_state", "_law_pair"] 3 (spOP K) f43 _ := ⟨ok_op F43 e32, b43, k43, m a43⟩
  have e44 : Def l.prog w K mg base "_law_odd_weaving" ["_law_state", "_law_rounds"] 3 (spOW2 K) f44 _ := ⟨ok_owv F44 e32, b44, k44, m a44⟩
  exact ok_law F45 T T2 Zc (mz z16) e30 e35 e32 e37 e31 tk e38 e41 e43 e44 e42
theorem walk {l : PySem.W.OpenLaw} {q : Program} {loose : List Str} {XP : (Str → Option Value) → Heap → Prop} {YP : World → Heap → Prop} {d : DefRec} {K : Params → PySem.W.Frag} (hn : l.most = some 63) (hdf : d.params.defaults = [])
    (hY : ∀ (w : World) (h : Heap), YP w h → (K w.params).In h)
    (F : ∀ (w : World) (mg : Str → Option Value) (fa : Addr) (h : Heap), (K w.params).In h → h.Ns mainGlobals mg → mg d.name = some (.ref fa) →
      ∃ fd : FuncData, (∀ (s : Shared) (u : Value), BindsTo s fd ⟨[u], []⟩ [("_law_script", u)]) ∧ ∀ base : Heap, (K w.params).In base → base.Ns mainGlobals mg → Quiet l.prog w (K w.params) mg base 14 fa fd ["_law_script"] (spLaw (K w.params))) :
    PySem.W.WalkO q loose XP YP l.row.toRowW d [] (fun f vs => PySem.call f vs) := by
  refine Att.attach_callB hn hdf fun w s₀ s mg mb fa o pm cd doc a vs ns G Y ho hd hcd hmg hobj hints hlen hbits hg => ?_
  have KX := hY w _ Y
  obtain ⟨fd, hb, hF⟩ := F w mg fa _ KX G.T.g hmg
  exact quiet_end0 KX G.T.g G.T.b G.T.builtins G.T.nolimit hg hobj hints (Nat.le_trans hlen (by decide)) ⟨rfl, by decide, by decide⟩ hF hb fun H hS => ⟨a, ns, rfl, hS, hlen, fun _ => rfl⟩
end TA
open PySem PySem.W PyProof.Rows
set_option maxRecDepth 100000 in
set_option maxHeartbeats 0 in
theorem PySem.Challenge.cw_twoalone_k32_what_cannot_be_told_holds : PySem.Challenge.rw_twoalone_k32_what_cannot_be_told.Holds := by
  w_on; o_law; k_head; (case hw => w_witness2)
  k_fill
  refine TA.walk (l := PySem.Challenge.rw_twoalone_k32_what_cannot_be_told) rfl rfl (fun w h Y => PySem.W.kIn_of Y) ?F
  case F =>
    intro w mg fa h KX G hmg
    refine' TA.all_mk KX G hmg ?aC ?ya1 ?yi1 ?yl1 ?yc1 ?yk1 ?ya2 ?yi2 ?yl2 ?yc2 ?yk2 ?ya3 ?yi3 ?yl3 ?yc3 ?yk3 ?pg ?hd ?po ?sa ?mkC ?kC ?nA ?nB ?a1 ?l1 ?c1 ?k1 ?a2 ?l2 ?c2 ?k2 ?a3 ?l3 ?c3 ?k3 ?a4 ?l4 ?c4 ?k4 ?a5 ?l5 ?c5 ?k5 ?a6 ?l6 ?c6 ?k6 ?a7 ?l7 ?c7 ?k7 ?a8 ?l8 ?c8 ?k8 ?a9 ?l9 ?c9 ?k9 ?a10 ?l10 ?c10 ?k10 ?a11 ?l11 ?c11 ?k11 ?a12 ?l12 ?c12 ?k12 ?a13 ?l13 ?c13 ?k13 ?a14 ?l14 ?c14 ?k14 ?a15 ?l15 ?c15 ?k15 ?a16 ?l16 ?c16 ?k16 ?a17 ?l17 ?c17 ?k17 ?a18 ?l18 ?c18 ?k18 ?a19 ?l19 ?c19 ?k19 ?a20 ?l20 ?c20 ?k20 ?a21 ?l21 ?c21 ?k21 ?a22 ?l22 ?c22 ?k22 ?a23 ?l23 ?c23 ?k23 ?a24 ?l24 ?c24 ?k24 ?a25 ?l25 ?c25 ?k25 ?a26 ?l26 ?c26 ?k26 ?a27 ?l27 ?c27 ?k27 ?a28 ?l28 ?c28 ?k28 ?a29 ?l29 ?c29 ?k29 ?a30 ?l30 ?c30 ?k30 ?a31 ?l31 ?c31 ?k31 ?a32 ?l32 ?c32 ?k32 ?a33 ?l33 ?c33 ?k33 ?a34 ?l34 ?c34 ?k34 ?a35 ?l35 ?c35 ?k35 ?a36 ?l36 ?c36 ?k36 ?a37 ?l37 ?c37 ?k37 ?a38 ?l38 ?c38 ?k38 ?a39 ?l39 ?c39 ?k39 ?a40 ?l40 ?c40 ?k40 ?a41 ?l41 ?c41 ?k41 ?a42 ?l42 ?c42 ?k42 ?a43 ?l43 ?c43 ?k43 ?a44 ?l44 ?c44 ?k44 ?a45 ?l45 ?c45 ?k45 ?z0 ?z1 ?z2 ?z3 ?z4 ?z5 ?z6 ?z7 ?z8 ?z9 ?z10 ?z11 ?z12 ?z13 ?z14 ?z15 ?z16 ?z17 ?i0 ?i1 ?i2 ?t0 ?u0 ?t1 ?u1 ?n0 ?n1 ?n2 ?n3 ?n4 ?n5 ?n6 ?q_cP ?kk_cP ?r_cP ?q_cI ?kk_cI ?r_cI ?q_cW ?kk_cW ?r_cW ?q_cR ?kk_cR ?r_cR ?q_cN ?kk_cN ?r_cN ?xs0
    (case aC => k_is); (case ya1 => k_is); (case yi1 => k_is); (case yl1 => k_is); (case yc1 => k_is); (case yk1 => k_is); (case ya2 => k_is); (case yi2 => k_is); (case yl2 => k_is); (case yc2 => k_is); (case yk2 => k_is); (case ya3 => k_is); (case yi3 => k_is); (case yl3 => k_is); (case yc3 => k_is); (case yk3 => k_is); (case pg => k_is); (case hd => k_is); (case po => k_is); (case sa => k_is); (case mkC => k_is); (case kC => k_is); (case nA => k_is); (case nB => k_is)
    (case a1 => k_is); (case l1 => k_is); (case c1 => k_is); (case k1 => k_is); (case a2 => k_is); (case l2 => k_is); (case c2 => k_is); (case k2 => k_is); (case a3 => k_is); (case l3 => k_is); (case c3 => k_is); (case k3 => k_is); (case a4 => k_is); (case l4 => k_is); (case c4 => k_is); (case k4 => k_is); (case a5 => k_is); (case l5 => k_is); (case c5 => k_is); (case k5 => k_is); (case a6 => k_is); (case l6 => k_is); (case c6 => k_is); (case k6 => k_is); (case a7 => k_is); (case l7 => k_is); (case c7 => k_is); (case k7 => k_is); (case a8 => k_is); (case l8 => k_is); (case c8 => k_is); (case k8 => k_is); (case a9 => k_is); (case l9 => k_is); (case c9 => k_is); (case k9 => k_is); (case a10 => k_is); (case l10 => k_is); (case c10 => k_is); (case k10 => k_is); (case a11 => k_is); (case l11 => k_is); (case c11 => k_is); (case k11 => k_is); (case a12 => k_is); (case l12 => k_is); (case c12 => k_is); (case k12 => k_is); (case a13 => k_is); (case l13 => k_is); (case c13 => k_is); (case k13 => k_is); (case a14 => k_is); (case l14 => k_is); (case c14 => k_is); (case k14 => k_is); (case a15 => k_is); (case l15 => k_is); (case c15 => k_is); (case k15 => k_is); (case a16 => k_is); (case l16 => k_is); (case c16 => k_is); (case k16 => k_is); (case a17 => k_is); (case l17 => k_is); (case c17 => k_is); (case k17 => k_is); (case a18 => k_is); (case l18 => k_is); (case c18 => k_is); (case k18 => k_is); (case a19 => k_is); (case l19 => k_is); (case c19 => k_is); (case k19 => k_is); (case a20 => k_is); (case l20 => k_is); (case c20 => k_is); (case k20 => k_is); (case a21 => k_is); (case l21 => k_is); (case c21 => k_is); (case k21 => k_is); (case a22 => k_is); (case l22 => k_is); (case c22 => k_is); (case k22 => k_is); (case a23 => k_is); (case l23 => k_is); (case c23 => k_is); (case k23 => k_is); (case a24 => k_is); (case l24 => k_is); (case c24 => k_is); (case k24 => k_is); (case a25 => k_is); (case l25 => k_is); (case c25 => k_is); (case k25 => k_is); (case a26 => k_is); (case l26 => k_is); (case c26 => k_is); (case k26 => k_is); (case a27 => k_is); (case l27 => k_is); (case c27 => k_is); (case k27 => k_is); (case a28 => k_is); (case l28 => k_is); (case c28 => k_is); (case k28 => k_is); (case a29 => k_is); (case l29 => k_is); (case c29 => k_is); (case k29 => k_is); (case a30 => k_is); (case l30 => k_is); (case c30 => k_is); (case k30 => k_is); (case a31 => k_is); (case l31 => k_is); (case c31 => k_is); (case k31 => k_is); (case a32 => k_is); (case l32 => k_is); (case c32 => k_is); (case k32 => k_is); (case a33 => k_is); (case l33 => k_is); (case c33 => k_is); (case k33 => k_is); (case a34 => k_is); (case l34 => k_is); (case c34 => k_is); (case k34 => k_is); (case a35 => k_is); (case l35 => k_is); (case c35 => k_is); (case k35 => k_is); (case a36 => k_is); (case l36 => k_is); (case c36 => k_is); (case k36 => k_is); (case a37 => k_is); (case l37 => k_is); (case c37 => k_is); (case k37 => k_is); (case a38 => k_is); (case l38 => k_is); (case c38 => k_is); (case k38 => k_is); (case a39 => k_is); (case l39 => k_is); (case c39 => k_is); (case k39 => k_is); (case a40 => k_is); (case l40 => k_is); (case c40 => k_is); (case k40 => k_is); (case a41 => k_is); (case l41 => k_is); (case c41 => k_is); (case k41 => k_is); (case a42 => k_is); (case l42 => k_is); (case c42 => k_is); (case k42 => k_is); (case a43 => k_is); (case l43 => k_is); (case c43 => k_is); (case k43 => k_is); (case a44 => k_is); (case l44 => k_is); (case c44 => k_is); (case k44 => k_is); (case a45 => k_is); (case l45 => k_is); (case c45 => k_is); (case k45 => k_is); (case z0 => k_is); (case z1 => k_is); (case z2 => k_is); (case z3 => k_is); (case z4 => k_is); (case z5 => k_is); (case z6 => k_is); (case z7 => k_is); (case z8 => k_is); (case z9 => k_is); (case z10 => k_is); (case z11 => k_is); (case z12 => k_is); (case z13 => k_is); (case z14 => k_is); (case z15 => k_is); (case z16 => k_is); (case z17 => k_is); (case i0 => k_is); (case i1 => k_is); (case i2 => k_is); (case t0 => k_is); (case u0 => k_is); (case t1 => k_is); (case u1 => k_is); (case n0 => k_is); (case n1 => k_is); (case n2 => k_is); (case n3 => k_is); (case n4 => k_is); (case n5 => k_is); (case n6 => k_is); (case q_cP => k_exc); (case kk_cP => k_is); (case r_cP => kernel_rfl); (case q_cI => k_exc); (case kk_cI => k_is); (case r_cI => kernel_rfl); (case q_cW => k_exc); (case kk_cW => k_is); (case r_cW => kernel_rfl); (case q_cR => k_exc); (case kk_cR => k_is); (case r_cR => kernel_rfl); (case q_cN => k_exc); (case kk_cN => k_is); (case r_cN => kernel_rfl); (case xs0 => kernel_rfl)
