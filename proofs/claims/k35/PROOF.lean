import PyProof.Rows.All
import Wide.All
import OpenK.AllK
import Wide.FinOn
import HandS.ForMost
import HandS.IsInst
import HandS.DictTup
import HandS.Conv
import HandS.TupSets
import HandS.Walk
import HandS.SetBool
import HandS.DictComp
import HandS.Strs
import HandS.SetFor
import KE.KDictCopyH
import KE.KDictDisplayH
import PyProof.ReprRoads
import PyProof.CallFns
import PyProof.ReprLen
import KE.DataFind
import HandS.Lambda
import HandS.EndTab
import KE.KDictOf
import PyProof.DictMoreH
import PyProof.DictFindH
import PyProof.P3Eq
import HandS.TupLen
import HandS.DictEq
import HandS.ListEq
import HandS.OwnEq
import HandS.Defaults
import HandS.MakeKwOnly
import KE.KDictPairs
import HandS.Style
import HandS.Deep
import HandS.Wide
import HandS.ExcIs
import HandS.ForExc
import HandS.More
import HandS.Star
import HandS.FStr
import HandS.Text
import HandS.EndBits
import KE.KNestM
import PySem.Challenge.RW_twoalone_k35_whole_protocols_of_exchange
set_option Elab.async false
set_option maxRecDepth 100000
set_option maxHeartbeats 4000000
namespace L2
open PySem PySem.Spec PyProof.Rows
set_option linter.unusedVariables false
/-! dicts with tuple keys: their items walked, their keys sorted -/
section
variable {X : Cx} {pins : List (Addr × Obj)} {σ : St} {H : Hp} {s : Shared} {d : Addr} {o : Obj}
/-- a locked dict of tuple keys as it lies: its entries, the keys' tuples, the values -/
theorem Inv.entriesT {kvs : List (List Key × V)} (I : Inv X pins σ H s) (locked : H d = some (.frz o (.dT kvs))) :
    (d == sysModules) = false ∧ ∃ (es : Array DictEntry) (ep : Nat), o.data = .dict es ep ∧ DT.Raw s.heap d es ep ∧ es.size = kvs.length ∧
      ∀ (i : Nat) (k : List Key) (v : V), kvs[i]? = some (k, v) → ∃ (hi : i < es.size) (q : Addr), es[i].key = .ref q ∧ H q = some (.tup (k.map kV)) ∧ RelV v es[i].val := by
  obtain ⟨there, _, notSys, xs, pairs, o', es, ep, found, exact', data, rows, _⟩ := I.hok d _ locked
  rw [there] at found
  cases found
  have sizes : es.size = kvs.length := (size_of_entries rows).trans (Paired.length pairs).symm
  refine ⟨notSys, es, ep, data, ⟨o, there, exact', data⟩, sizes, fun i k v e => ?_⟩
  obtain ⟨b, hb, e1, e2, e3⟩ := paired_get pairs e
  have hi : i < es.size := by rw [sizes]; exact (List.getElem?_eq_some_iff.mp e).1
  have q := entry_at rows i
  rw [hb, Array.getElem?_eq_getElem hi] at q
  have q' : es[i] = entryOfKey (tupleKind (mixKind X.prog X.w)) b := Option.some.inj q
  exact ⟨hi, b.2.1, by rw [q']; rfl, e2, by rw [q']; exact e3⟩
end
/-- the items of the locked dict at d: each a new pair of the key's own tuple and the value -/
def Itit (d : Addr) (o : Obj) (kvs : List (List Key × V)) : It :=
  ⟨fun i H => H d = some (.frz o (.dT kvs)) ∧ i < kvs.length,
   fun i H x H' => ∃ (T q : Addr) (k : List Key) (v : V), kvs[i]? = some (k, v) ∧ H q = some (.tup (k.map kV)) ∧ x = .ref T ∧ H T = none ∧ H' = upd H T (.tup [.ref q, v]),
   fun i H => H d = some (.frz o (.dT kvs)) ∧ kvs.length ≤ i⟩
theorem turn_itemsT {P : Program} {w : World} {K : PySem.W.Frag} {d : Addr} {o : Obj} {es : Array DictEntry} {ep : Nat} {kvs : List (List Key × V)} {elts : List Expr} {kk : Nat} {tpos : Pos} (it : Addr) (hod : o.data = .dict es ep) :
    Turn P w K (.Tuple elts kk tpos) (Itit d o kvs) [it] it (fun i h => ∃ ok ov, IsItemIter h it d i kvs.length ep ok ov) where
  mem := by simp
  obj := fun i h ⟨ok, ov, e⟩ b hb => by
    rw [List.mem_singleton.mp hb]
    exact ⟨_, e, fun v z => nomatch z⟩
  keep := fun i h h' ⟨ok, ov, e⟩ k => ⟨ok, ov, k it (by simp) _ e⟩
  item := by
    rintro X rfl rfl rfl hc i pins s σ H E I hf ⟨ok, ov, he⟩ ⟨hd, hi⟩
    obtain ⟨_, es', ep', hdt, raw, hsz, ent⟩ := I.entriesT hd
    obtain ⟨rfl, rfl⟩ := dict_ep hod hdt
    obtain ⟨⟨k, v⟩, hkv⟩ : ∃ p, kvs[i]? = some p := ⟨kvs[i], List.getElem?_eq_getElem hi⟩
    obtain ⟨hi', q, hkey, hq, rv⟩ := ent i k v hkv
    rw [← hsz] at he
    have hlt : it < s.heap.objs.size := Heap.lt_size he
    refine DT.nextI he raw hi' fun h' out laid grown kept => ?_
    refine ⟨_, rfl, wpAny_letOwnedTupleGo_items (s := { s with heap := h' }) out fun h'' he' sb => ?_⟩
    have laid2 : h''.get? s.heap.objs.size = some { cls := .type "tuple", data := .seq #[es'[i].key, es'[i].val] } := (sb.2 _ (Nat.ne_of_gt hlt)).trans laid
    have pair : ObjOk X.prog X.w (upd H s.heap.objs.size (.tup [.ref q, v])) h'' s.heap.objs.size (.tup [.ref q, v]) :=
      ⟨by show 2 ≤ sizeLine; decide, [es'[i].key, es'[i].val], .cons hkey (.cons rv .nil), ⟨_, laid2, rfl, _, rfl⟩⟩
    have I1 : Inv X pins σ (upd H s.heap.objs.size (.tup [.ref q, v])) { s with heap := h'' } :=
      I.turnedNew (t' := s.toks) (ch := [it]) (fun b ob hb e => (sb.2 b (fun z => hb (List.mem_singleton.mpr z))).trans (kept b ob (fun z => hb (List.mem_singleton.mpr z)) e)) hf (Nat.le_refl _) pair
    refine ⟨.ref s.heap.objs.size, _, I1, rfl, ⟨_, q, k, v, hkv, hq, rfl, I.hok.fresh (Nat.le_refl _), rfl⟩, ⟨es'[i].key, es'[i].val, by rw [← hsz]; exact he'⟩, fun b hb => ?_⟩
    rw [List.mem_singleton.mp hb, upd_ne (Nat.ne_of_lt hlt)]
    exact (hf it (by simp)).1
  done := by
    rintro X rfl rfl rfl hc i pins s σ H E I hf ⟨ok, ov, he⟩ ⟨hd, hi⟩
    obtain ⟨f0, f1, f2, f3, f4, f5⟩ := hf it (by simp)
    obtain ⟨_, es', ep', hdt, raw, hsz, ent⟩ := I.entriesT hd
    obtain ⟨rfl, rfl⟩ := dict_ep hod hdt
    rw [← hsz] at he
    exact DT.endI (I.ok.hd hc) he raw (by omega) fun h' eb => ⟨rfl, I.turned (t' := s.toks) (fun b ob hb e => eb b ob hb e) f0 f1 f3 f4 f5⟩
  self := fun A i s Q E ⟨_, _, e⟩ h => PySem.W.kcp_self e h
/-- for a, b in e.items(): e a locked dict of tuple keys -/
def iItemsT (td : TE) : TI := fun σ H R => td σ H fun x H1 => ∃ d o kvs, x = .ref d ∧ H1 d = some (.frz o (.dT kvs)) ∧ R (Itit d o kvs) H1
theorem pi_itemsT {X : Cx} {e : Expr} {td : TE} {apos cpos : Pos} {elts : List Expr} {kk : Nat} {tpos : Pos} (he : PE X e td) (hbase : attributeBase e "items" X.env (eval e X.env) = eval e X.env := by rfl) (hline : (apos.endLine == cpos.line) = true := by rfl) :
    PI X (.Tuple elts kk tpos) (.Call (.Attribute e "items" apos) [] [] cpos) (iItemsT td) := by
  refine ⟨fun pins s σ H R I h => ?_⟩
  refine wpAny_Call_method (T := "dict") (id := "dict.items") hbase rfl hline F.plainAttrs_dict F.slot_dict_items F.type_dict_items (thn (he.run pins s σ H _ I h) fun u s1 ⟨x, H1, I1, rx, d, o, kvs, ex, hd, q⟩ => ?_)
  subst ex
  obtain rfl : u = Value.ref d := rx
  obtain ⟨notSys, es, ep, hdt, raw, hsz, ent⟩ := I1.entriesT hd
  refine ⟨raw.typeIs, fun b z => ?_, ?_⟩
  · cases z
    obtain ⟨ob, h1, h2, h3⟩ := raw
    exact ⟨ob, h1, h2.2.1⟩
  have I2 : Inv X pins σ H1 { s1 with heap := s1.heap.push { cls := .type "dict_items", data := .fields #[.ref d] } } := I1.kept (t' := s1.toks) fun b ob q => Heap.get?_push_of_some _ q
  have walk : wpAny (model X.prog X.w) X.A (pyIter (.ref s1.heap.objs.size)) (PIE X pins σ (.Tuple elts kk tpos) R) X.xe { s1 with heap := s1.heap.push { cls := .type "dict_items", data := .fields #[.ref d] } } := by
    refine DT.iterI (d := d) ⟨_, Heap.get?_push_size _ rfl, rfl, rfl⟩ (raw.push _) (pi_one (tk := s1.toks) I2 _ (turn_itemsT _ hdt) ⟨.none, .none, ?_⟩ q)
    rw [← hsz]
    exact Heap.get?_push_size _ rfl
  show wpAny _ _ (callWith cpos (.builtin "dict.items") [.ref d] [] []) _ X.xe s1
  exact method_meetsIn F.slot_dict_items F.entry_dict_items rfl (PySem.evalArgs_none ⟨rfl, raw.typeIs, F.args_dict_items_1 _, _, DT.meetsItems (es := es) (ep := ep) notSys, raw, walk⟩)
end L2

set_option Elab.async false
set_option maxRecDepth 100000
set_option maxHeartbeats 4000000
namespace L2
open PySem PySem.Spec PyProof.Rows
set_option linter.unusedVariables false
/-! one core for comprehensions that gather into any thing: what is laid first, and what a turn adds, are parameters -/
section
variable {X : Cx}
/-- the walk of a comprehension that gathers at D: o0 is what stands there first; add says what one turn does to it -/
def tGather (o0 : Addr → HO) (wi : TI) (g : TG) (tt : TT) (add : Addr → St → Hp → (Hp → Prop) → Prop) (vs : List Nat) : TE := fun σ H Q =>
  wi σ H fun J H1 => ∀ D, H1 D = none → ∃ W : Nat → Nat → Hp → Prop, (∃ m, W 0 m (upd H1 D (o0 D))) ∧ ∀ i m H, W i m H →
    (J.stop i H ∧ Q (.ref D) H) ∨
    (J.go i H ∧ ∃ Nx : Hp → Prop, (∀ H', Nx H' → ∃ m', m' < m ∧ W (i + 1) m' H') ∧
      ∀ x H', J.yld i H x H' → g x (wipe σ vs) H' fun σ2 H2 => wipe σ2 vs = wipe σ vs ∧ tt σ2 H2 fun b H3 => if b = true then add D σ2 H3 Nx else Nx H3)
/-- one turn as the machine does it: the next thing, the target, the tests, then Body or the way back -/
def TurnIs (P : Program) (w : World) (A : Around) (target iter : Expr) (ifs : List Expr) (it : Value) (env : Env) (R : Result → Shared → Prop) (Body : (Shared → Prop) → Shared → Prop) (back : Shared → Prop) (s : Shared) : Prop :=
  wpAny (model P w) A (pyNext it) (fun r s₁ => match r with
    | none => R (.ok .next) s₁
    | some v => wpAny (model P w) A (letOwnedTupleGo target it v) (fun _ s₁' =>
        wpAny (model P w) A (assign target env v) (fun _ s₂ =>
          wpAny (model P w) A (forIn ifs true fun c r => if r = true then do let ok ← isTrue c env (eval c env); pure (ForInStep.yield ok) else pure (ForInStep.yield r))
            (fun ok s₃ => if ok = true then Body back s₃ else back s₃) (notedBy (model P w) A env fun e s' => R (.error e) s') s₂)
          (notedBy (model P w) A env fun e s' => R (.error e) s') s₁')
        (notedBy (model P w) A env fun e s' => R (.error e) s') s₁)
    (notedBy (model P w) A env fun e s' => R (.error e) s') s
variable {pins : List (Addr × Obj)} {s : Shared} {σ : L2.St} {H : Hp} {Q : VK} {node tg iter : Expr} {ifs : List Expr} {scope : Scope} {own : List (PySem.Str × Nat)} {pos' : Pos} {wi : TI} {g : TG} {tt : TT}
  {add : Addr → L2.St → Hp → (Hp → Prop) → Prop} {o0 : Addr → HO} {ob : Obj} {mk : Sem Value} {use : Option (Value → Sem Unit)} {Qf : Value → Shared → Prop} {Body : Value → Env → (Result → Shared → Prop) → (Shared → Prop) → Shared → Prop}
theorem gather_core (hc : X.calm = true) (hN : X.N.Nodup) (I : Inv X pins σ H s) (hi : PI X tg iter wi) (ok : BlkOk X.N X.env.scope scope own) (hcl : clausesOf node = [⟨tg, iter, ifs, 0⟩])
    (hmk : ∀ (A : Around) (E : Value → Shared → Prop) (s : Shared) (Q : Value → Shared → Prop), Q (.ref s.heap.objs.size) { s with heap := s.heap.push ob } → wpAny (model X.prog X.w) A mk Q E s)
    (hob : ∀ (h : Heap) (H : Hp), sysModules < h.objs.size → ObjOk X.prog X.w H (h.push ob) h.objs.size (o0 h.objs.size))
    (hloop : ∀ (it : Value) (D : Addr) (env : Env) (R : Result → Shared → Prop) (I : Nat → Shared → Prop), (∀ n s, I n s → TurnIs X.prog X.w X.A tg iter ifs it env R (Body (.ref D) env R) (fun s' => ∃ m, m < n ∧ I m s') s) →
      ∀ n s, I n s → codeAny (model X.prog X.w) X.A (.compLoop node 0 it (.ref D) env) R s)
    (hstart : ∀ (it acc : Value) (env : Env) (R : Result → Shared → Prop) (s : Shared), codeAny (model X.prog X.w) X.A (.compLoop node 0 it acc env) R s →
      wpAny (model X.prog X.w) X.A (pyIter it) (fun it' s' => codeAny (model X.prog X.w) X.A (.compLoop node 0 it' acc env) R s') (notedBy (model X.prog X.w) X.A env fun x s' => R (.error x) s') s →
      codeAny (model X.prog X.w) X.A (.compStart node 0 it acc env) R s)
    (hg : ∀ (s : Shared) (H : Hp) (C : Addr) (cl : List (PySem.Str × Addr)) (fp : List Addr), PG (X.blk s H scope (compEnvC scope cl C X.env) fp) tg g)
    (ht : ∀ (s : Shared) (H : Hp) (C : Addr) (cl : List (PySem.Str × Addr)) (fp : List Addr), PTs (X.blk s H scope (compEnvC scope cl C X.env) fp) ifs tt)
    (hadd : ∀ (s : Shared) (H : Hp) (C : Addr) (cl : List (PySem.Str × Addr)) (fp : List Addr) (D : Addr) (R : Result → Shared → Prop) (Nx : Hp → Prop) (back : Shared → Prop) (pins' : List (Addr × Obj)) (σ2 : L2.St) (H3 : Hp) (s3 : Shared),
      Inv (X.blk s H scope (compEnvC scope cl C X.env) fp) pins' σ2 H3 s3 → add D σ2 H3 Nx → (∀ s' H', Inv (X.blk s H scope (compEnvC scope cl C X.env) fp) pins' σ2 H' s' → Nx H' → back s') → Body (.ref D) (compEnvC scope cl C X.env) R back s3)
    (hs : ∀ x, foldedSetIterable iter X.env x = pure x) (h : tGather o0 wi g tt add (own.map (·.2)) σ H Q)
    (hRR : ∀ D C s' m H', Inv X pins σ H' s' → Q (.ref D) H' → s'.heap.Ns C m → FpOk X pins H' C → compPost (model X.prog X.w) X.A X.xe use Qf (.ref D) C (.ok .next) s') :
    wpAny (model X.prog X.w) X.A (comprehension node scope X.env pos' mk false (eval iter X.env) use) Qf X.xe s := by
  have free : ∀ y ∈ scope.names, y.2 = .free → ∃ c, X.env.cells.lookup y.1 = some c := fun y hy e => (ok.free y hy e).elim (fun k => I.ok.has _ (.inl k)) (fun k => I.ok.has _ (.inr k))
  refine wpAny_comprehension_free (use := use) hcl hs (closure_ok free) ok.kind (fun y hy e => by rw [ok.uniq y hy, e]) (thn (hi.run pins s σ H _ I h) fun xv s1 hx => thn hx fun itv s2 h2 => ?_)
  obtain ⟨it, fp, tn, J, H2, e, I2, T, st2, f2, q⟩ := h2
  subst e
  refine hmk _ _ _ _ (newEnv_comp ?_)
  obtain ⟨W, ⟨m0, w0⟩, turn⟩ := q s2.heap.objs.size (I2.hok.fresh (Nat.le_refl _))
  have I3 : Inv X pins σ (upd H2 s2.heap.objs.size (o0 s2.heap.objs.size)) ({ s2 with heap := s2.heap.push ob } : Shared) :=
    I2.laid (t' := s2.toks) (fun b o e => Heap.get?_push_of_some _ e) (Nat.le_refl _) (hob _ _ I2.big)
  have f3 : ∀ b ∈ fp, FpOk X pins (upd H2 s2.heap.objs.size (o0 s2.heap.objs.size)) b ∧ b < (s2.heap.push ob).objs.size := fun b hb => by
    obtain ⟨o, e, _⟩ := T.obj _ _ st2 b hb
    have lt := Heap.lt_size e
    exact ⟨⟨by rw [upd_ne (Nat.ne_of_lt lt)]; exact (f2 b hb).1, (f2 b hb).2⟩, by rw [Heap.size_push]; exact Nat.lt_succ_of_lt lt⟩
  have st3 : tn 0 (s2.heap.push ob) := T.keep _ _ _ st2 fun b _ o e => Heap.get?_push_of_some _ e
  generalize hD : s2.heap.objs.size = D at I3 w0 turn f3 ⊢
  generalize hs3 : ({ s2 with heap := s2.heap.push ob } : Shared) = s3 at I3 ⊢
  have h3 : s3.heap = s2.heap.push ob := by rw [← hs3]
  rw [← h3] at f3 st3
  generalize upd H2 D (o0 D) = H3 at I3 w0 f3
  have I4 := block_start I3 ok hN f3
  have pg := hg s3 H3 s3.heap.objs.size (cellsFrom (s3.heap.objs.size + 1) scope.names (cloFrom X.env.cells scope.names [])) fp
  have pt := ht s3 H3 s3.heap.objs.size (cellsFrom (s3.heap.objs.size + 1) scope.names (cloFrom X.env.cells scope.names [])) fp
  have pa := hadd s3 H3 s3.heap.objs.size (cellsFrom (s3.heap.objs.size + 1) scope.names (cloFrom X.env.cells scope.names [])) fp
  show codeAny _ _ (.compStart node 0 (.ref it) (.ref D) (compEnvC scope (cellsFrom (s3.heap.objs.size + 1) scope.names (cloFrom X.env.cells scope.names [])) s3.heap.objs.size X.env)) (compPost (model X.prog X.w) X.A X.xe use Qf (.ref D) s3.heap.objs.size) { s3 with heap := pushCells (s3.heap.push { cls := .type "dict", data := .dict #[] }) scope.names }
  generalize hce : compEnvC scope (cellsFrom (s3.heap.objs.size + 1) scope.names (cloFrom X.env.cells scope.names [])) s3.heap.objs.size X.env = ce at I4 pg pt pa ⊢
  have cL : ce.locals = s3.heap.objs.size := by subst hce; rfl
  generalize hs4 : ({ s3 with heap := pushCells (s3.heap.push { cls := .type "dict", data := .dict #[] }) scope.names } : Shared) = s4 at I4 ⊢
  have st4 : tn 0 s4.heap := T.keep _ _ _ st3 fun b _ o e => by rw [← hs4]; exact pushCells_keeps _ _ _ _ (Heap.get?_push_of_some _ e)
  have still : ∀ {σ' : L2.St} {H' : Hp} {s' : Shared}, Inv (X.blk s3 H3 scope ce fp) [] σ' H' s' → (∀ b ∈ fp, H' b = none) → ∀ b ∈ fp, FpOk (X.blk s3 H3 scope ce fp) [] H' b := fun I' hn b hb =>
    ⟨hn b hb, (I'.ok.exf b hb).1, I'.ok.exfs b hb, .inl hb, fun x c e => (I'.ok.exf b hb).2 x c e, fun p hp => absurd (show p ∈ ([] : List (Addr × Obj)) ++ [] from hp) (by simp)⟩
  have loop := hloop (.ref it) D ce (compPost (model X.prog X.w) X.A X.xe use Qf (.ref D) s3.heap.objs.size)
    (fun n s' => ∃ i H', Inv (X.blk s3 H3 scope ce fp) [] (wipe σ (own.map (·.2))) H' s' ∧ tn i s'.heap ∧ (∀ b ∈ fp, H' b = none) ∧ W i n H') ?_ m0 s4 ⟨0, H3, I4, st4, fun b hb => (f3 b hb).1.1, w0⟩
  · exact hstart _ _ _ _ _ loop (T.self X.A 0 _ _ _ st4 loop)
  rintro n s5 ⟨i, H5, I5, st5, n5, w5⟩
  rcases turn i n H5 w5 with ⟨stop, qq⟩ | ⟨go, Nx, hNx, step⟩
  · refine thnF (T.done (X.blk s3 H3 scope ce fp) rfl rfl rfl hc i [] s5 _ H5 (fun _ _ => False) I5 (still I5 n5) st5 stop) fun r s6 ⟨hr, I6⟩ => ?_
    subst hr
    have I7 : Inv X pins σ H5 s6 := I3.call' (ch := fp) I6.os I6.base I6.hok I6.bare fun b hb => ⟨(f3 b hb).1.2.2.2.1, (f3 b hb).1.2.1, (f3 b hb).1.2.2.2.2.1, (f3 b hb).1.2.2.2.2.2⟩
    have nC : H5 s3.heap.objs.size = none := by
      have z : H5 ce.locals = none := I6.free
      rwa [cL] at z
    obtain ⟨m, hn, _⟩ := I6.loc
    have hn : s6.heap.Ns ce.locals m := hn
    rw [cL] at hn
    exact hRR D s3.heap.objs.size s6 m H5 I7 qq hn (I3.fpOk (Nat.le_refl _) nC)
  · refine thnF (T.item (X.blk s3 H3 scope ce fp) rfl rfl rfl hc i [] s5 _ H5 (fun _ _ => False) I5 (still I5 n5) st5 go) fun r s6 ⟨u, hr, h6⟩ => ?_
    subst hr
    refine thnF h6 fun _ s7 ⟨x, H7, I7, r7, y7, st7, n7⟩ => ?_
    refine thnF (pg.run _ s7 _ H7 x u _ (I7.pinned (still I7 n7) (T.obj _ _ st7)) r7 (step x H7 y7)) fun _ s8 ⟨σ8, H8, I8, hw8, q8⟩ => ?_
    refine thnF (pt.run _ s8 σ8 H8 _ I8 q8) fun b s9 ⟨H9, I9, q9⟩ => ?_
    have again : ∀ (s' : Shared) (H' : Hp), Inv (X.blk s3 H3 scope ce fp) ([] ++ pinsAt fp s7.heap) σ8 H' s' → Nx H' → ∃ m, m < n ∧ ∃ i H', Inv (X.blk s3 H3 scope ce fp) [] (wipe σ (own.map (·.2))) H' s' ∧ tn i s'.heap ∧ (∀ b ∈ fp, H' b = none) ∧ W i m H' := fun s' H' I' nx => by
      obtain ⟨m', hm, w'⟩ := hNx H' nx
      have stands : ∀ b ∈ fp, ∀ o, s7.heap.get? b = some o → s'.heap.get? b = some o ∧ H' b = none := fun b hb o e =>
        let z := I'.pin (b, o) (List.mem_append_right _ (List.mem_append_right _ (mem_pinsAt hb e)))
        ⟨z.1, z.2.1⟩
      refine ⟨m', hm, i + 1, H', (I'.unpinned (pins := [])).weak (by rw [← hw8, wipe_length]) (fun j v e => ?_), T.keep _ _ _ st7 fun b hb o e => (stands b hb o e).1, fun b hb => ?_, w'⟩
      · rw [← hw8] at e
        exact (wipe_some e).1
      · obtain ⟨o, e, _⟩ := T.obj _ _ st7 b hb
        exact (stands b hb o e).2
    cases b with
    | false => exact again s9 H9 I9 q9
    | true => exact pa D _ Nx _ _ σ8 H9 s9 I9 q9 again
end
end L2

set_option Elab.async false
set_option maxRecDepth 100000
set_option maxHeartbeats 4000000
namespace L2
open PySem PySem.Spec PyProof.Rows PpSet
set_option linter.unusedVariables false
/-! the core taken twice: sets of ints, dicts with tuple keys; len of a set -/
/-- a set as it is made -/
abbrev bareSet (w : World) : Obj := { cls := .type "set", dict := none, data := .set #[] 0 (.fresh 0 0 (!w.params.followText "set-order")) }
section
variable {X : Cx}
/-- a turn of {e for ..}, e an int -/
def addI (w : World) (te : TE) : Addr → L2.St → Hp → (Hp → Prop) → Prop := fun D σ H Nx => te σ H fun y H1 => ∃ (k : Int) (S : Int → Bool) (n : Nat), y = .int k ∧ H1 D = some (SetO w D S n) ∧ n + 1 < scanBound ∧
  Nx (upd H1 D (SetO w D (fun j => S j || decide (j = k)) (if S k = true then n else n + 1)))
theorem pe_scI {elt tg iter : Expr} {ifs : List Expr} {scope : Scope} {own : List (PySem.Str × Nat)} {pos : Pos} {wi : TI} {g : TG} {tt : TT} {te : TE} (hc : X.calm = true) (hN : X.N.Nodup) (hi : PI X tg iter wi) (ok : BlkOk X.N X.env.scope scope own)
    (hg : ∀ (s : Shared) (H : Hp) (C : Addr) (cl : List (PySem.Str × Addr)) (fp : List Addr), PG (X.blk s H scope (compEnvC scope cl C X.env) fp) tg g)
    (ht : ∀ (s : Shared) (H : Hp) (C : Addr) (cl : List (PySem.Str × Addr)) (fp : List Addr), PTs (X.blk s H scope (compEnvC scope cl C X.env) fp) ifs tt)
    (he : ∀ (s : Shared) (H : Hp) (C : Addr) (cl : List (PySem.Str × Addr)) (fp : List Addr), PE (X.blk s H scope (compEnvC scope cl C X.env) fp) elt te)
    (hs : ∀ x, foldedSetIterable iter X.env x = pure x := by intro _; rfl) :
    PE X (.SetComp elt [⟨tg, iter, ifs, 0⟩] scope pos) (tGather (fun D => SetO X.w D (fun _ => false) 0) wi g tt (addI X.w te) (own.map (·.2))) := by
  refine ⟨fun pins s σ H Q I h => ?_⟩
  rw [eval_SetComp]
  refine gather_core (ob := bareSet X.w) (mk := newSet (.type "set")) (o0 := fun D => SetO X.w D (fun _ => false) 0) (add := addI X.w te)
    (Body := fun acc env R back s => wpAny (model X.prog X.w) X.A (eval elt env) (fun x s4 => wpAny (model X.prog X.w) X.A (call (.builtin "set.add") [acc, x]) (fun _ s5 => back s5) (notedBy (model X.prog X.w) X.A env fun e s' => R (.error e) s') s4)
      (notedBy (model X.prog X.w) X.A env fun e s' => R (.error e) s') s)
    hc hN I hi ok rfl (fun A E s Q q => newSet_ok q) (fun h H hb => setO_new (setR_fresh X.w)) (fun it D env R I turn n s => compLoopS_any I turn n) (fun it acc env R s a b => codeAny_compStart_set a b) hg ht ?_ hs h ?_
  · intro s H C cl fp D R Nx back pins' σ2 H3 s3 I3 q3 k
    refine thnF ((he s H C cl fp).run _ s3 σ2 H3 _ I3 q3) fun z s4 ⟨yv, H4, I4, r4, n, S, m, ey, hD, room, nx⟩ => ?_
    subst ey
    obtain ⟨tk, rfl⟩ := r4
    refine setR_add (setO_get (X := X.blk s H scope (compEnvC scope cl C X.env) fp) I4 hD) room fun h' sb new => k _ _ (I4.write (e := D) (t' := s4.toks + 1) (by rw [hD]; trivial) (.inl rfl) (fun b u hb hu => (sb.2 b hb).trans hu) ?_ (setO_new new)) nx
    have ⟨o, _, _, _, ho, _⟩ := new
    exact ⟨o, ho⟩
  · intro D C s' m H' I' q hn ⟨f0, f1, f2, f3, f4, f5⟩
    exact ⟨m, hn, fun h'' sb => ⟨.ref D, H', I'.turned (t' := s'.toks) (fun b o hb e => (sb.2 b hb).trans e) f0 f1 f3 f4 f5, rfl, q⟩⟩
/-- len of such a set -/
def rLenSI (w : World) : List V → Hp → VK → Prop := fun xs H Q => ∃ (a : Addr) (S : Int → Bool) (n : Nat), xs = [.ref a] ∧ H a = some (SetO w a S n) ∧ Q (.int (n : Int)) H
theorem call_len_SI : CallR X (.builtin "len") (rLenSI X.w) := by
  intro pins s σ H vs us Q I r h
  obtain ⟨a, S, n, rfl, ha, q⟩ := h
  rw [Vals.ref1 r]
  obtain ⟨o, es, ep, t, ho, hex, hd, _, _, _, small, fits, hn, _⟩ := setO_get I ha
  have lim : es.size < 2 ^ 62 := Nat.lt_trans small (by unfold scanBound; decide)
  refine call_len_set ho hex hd fits (by omega) ⟨.int n, H, (I.tok _).tok _, ⟨_, by rw [hn]⟩, q⟩
/-- a turn of {k: e for ..}, k a tuple of ints and texts -/
def addT (tk tv : TE) : Addr → L2.St → Hp → (Hp → Prop) → Prop := fun D σ H Nx => tk σ H fun y H1 => tv σ H1 fun z H2 => ∃ (kvs : List (List Key × V)) (k : List Key) (b : Addr), y = .ref b ∧ H2 b = some (.tup (k.map kV)) ∧ H2 D = some (.dT kvs) ∧ kvs.length < sizeLine ∧
  Nx (upd H2 D (.dT (putK kvs k z)))
theorem pe_dcT {kx vx tg iter : Expr} {ifs : List Expr} {scope : Scope} {own : List (PySem.Str × Nat)} {pos : Pos} {wi : TI} {g : TG} {tt : TT} {tk tv : TE} (hu : X.A.units + 1 < cLine) (hc : X.calm = true) (hN : X.N.Nodup) (hi : PI X tg iter wi) (ok : BlkOk X.N X.env.scope scope own)
    (hg : ∀ (s : Shared) (H : Hp) (C : Addr) (cl : List (PySem.Str × Addr)) (fp : List Addr), PG (X.blk s H scope (compEnvC scope cl C X.env) fp) tg g)
    (ht : ∀ (s : Shared) (H : Hp) (C : Addr) (cl : List (PySem.Str × Addr)) (fp : List Addr), PTs (X.blk s H scope (compEnvC scope cl C X.env) fp) ifs tt)
    (hk : ∀ (s : Shared) (H : Hp) (C : Addr) (cl : List (PySem.Str × Addr)) (fp : List Addr), PE (X.blk s H scope (compEnvC scope cl C X.env) fp) kx tk)
    (he : ∀ (s : Shared) (H : Hp) (C : Addr) (cl : List (PySem.Str × Addr)) (fp : List Addr), PE (X.blk s H scope (compEnvC scope cl C X.env) fp) vx tv)
    (hs : ∀ x, foldedSetIterable iter X.env x = pure x := by intro _; rfl) :
    PE X (.DictComp kx vx [⟨tg, iter, ifs, 0⟩] scope pos) (tGather (fun _ => .dT []) wi g tt (addT tk tv) (own.map (·.2))) := by
  refine ⟨fun pins s σ H Q I h => ?_⟩
  rw [arm_eval_DictComp]
  refine gather_core (ob := { cls := .type "dict", data := .dict #[] }) (mk := newDict) (o0 := fun _ => .dT []) (add := addT tk tv)
    (Body := fun acc env R back s => match acc with
      | .ref D => wpAny (model X.prog X.w) X.A (eval kx env) (fun kv s4 => wpAny (model X.prog X.w) X.A (eval vx env) (fun vv s5 => wpAny (model X.prog X.w) X.A (dictSet D kv vv) (fun _ s6 => back s6) (notedBy (model X.prog X.w) X.A env fun e s' => R (.error e) s') s5)
          (notedBy (model X.prog X.w) X.A env fun e s' => R (.error e) s') s4) (notedBy (model X.prog X.w) X.A env fun e s' => R (.error e) s') s
      | _ => False)
    hc hN I hi ok rfl (fun A E s Q q => wpAny_newObj_type q) (fun h H hb => dt_empty h hb) (fun it D env R I turn n s => compLoop_anyD I turn n) (fun it acc env R s a b => codeAny_compStart_dict a b) hg ht ?_ hs h ?_
  · intro s H C cl fp D R Nx back pins' σ2 H3 s3 I3 q3 k
    refine thnF ((hk s H C cl fp).run _ s3 σ2 H3 _ I3 q3) fun z s4 ⟨yk, H4, I4, r4, q4⟩ => ?_
    refine thnF ((he s H C cl fp).run _ s4 σ2 H4 _ I4 q4) fun z2 s5 ⟨yv, H5, I5, r5, kvs, ks, b, ey, hb, hD, hz, nx⟩ => ?_
    subst ey
    cases (show z = Value.ref b from r4)
    obtain ⟨hl, hd, xs, rel, dd⟩ := dt_of I5.hok hD
    have hz' : xs.length ≤ sizeLine := by rw [← Paired.length rel]; exact hl
    have grown : (putK kvs ks yv).length ≤ sizeLine := by have := length_putK kvs ks yv; omega
    refine wpAny_dictSet_heap (hsz := hz') (show X.A.units < cLine by omega) (key_of I5.hok hb) dd fun h' dd' same => k _ _ ?_ nx
    obtain ⟨q, es, ep, hq, h2, h3, h4, _, h5⟩ := dd'
    refine d_write I5 (by rw [hD]; exact True.intro) same ⟨q, hq⟩ ⟨grown, hd, _, (rel.put ks hb r5).keeps fun c ys ec => ?_, q, es, ep, hq, h2, h3, h4, h5⟩
    rw [upd_ne (ne_of ec hD (fun z => nomatch z))]
    exact ec
  · intro D C s' m H' I' q hn ⟨f0, f1, f2, f3, f4, f5⟩
    exact ⟨m, hn, fun h'' sb => ⟨.ref D, H', I'.turned (t' := s'.toks) (fun b o hb e => (sb.2 b hb).trans e) f0 f1 f3 f4 f5, rfl, q⟩⟩
end
end L2

set_option Elab.async false
set_option maxRecDepth 100000
set_option maxHeartbeats 4000000
namespace L2
open PySem PySem.Spec PyProof.Rows
set_option linter.unusedVariables false
/-! sorted(d), d a dict whose keys are tuples of ints -/
def rSortDT (d : Nat) (B : Int) : List V → Hp → VK → Prop := fun vs H Q => ∃ (a : Addr) (kvs : List (List Key × V)) (nss : List (List Int)), vs = [V.ref a] ∧ Rd H a (.dT kvs) ∧ kvs.map (·.1) = nss.map (fun ns => ns.map Sum.inl) ∧ nss.length < 64 ∧
  (∀ ns ∈ nss, ns.length = d ∧ TS.Bd B ns) ∧
  ∀ (L : List (Addr × List Int)) (p : Addr), (L.map (·.2)).Perm nss → L.Pairwise (fun q r => TS.code B q.2 ≤ TS.code B r.2) → (∀ q ∈ L, H q.1 = some (.tup (q.2.map V.int))) → H p = none → Q (.ref p) (upd H p (.lst (L.map fun q => V.ref q.1)))
theorem inl_inj : ∀ {a b : List Int}, a.map (Sum.inl : Int → Key) = b.map Sum.inl → a = b
  | [], [], _ => rfl
  | x :: a, y :: b, e => by
    rw [List.map_cons, List.map_cons] at e
    injection e with e1 e2
    rw [Sum.inl.inj e1, inl_inj e2]
  | [], _ :: _, e => by cases e
  | _ :: _, [], e => by cases e
section
variable {X : Cx}
theorem cr_sortedDT {d : Nat} {B : Int} (hd1 : 1 ≤ d) (hc : X.calm = true) : CallR X (.builtin "sorted") (rSortDT d B) := by
  intro pins s σ H vs us Q I r h
  obtain ⟨a, kvs, nss, rfl, hR, hkeys, few, hB, q⟩ := h
  rw [Vals.ref1 r]
  obtain ⟨hz, notSys, ks, pairs, o, es, ep, ho, hx, hdt, rows, nd⟩ := (show ObjOk X.prog X.w H s.heap a (.dT kvs) from hR.ok I.hok)
  have l1 : es.size = ks.length := size_of_entries rows
  have l2 : kvs.length = ks.length := Paired.length pairs
  have l3 : kvs.length = nss.length := by have e := congrArg List.length hkeys; rwa [List.length_map, List.length_map] at e
  -- each row: its tuple, by number
  have row : ∀ (j : Nat) (x : List Key × Addr × Value), ks[j]? = some x → ∃ ns, nss[j]? = some ns ∧ H x.2.1 = some (.tup (ns.map V.int)) := fun j x hj => by
    have lt : j < kvs.length := by have := (List.getElem?_eq_some_iff.mp hj).1; omega
    obtain ⟨b, hb, e1, e2, _⟩ := paired_get pairs (List.getElem?_eq_getElem lt)
    rw [hj] at hb
    cases hb
    have e3 : (kvs.map (·.1))[j]? = some kvs[j].1 := by rw [List.getElem?_map, List.getElem?_eq_getElem lt]; rfl
    rw [hkeys, List.getElem?_map] at e3
    obtain ⟨ns, hns, e4⟩ := Option.map_eq_some_iff.mp e3
    refine ⟨ns, hns, ?_⟩
    rw [e2, ← e4, List.map_map]
    rfl
  refine Calls.call_function_entry kind_sorted plain_sorted entry_sorted (args_sorted1 _) ?_
  unfold Builtin.«sorted»
  refine wpAny_bind (m := checkCount "sorted" 1 1 _) (wpAny_pure ?_)
  refine wpAny_bind (PySem.W.kdu_collect (A := X.A.in1) (kdl_raw notSys hx hdt) (I.ok.hd hc) ho (by omega) fun h' tk acc kept its => ?_)
  have eq : acc.toList = ks.map fun x => Value.ref x.2.1 := by
    apply List.ext_getElem?
    intro j
    rw [List.getElem?_map]
    rcases Nat.lt_or_ge j ks.length with lt | ge
    · have hacc : j < acc.toList.length := by rw [Array.length_toList, its.1, l1]; exact lt
      obtain ⟨en, hen, hv⟩ := its.2 j acc.toList[j] (by rw [← Array.getElem?_toList]; exact List.getElem?_eq_getElem hacc)
      have qe := entry_at rows j
      rw [hen, List.getElem?_eq_getElem lt] at qe
      have e2 : en = entryOfKey (tupleKind (mixKind X.prog X.w)) ks[j] := Option.some.inj qe
      rw [List.getElem?_eq_getElem hacc, List.getElem?_eq_getElem lt, hv, e2]
      rfl
    · rw [List.getElem?_eq_none (by rw [Array.length_toList, its.1, l1]; exact ge), List.getElem?_eq_none ge]
      rfl
  have I1 : Inv X pins σ H { s with heap := h', toks := tk } := I.kept kept
  refine wpAny_bind (wpAny_newList ?_ (by rw [eq, List.length_map, sizeLine_eq]; omega))
  have made : (h'.push (seqObj "list" acc.toList.toArray 0)).get? h'.objs.size = some (seqObj "list" acc.toList.toArray 0) := Heap.get?_push_size _ rfl
  generalize hvs : acc.toList = vs at made eq ⊢
  have I2 : Inv X pins σ H { s with heap := h'.push (seqObj "list" vs.toArray 0), toks := tk } := I1.kept (t' := tk) fun b o e => Heap.get?_push_of_some _ e
  have tups : ∀ v ∈ vs, ∃ (b : Addr) (ns : List Int), v = .ref b ∧ ns ∈ nss ∧ H b = some (.tup (ns.map V.int)) ∧ TS.TupInts (h'.push (seqObj "list" vs.toArray 0)) v ns := fun v hv => by
    rw [eq] at hv
    obtain ⟨x, hx, rfl⟩ := List.mem_map.mp hv
    obtain ⟨j, hj⟩ := List.getElem?_of_mem hx
    obtain ⟨ns, h1, h2⟩ := row j x hj
    obtain ⟨_, ws, rv, it⟩ := (show ObjOk X.prog X.w H (h'.push (seqObj "list" vs.toArray 0)) x.2.1 (.tup (ns.map V.int)) from I2.hok _ _ h2)
    exact ⟨_, ns, rfl, List.mem_of_getElem? h1, h2, _, ws.toArray, rfl, it, by simpa using rv.ints⟩
  show wpAny _ _ _ _ _ { s with heap := h'.push (seqObj "list" vs.toArray 0), toks := tk }
  refine wpAny_bind (wpAny_holding (TS.call_sort_tups (d := d) (B := B) (s := { s with heap := h'.push (seqObj "list" vs.toArray 0), toks := tk }) made (by rw [eq, List.length_map]; omega) hd1 (fun v hv => ?_) fun out a1 a2 => ?_))
  · obtain ⟨b, ns, _, h1, _, h2⟩ := tups v hv
    exact ⟨ns, h2, (hB ns h1).1, (hB ns h1).2⟩
  obtain ⟨e', he'⟩ := sortedHeap_at (vs := vs) (out := out) made
  have kept2 : ∀ b u, h'.get? b = some u → (sortedHeap (h'.push (seqObj "list" vs.toArray 0)) h'.objs.size vs out).get? b = some u := fun b u e => by
    have hb : b < h'.objs.size := Heap.lt_size e
    rw [sortedHeap_old (Nat.ne_of_lt hb) (by rw [size_push']; exact Nat.lt_succ_of_lt hb)]
    exact Heap.get?_push_of_some _ e
  -- the rows that come out
  have L0 : ∀ ws : List Value, (∀ v ∈ ws, v ∈ vs) → ∃ L : List (Addr × List Int), ws = L.map (fun q => Value.ref q.1) ∧ L.map (·.2) = ws.map (TS.intsOf (h'.push (seqObj "list" vs.toArray 0))) ∧ ∀ q ∈ L, H q.1 = some (.tup (q.2.map V.int)) := by
    intro ws
    induction ws with
    | nil => intro _; exact ⟨[], rfl, rfl, fun q hq => by cases hq⟩
    | cons v ws ih =>
      intro hv
      obtain ⟨b, ns, e, _, h2, h3⟩ := tups v (hv v List.mem_cons_self)
      obtain ⟨L, e1, e2, e3⟩ := ih fun u hu => hv u (List.mem_cons_of_mem _ hu)
      refine ⟨(b, ns) :: L, by rw [List.map_cons, e, e1], by rw [List.map_cons, List.map_cons, e2, h3.ints], fun q hq => ?_⟩
      rcases List.mem_cons.mp hq with rfl | z
      · exact h2
      · exact e3 q z
  obtain ⟨L, e1, e2, e3⟩ := L0 out.toList fun v hv => a1.mem_iff.mp hv
  have lenL : (L.map fun q => V.ref q.1).length ≤ sizeLine := by
    have e4 := a1.length_eq
    rw [e1, eq, List.length_map, List.length_map] at e4
    rw [List.length_map, e4, sizeLine_eq]; omega
  refine wpAny_pure ⟨_, rfl, .ref h'.objs.size, upd H h'.objs.size (.lst (L.map fun q => V.ref q.1)), I1.laid (t' := tk) kept2 (Nat.le_refl _)
    (show ObjOk X.prog X.w _ _ _ (.lst (L.map fun q => V.ref q.1)) from ⟨lenL, out.toList, e', by rw [e1]; exact vals_of_refs L, he'⟩), rfl, q L _ ?_ ?_ e3 (I1.hok.fresh (Nat.le_refl _))⟩
  · rw [e2]
    have all : ∀ F : Value → List Int, (∀ (j : Nat) (x : List Key × Addr × Value), ks[j]? = some x → nss[j]? = some (F (.ref x.2.1))) → vs.map F = nss := fun F hF => by
      rw [eq, List.map_map]
      apply List.ext_getElem?
      intro j
      rw [List.getElem?_map]
      cases hj : ks[j]? with
      | none => rw [List.getElem?_eq_none (by have := List.getElem?_eq_none_iff.mp hj; omega)]; rfl
      | some x => rw [hF j x hj]; rfl
    refine (a1.map _).trans (List.Perm.of_eq (all _ fun j x hj => ?_))
    obtain ⟨ns, h1, h2⟩ := row j x hj
    obtain ⟨_, ws, rv, it⟩ := (show ObjOk X.prog X.w H (h'.push (seqObj "list" vs.toArray 0)) x.2.1 (.tup (ns.map V.int)) from I2.hok _ _ h2)
    rw [h1]
    exact congrArg some (show TS.TupInts (h'.push (seqObj "list" vs.toArray 0)) (.ref x.2.1) ns from ⟨_, ws.toArray, rfl, it, by simpa using rv.ints⟩).ints.symm
  · rw [e1, List.pairwise_map] at a2
    have e5 : ∀ q ∈ L, TS.intsOf (h'.push (seqObj "list" vs.toArray 0)) (.ref q.1) = q.2 := fun q hq => by
      obtain ⟨_, ws, rv, it⟩ := (show ObjOk X.prog X.w H (h'.push (seqObj "list" vs.toArray 0)) q.1 (.tup (q.2.map V.int)) from I2.hok _ _ (e3 q hq))
      exact (show TS.TupInts (h'.push (seqObj "list" vs.toArray 0)) (.ref q.1) q.2 from ⟨_, ws.toArray, rfl, it, by simpa using rv.ints⟩).ints
    refine List.Pairwise.imp_of_mem (fun {x y} hx hy hle => ?_) a2
    rw [← e5 x hx, ← e5 y hy]
    exact hle
end
end L2

set_option Elab.async false
set_option maxRecDepth 100000
set_option maxHeartbeats 4000000
namespace L2
open PySem PySem.Spec PyProof.Rows
set_option linter.unusedVariables false
/-! set(xs), xs a list of ints, as a set that can be sorted -/
section
variable {P : Program} {w : World} {A : Around} {E : Value → Shared → Prop} {s : Shared}
theorem set_of_list {l : Addr} {items : Array Value} (ns : List Int) {Q : Value → Shared → Prop} (hh : A.handled = none) (hl : s.heap.IsList l items) (hit : IntsAre items.toList ns) (hb : ns.length + 1 < scanBound)
    (h : ∀ (h' : Heap) (tk c : Nat), SetR w h' s.heap.objs.size (fun j => decide (j ∈ ns)) c → c ≤ ns.length → (∀ b o, s.heap.get? b = some o → h'.get? b = some o) → Q (.ref s.heap.objs.size) { s with heap := h', toks := tk }) :
    wpAny (model P w) A (call (.type "set") [.ref l]) Q E s := by
  have sizes : items.size = ns.length := by rw [← Array.length_toList]; exact IntsAre.length hit
  obtain ⟨c, tl, hmro⟩ := F.called_set.mro
  have hmade := F.called_set.made
  have hsub := F.called_set.sub
  refine wpAny_call (codeAny_of_tree ?_)
  show wpAny (model P w) _ (callAny (.type "set") _) _ _ s
  refine wpAny_pure ⟨Code.quiet_builtin _ (by decide +kernel), codeAny_builtin F.entry_type_call ?_⟩
  rw [Around.under_plain (weight_type_call_type "set" [.ref l] []) rfl]
  have h1 := F.called_set.notType
  have h2 := F.called_set.canCreate
  have hct := F.typeCall_set_1 (.ref l)
  repeat (any_goals (first | assumption | wp_step))
  refine codeAny_mono (code_set_led1 (.ref l) (E := E) (Q₁ := fun obj s₁ => obj = .ref s.heap.objs.size ∧ s₁ = { s with heap := s.heap.push (bareSet w) }) ⟨rfl, rfl⟩) fun r s₁ hr => ?_
  match r, hr with
  | .error e, hr => exact hr
  | .ok .next, hr | .ok .brk, hr | .ok .cont, hr => exact hr.elim
  | .ok (.ret obj), hr =>
    obtain ⟨rfl, rfl⟩ := hr
    have laid : (s.heap.push (bareSet w)).get? s.heap.objs.size = some (bareSet w) := Heap.get?_push_size _ rfl
    have hT : Shared.TypeIs { s with heap := s.heap.push (bareSet w) } (.ref s.heap.objs.size) "set" := ⟨_, laid, rfl⟩
    have hli := F.called_set.init.lookup
    have hbi := F.called_set.init.bind (.ref s.heap.objs.size)
    repeat (any_goals (first | assumption | wp_step))
    refine codeAny_mono (codeAny_call_builtin (R := wants (fun r s₂ => r = .none ∧ ∃ h' tk c, s₂ = { s with heap := h', toks := tk } ∧ SetR w h' s.heap.objs.size (fun j => decide (j ∈ ns)) c ∧ c ≤ ns.length ∧
        (∀ b o, s.heap.get? b = some o → h'.get? b = some o)) E) F.called_set.init.plain F.entry_set_init (check_set_init_1 hT ?_)) fun r₂ s₂ hr₂ => ?_
    · obtain ⟨⟨ocls, odict, odata, oslots⟩, hol, hcl, nl, hdl⟩ := hl
      simp only at hcl hdl
      subst hcl; subst hdl
      have lS : l < s.heap.objs.size := Heap.lt_size hol
      have hol' : (s.heap.push (bareSet w)).get? l = some { cls := .type "list", dict := odict, data := .seq items nl, slots := oslots } := Heap.get?_push_of_some _ hol
      have hsls := F.sub_list_set
      have hslf := F.sub_list_frozenset
      have hne : (Value.type "list" == Value.type "dict") = false := by decide
      have hl1 : (s.heap.push (bareSet w)).IsList l items := ⟨_, hol', rfl, nl, rfl⟩
      unfold Builtin.«set.__init__» noKeywords Builtin.Frozenset.updateFrom
      generalize hPI : pyIter = PI
      wp_walk
      subst hPI
      refine wpAny_pyIter_list hl1 ?_
      refine wpAny_bind (wpAny_runValue ?_)
      have hh3 : A.in1.in1.in1.handled = none := by simp [hh]
      have pz : (s.heap.push (bareSet w)).objs.size = s.heap.objs.size + 1 := Heap.size_push ..
      have hneI : l ≠ (s.heap.push (bareSet w)).objs.size := by rw [pz]; exact Nat.ne_of_lt (Nat.lt_succ_of_lt lS)
      have away : s.heap.objs.size ∉ [(s.heap.push (bareSet w)).objs.size, l] := by
        rw [pz]; simp only [List.mem_cons, List.not_mem_nil, or_false, not_or]
        exact ⟨Nat.ne_of_lt (Nat.lt_succ_self _), Nat.ne_of_gt lS⟩
      have hval : ∀ (i : Nat) (v : Value), items[i]? = some v → ∃ k t, ns[i]? = some k ∧ v = .int k t := fun i v hv => by
        have hi : i < ns.length := by rw [← sizes]; exact (Array.getElem?_eq_some_iff.mp hv).1
        obtain ⟨t, e⟩ := IntsAre.int_at hit i v (by rw [Array.getElem?_toList]; exact hv)
        refine ⟨ns[i], t, List.getElem?_eq_getElem hi, ?_⟩
        rw [e, List.getD_eq_getElem?_getD, List.getElem?_eq_getElem hi]
        rfl
      refine set_update_ints ((Walks.list hh3 _ l hneI items).toS) s.heap.objs.size away ns sizes hb hval (items.size - 0) 0 _ (by omega) (Nat.zero_le _) ⟨⟨_, Heap.get?_push_size _ rfl, rfl, rfl⟩, (hl1.push _)⟩ ⟨0, Nat.le_refl 0, setR_new_at (Heap.get?_push_of_some _ laid)⟩ ?_
      intro s' c' hm hc' hS'
      obtain ⟨h', g2, d', tk', os'⟩ := s'
      cases (hm.gens : g2 = s.gens); cases (hm.drawn : d' = s.drawn); cases (hm.os : os' = s.os)
      show wpAny (model P w) _ _ _ _ _
      refine wpAny_pure ?_
      show wpAny (model P w) _ (ret Value.none) _ _ _
      rw [sizes] at hc'
      refine wpAny_pure ⟨rfl, h', tk', c', rfl, hS', hc', fun b o e => ?_⟩
      have b0 : b < s.heap.objs.size := Heap.lt_size e
      have b2 : b ≠ (s.heap.push (bareSet w)).objs.size := by rw [pz]; exact Nat.ne_of_lt (Nat.lt_succ_of_lt b0)
      exact hm.heap b o (by simp only [List.mem_cons, List.not_mem_nil, or_false, not_or]; exact ⟨Nat.ne_of_lt b0, b2⟩) (Heap.get?_push_of_some _ (Heap.get?_push_of_some _ e))
    · match r₂, hr₂ with
      | .error e, hr₂ => exact hr₂
      | .ok .next, hr₂ | .ok .brk, hr₂ | .ok .cont, hr₂ => exact hr₂.elim
      | .ok (.ret r), hr₂ =>
        obtain ⟨rfl, h', tk, c', rfl, hS', hc', hk'⟩ := hr₂
        repeat (any_goals (first | assumption | wp_step))
        exact h _ _ _ hS' hc' hk'
end
section
variable {X : Cx}
/-- set(xs), xs a list of ints -/
def rSetOfI (K : PySem.W.Frag) (w : World) : List V → Hp → VK → Prop := fun vs H Q => ∃ (l : Addr) (ns : List Int), vs = [V.ref l] ∧ SqL K H l (ns.map V.int) ∧ ns.length ≤ 1000 ∧
  ∀ (a : Addr) (c : Nat), H a = none → c ≤ ns.length → Q (.ref a) (upd H a (SetO w a (fun j => decide (j ∈ ns)) c))
theorem cr_setOfI (hc : X.calm = true) : CallR X (.type "set") (rSetOfI X.K X.w) := by
  intro pins s σ H vs us Q I r h
  obtain ⟨l, ns, rfl, hl, few, q⟩ := h
  rw [Vals.ref1 r]
  obtain ⟨its, rv, pl, hz⟩ := I.list hl
  refine set_of_list ns (I.ok.hd hc) pl.isList (by simpa using rv.ints) (by unfold scanBound; omega) fun h' tk c R hle kept => ?_
  exact ⟨.ref s.heap.objs.size, upd H s.heap.objs.size (SetO X.w s.heap.objs.size (fun j => decide (j ∈ ns)) c), I.laid (t' := tk) kept (Nat.le_refl _) (setO_new R), rfl, q _ c (I.hok.fresh (Nat.le_refl _)) hle⟩
end
end L2

set_option Elab.async false
set_option maxRecDepth 100000
set_option maxHeartbeats 4000000
namespace L2
open PySem PySem.Spec PyProof.Rows
set_option linter.unusedVariables false
/-! d.clear() of a dict with tuple keys -/
def rClearT : V → List V → Hp → VK → Prop := fun x vs H Q => ∃ (a : Addr) (kvs : List (List Key × V)), x = .ref a ∧ vs = [] ∧ H a = some (.dT kvs) ∧ Q .non (upd H a (.dT []))
theorem mt_clearT {X : Cx} : MtR X "dict.clear" rClearT := by
  intro pins s σ H x vs v us Q I rx rv h
  obtain ⟨a, kvs, ex, ev, e, q⟩ := h
  subst ex
  subst ev
  obtain rfl : v = Value.ref a := rx
  have hus := rv.zero
  subst hus
  obtain ⟨hz, notSys, ks, pairs, o, es, ep, ho, hx, hdt, rows, nd⟩ := (show ObjOk X.prog X.w H s.heap a (.dT kvs) from I.hok a _ e)
  have l1 : es.size = ks.length := size_of_entries rows
  have l2 : kvs.length = ks.length := Paired.length pairs
  have raw : s.heap.DictRaw a es ep := ⟨o, ho, hx, hdt⟩
  refine call_meetsIn PySem.F.slot_dict_clear raw.typeIs PySem.F.entry_dict_clear (PySem.F.args_dict_clear_1 _) (meets_dict_clear_raw a) ⟨es, ep, raw, by omega, fun h' dd' hs => ?_⟩
  obtain ⟨o', h1, h2, h3⟩ := dd'
  refine ⟨.non, _, d_write (ob := .dT []) (t' := s.toks) I (by rw [e]; exact True.intro) hs ⟨o', h1⟩ ⟨Nat.zero_le _, notSys, [], .nil, o', #[], ep + 1, h1, h2, h3, rfl, List.nodup_nil⟩, rfl, q⟩
end L2

set_option Elab.async false
set_option maxRecDepth 100000
set_option maxHeartbeats 4000000
namespace L2
open PySem PySem.Spec PyProof.Rows PpSet
set_option linter.unusedVariables false
/-! a display with tuples as keys -/
/-- the pairs that were made, as keys and values -/
abbrev PDt (H : Hp) : List (V × V) → List (List Key × V) → Prop := Paired fun p q => (∃ b, p.1 = .ref b ∧ H b = some (.tup (q.1.map kV))) ∧ p.2 = q.2
def mergeT (kvs more : List (List Key × V)) : List (List Key × V) := more.foldl (fun acc kv => putK acc kv.1 kv.2) kvs
theorem length_mergeT : ∀ (more kvs : List (List Key × V)), (mergeT kvs more).length ≤ kvs.length + more.length
  | [], kvs => by show kvs.length ≤ kvs.length + 0; omega
  | p :: r, kvs => by
    have a := length_mergeT r (putK kvs p.1 p.2)
    have b := length_putK kvs p.1 p.2
    show (mergeT (putK kvs p.1 p.2) r).length ≤ _
    rw [List.length_cons]; omega
theorem KT.merge {H : Hp} : ∀ {more : List (List Key × V)} {rs : List (List Key × Addr × Value)} {kvs : List (List Key × V)} {xs : List (List Key × Addr × Value)}, KT H more rs → KT H kvs xs → KT H (mergeT kvs more) (storedAllH xs rs) := by
  intro more rs kvs xs r
  unfold KT at r
  induction r generalizing kvs xs with
  | nil => intro q; exact q
  | @cons p q ps qs h t ih =>
    intro r0
    have e : KT H (putK kvs p.1 p.2) (storedH xs q.1 q.2.1 q.2.2) := by
      rw [← h.1]
      exact r0.put p.1 h.2.1 h.2.2
    exact ih e
theorem carriesT_of {P : Program} {w : World} {H : Hp} {h : Heap} (ok : HOk P w H h) : ∀ {ps : List (V × V)} {kvs : List (List Key × V)} {ws : List (Value × Value)}, VV ps ws → PDt H ps kvs → ∃ rs, CarriesH (tupleKind (mixKind P w)) h ws rs ∧ KT H kvs rs := by
  intro ps kvs ws r
  induction r generalizing kvs with
  | nil =>
    intro q
    cases q
    exact ⟨[], True.intro, .nil⟩
  | @cons p v ps vs hv t ih =>
    intro q
    cases q with
    | @cons _ kv _ kvs hk tk =>
      obtain ⟨rs, c, z⟩ := ih tk
      obtain ⟨⟨b, e1, hb⟩, e2⟩ := hk
      obtain ⟨v1, v2⟩ := v
      obtain ⟨r1, r2⟩ := hv
      rw [e1] at r1
      cases (show v1 = Value.ref b from r1)
      exact ⟨(kv.1, b, v2) :: rs, ⟨rfl, rfl, key_of ok hb, c⟩, .cons ⟨rfl, hb, e2 ▸ r2⟩ z⟩
/-- {(a, b): v, ..}; the new dict stands empty while the pairs are made -/
def tDispT (trs : List (TE × TE)) : TE := fun σ H Q => ∀ p, H p = none → tPairs trs σ (upd H p (.dT [])) fun ps H2 => H2 p = some (.dT []) ∧ ∃ kvs : List (List Key × V), PDt H2 ps kvs ∧ kvs.length ≤ 15 ∧ Q (.ref p) (upd H2 p (.dT (mergeT [] kvs)))
theorem pe_dispT {X : Cx} {pos : Pos} {keys : List (Option Expr)} {values : List Expr} {trs : List (TE × TE)} (hu : X.A.units + 1 < cLine) (h : PPs X pos keys values trs) (hall : keys.all (·.isSome) = true) (hl : keys.length = values.length) (h0 : keys ≠ [])
    (h15 : keys.length ≤ 15) : PE X (.Dict keys values pos) (tDispT trs) := by
  refine ⟨fun pins s σ H Q I q => ?_⟩
  have hn := I.hok.fresh (Nat.le_refl s.heap.objs.size)
  have I1 := I.laid (a := s.heap.objs.size) (o := .dT []) (h' := s.heap.push { cls := .type "dict", data := .dict #[] }) (t' := s.toks) (fun _ _ q => Heap.get?_push_of_some _ q) (Nat.le_refl _) (dt_empty s.heap I.big)
  have hlen := pairTrees_length keys values X.env pos hall hl
  have hne : pairTrees keys values X.env pos ≠ [] := fun he => by
    rw [he] at hlen
    exact h0 (List.length_eq_zero_iff.mp hlen.symm)
  rw [arm_eval_Dict, zip_pairTrees keys values X.env pos hall hl, dictDisplay_pairs _ hne (by omega)]
  refine wpAny_bind (wpAny_standAt (wpAny_bind (wpAny_subDictH (knd := tupleKind (mixKind X.prog X.w)) (show X.A.units < cLine by omega) (by omega) (thn (h.run pins _ σ _ _ I1 (q _ hn)) fun ws s2 ⟨ps, H2, I2, rel, e, kvs, pt, lk, q2⟩ => ?_))))
  obtain ⟨rs, c, rk⟩ := carriesT_of I2.hok rel pt
  obtain ⟨z, hd, vs0, r0, dd⟩ := dt_of I2.hok e
  cases r0
  refine ⟨rs, c, dd, fun h' tk dd' hs => wpAny_pure ⟨.ref s.heap.objs.size, _, ?_, rfl, q2⟩⟩
  have hz : (mergeT [] kvs).length ≤ sizeLine := by
    have h1 := length_mergeT kvs []
    rw [List.length_nil] at h1
    rw [sizeLine_eq]; omega
  obtain ⟨o, es, ep, ho, h2, h3, h4, _, h5⟩ := dd'
  refine d_write I2 (by rw [e]; exact True.intro) hs ⟨o, ho⟩ ⟨hz, hd, _, (rk.merge .nil).keeps fun c ys ec => ?_, o, es, ep, ho, h2, h3, h4, h5⟩
  rw [upd_ne (ne_of ec e (fun z => nomatch z))]
  exact ec
end L2

set_option Elab.async false
set_option maxRecDepth 100000
set_option maxHeartbeats 4000000
namespace L2
open PySem PySem.Spec PyProof.Rows
set_option linter.unusedVariables false
/-! t in s, s a set of tuples of ints that stands still -/
section
variable {P : Program} {w : World} {A : Around} {E : Value → Shared → Prop} {s : Shared}
variable {a : Addr} {L : List (Addr × List Int)} {es : Array (Int × Value)} {ep : Nat} {t : SetTable}
theorem nth_dummy (m : Nat) : ∀ (c : Nat) (q : SetTable.Probe), q.dummy = none → (nth m q c).dummy = none
  | 0, q, e => e
  | c + 1, q, e => nth_dummy m c (adv m q) (by unfold adv; split <;> exact e)
theorem seek {x : Addr} {k : List Int} (R : SetTR P w s.heap a L es ep t) (mine : IsT P w s.heap k x) (few : A.units < cLine) {end_ : Nat} {Q : SetFound → Shared → Prop}
    (ends : end_ < 10 * SetTable.turns t.mask) (free : way t.mask (thash P w k) end_ ∉ t.place.toList) (full : ∀ c, c < end_ → way t.mask (thash P w k) c ∈ t.place.toList)
    (yes : k ∈ L.map (·.2) → ∀ i, Q (.there (some i)) s) (no : k ∉ L.map (·.2) → ∀ j, Q (.free j false) s) :
    ∀ (fuel c : Nat) (at_ : Option SetTable.Probe), at_.getD (t.probeStart (thash P w k)) = nth t.mask (t.probeStart (thash P w k)) c → c ≤ end_ → end_ - c < fuel →
      (∀ (i : Nat) q, L[i]? = some q → q.2 = k → ∃ d, c ≤ d ∧ d < end_ ∧ t.place.toList[i]? = some (way t.mask (thash P w k) d)) →
      wpAny (model P w) A (setSearchFrom a (.ref x) (thash P w k) false fuel at_) Q E s := by
  intro fuel
  induction fuel with
  | zero => exact fun c at_ _ _ lt _ => absurd lt (Nat.not_lt_zero _)
  | succ n again =>
    intro c at_ here cle lt ahead
    obtain ⟨ob, got, exact_, dat⟩ := R.ob
    rw [setSearchFrom_succ]
    apply wpAny_bind
    apply wpAny_setState_of got dat R.fits
    dsimp only
    apply wp_if_neg R.gw
    try (apply wpAny_bind; apply wpAny_pure)
    have plain0 := nth_dummy t.mask c (t.probeStart (thash P w k)) rfl
    have join : ∀ d, nth t.mask (nth t.mask (t.probeStart (thash P w k)) c) d = nth t.mask (t.probeStart (thash P w k)) (c + d) := fun d => (nth_add t.mask c _ d).symm
    have spot : ∀ d, (nth t.mask (nth t.mask (t.probeStart (thash P w k)) c) d).j = way t.mask (thash P w k) (c + d) := fun d => congrArg (·.j) (join d)
    have hash_ : ∀ (i : Nat) q, L[i]? = some q → ((es[i]?.map (·.1)).getD 0) = thash P w q.2 := fun i q e => by
      rw [R.entry e] <;> rfl
    rcases go_spec t R.tab.ris R.tab.dm (fun i => (es[i]?.map (·.1)).getD 0) (thash P w k) (10 * SetTable.turns t.mask) (end_ - c) _ plain0 (by omega) (fun d lt => by rw [spot]; exact full _ (by omega)) (by rw [spot, Nat.add_sub_cancel' cle]; exact free) with ⟨d, i, dlt, at_i, hi, before, probe⟩ | ⟨before, probe⟩
    · rw [spot] at at_i probe
      rw [join] at probe
      have probe' : t.probe (fun i => (es[i]?.map (·.1)).getD 0) (thash P w k) (at_.getD (t.probeStart (thash P w k))) = some (.candidate (way t.mask (thash P w k) (c + d)) i (nth t.mask (t.probeStart (thash P w k)) (c + (d + 1)))) := by rw [here]; exact probe
      rw [probe']
      dsimp only
      have il : i < L.length := by
        have z1 := (List.getElem?_eq_some_iff.mp at_i).1
        have z2 := R.tab.sz
        rw [List.length_map] at z2
        rwa [Array.length_toList, z2] at z1
      obtain ⟨q, eq⟩ : ∃ q, L[i]? = some q := ⟨_, List.getElem?_eq_getElem il⟩
      have qm := List.mem_of_getElem? eq
      have inner : wpAny (model P w) A (searchRest a (.ref x) (thash P w k) false n es t (way t.mask (thash P w k) (c + d)) i (nth t.mask (t.probeStart (thash P w k)) (c + (d + 1)))) Q E s := by
        unfold searchRest
        rw [R.entry eq]
        dsimp only
        apply wpAny_bind
        apply wpAny_holding
        apply wpAny_eqBool_tuple few (R.tup q qm) mine
        apply wpAny_bind
        apply wpAny_setState_of got dat R.fits
        dsimp only
        apply wp_if_neg (by simp)
        try (apply wpAny_bind; apply wpAny_pure)
        rw [sameMem]
        dsimp only
        have live := slot_live R.tab.ris at_i
        simp only [if_true, live, R.entry eq]
        apply wpAny_bind
        apply wpAny_isSame_ref_self
        apply wpAny_bind
        apply wpAny_pure
        simp only [if_true]
        by_cases same : q.2 = k
        · apply wp_if_pos (by simp [same])
          exact wpAny_pure (yes (List.mem_map.mpr ⟨q, qm, same⟩) i)
        · apply wp_if_neg (by simp [same])
          apply again (c + (d + 1)) _ rfl (by omega) (by omega)
          intro i0 q0 e0 k0
          obtain ⟨d', l1, l2, l3⟩ := ahead i0 q0 e0 k0
          refine ⟨d', ?_, l2, l3⟩
          by_cases z : d' < c + d
          · refine absurd ((hash_ i0 q0 e0).trans (congrArg (thash P w) k0)) (before (d' - c) i0 (by omega) ?_)
            rw [spot, Nat.add_sub_cancel' l1]
            exact l3
          · by_cases y : d' = c + d
            · exfalso
              rw [y] at l3
              have live0 := slot_live R.tab.ris l3
              rw [live] at live0
              injection live0 with live0
              rw [← live0, eq] at e0
              cases e0
              exact same k0
            · omega
      by_cases led : t.led = true
      · apply wp_if_neg (by simp [led])
        try (apply wpAny_bind; apply wpAny_pure)
        exact inner
      · apply wp_if_pos (by simp [led])
        apply wpAny_bind
        apply seen_tup mine
        · intro y hy
          obtain ⟨e, me, rfl⟩ := List.mem_map.mp hy
          have me1 : e ∈ es.toList := (show e ∈ es ∧ _ by simpa using me).1.val
          rw [R.rows] at me1
          obtain ⟨q2, m2, rfl⟩ := List.mem_map.mp me1
          exact ⟨q2.2, q2.1, rfl, R.tup q2 m2⟩
        · apply wp_if_neg (by decide)
          try (apply wpAny_bind; apply wpAny_pure)
          exact inner
    · have probe' : t.probe (fun i => (es[i]?.map (·.1)).getD 0) (thash P w k) (at_.getD (t.probeStart (thash P w k))) = some (.empty (nth t.mask (nth t.mask (t.probeStart (thash P w k)) c) (end_ - c)).j none) := by rw [here]; exact probe
      rw [probe']
      dsimp only
      apply wpAny_pure
      apply no
      intro hm
      obtain ⟨q0, m0, k0⟩ := List.mem_map.mp hm
      obtain ⟨i0, e0⟩ := List.getElem?_of_mem m0
      obtain ⟨d', l1, l2, l3⟩ := ahead i0 q0 e0 k0
      refine before (d' - c) i0 (by omega) ?_ ((hash_ i0 q0 e0).trans (congrArg (thash P w) k0))
      rw [spot, Nat.add_sub_cancel' l1]
      exact l3
theorem seek_all {x : Addr} {k : List Int} (R : SetTR P w s.heap a L es ep t) (mine : IsT P w s.heap k x) (few : A.units < cLine) {Q : SetFound → Shared → Prop}
    (yes : k ∈ L.map (·.2) → ∀ i, Q (.there (some i)) s) (no : k ∉ L.map (·.2) → ∀ j, Q (.free j false) s) : wpAny (model P w) A (setSearch a (.ref x) (thash P w k)) Q E s := by
  have room := R.room
  obtain ⟨end_, ends, free, full⟩ := R.tab.first (by rw [List.length_map]; omega) (thash P w k)
  have turns : 10 * SetTable.turns t.mask ≤ 1420 := by
    unfold SetTable.turns
    rcases R.tab.mok with z | z | z <;> omega
  unfold setSearch
  apply seek R mine few ends free full yes no 100000 0 none rfl (Nat.zero_le _) (by omega)
  intro i q e hk
  have e' : (L.map fun p => thash P w p.2)[i]? = some (thash P w k) := by rw [List.getElem?_map, e, ← hk] <;> rfl
  have il : i < t.place.toList.length := by
    have z1 := (List.getElem?_eq_some_iff.mp e).1
    have z2 := R.tab.sz
    rw [List.length_map] at z2
    rw [Array.length_toList]
    omega
  obtain ⟨d, dlt, de⟩ := R.tab.before free e' (List.getElem?_eq_getElem il)
  exact ⟨d, Nat.zero_le _, dlt, by rw [List.getElem?_eq_getElem il, de]⟩
theorem find_tup {x : Addr} {k : List Int} (R : SetTR P w s.heap a L es ep t) (mine : IsT P w s.heap k x) (few : A.units < cLine) {Q : Option Nat → Shared → Prop} (h : ∀ r : Option Nat, r.isSome = decide (k ∈ L.map (·.2)) → Q r s) :
    wpAny (model P w) A (setFind a (.ref x) (thash P w k)) Q E s := by
  obtain ⟨ob, got, exact_, dat⟩ := R.ob
  unfold setFind setFindIn
  apply wpAny_bind
  apply wpAny_setState_of got dat R.fits
  dsimp only
  apply wp_if_neg (by simp [byScan, Value.scannable])
  try (apply wpAny_bind; apply wpAny_pure)
  apply wpAny_bind
  apply seek_all R mine few
  · intro m i
    exact wpAny_pure (h (some i) (by rw [decide_eq_true m]; rfl))
  · intro m j
    exact wpAny_pure (h none (by rw [decide_eq_false m]; rfl))
theorem holds_tup (neg : Bool) {x : Addr} {k : List Int} (R : SetTR P w s.heap a L es ep t) (mine : IsT P w s.heap k x) (few : A.units + 64 < cLine) {Q : Value → Shared → Prop} (h : ∀ tk, Q (.bool (if neg = true then !decide (k ∈ L.map (·.2)) else decide (k ∈ L.map (·.2)))) { s with toks := tk }) :
    wpAny (model P w) A (compareOp (if neg = true then .NotIn else .In) (.ref x) (.ref a)) Q E s := by
  have isSet : s.TypeIs (.ref a) "set" := by
    obtain ⟨ob, got, exact_, _⟩ := R.ob
    exact ⟨ob, got, exact_.1⟩
  have core : ∀ {Q' : Bool → Shared → Prop}, (∀ tk, Q' (decide (k ∈ L.map (·.2))) { s with toks := tk }) → wpAny (model P w) A (contains (.ref a) (.ref x)) Q' E s := by
    intro Q' h'
    unfold contains
    try with_reducible apply wpAny_holding
    apply wpAny_bind
    apply wpAny_specialOf isSet F.slot_set_contains.lookup
    show wpAny _ _ (if (some (Value.builtin "set.__contains__") == some Value.none) = true then _ else _) _ E s
    rw [if_neg (by rw [beq_builtin_none]; decide)]
    apply wpAny_bind
    apply wpAny_callSpecialUnlessNone?_slot (name := Str.ofString "__contains__") isSet F.slot_set_contains
    apply wpAny_call_entry F.slot_set_contains isSet entry_set_contains ?_ (F.args_set_contains_2 _ _)
    unfold Builtin.«frozenset.__contains__» Builtin.Frozenset.oneOther
    simp only [List.isEmpty_nil, bind_assoc]
    unfold Builtin.Frozenset.addrOf Builtin.Frozenset.withSetAsKey setContains
    apply wpAny_bind
    apply wpAny_pure
    try dsimp only
    apply wpAny_bind
    apply wpAny_pure
    try dsimp only
    apply wpAny_bind
    apply wpAny_tryCatch
    apply wpAny_holding
    apply wpAny_bind
    apply wpAny_pyHash_tuple ?_ mine
    apply wpAny_bind
    apply find_tup (s := { s with toks := s.toks + (k.length + 1) }) R mine ?_
    · intro r er
      apply wpAny_pure
      show wpAny _ _ (ret (Value.bool r.isSome)) _ _ _
      rw [er]
      exact wpAny_pure ⟨_, rfl, wpAny_truthy_bool (h' _)⟩
    all_goals (show A.units + 1 < cLine; omega)
  cases neg with
  | true =>
    show wpAny _ _ (do return .bool (!(← contains (.ref a) (.ref x)))) Q E s
    apply wpAny_bind
    exact core fun tk => wpAny_pure (h tk)
  | false =>
    show wpAny _ _ (do return .bool (← contains (.ref a) (.ref x))) Q E s
    apply wpAny_bind
    exact core fun tk => wpAny_pure (h tk)
end
section
variable {X : Cx}
/-- x in s, s a set of tuples of ints -/
def rInSetT (neg : Bool) (K : PySem.W.Frag) (P : Program) (w : World) : R2 := fun x y H Q => ∃ (b a : Addr) (k : List Int) (L : List (Addr × List Int)), x = .ref b ∧ y = .ref a ∧ SqT K H b (k.map V.int) ∧ H a = some (SetTO P w a L) ∧ (∀ q ∈ L, SqT K H q.1 (q.2.map V.int)) ∧ Q (.bl (if neg = true then !decide (k ∈ L.map (·.2)) else decide (k ∈ L.map (·.2)))) H
theorem or_setT (neg : Bool) (hu : X.A.units + 64 < cLine) : OpR X (compareOp (if neg = true then .NotIn else .In)) (rInSetT neg X.K X.prog X.w) := by
  intro pins s σ H x y v u Q I rx ry h
  obtain ⟨b, a, k, L, rfl, rfl, tup, isSet, rows, q⟩ := h
  cases rx
  cases ry
  have R0 : SetT0 X.prog X.w s.heap a L := (I.hok a _ isSet).1
  obtain ⟨es, ep, t, R⟩ := R0.full fun p hp => I.isT (rows p hp)
  exact holds_tup neg R (I.isT tup) hu fun tk => ⟨.bl _, H, I.tok tk, rfl, q⟩
theorem op_inSetT (hu : X.A.units + 64 < cLine) : OpR X (compareOp .In) (rInSetT false X.K X.prog X.w) := or_setT false hu
theorem op_notInSetT (hu : X.A.units + 64 < cLine) : OpR X (compareOp .NotIn) (rInSetT true X.K X.prog X.w) := or_setT true hu
end
end L2

set_option Elab.async false
set_option maxRecDepth 100000
set_option maxHeartbeats 4000000
namespace L2
open PySem PySem.Spec PyProof.Rows
set_option linter.unusedVariables false
/-! data in which dicts with tuple keys may stand -/
def keyD1 : Key → PyData
  | .inl i => .int i
  | .inr s => .str s
def keyD (k : List Key) : PyData := .tuple (k.map keyD1)
mutual
inductive DX (K : PySem.W.Frag) (H : Hp) : V → PyData → Prop
  | flat {v : V} {d : PyData} : Dp K H v d → d.hasDict = false → DX K H v d
  | lst {a : Addr} {xs : List V} {ds : List PyData} : SqL K H a xs → DXs K H xs ds → DX K H (.ref a) (.list ds)
  | tup {a : Addr} {xs : List V} {ds : List PyData} : SqT K H a xs → DXs K H xs ds → DX K H (.ref a) (.tuple ds)
  | dic {a : Addr} {kvs : List (List Key × V)} {vs : List V} {ds : List PyData} {es : List (PyData × PyData)} : H a = some (.dT kvs) → vs = kvs.map (·.2) → DXs K H vs ds → es.map (·.1) = kvs.map (fun kv => keyD kv.1) → es.map (·.2) = ds → DX K H (.ref a) (.dict es)
inductive DXs (K : PySem.W.Frag) (H : Hp) : List V → List PyData → Prop
  | nil : DXs K H [] []
  | cons {v : V} {vs : List V} {d : PyData} {ds : List PyData} : DX K H v d → DXs K H vs ds → DXs K H (v :: vs) (d :: ds)
end
theorem keyD1_dp {K : PySem.W.Frag} {H : Hp} : ∀ k : List Key, DpAll K H (k.map kV) (k.map keyD1)
  | [] => .nil
  | .inl i :: k => .cons (.int i) (keyD1_dp k)
  | .inr s :: k => .cons (.str s) (keyD1_dp k)
theorem keyD1_no : ∀ k : List Key, PyData.hasDictAll (k.map keyD1) = false
  | [] => rfl
  | .inl i :: k => by
    show (false || PyData.hasDictAll (k.map keyD1)) = false
    rw [keyD1_no k]
    rfl
  | .inr s :: k => by
    show (false || PyData.hasDictAll (k.map keyD1)) = false
    rw [keyD1_no k]
    rfl
section
variable {X : Cx} {pins : List (Addr × Obj)} {σ : L2.St} {H : Hp} {s : Shared}
/-- what may be shown of a value -/
def Shw (P : Program) (w : World) (h : Heap) (u : Value) (d : PyData) : Prop := (∃ as, Reads h u d as) ∧ (d.showable = true → d.shown.length ≤ sizeLine → ∃ bs, ReadAtMost h d.depth bs ∧ ReprK P w bs h d.depth u d.shown)
def ShwS (P : Program) (w : World) (h : Heap) (us : List Value) (ds : List PyData) : Prop := (∃ as, ReadsAll h us ds as) ∧ (PyData.showableAll ds = true → (∀ t ∈ PyData.shownAll ds, t.length ≤ sizeLine) → ∃ bs, ReadAtMost h (PyData.depthAll ds) bs ∧ ReprAllK P w bs h (PyData.depthAll ds) us (PyData.shownAll ds))
theorem shw_nil {P : Program} {w : World} {h : Heap} : ShwS P w h [] [] := ⟨⟨_, .nil⟩, fun _ _ => ⟨[], fun _ m => (nomatch m), by rw [PyData.shownAll]; exact .nil⟩⟩
theorem shw_cons {P : Program} {w : World} {h : Heap} {u : Value} {us : List Value} {d : PyData} {ds : List PyData} (a : Shw P w h u d) (b : ShwS P w h us ds) : ShwS P w h (u :: us) (d :: ds) := by
  obtain ⟨⟨as, ra⟩, ga⟩ := a
  obtain ⟨⟨bs, rb⟩, gb⟩ := b
  refine ⟨⟨_, .cons ra rb⟩, fun hs hz => ?_⟩
  rw [PyData.showableAll, Bool.and_eq_true] at hs
  rw [PyData.shownAll] at hz
  obtain ⟨p, p1, p2⟩ := ga hs.1 (hz _ List.mem_cons_self)
  obtain ⟨q, q1, q2⟩ := gb hs.2 fun t m => hz t (List.mem_cons_of_mem _ m)
  rw [PyData.depthAll, PyData.shownAll]
  exact ⟨p ++ q, (p1.mono (Nat.le_max_left _ _)).append (q1.mono (Nat.le_max_right _ _)), .cons ((p2.more fun _ m => List.mem_append_left _ m).level_le (Nat.le_max_left _ _)) (q2.more_le (fun _ m => List.mem_append_right _ m) (Nat.le_max_right _ _))⟩
theorem shw_seq {P : Program} {w : World} {h : Heap} {u : Value} {d : PyData} {as : List Addr} (r : Reads h u d as) (n : d.hasDict = false) : Shw P w h u d := ⟨⟨as, r⟩, fun hs hz => ReprK.of_reads r hs (PyData.noDict_hsm n) hz⟩
theorem shw_lst {P : Program} {w : World} {h : Heap} {a : Addr} {o : Obj} {its : Array Value} {n : Nat} {ds : List PyData} (ha : h.get? a = some o) (hc : o.cls = .type "list") (hd : o.data = .seq its n) (g : ShwS P w h its.toList ds) : Shw P w h (.ref a) (.list ds) := by
  obtain ⟨⟨as, ra⟩, g⟩ := g
  have rd : Reads h (.ref a) (.list ds) _ := .list ha hc hd ra
  refine ⟨⟨_, rd⟩, fun hs hz => ?_⟩
  rw [PyData.showable] at hs
  rw [PyData.shown] at hz ⊢
  obtain ⟨bs, b1, b2⟩ := g hs fun t m => Nat.le_trans (listText_mem_le m) hz
  have out : a ∉ bs := not_mem_of_deeper rd (by rw [PyData.depth]; omega) b1
  refine ⟨a :: bs, b1.cons rd (by rw [PyData.depth]; omega), ?_⟩
  rw [PyData.depth]
  obtain ⟨l⟩ := its
  cases l with
  | nil =>
    cases ra
    rw [PyData.shownAll, listText_nil]
    exact .listEmpty ha hc hd
  | cons x l => exact .list ha hc hd out (by simpa using b2.length_eq) fun i y e => b2.item i y (by simpa using e)
theorem shw_tup {P : Program} {w : World} {h : Heap} {a : Addr} {o : Obj} {its : Array Value} {n : Nat} {ds : List PyData} (ha : h.get? a = some o) (hc : o.cls = .type "tuple") (hd : o.data = .seq its n) (g : ShwS P w h its.toList ds) : Shw P w h (.ref a) (.tuple ds) := by
  obtain ⟨⟨as, ra⟩, g⟩ := g
  have rd : Reads h (.ref a) (.tuple ds) _ := .tuple ha hc hd ra
  refine ⟨⟨_, rd⟩, fun hs hz => ?_⟩
  rw [PyData.showable] at hs
  rw [PyData.shown] at hz ⊢
  obtain ⟨bs, b1, b2⟩ := g hs fun t m => Nat.le_trans (tupleText_mem_le m) hz
  refine ⟨a :: bs, b1.cons rd (by rw [PyData.depth]; omega), ?_⟩
  rw [PyData.depth]
  exact .tuple ha hc hd (not_mem_of_deeper rd (by rw [PyData.depth]; omega) b1) b2
theorem shw_dic {P : Program} {w : World} {h : Heap} {a : Addr} {o : Obj} {es : Array DictEntry} {n : Nat} {kvs : List (PyData × PyData)} (ha : h.get? a = some o) (hc : o.cls = .type "dict") (hd : o.data = .dict es n) (hy : (a == sysModules) = false) (gk : ShwS P w h (es.toList.map (·.key)) (kvs.map (·.1))) (gv : ShwS P w h (es.toList.map (·.val)) (kvs.map (·.2))) : Shw P w h (.ref a) (.dict kvs) := by
  obtain ⟨⟨as, ra⟩, gk⟩ := gk
  obtain ⟨⟨bs, rb⟩, gv⟩ := gv
  have rd : Reads h (.ref a) (.dict kvs) _ := .dict ha hc hd ra rb
  refine ⟨⟨_, rd⟩, fun hs hz => ?_⟩
  rw [PyData.showable] at hs
  rw [PyData.shown] at hz ⊢
  obtain ⟨s1, s2⟩ := PyData.showableKv_split kvs hs
  obtain ⟨p, p1, p2⟩ := gk s1 fun t m => by
    obtain ⟨x, x1, x2⟩ := PyData.shownKv_key_le kvs t m
    exact Nat.le_trans x2 (Nat.le_trans (dictText_mem_le x1) hz)
  obtain ⟨q, q1, q2⟩ := gv s2 fun t m => by
    obtain ⟨x, x1, x2⟩ := PyData.shownKv_val_le kvs t m
    exact Nat.le_trans x2 (Nat.le_trans (dictText_mem_le x1) hz)
  have pq : ReadAtMost h (PyData.depthKv kvs) (p ++ q) := (p1.mono (PyData.depthAll_keys_le kvs)).append (q1.mono (PyData.depthAll_vals_le kvs))
  refine ⟨a :: (p ++ q), pq.cons rd (by rw [PyData.depth]; omega), ?_⟩
  rw [PyData.depth, PyData.shownKv_eq]
  exact .dict ha hc hd hy (not_mem_of_deeper rd (by rw [PyData.depth]; omega) pq) (.of_two es.toList _ _ (p2.more_le (fun _ m => List.mem_append_left _ m) (PyData.depthAll_keys_le kvs)) (q2.more_le (fun _ m => List.mem_append_right _ m) (PyData.depthAll_vals_le kvs)))
theorem dpAll_shw (I : Inv X pins σ H s) : ∀ (ds : List PyData) (vs : List V) (us : List Value), DpAll X.K H vs ds → Vals vs us → PyData.hasDictAll ds = false → ShwS X.prog X.w s.heap us ds
  | [], _, _, h, r, _ => by
    cases h
    cases r
    exact shw_nil
  | d :: ds, _, _, h, r, n => by
    cases h with
    | cons h1 h2 =>
      cases r with
      | cons r1 r2 =>
        rw [PyData.hasDictAll, Bool.or_eq_false_iff] at n
        obtain ⟨as, q⟩ := Dp.reads I d _ _ h1 r1
        exact shw_cons (shw_seq q n.1) (dpAll_shw I ds _ _ h2 r2 n.2)
mutual
theorem DX.shw (I : Inv X pins σ H s) : ∀ {v : V} {d : PyData}, DX X.K H v d → ∀ u : Value, RelV v u → Shw X.prog X.w s.heap u d
  | _, _, .flat h n, u, r => by
    obtain ⟨as, q⟩ := Dp.reads I _ _ _ h r
    exact shw_seq q n
  | _, _, .lst hq g, u, r => by
    obtain rfl : u = Value.ref _ := r
    obtain ⟨its, rv, ⟨o, n, ho, hc, _, hd⟩, _⟩ := I.list hq
    exact shw_lst ho hc hd (DXs.shw I g its rv)
  | _, _, .tup hq g, u, r => by
    obtain rfl : u = Value.ref _ := r
    obtain ⟨its, rv, ⟨o, ho, hc, n, hd⟩, _⟩ := I.tuple hq
    exact shw_tup ho hc hd (DXs.shw I g its rv)
  | _, _, .dic (a := a) (kvs := kvs) (es := eds) ha ev g ek ed, u, r => by
    obtain rfl : u = Value.ref a := r
    obtain ⟨hz, hy, xs, pairs, o, es, ep, ho, hx, hdt, rows, nd⟩ := (show ObjOk X.prog X.w H s.heap a (.dT kvs) from I.hok _ _ ha)
    have hvals : Vals (kvs.map (·.2)) (es.toList.map (·.val)) := by
      rw [rows]
      clear rows nd g ev ek ha hz
      induction pairs with
      | nil => exact .nil
      | cons p _ ih => exact .cons p.2.2 ih
    have hkeys : ∀ (ks : List (List Key × V)) (ys : List (List Key × Addr × Value)), Paired (fun (p : List Key × V) (q : List Key × Addr × Value) => p.1 = q.1 ∧ H q.2.1 = some (.tup (p.1.map kV)) ∧ RelV p.2 q.2.2) ks ys → ShwS X.prog X.w s.heap ((ys.map (entryOfKey (tupleKind (mixKind X.prog X.w)))).map (·.key)) (ks.map fun kv => keyD kv.1) := fun ks ys p => by
      induction p with
      | nil => exact shw_nil
      | @cons k y ks ys p _ ih =>
        obtain ⟨as, q⟩ := Dp.reads I (keyD k.1) (.ref y.2.1) (.ref y.2.1) (.tup (SqT.of p.2.1) (keyD1_dp k.1)) rfl
        exact shw_cons (shw_seq q (by unfold keyD; rw [PyData.hasDict]; exact keyD1_no _)) ih
    refine shw_dic ho hx.1 hdt hy ?_ ?_
    · rw [ek, rows]
      exact hkeys kvs xs pairs
    · rw [ed]
      exact DXs.shw I g _ (ev ▸ hvals)
theorem DXs.shw (I : Inv X pins σ H s) : ∀ {vs : List V} {ds : List PyData}, DXs X.K H vs ds → ∀ us : List Value, Vals vs us → ShwS X.prog X.w s.heap us ds
  | _, _, .nil, us, r => by
    cases r
    exact shw_nil
  | _, _, .cons g gs, us, r => by
    cases r with
    | cons r1 r2 => exact shw_cons (DX.shw I g _ r1) (DXs.shw I gs _ r2)
end
/-- repr of a tuple in which dicts may stand -/
def rReprX (K : PySem.W.Frag) : List V → Hp → VK → Prop := fun xs H Q => ∃ (a : Addr) (vs : List V) (ds : List PyData), xs = [.ref a] ∧ SqT K H a vs ∧ DXs K H vs ds ∧ (PyData.tuple ds).showable = true ∧ (PyData.tuple ds).depth ≤ 40 ∧ (PyData.tuple ds).shown.length ≤ sizeLine ∧ Q (.str (PyData.tuple ds).shown) H
theorem call_reprX (hg : X.A.guards = some []) (hu : X.A.units + 64 < cLine) : CallR X (.builtin "repr") (rReprX X.K) := by
  intro pins s σ H xs us Q I r h
  obtain ⟨a, vs, ds, rfl, hq, g, hs, hd, hz, q⟩ := h
  obtain rfl := Vals.ref1 r
  obtain ⟨its, rv, ⟨o, ho, hc, n, hdd⟩, _⟩ := I.tuple hq
  obtain ⟨⟨as, ra⟩, gg⟩ := DXs.shw I g its rv
  have rd : Reads s.heap (.ref a) (.tuple ds) _ := .tuple ho hc hdd ra
  rw [PyData.showable] at hs
  rw [PyData.shown] at hz q
  rw [PyData.depth] at hd
  obtain ⟨bs, b1, b2⟩ := gg hs fun t m => Nat.le_trans (tupleText_mem_le m) hz
  have out : a ∉ bs := not_mem_of_deeper rd (by rw [PyData.depth]; omega) b1
  refine call_repr_slot (T := "tuple") (idr := "tuple.__repr__") (by omega) ⟨o, ho, hc⟩ F.slot_tuple_repr ?_
  exact call_tuple_reprK ho hc hdd out b2 (g := []) hg (fun b _ => Clear.nil b) (by show X.A.units + 1 + (PyData.depthAll ds + 1) < cLine; omega) (fun _ _ e => e) (fun h' u tk hk => ⟨_, _, rfl, .str _, H, I.kept (t' := tk) hk, ⟨_, rfl⟩, q⟩) hz
end
end L2

set_option Elab.async false
set_option maxRecDepth 100000
set_option maxHeartbeats 4000000
namespace L2
open PySem PySem.Spec PyProof.Rows
set_option linter.unusedVariables false
/-! dict(d) and d.pop(k) of a dict whose keys are pairs of small numbers -/
def hI (a b : Nat) : Int := reduceHash (Builtin.Tuple.tupleHashOf [hashInt ((a : Nat) : Int), hashInt ((b : Nat) : Int)])
theorem hI_all : ((List.range 400).map fun i => hI (i / 20) (i % 20)).Pairwise (· ≠ ·) := by decide +kernel
theorem hI_inj {a b c d : Nat} (ha : a < 20) (hb : b < 20) (hc : c < 20) (hd : d < 20) (h : hI a b = hI c d) : a = c ∧ b = d := by
  have key : ∀ {a b c d : Nat}, a < 20 → b < 20 → c < 20 → d < 20 → 20 * a + b < 20 * c + d → hI a b ≠ hI c d := fun {a b c d} ha hb hc hd hl => by
    have h1 := List.pairwise_iff_getElem.mp hI_all (20 * a + b) (20 * c + d) (by rw [List.length_map, List.length_range]; omega) (by rw [List.length_map, List.length_range]; omega) hl
    rw [List.getElem_map, List.getElem_map, List.getElem_range, List.getElem_range] at h1
    rw [show (20 * a + b) / 20 = a by omega, show (20 * a + b) % 20 = b by omega, show (20 * c + d) / 20 = c by omega, show (20 * c + d) % 20 = d by omega] at h1
    exact h1
  rcases Nat.lt_trichotomy (20 * a + b) (20 * c + d) with g | g | g
  · exact absurd h (key ha hb hc hd g)
  · omega
  · exact absurd h.symm (key hc hd ha hb g)
def smallK (k : List Key) : Prop := ∃ a b : Nat, a < 20 ∧ b < 20 ∧ k = [.inl (a : Int), .inl (b : Int)]
section
variable {prog : Program} {w : World} {A : Around} {E : Value → Shared → Prop} {s : Shared}
theorem smallK_hash {a b : Nat} : (tupleKind (mixKind prog w)).hash [.inl (a : Int), .inl (b : Int)] = hI a b := rfl
theorem small_nodup : ∀ {ks : List (List Key)}, (∀ k ∈ ks, smallK k) → ks.Nodup → (ks.map fun k => (tupleKind (mixKind prog w)).hash k).Nodup
  | [], _, _ => List.nodup_nil
  | k :: ks, h, n => by
    rw [List.nodup_cons] at n
    rw [List.map_cons, List.nodup_cons]
    refine ⟨fun m => ?_, small_nodup (fun x hx => h x (List.mem_cons_of_mem _ hx)) n.2⟩
    obtain ⟨k2, hk2, e⟩ := List.mem_map.mp m
    obtain ⟨a, b, ha, hb, rfl⟩ := h k List.mem_cons_self
    obtain ⟨c, d, hc, hd, rfl⟩ := h k2 (List.mem_cons_of_mem _ hk2)
    have e : hI c d = hI a b := e
    obtain ⟨rfl, rfl⟩ := hI_inj hc hd ha hb e
    exact n.1 hk2
theorem call_dictH {o : Addr} {more : List (List Key × Addr × Value)} {Q : Value → Shared → Prop} (hu : (tupleKind (mixKind prog w)).room A.in1.in1) (hoS : (o == sysModules) = false) (ho : s.heap.DictOfH (tupleKind (mixKind prog w)) o more) (hsz : more.length ≤ sizeLine)
    (hty : ∀ x ∈ more, s.TypeIs (.ref x.2.1) "tuple") (hap : (more.map fun x => (tupleKind (mixKind prog w)).hash x.1).Nodup)
    (h : ∀ h', h'.DictOfH (tupleKind (mixKind prog w)) s.heap.objs.size more → Heap.SameBut s.heap.objs.size (s.heap.push { cls := .type "dict", data := .dict #[] }) h' → Q (.ref s.heap.objs.size) { s with heap := h' }) :
    wpAny (model prog w) A (call (.type "dict") [.ref o]) Q E s := by
  refine callType_codes (Q₁ := fun obj s₁ => obj = .ref s.heap.objs.size ∧ s₁ = { s with heap := s.heap.push { cls := .type "dict", data := .dict #[] } }) F.kt_called_dict (F.kt_typeCall_dict_1 _) F.entry_dict_init (kt_code_dict_new _ ⟨rfl, rfl⟩) ?_
  rintro obj s₁ ⟨rfl, rfl⟩
  have hnew : (s.heap.push { cls := .type "dict", data := .dict #[] }).DictOfH (tupleKind (mixKind prog w)) s.heap.objs.size [] :=
    ⟨_, #[], 0, Heap.get?_push_size _ rfl, ⟨rfl, rfl, rfl⟩, rfl, rfl, (fun _ hx => nomatch hx), List.nodup_nil⟩
  have hdo : s.heap.objs.size ≠ o := by
    obtain ⟨_, _, _, hg, _⟩ := ho
    exact fun e => absurd (Heap.lt_size hg) (by rw [e]; exact Nat.lt_irrefl _)
  have ho' : (s.heap.push { cls := .type "dict", data := .dict #[] }).DictOfH (tupleKind (mixKind prog w)) o more := by
    obtain ⟨ob, es, ep, h1, h2, h3, h4, h5, h6⟩ := ho
    refine ⟨ob, es, ep, Heap.get?_push_of_some _ h1, h2, h3, h4, fun x hx => ?_, h6⟩
    obtain ⟨o1, its, n, q1, q2, q3, q4⟩ := (show IsTupleKey (mixKind prog w) s.heap x.1 x.2.1 from h5 x hx)
    exact ⟨o1, its, n, Heap.get?_push_of_some _ q1, q2, q3, q4⟩
  have hn : (more.map (·.1)).Nodup := ho.nodup
  have ty' : ∀ x ∈ more, ({ s with heap := s.heap.push { cls := .type "dict", data := .dict #[] } } : Shared).TypeIs (.ref x.2.1) "tuple" := fun x hx => by
    obtain ⟨o1, q1, q2⟩ := hty x hx
    exact ⟨o1, Heap.get?_push_of_some _ q1, q2⟩
  have hnt : ({ s with heap := s.heap.push { cls := .type "dict", data := .dict #[] } } : Shared).TypeIs (.ref s.heap.objs.size) "dict" := ⟨_, Heap.get?_push_size _ rfl, rfl⟩
  refine ⟨hnt, F.args_dict_init_2 _ _, ?_⟩
  unfold Builtin.«dict.__init__»
  refine wpAny_bind ?_
  unfold Builtin.Dict.selfAndRest
  refine wpAny_bind (wpAny_notOrdered_dict hnt ?_)
  show wpAny _ _ (pure (s.heap.objs.size, [Value.ref o])) _ _ _
  refine wpAny_pure ?_
  show wpAny _ _ (Builtin.Dict.updateFrom "dict.__init__" s.heap.objs.size (.ref o) [] .none) _ _ _
  unfold Builtin.Dict.updateFrom
  refine wpAny_bind (wpAny_typeOf (s := { s with heap := s.heap.push { cls := .type "dict", data := .dict #[] } }) ho'.typeIs ?_)
  rw [if_neg (by decide)]
  refine wpAny_bind ?_
  unfold Builtin.Dict.merge
  refine wpAny_bind ?_
  unfold Builtin.Dict.readDirectly
  refine wpAny_bind (wpAny_isInstance (s := { s with heap := s.heap.push { cls := .type "dict", data := .dict #[] } }) ho'.typeIs isSubtype_dict_dict ?_)
  simp only [Bool.not_true, Bool.false_eq_true, if_false]
  refine wpAny_bind (wpAny_specialOf (s := { s with heap := s.heap.push { cls := .type "dict", data := .dict #[] } }) ho'.typeIs F.slot_dict_iter.lookup (wpAny_pure ?_))
  simp only [beq_self_eq_true, if_true]
  refine wpAny_bind (wpAny_pure ?_)
  refine wpAny_mergeDict_heap (s := { s with heap := s.heap.push { cls := .type "dict", data := .dict #[] } }) (hsz := by simpa using hsz) hu hdo hoS hnew ho' (.inr ⟨ty', hap⟩) fun h' hd' _ hs' => ?_
  show wpAny _ _ (Builtin.Dict.addKeywords s.heap.objs.size [] >>= _) _ _ _
  rw [storedAllH_nil_of_nodup more hn] at hd'
  exact wpAny_bind (wpAny_pure (wpAny_pure ⟨rfl, h h' hd' hs'⟩))
end
/-- dict(d): a copy -/
def rDictT : List V → Hp → VK → Prop := fun xs H Q => ∃ (a : Addr) (kvs : List (List Key × V)), xs = [.ref a] ∧ Rd H a (.dT kvs) ∧ (∀ kv ∈ kvs, smallK kv.1) ∧ ∀ p, H p = none → Q (.ref p) (upd H p (.dT kvs))
theorem KT.keysEq {H : Hp} : ∀ {kvs : List (List Key × V)} {xs : List (List Key × Addr × Value)}, KT H kvs xs → xs.map (·.1) = kvs.map (·.1)
  | _, _, .nil => rfl
  | _, _, .cons h t => by
    rw [List.map_cons, List.map_cons, KT.keysEq t, h.1]
theorem call_dict_dT {X : Cx} (hu : X.A.units + 2 < cLine) : CallR X (.type "dict") rDictT := by
  intro pins s σ H xs us Q I r q
  obtain ⟨a, kvs, ex, hd, hk, q⟩ := q
  subst ex
  obtain ⟨u, eu, rx⟩ := vals1 r
  subst eu
  cases rx
  obtain ⟨z, lo, xs, rel, dd⟩ := dt_rd I.hok hd
  have ek := KT.keysEq rel
  have hall : ∀ k ∈ xs.map (·.1), smallK k := fun k hkm => by
    rw [ek] at hkm
    obtain ⟨kv, hkv, rfl⟩ := List.mem_map.mp hkm
    exact hk kv hkv
  have hn : (xs.map (·.1)).Nodup := dd.nodup
  have hap := small_nodup (prog := X.prog) (w := X.w) hall hn
  rw [List.map_map] at hap
  have hst : ∀ x ∈ xs, (tupleKind (mixKind X.prog X.w)).is s.heap x.1 x.2.1 := by
    obtain ⟨o, es, ep, h1, h2, h3, h4, h5, h6⟩ := id dd
    exact h5
  refine call_dictH (show X.A.units + 2 < cLine from hu) lo dd (by rw [← Paired.length rel]; exact z) (fun x hx => ?_) hap fun h' d' hs => ?_
  · obtain ⟨o, its, n, h1, h2, _⟩ := (show IsTupleKey (mixKind X.prog X.w) s.heap x.1 x.2.1 from hst x hx)
    exact ⟨o, h1, h2⟩
  have hm : (s.heap.objs.size == sysModules) = false := beq_eq_false_iff_ne.mpr (Nat.ne_of_gt I.big)
  have hf := I.hok.fresh (Nat.le_refl _)
  obtain ⟨o, es, ep, h1, h2, h3, h4, h5, h6⟩ := d'
  exact ⟨.ref s.heap.objs.size, upd H s.heap.objs.size (.dT kvs), I.laid (t' := s.toks) (fun b u e => (hs.2 b (Nat.ne_of_lt (Heap.lt_size e))).trans (Heap.get?_push_of_some _ e)) (Nat.le_refl _)
    (show ObjOk X.prog X.w _ _ _ (.dT kvs) from ⟨z, hm, xs, rel.keeps (fun c ys ec => (by rw [upd_ne (ne_of_none ec hf)]; exact ec)), o, es, ep, h1, h2, h3, h4, h6⟩), rfl, q _ hf⟩
/-- d.pop(k), k a key -/
def rPop1T : V → List V → Hp → VK → Prop := fun x xs H Q => ∃ (a : Addr) (kvs : List (List Key × V)) (k : List Key) (b : Addr) (v : V), x = .ref a ∧ xs = [.ref b] ∧ H a = some (.dT kvs) ∧ H b = some (.tup (k.map kV)) ∧ valV kvs k = some v ∧ Q v (upd H a (.dT (dropK kvs k)))
theorem mt_pop1T {X : Cx} (hu : X.A.units + 1 < cLine) : MtR X "dict.pop" rPop1T := by
  intro pins s σ H x xs v us Q I rx rxs h
  obtain ⟨a, kvs, k, b, v0, rfl, rfl, ha, hb, ev, q⟩ := h
  cases rx
  obtain ⟨u1, rfl, r1⟩ := vals1 rxs
  cases r1
  obtain ⟨z, hd, xs', rel, dd⟩ := dt_of I.hok ha
  have hz : xs'.length ≤ sizeLine := by rw [← Paired.length rel]; exact z
  have r := rel.val k
  rw [ev] at r
  obtain ⟨p, hp, rv⟩ : ∃ p, atKey xs' k = some p ∧ RelV v0 p.2 := by
    cases ep : atKey xs' k with
    | none =>
      rw [ep] at r
      exact (show False from r).elim
    | some p =>
      rw [ep] at r
      exact ⟨p, rfl, r⟩
  refine call_pop_heap (hsz := hz) (.inl rfl) (PySem.F.args_dict_pop_2 _ _) (tupleKind_room_in1 hu) (key_of I.hok hb) hd dd hp fun h' dd' hs => ?_
  obtain ⟨o, es, ep, hq, h2, h3, h4, _, h5⟩ := dd'
  have I2 : Inv X pins σ (upd H a (.dT (dropK kvs k))) { s with heap := h', toks := s.toks + (tupleKind (mixKind X.prog X.w)).draws k } :=
    d_write I (by rw [ha]; exact True.intro) hs ⟨o, hq⟩ ⟨Nat.le_trans (dropK_le kvs k) z, hd, _, (DX.KT_drop k rel).keeps (fun c ys ec => (by rw [upd_ne (ne_of ec ha (fun z => nomatch z))]; exact ec)), o, es, ep, hq, h2, h3, h4, h5⟩
  exact ⟨v0, _, I2, rv, q⟩
end L2

set_option Elab.async false
set_option maxRecDepth 100000
set_option maxHeartbeats 4000000
namespace L2
open PySem PySem.Spec PyProof.Rows
set_option linter.unusedVariables false
/-! a key that is no tuple, among keys that are tuples -/
inductive OddKey : V → Value → PyData → Prop
  | non : OddKey .non .none .none
  | int {i : Int} {t : Tok} : OddKey (.int i) (.int i t) (.int i)
  | str {x : Str} {t : Tok} : PyData.strOk x = true → OddKey (.str x) (.str x t) (.str x)
theorem OddKey.carried {v : V} {u : Value} {d : PyData} (h : OddKey v u d) : carriedByValue u = true := by cases h <;> rfl
theorem OddKey.eqv {v : V} {u : Value} {d : PyData} (h : OddKey v u d) (k : List Key) : PyData.eqv (keyD k) d = false := by
  cases h <;> (unfold keyD; simp [PyData.eqv])
def IntK (k : List Key) : Prop := ∀ x ∈ k, ∃ i : Int, x = .inl i
theorem canLay_key : ∀ k : List Key, IntK k → PyData.canLayAll0 (k.map keyD1) = true
  | [], _ => rfl
  | x :: k, h => by
    obtain ⟨i, rfl⟩ := h x List.mem_cons_self
    rw [List.map_cons, PyData.canLayAll0, canLay_key k fun y hy => h y (List.mem_cons_of_mem _ hy)]
    simp [keyD1, PyData.canLay0]
theorem OddKey.lay {v : V} {u : Value} {d : PyData} (h : OddKey v u d) : PyData.canLay0 d = true ∧ d.depth = 0 := by
  cases h with
  | non => exact ⟨by simp [PyData.canLay0], by simp [PyData.depth]⟩
  | int => exact ⟨by simp [PyData.canLay0], by simp [PyData.depth]⟩
  | str o => exact ⟨by simpa [PyData.canLay0] using o, by simp [PyData.depth]⟩
section
variable {X : Cx} {pins : List (Addr × Obj)} {σ : L2.St} {H : Hp} {s : Shared}
theorem OddKey.reads {v : V} {u : Value} {d : PyData} (h : OddKey v u d) (hp : Heap) : Reads hp u d [] := by
  cases h
  · exact .none
  · exact .int _ _
  · exact .str _ _
theorem OddKey.quiet {A : Around} {E : Value → Shared → Prop} {v : V} {u : Value} {d : PyData} (h : OddKey v u d) {Q : Bool → Shared → Prop} (q : Q true s) : wpAny (model X.prog X.w) A (eqIsQuiet 8 u) Q E s := by
  cases h <;> (unfold eqIsQuiet; exact wpAny_pure q)
/-- it isn't there -/
theorem find_odd (I : Inv X pins σ H s) {A : Around} {E : Value → Shared → Prop} (hu : A.units < cLine) {d : Addr} {o : Obj} {es : Array DictEntry} {ep : Nat} {xs : List (List Key × Addr × Value)} {kvs : List (List Key × V)} (ho : s.heap.get? d = some o) (hd : o.data = .dict es ep) (he : es.toList = xs.map (entryOfKey (tupleKind (mixKind X.prog X.w)))) (rel : KT H kvs xs) (hi : ∀ kv ∈ kvs, IntK kv.1)
    {v : V} {key : Value} {dk : PyData} (hk : OddKey v key dk) (h : Int) {Q : Option Nat → Shared → Prop} (q : Q none s) : wpAny (model X.prog X.w) A (dictFind d key h) Q E s := by
  have hall : ∀ x ∈ xs, ∃ k : List Key, H x.2.1 = some (.tup (k.map kV)) ∧ IntK k := by
    clear he
    induction rel with
    | nil => exact fun x hx => nomatch hx
    | @cons p y ks ys r _ ih =>
      intro x hx
      rcases List.mem_cons.mp hx with rfl | hx
      · exact ⟨p.1, r.2.1, hi p List.mem_cons_self⟩
      · exact ih (fun kv hkv => hi kv (List.mem_cons_of_mem _ hkv)) x hx
  have hmem : ∀ (i : Nat) (e : DictEntry), es[i]? = some e → ∃ (b : Addr) (k : List Key), e.key = .ref b ∧ H b = some (.tup (k.map kV)) ∧ IntK k := by
    intro i e hi
    have : e ∈ xs.map (entryOfKey (tupleKind (mixKind X.prog X.w))) := he ▸ Array.mem_toList_iff.mpr (Array.mem_of_getElem? hi)
    obtain ⟨x, hx, rfl⟩ := List.mem_map.mp this
    obtain ⟨k, hk⟩ := hall x hx
    exact ⟨x.2.1, k, rfl, hk⟩
  have hst : ∀ v ∈ (placesWithHash es.size (fun i => es[i]?.map (·.hash)) h).filterMap (fun i => es[i]?.map (·.key)), ∃ (b : Addr) (k : List Key), v = .ref b ∧ H b = some (.tup (k.map kV)) ∧ IntK k := by
    intro v hv
    obtain ⟨i, _, hi⟩ := List.mem_filterMap.mp hv
    cases hei : es[i]? with
    | none => rw [hei] at hi; cases hi
    | some e =>
      rw [hei] at hi
      obtain rfl : e.key = v := by simpa using hi
      exact hmem i e hei
  have unlike : ∀ {Q : Bool → Shared → Prop} {E : Value → Shared → Prop} {b : Addr} {k : List Key}, H b = some (.tup (k.map kV)) ∧ IntK k → Q false s → wpAny (model X.prog X.w) A (eqBool (.ref b) key) Q E s := fun {Q E b k} hb hq => by
    obtain ⟨as, ra⟩ := Dp.reads I (keyD k) (.ref b) (.ref b) (.tup (SqT.of hb.1) (keyD1_dp k)) rfl
    refine PySem.SeqAt.eqBoolOverData _ _ A E s _ _ _ dk _ [] Q ra (hk.reads _) (by unfold keyD; rw [PyData.canLay0]; exact canLay_key k hb.2) hk.lay.1 (by rw [hk.lay.2]; omega) ?_
    rw [hk.eqv]
    exact hq
  have walk : wpAny (model X.prog X.w) A (dictWalkPlain d key h es (placesWithHash es.size (fun i => es[i]?.map (·.hash)) h)) Q E s := by
    unfold dictWalkPlain
    refine wpAny_bind ?_
    refine wpAny_forIn_list _ (fun rest b s' => s' = s ∧ b = (none, ())) _ ?_ ?_ _ _ ⟨rfl, rfl⟩
    · rintro x rest b s' ⟨rfl, rfl⟩
      cases hx : es[x]? with
      | none => exact wpAny_pure ⟨rfl, rfl⟩
      | some e =>
        obtain ⟨b, k, ek, hb⟩ := hmem x e hx
        dsimp only
        by_cases hh : (e.hash == h) = true
        · rw [if_pos hh]
          refine wpAny_bind (wpAny_dictEpoch ho hd (wpAny_bind ?_))
          rw [ek]
          refine unlike hb (wpAny_bind (wpAny_dictEpoch ho hd ?_))
          show wpAny _ _ (if (ep != ep) = true then _ else _) _ E _
          rw [if_neg (by simp)]
          simp only [Bool.false_eq_true, if_false]
          exact wpAny_bind (wpAny_rule (wpAny_pure ⟨rfl, rfl⟩))
        · rw [if_neg hh]
          exact wpAny_pure ⟨rfl, rfl⟩
    · rintro b s' ⟨rfl, rfl⟩
      exact wpAny_pure q
  have tells : ∀ {Q : Bool → Shared → Prop} {E : Value → Shared → Prop}, Q false s → wpAny (model X.prog X.w) A (tableMayTell key ((placesWithHash es.size (fun i => es[i]?.map (·.hash)) h).filterMap (fun i => es[i]?.map (·.key)))) Q E s := fun {Q E} hq => by
    unfold tableMayTell
    split
    · exact wpAny_pure hq
    · refine wpAny_bind (hk.quiet (X := X) ?_)
      simp only [Bool.not_true, Bool.false_eq_true, if_false]
      refine wpAny_bind ?_
      refine wpAny_forIn_list _ (fun rest r s' => s' = s ∧ r = (none, ()) ∧ ∀ v ∈ rest, ∃ (b : Addr) (k : List Key), v = .ref b ∧ H b = some (.tup (k.map kV)) ∧ IntK k) _ ?_ ?_ _ _ ⟨rfl, rfl, hst⟩
      · rintro x rest r s' ⟨rfl, rfl, hr⟩
        obtain ⟨b, k, rfl, hb⟩ := hr x List.mem_cons_self
        refine wpAny_bind ((tupleKind (mixKind X.prog X.w)).quiet (key_of I.hok hb.1) ?_)
        simp only [Bool.not_true, Bool.false_eq_true, if_false]
        exact wpAny_pure ⟨rfl, rfl, fun v hv => hr v (List.mem_cons_of_mem _ hv)⟩
      · rintro r s' ⟨rfl, rfl, _⟩
        exact wpAny_pure hq
  cases hk with
  | non =>
    unfold dictFind
    try with_reducible refine wpAny_holding ?_
    refine wpAny_bind (wpAny_dictEntries ho hd ?_)
    dsimp only
    by_cases hc : ((Value.none :: (placesWithHash es.size (fun i => es[i]?.map (·.hash)) h).filterMap (fun i => es[i]?.map (·.key))).all carriedByValue) = true
    · rw [if_pos hc]
      exact walk
    · rw [if_neg hc]
      have hne : ¬ (((placesWithHash es.size (fun i => es[i]?.map (·.hash)) h).filterMap (fun i => es[i]?.map (·.key))) == [Value.none]) = true := by
        intro e
        have e := eq_of_beq e
        obtain ⟨b, k, e2, _⟩ := hst Value.none (by rw [e]; exact List.mem_cons_self)
        cases e2
      rw [if_neg hne]
      refine wpAny_bind (tells ?_)
      simp only [Bool.false_and, Bool.false_eq_true, if_false]
      refine wpAny_bind ?_
      refine wpAny_forIn_list _ (fun rest b s' => s' = s ∧ b = (none, none)) _ ?_ ?_ _ _ ⟨rfl, rfl⟩
      · rintro x rest b s' ⟨rfl, rfl⟩
        cases hx : es[x]? with
        | none => exact wpAny_pure ⟨rfl, rfl⟩
        | some e =>
          obtain ⟨b, k, ek, hb⟩ := hmem x e hx
          dsimp only
          by_cases hh : (e.hash == h) = true
          · rw [if_pos hh]
            refine wpAny_bind (wpAny_dictEpoch ho hd (wpAny_bind ?_))
            rw [ek]
            refine unlike hb (wpAny_bind (wpAny_dictEpoch ho hd ?_))
            show wpAny _ _ (if (ep != ep) = true then _ else _) _ E _
            rw [if_neg (by simp)]
            simp only [Bool.false_eq_true, if_false]
            exact wpAny_bind (wpAny_rule (wpAny_pure ⟨rfl, rfl⟩))
          · rw [if_neg hh]
            exact wpAny_pure ⟨rfl, rfl⟩
      · rintro b s' ⟨rfl, rfl⟩
        exact wpAny_pure q
  | @int i t =>
    unfold dictFind
    try with_reducible refine wpAny_holding ?_
    refine wpAny_bind (wpAny_dictEntries ho hd ?_)
    dsimp only
    by_cases hc : ((Value.int i t :: (placesWithHash es.size (fun i => es[i]?.map (·.hash)) h).filterMap (fun i => es[i]?.map (·.key))).all carriedByValue) = true
    · rw [if_pos hc]
      exact walk
    · rw [if_neg hc]
      have hne : ¬ (((placesWithHash es.size (fun i => es[i]?.map (·.hash)) h).filterMap (fun i => es[i]?.map (·.key))) == [Value.int i t]) = true := by
        intro e
        have e := eq_of_beq e
        obtain ⟨b, k, e2, _⟩ := hst (Value.int i t) (by rw [e]; exact List.mem_cons_self)
        cases e2
      rw [if_neg hne]
      refine wpAny_bind (tells ?_)
      simp only [Bool.false_and, Bool.false_eq_true, if_false]
      refine wpAny_bind ?_
      refine wpAny_forIn_list _ (fun rest b s' => s' = s ∧ b = (none, none)) _ ?_ ?_ _ _ ⟨rfl, rfl⟩
      · rintro x rest b s' ⟨rfl, rfl⟩
        cases hx : es[x]? with
        | none => exact wpAny_pure ⟨rfl, rfl⟩
        | some e =>
          obtain ⟨b, k, ek, hb⟩ := hmem x e hx
          dsimp only
          by_cases hh : (e.hash == h) = true
          · rw [if_pos hh]
            refine wpAny_bind (wpAny_dictEpoch ho hd (wpAny_bind ?_))
            rw [ek]
            refine unlike hb (wpAny_bind (wpAny_dictEpoch ho hd ?_))
            show wpAny _ _ (if (ep != ep) = true then _ else _) _ E _
            rw [if_neg (by simp)]
            simp only [Bool.false_eq_true, if_false]
            exact wpAny_bind (wpAny_rule (wpAny_pure ⟨rfl, rfl⟩))
          · rw [if_neg hh]
            exact wpAny_pure ⟨rfl, rfl⟩
      · rintro b s' ⟨rfl, rfl⟩
        exact wpAny_pure q
  | @str x t ox =>
    unfold dictFind
    try with_reducible refine wpAny_holding ?_
    refine wpAny_bind (wpAny_dictEntries ho hd ?_)
    dsimp only
    by_cases hs : (es.all fun e => isExactStrKey e.key) = true
    · rw [if_pos hs]
      have h0 : es = #[] := by
        by_cases h1 : 0 < es.size
        · obtain ⟨b, k, ek, _⟩ := hmem 0 es[0] (Array.getElem?_eq_getElem h1)
          have := Array.all_eq_true.mp hs 0 h1
          rw [ek] at this
          cases this
        · exact Array.size_eq_zero_iff.mp (by omega)
      subst h0
      unfold foundByValue
      have e0 : (#[] : Array DictEntry).findIdx? (fun y => y.key.isStr x) = none := by simp
      rw [e0]
      exact wpAny_pure q
    · rw [if_neg hs]
      by_cases hc : ((Value.str x t :: (placesWithHash es.size (fun i => es[i]?.map (·.hash)) h).filterMap (fun i => es[i]?.map (·.key))).all carriedByValue) = true
      · rw [if_pos hc]
        exact walk
      · rw [if_neg hc]
        have hne : ¬ (((placesWithHash es.size (fun i => es[i]?.map (·.hash)) h).filterMap (fun i => es[i]?.map (·.key))) == [Value.str x t]) = true := by
          intro e
          have e := eq_of_beq e
          obtain ⟨b, k, e2, _⟩ := hst (Value.str x t) (by rw [e]; exact List.mem_cons_self)
          cases e2
        rw [if_neg hne]
        refine wpAny_bind (tells ?_)
        simp only [Bool.false_and, Bool.false_eq_true, if_false]
        refine wpAny_bind ?_
        refine wpAny_forIn_list _ (fun rest b s' => s' = s ∧ b = (none, none)) _ ?_ ?_ _ _ ⟨rfl, rfl⟩
        · rintro x rest b s' ⟨rfl, rfl⟩
          cases hx : es[x]? with
          | none => exact wpAny_pure ⟨rfl, rfl⟩
          | some e =>
            obtain ⟨b, k, ek, hb⟩ := hmem x e hx
            dsimp only
            by_cases hh : (e.hash == h) = true
            · rw [if_pos hh]
              refine wpAny_bind (wpAny_dictEpoch ho hd (wpAny_bind ?_))
              rw [ek]
              refine unlike hb (wpAny_bind (wpAny_dictEpoch ho hd ?_))
              show wpAny _ _ (if (ep != ep) = true then _ else _) _ E _
              rw [if_neg (by simp)]
              simp only [Bool.false_eq_true, if_false]
              exact wpAny_bind (wpAny_rule (wpAny_pure ⟨rfl, rfl⟩))
            · rw [if_neg hh]
              exact wpAny_pure ⟨rfl, rfl⟩
        · rintro b s' ⟨rfl, rfl⟩
          exact wpAny_pure q
/-- what may be put among keys that are tuples, and is none -/
def OddV (y : V) : Prop := y = .non ∨ (∃ i, y = .int i) ∨ ∃ x, y = .str x ∧ PyData.strOk x = true
theorem OddV.key {y : V} {u : Value} (h : OddV y) (r : RelV y u) : ∃ d, OddKey y u d := by
  rcases h with rfl | ⟨i, rfl⟩ | ⟨x, rfl, o⟩
  · cases (show u = Value.none from r)
    exact ⟨_, .non⟩
  · obtain ⟨t, rfl⟩ := r
    exact ⟨_, .int⟩
  · obtain ⟨t, rfl⟩ := r
    exact ⟨_, .str o⟩
theorem OddKey.hash {A : Around} {E : Value → Shared → Prop} {v : V} {u : Value} {d : PyData} (h : OddKey v u d) {Q : Int → Shared → Prop} (q : ∀ i, Q i { s with toks := s.toks + 1 }) : wpAny (model X.prog X.w) A (pyHash u) Q E s := by
  cases h with
  | non => exact pyHash_leaf (k := .none) rfl (q _)
  | @int i t => exact pyHash_leaf (k := .num i) (by simp [Leaf.isOf]) (q _)
  | @str x t o => exact pyHash_leaf (k := .text x) (by simp [Leaf.isOf, Value.isStrOf]) (q _)
/-- a dict of tuple keys in which one more key stands, at the end, that is none; its object is o -/
structure OddW (o : Obj) (H : Hp) (a : Addr) (kvs : List (List Key × V)) (k v : V) : Prop where
  at' : H a = some (.ext fun h => h.get? a = some o)
  ec : o.ExactDict
  ex : ∃ (es : Array DictEntry) (ep : Nat) (xs : List (List Key × Addr × Value)) (uk uv : Value), o.data = .dict es ep ∧ (a == sysModules) = false ∧ KT H kvs xs ∧ RelV k uk ∧ RelV v uv ∧
    es.toList.map (fun e => (e.key, e.val)) = xs.map (fun x => (Value.ref x.2.1, x.2.2)) ++ [(uk, uv)] ∧ es.size ≤ sizeLine
  key : OddV k
def OddAt (H : Hp) (a : Addr) (kvs : List (List Key × V)) (k v : V) : Prop := ∃ o, OddW o H a kvs k v
theorem OddW.mono {o : Obj} {H H' : Hp} {a : Addr} {kvs : List (List Key × V)} {k v : V} (h : OddW o H a kvs k v) (s : ∀ b u, H b = some u → H' b = some u) : OddW o H' a kvs k v := by
  obtain ⟨h1, h2, ⟨es, ep, xs, uk, uv, h3, h4, h5, h6⟩, h7⟩ := h
  exact ⟨s _ _ h1, h2, ⟨es, ep, xs, uk, uv, h3, h4, h5.keeps (fun c ys e => s _ _ e), h6⟩, h7⟩
theorem put_odd (I : Inv X pins σ H s) {A : Around} {E : Value → Shared → Prop} (hu : A.units + 1 < cLine) {a : Addr} {kvs : List (List Key × V)} {y v : V} {u r : Value} {Q : Unit → Shared → Prop} (ha : H a = some (.dT kvs)) (hi : ∀ kv ∈ kvs, IntK kv.1) (hz : kvs.length < sizeLine) (hy : OddV y) (ry : RelV y u) (rv : RelV v r)
    (q : ∀ φ s', OddAt (upd H a (.ext φ)) a kvs y v → Inv X pins σ (upd H a (.ext φ)) s' → Q () s') : wpAny (model X.prog X.w) A (setItem (.ref a) u r) Q E s := by
  obtain ⟨dk, hk⟩ := hy.key ry
  obtain ⟨z, hd, xs, rel, dd⟩ := dt_of I.hok ha
  obtain ⟨o, es, ep, ho, hc, hdat, he, his, hn⟩ := id dd
  have hty : s.TypeIs (.ref a) "dict" := ⟨o, ho, hc.1⟩
  have hes : es.size = kvs.length := by rw [size_of_entries he, ← Paired.length rel]
  unfold setItem
  try with_reducible refine wpAny_holding ?_
  refine wpAny_bind (wpAny_sequenceKey hty (by decide) ?_)
  refine wpAny_bind (wpAny_callSpecial?_slot (name := Str.ofString "__setitem__") hty PySem.slot_dict_setitem
    (wpAny_call_entry PySem.slot_dict_setitem hty PySem.entry_dict_setitem ?_ (PySem.args_dict_setitem _ _ _)))
  show wpAny _ _ (Builtin.Dict.notOrdered "__setitem__" ⟨[.ref a, u, r], []⟩ >>= _) _ _ s
  refine wpAny_bind (wpAny_notOrdered_dict hty ?_)
  show wpAny _ _ (dictSet a u r >>= _) _ _ s
  refine wpAny_bind ?_
  unfold dictSet
  try with_reducible refine wpAny_holding ?_
  refine wpAny_bind (hk.hash (X := X) fun hh => ?_)
  unfold dictSetHashed
  try with_reducible refine wpAny_holding ?_
  have I1 : Inv X pins σ H { s with toks := s.toks + 1 } := I.tok _
  refine wpAny_bind (find_odd I1 (show A.in1.units < cLine from by show A.units + 1 < cLine; exact hu) ho hdat he rel hi hk hh ?_)
  refine wpAny_bind (wpAny_rule (wpAny_updateDictKeys (s := { s with toks := s.toks + 1 }) (hz := by omega) ho hdat ?_))
  refine wpAny_pure ⟨.none, rfl, wpAny_pure ?_⟩
  have hg := Heap.get?_update_self (Obj.mapDictKeys fun es => es.push ⟨hh, u, r⟩) ho (Obj.isFreed_of_dict (Obj.data_mapDictKeys hdat _))
  have hs : Heap.SameBut a s.heap (s.heap.update a (Obj.mapDictKeys fun es => es.push ⟨hh, u, r⟩)) := Heap.SameBut.update ..
  refine q (fun h => h.get? a = some (Obj.mapDictKeys (fun es => es.push ⟨hh, u, r⟩) o)) _ ⟨_, upd_same, hc.mapDictKeys _, ⟨_, ep + 1, xs, u, r, Obj.data_mapDictKeys hdat _, hd, rel.keeps (fun c ys ec => by rw [upd_ne (ne_of ec ha (fun z => nomatch z))]; exact ec), ry, rv, ?_, ?_⟩, hy⟩ ?_
  · rw [Array.toList_push, List.map_append, he, List.map_map]
    rfl
  · rw [Array.size_push]
    omega
  · exact d_write (t' := s.toks + 1) I1 (by rw [ha]; exact True.intro) hs ⟨_, hg⟩ ⟨hg, ⟨_, hg⟩, fun h1 h2 e k => k _ e⟩
/-- as it lies -/
theorem OddW.entries (I : Inv X pins σ H s) {d : Addr} {o : Obj} {kvs : List (List Key × V)} {k v : V} (h : OddW o H d kvs k v) :
    (d == sysModules) = false ∧ ∃ (es : Array DictEntry) (ep : Nat), o.data = .dict es ep ∧ DT.Raw s.heap d es ep ∧ es.size = kvs.length + 1 ∧
      (∀ (i : Nat) (k : List Key) (v : V), kvs[i]? = some (k, v) → ∃ (hi : i < es.size) (q : Addr), es[i].key = .ref q ∧ H q = some (.tup (k.map kV)) ∧ RelV v es[i].val) ∧ ∃ hi : kvs.length < es.size, RelV k es[kvs.length].key ∧ RelV v es[kvs.length].val := by
  obtain ⟨h1, h2, ⟨es, ep, xs, uk, uv, h3, h4, h5, h6, h7, h8, h9⟩, hk⟩ := h
  have there : s.heap.get? d = some o := (show ObjOk X.prog X.w H s.heap d (.ext fun h => h.get? d = some o) from I.hok _ _ h1).1
  have l5 : kvs.length = xs.length := Paired.length h5
  have sizes : es.size = kvs.length + 1 := by
    have := congrArg List.length h8
    rw [List.length_map, List.length_append, List.length_map, Array.length_toList] at this
    simpa [l5] using this
  have at8 : ∀ (i : Nat) (hi : i < es.size), (es.toList.map (fun e => (e.key, e.val)))[i]? = some (es[i].key, es[i].val) := fun i hi => by
    rw [List.getElem?_map, Array.getElem?_toList, Array.getElem?_eq_getElem hi]
    rfl
  refine ⟨h4, es, ep, h3, ⟨o, there, h2, h3⟩, sizes, fun i k v e => ?_, by omega, ?_⟩
  · obtain ⟨b, hb, e1, e2, e3⟩ := paired_get h5 e
    have hi : i < es.size := by have := (List.getElem?_eq_some_iff.mp e).1; omega
    have q := at8 i hi
    rw [h8, List.getElem?_append_left (by rw [List.length_map]; exact (List.getElem?_eq_some_iff.mp hb).1), List.getElem?_map, hb] at q
    injection q with q
    injection q with q1 q2
    exact ⟨hi, b.2.1, q1.symm, e2, by rw [← q2]; exact e3⟩
  · have hi : kvs.length < es.size := by omega
    have q := at8 kvs.length hi
    rw [h8, List.getElem?_append_right (by rw [List.length_map]; omega), List.length_map, show kvs.length - xs.length = 0 by omega] at q
    injection q with q
    injection q with q1 q2
    exact ⟨by rw [← q1]; exact h6, by rw [← q2]; exact h7⟩
end
/-- the items of the odd dict at d -/
def ItO (o : Obj) (d : Addr) (kvs : List (List Key × V)) (k v : V) : It :=
  ⟨fun i H => OddW o H d kvs k v ∧ i < kvs.length + 1,
   fun i H x H' => ∃ (T : Addr) (a b : V), x = .ref T ∧ H T = none ∧ H' = upd H T (.tup [a, b]) ∧ ((∃ (q : Addr) (k' : List Key), kvs[i]? = some (k', b) ∧ H q = some (.tup (k'.map kV)) ∧ a = .ref q) ∨ (i = kvs.length ∧ a = k ∧ b = v)),
   fun i H => OddW o H d kvs k v ∧ kvs.length + 1 ≤ i⟩
theorem turn_itemsO {P : Program} {w : World} {K : PySem.W.Frag} {d : Addr} {o : Obj} {es : Array DictEntry} {ep : Nat} {kvs : List (List Key × V)} {k v : V} {elts : List Expr} {kk : Nat} {tpos : Pos} (it : Addr) (hod : o.data = .dict es ep) :
    Turn P w K (.Tuple elts kk tpos) (ItO o d kvs k v) [it] it (fun i h => ∃ ok ov, IsItemIter h it d i (kvs.length + 1) ep ok ov) where
  mem := by simp
  obj := fun i h ⟨ok, ov, e⟩ b hb => by
    rw [List.mem_singleton.mp hb]
    exact ⟨_, e, fun v z => nomatch z⟩
  keep := fun i h h' ⟨ok, ov, e⟩ k => ⟨ok, ov, k it (by simp) _ e⟩
  item := by
    rintro X rfl rfl rfl hc i pins s σ H E I hf ⟨ok, ov, he⟩ ⟨hd, hi⟩
    obtain ⟨_, es', ep', hdt, raw, hsz, ent, hlast, lk, lv⟩ := hd.entries I
    obtain ⟨rfl, rfl⟩ := dict_ep hod hdt
    have hi' : i < es'.size := by omega
    obtain ⟨a, b, ra, rb, hab⟩ : ∃ a b : V, RelV a es'[i].key ∧ RelV b es'[i].val ∧ ((∃ (q : Addr) (k' : List Key), kvs[i]? = some (k', b) ∧ H q = some (.tup (k'.map kV)) ∧ a = .ref q) ∨ (i = kvs.length ∧ a = k ∧ b = v)) := by
      by_cases c : i < kvs.length
      · obtain ⟨⟨k', v'⟩, hkv⟩ : ∃ p, kvs[i]? = some p := ⟨kvs[i], List.getElem?_eq_getElem c⟩
        obtain ⟨hi2, q, hkey, hq, rv⟩ := ent i k' v' hkv
        exact ⟨.ref q, v', hkey, rv, .inl ⟨q, k', hkv, hq, rfl⟩⟩
      · have e : i = kvs.length := by omega
        subst e
        exact ⟨k, v, lk, lv, .inr ⟨rfl, rfl, rfl⟩⟩
    rw [← hsz] at he
    have hlt : it < s.heap.objs.size := Heap.lt_size he
    refine DT.nextI he raw hi' fun h' out laid grown kept => ?_
    refine ⟨_, rfl, wpAny_letOwnedTupleGo_items (s := { s with heap := h' }) out fun h'' he' sb => ?_⟩
    have laid2 : h''.get? s.heap.objs.size = some { cls := .type "tuple", data := .seq #[es'[i].key, es'[i].val] } := (sb.2 _ (Nat.ne_of_gt hlt)).trans laid
    have pair : ObjOk X.prog X.w (upd H s.heap.objs.size (.tup [a, b])) h'' s.heap.objs.size (.tup [a, b]) :=
      ⟨by show 2 ≤ sizeLine; decide, [es'[i].key, es'[i].val], .cons ra (.cons rb .nil), ⟨_, laid2, rfl, _, rfl⟩⟩
    have I1 : Inv X pins σ (upd H s.heap.objs.size (.tup [a, b])) { s with heap := h'' } :=
      I.turnedNew (t' := s.toks) (ch := [it]) (fun b ob hb e => (sb.2 b (fun z => hb (List.mem_singleton.mpr z))).trans (kept b ob (fun z => hb (List.mem_singleton.mpr z)) e)) hf (Nat.le_refl _) pair
    refine ⟨.ref s.heap.objs.size, _, I1, rfl, ⟨_, a, b, rfl, I.hok.fresh (Nat.le_refl _), rfl, hab⟩, ⟨es'[i].key, es'[i].val, by rw [← hsz]; exact he'⟩, fun b hb => ?_⟩
    rw [List.mem_singleton.mp hb, upd_ne (Nat.ne_of_lt hlt)]
    exact (hf it (by simp)).1
  done := by
    rintro X rfl rfl rfl hc i pins s σ H E I hf ⟨ok, ov, he⟩ ⟨hd, hi⟩
    obtain ⟨f0, f1, f2, f3, f4, f5⟩ := hf it (by simp)
    obtain ⟨_, es', ep', hdt, raw, hsz, _⟩ := hd.entries I
    obtain ⟨rfl, rfl⟩ := dict_ep hod hdt
    rw [← hsz] at he
    exact DT.endI (I.ok.hd hc) he raw (by omega) fun h' eb => ⟨rfl, I.turned (t' := s.toks) (fun b ob hb e => eb b ob hb e) f0 f1 f3 f4 f5⟩
  self := fun A i s Q E ⟨_, _, e⟩ h => PySem.W.kcp_self e h
/-- for a, b in e.items(): e an odd dict -/
def iItemsO (td : TE) : TI := fun σ H R => td σ H fun x H1 => ∃ d o kvs k v, x = .ref d ∧ OddW o H1 d kvs k v ∧ R (ItO o d kvs k v) H1
theorem pi_itemsO {X : Cx} {e : Expr} {td : TE} {apos cpos : Pos} {elts : List Expr} {kk : Nat} {tpos : Pos} (he : PE X e td) (hbase : attributeBase e "items" X.env (eval e X.env) = eval e X.env := by rfl) (hline : (apos.endLine == cpos.line) = true := by rfl) :
    PI X (.Tuple elts kk tpos) (.Call (.Attribute e "items" apos) [] [] cpos) (iItemsO td) := by
  refine ⟨fun pins s σ H R I h => ?_⟩
  refine wpAny_Call_method (T := "dict") (id := "dict.items") hbase rfl hline F.plainAttrs_dict F.slot_dict_items F.type_dict_items (thn (he.run pins s σ H _ I h) fun u s1 ⟨x, H1, I1, rx, d, o, kvs, k, v, ex, hd, q⟩ => ?_)
  subst ex
  obtain rfl : u = Value.ref d := rx
  obtain ⟨notSys, es, ep, hdt, raw, hsz, ent, _⟩ := hd.entries I1
  refine ⟨raw.typeIs, fun b z => ?_, ?_⟩
  · cases z
    obtain ⟨ob, h1, h2, h3⟩ := raw
    exact ⟨ob, h1, h2.2.1⟩
  have I2 : Inv X pins σ H1 { s1 with heap := s1.heap.push { cls := .type "dict_items", data := .fields #[.ref d] } } := I1.kept (t' := s1.toks) fun b ob q => Heap.get?_push_of_some _ q
  have walk : wpAny (model X.prog X.w) X.A (pyIter (.ref s1.heap.objs.size)) (PIE X pins σ (.Tuple elts kk tpos) R) X.xe { s1 with heap := s1.heap.push { cls := .type "dict_items", data := .fields #[.ref d] } } := by
    refine DT.iterI (d := d) ⟨_, Heap.get?_push_size _ rfl, rfl, rfl⟩ (raw.push _) (pi_one (tk := s1.toks) I2 _ (turn_itemsO _ hdt) ⟨.none, .none, ?_⟩ q)
    rw [← hsz]
    exact Heap.get?_push_size _ rfl
  show wpAny _ _ (callWith cpos (.builtin "dict.items") [.ref d] [] []) _ X.xe s1
  exact method_meetsIn F.slot_dict_items F.entry_dict_items rfl (PySem.evalArgs_none ⟨rfl, raw.typeIs, F.args_dict_items_1 _, _, DT.meetsItems (es := es) (ep := ep) notSys, raw, walk⟩)
end L2

set_option Elab.async false
set_option maxRecDepth 100000
set_option maxHeartbeats 4000000
namespace PySem
section
variable {prog : Program} {w : World} {A : Around} {E : Value → Shared → Prop} {s : Shared}
theorem wpAny_len_body_raw {d : Addr} {es : Array DictEntry} {ep : Nat} {Q : Value → Shared → Prop} (hd : (d == sysModules) = false) (hm : s.heap.DictRaw d es ep) (hfit : (es.size : Int) < 2 ^ 63)
    (h : Q (.int es.size (s.toks + 1)) { s with toks := s.toks + 1 + 1 }) : wpAny (model prog w) A (Builtin.«len» ⟨[.ref d], []⟩) (fun fin s' => ∃ r, fin = .done (.ret r) ∧ Q r s') E s := by
  unfold Builtin.«len»
  refine wpAny_bind (m := oneArg "len" _) (wpAny_pure ?_)
  refine wpAny_bind (m := callSpecial? (.ref d) (Str.ofString "__len__")) (wpAny_callSpecial?_slot (name := Str.ofString "__len__") hm.typeIs F.slot_dict_len
    (call_len_raw hd hm ?_))
  show wpAny _ _ _ _ _ { s with toks := s.toks + 1 }
  refine wpAny_bind (wpAny_holding (wpAny_pure ?_))
  refine wpAny_bind (wpAny_letGo ?_)
  show wpAny _ _ (if ((es.size : Nat) : Int) < 0 then _ else _) _ _ _
  rw [if_neg (by omega)]
  show wpAny _ _ (if ((es.size : Nat) : Int) ≥ 2 ^ 63 then _ else _) _ _ _
  rw [if_neg (by omega)]
  exact wpAny_bind (wpAny_mkInt (wpAny_pure ⟨_, rfl, h⟩))
end
end PySem
namespace L2
open PySem PySem.Spec PyProof.Rows
set_option linter.unusedVariables false
section
variable {X : Cx} {pins : List (Addr × Obj)} {σ : L2.St} {H : Hp} {s : Shared}
def rLenO : List V → Hp → VK → Prop := fun xs H Q => ∃ (p : Addr) (kvs : List (List Key × V)) (k v : V), xs = [.ref p] ∧ OddAt H p kvs k v ∧ Q (.int ((kvs.length + 1 : Nat) : Int)) H
theorem call_len_O : CallR X (.builtin "len") rLenO := by
  intro pins s σ H xs us Q I r h
  obtain ⟨p, kvs, k, v, rfl, ⟨o, hp⟩, q⟩ := h
  obtain ⟨u, rfl, rx⟩ := vals1 r
  obtain rfl : u = .ref p := rx
  obtain ⟨z, es, ep, hdt, ⟨o', raw⟩, hsz, _⟩ := hp.entries I
  obtain ⟨es1, ep1, xs, uk, uv, h3, _, _, _, _, _, h9⟩ := hp.ex
  have e1 : es1 = es := by rw [hdt] at h3; cases h3; rfl
  subst e1
  refine Calls.call_function_entry kind_len plain_len entry_len (args_len1 _) (wpAny_len_body_raw z ⟨o', raw⟩ (by rw [sizeLine_eq] at h9; omega) ?_)
  rw [hsz]
  exact ⟨.int ((kvs.length + 1 : Nat) : Int), H, I.tok _, ⟨_, rfl⟩, q⟩
def rIsiO (K : PySem.W.Frag) : List V → Hp → VK → Prop := fun xs H Q => ∃ (p : Addr) (kvs : List (List Key × V)) (k v c : V) (u : Value) (b : Bool), xs = [.ref p, c] ∧ OddAt H p kvs k v ∧ ClsV c u ∧ PySem.W.kitOne K (.type "dict") u = some b ∧ Q (.bl b) H
theorem call_isiO : CallR X (.builtin "isinstance") (rIsiO X.K) := by
  intro pins s σ H xs us Q I r h
  obtain ⟨p, kvs, k, v, c, u, b, rfl, ⟨o, hp⟩, hc, e, q⟩ := h
  obtain ⟨u1, u2, rfl, r1, r2⟩ := vals2 r
  have e2 := hc.eq r2
  subst e2
  cases (show u1 = Value.ref p from r1)
  obtain ⟨z, es, ep, hdt, ⟨o', h1, h2, h3⟩, hsz, _⟩ := hp.entries I
  exact PySem.W.kia_one PySem.W.kitx_dict I.kIn ⟨o', h1, h2.1⟩ e (fun z => nomatch z) fun tk => ⟨.bl b, H, I.tok tk, rfl, q⟩
/-- d[y] = v, y perhaps no tuple -/
def sDPutO (td ty tv : TE) : TS := fun D σ H => tv σ H fun v H1 => td σ H1 fun x H2 => ty σ H2 fun y H3 => (∃ a H4, x = .ref a ∧ DPut H3 a y v H4 ∧ D.nx σ H4) ∨
  ∃ (a : Addr) (kvs : List (List Key × V)), x = .ref a ∧ H3 a = some (.dT kvs) ∧ (∀ kv ∈ kvs, IntK kv.1) ∧ kvs.length < sizeLine ∧ OddV y ∧ ∀ φ, OddAt (upd H3 a (.ext φ)) a kvs y v → D.nx σ (upd H3 a (.ext φ))
theorem ps_dputO {o i value : Expr} {td ty tv : TE} {pos pos' : Pos} (hu : X.A.units + 1 < cLine) (ho : PE X o td) (hi : PE X i ty) (hv : PE X value tv) (hs : swapsWith value (some (.Subscript o i pos')) pos.line X.env = pure false) :
    PS X (.Assign [.Subscript o i pos'] value pos) (sDPutO td ty tv) := by
  refine ⟨fun pins s σ H D I h => ?_⟩
  refine wpAny_Assign_Subscript (thn (hv.run pins s σ H _ I h) fun r s1 ⟨v, H1, I1, rv, q1⟩ => thn (ho.run pins s1 σ H1 _ I1 q1) fun u s2 ⟨x, H2, I2, rx, q2⟩ => thn (hi.run pins s2 σ H2 _ I2 q2) fun iv s3 ⟨y, H3, I3, ry, q3⟩ => ?_) hs
  rcases q3 with ⟨a, H4, ex, g, q3⟩ | ⟨a, kvs, ex, ha, hk, hz, hy, q3⟩
  · subst ex
    obtain rfl : u = Value.ref a := rx
    exact d_setItem hu I3 g ry rv fun s4 I4 => ⟨σ, H4, I4, q3⟩
  · subst ex
    obtain rfl : u = Value.ref a := rx
    exact put_odd I3 hu ha hk hz hy ry rv fun φ s4 od I4 => ⟨σ, _, I4, q3 φ od⟩
/-! what may be shown: an odd dict too -/
inductive DY (K : PySem.W.Frag) (H : Hp) : V → PyData → Prop
  | even {v : V} {d : PyData} : DX K H v d → DY K H v d
  | odd {a : Addr} {kvs : List (List Key × V)} {k v : V} {vs : List V} {ds : List PyData} {es : List (PyData × PyData)} {dk dv : PyData} : OddAt H a kvs k v → vs = kvs.map (·.2) → DXs K H vs ds → es.map (·.1) = kvs.map (fun kv => keyD kv.1) → es.map (·.2) = ds → Dp K H k dk → dk.hasDict = false → DX K H v dv → DY K H (.ref a) (.dict (es ++ [(dk, dv)]))
  | lst {a : Addr} {xs : List V} {ds : List PyData} : SqL K H a xs → xs.length = ds.length → (∀ (i : Nat) (x : V) (d : PyData), xs[i]? = some x → ds[i]? = some d → DY K H x d) → DY K H (.ref a) (.list ds)
  | tup {a : Addr} {xs : List V} {ds : List PyData} : SqT K H a xs → xs.length = ds.length → (∀ (i : Nat) (x : V) (d : PyData), xs[i]? = some x → ds[i]? = some d → DY K H x d) → DY K H (.ref a) (.tuple ds)
theorem shwS_of {P : Program} {w : World} {h : Heap} : ∀ {xs : List V} {us : List Value} {ds : List PyData}, Vals xs us → xs.length = ds.length → (∀ (i : Nat) (x : V) (d : PyData) (u : Value), xs[i]? = some x → ds[i]? = some d → RelV x u → Shw P w h u d) → ShwS P w h us ds
  | _, _, [], .nil, _, _ => shw_nil
  | _, _, d :: ds, .cons r rs, hl, g => shw_cons (g 0 _ d _ rfl rfl r) (shwS_of rs (by simpa using hl) fun i x d u hx hd hr => g (i + 1) x d u (by simpa using hx) (by simpa using hd) hr)
  | _, _, [], .cons r rs, hl, _ => by simp at hl
  | _, _, d :: ds, .nil, hl, _ => by simp at hl
theorem shwS_idx {P : Program} {w : World} {h : Heap} : ∀ {us : List Value} {ds : List PyData}, us.length = ds.length → (∀ (i : Nat) (u : Value) (d : PyData), us[i]? = some u → ds[i]? = some d → Shw P w h u d) → ShwS P w h us ds
  | [], [], _, _ => shw_nil
  | u :: us, d :: ds, hl, g => shw_cons (g 0 _ d rfl rfl) (shwS_idx (by simpa using hl) fun i u d hx hd => g (i + 1) u d (by simpa using hx) (by simpa using hd))
  | [], d :: ds, hl, _ => by simp at hl
  | u :: us, [], hl, _ => by simp at hl
theorem DXs.get {K : PySem.W.Frag} {H : Hp} : ∀ {vs : List V} {ds : List PyData} {i : Nat} {v : V}, DXs K H vs ds → vs[i]? = some v → ∃ d, ds[i]? = some d ∧ DX K H v d
  | _, _, 0, _, .cons a _, h => by
    cases h
    exact ⟨_, rfl, a⟩
  | _, _, i + 1, _, .cons _ b, h => by
    obtain ⟨d, h1, h2⟩ := DXs.get (i := i) b (by simpa using h)
    exact ⟨d, by simpa using h1, h2⟩
  | _, _, _, _, .nil, h => by simp at h
theorem DXs.len {K : PySem.W.Frag} {H : Hp} : ∀ {vs : List V} {ds : List PyData}, DXs K H vs ds → vs.length = ds.length
  | _, _, .nil => rfl
  | _, _, .cons _ b => by rw [List.length_cons, List.length_cons, DXs.len b]
theorem DY.shw (I : Inv X pins σ H s) {v : V} {d : PyData} (h : DY X.K H v d) : ∀ u : Value, RelV v u → Shw X.prog X.w s.heap u d := by
  induction h with
  | even h => exact fun u r => DX.shw I h u r
  | @lst a xs ds hq hl g ih =>
    intro u r
    obtain rfl : u = Value.ref _ := r
    obtain ⟨its, rv, ⟨o, n, ho, hc, _, hd⟩, _⟩ := I.list hq
    exact shw_lst ho hc hd (shwS_of rv hl fun i x d u hx hd hr => ih i x d hx hd u hr)
  | @tup a xs ds hq hl g ih =>
    intro u r
    obtain rfl : u = Value.ref _ := r
    obtain ⟨its, rv, ⟨o, ho, hc, n, hd⟩, _⟩ := I.tuple hq
    exact shw_tup ho hc hd (shwS_of rv hl fun i x d u hx hd hr => ih i x d hx hd u hr)
  | @odd a kvs k v vs ds es dk dv ho ev g ek ed hk nk hv =>
    intro u r
    obtain rfl : u = Value.ref a := r
    obtain ⟨o, hp⟩ := ho
    obtain ⟨z, es', ep, hdt, ⟨o', h1, h2, h3⟩, hsz, ent, hlast, lk, lv⟩ := hp.entries I
    have el : es.length = kvs.length := by
      have := congrArg List.length ek
      rwa [List.length_map, List.length_map] at this
    have at8 : ∀ {α : Type} (f : DictEntry → α) (i : Nat) (u : α), (es'.toList.map f)[i]? = some u → ∃ hi : i < es'.size, u = f es'[i] := fun f i u hu => by
      rw [List.getElem?_map] at hu
      obtain ⟨e, he, rfl⟩ := Option.map_eq_some_iff.mp hu
      rw [Array.getElem?_toList] at he
      obtain ⟨hi, rfl⟩ := Array.getElem?_eq_some_iff.mp he
      exact ⟨hi, rfl⟩
    have keys : ShwS X.prog X.w s.heap (es'.toList.map (·.key)) ((es ++ [(dk, dv)]).map (·.1)) := by
      refine shwS_idx (by rw [List.length_map, List.length_map, List.length_append, Array.length_toList, hsz, el]; rfl) fun i u d hu hd => ?_
      obtain ⟨hi, rfl⟩ := at8 _ i u hu
      rw [List.map_append] at hd
      by_cases c : i < kvs.length
      · rw [List.getElem?_append_left (by rw [List.length_map, el]; exact c), ek, List.getElem?_map, List.getElem?_eq_getElem c] at hd
        cases hd
        obtain ⟨_, q, e1, e2, _⟩ := ent i kvs[i].1 kvs[i].2 (List.getElem?_eq_getElem c)
        rw [e1]
        obtain ⟨as, ra⟩ := Dp.reads I (keyD kvs[i].1) (.ref q) (.ref q) (.tup (SqT.of e2) (keyD1_dp _)) rfl
        exact shw_seq ra (by unfold keyD; rw [PyData.hasDict]; exact keyD1_no _)
      · have ei : i = kvs.length := by omega
        subst ei
        rw [List.getElem?_append_right (by rw [List.length_map, el]; exact Nat.le_refl _), List.length_map, el, Nat.sub_self] at hd
        cases hd
        obtain ⟨as, ra⟩ := Dp.reads I dk k _ hk lk
        exact shw_seq ra nk
    have vals : ShwS X.prog X.w s.heap (es'.toList.map (·.val)) ((es ++ [(dk, dv)]).map (·.2)) := by
      refine shwS_idx (by rw [List.length_map, List.length_map, List.length_append, Array.length_toList, hsz, el]; rfl) fun i u d hu hd => ?_
      obtain ⟨hi, rfl⟩ := at8 _ i u hu
      rw [List.map_append] at hd
      by_cases c : i < kvs.length
      · rw [List.getElem?_append_left (by rw [List.length_map, el]; exact c), ed] at hd
        obtain ⟨_, q, e1, e2, e3⟩ := ent i kvs[i].1 kvs[i].2 (List.getElem?_eq_getElem c)
        obtain ⟨d', h4, h5⟩ := DXs.get g (i := i) (v := kvs[i].2) (by rw [ev, List.getElem?_map, List.getElem?_eq_getElem c]; rfl)
        rw [h4] at hd
        cases hd
        exact DX.shw I h5 _ e3
      · have ei : i = kvs.length := by omega
        subst ei
        rw [List.getElem?_append_right (by rw [List.length_map, el]; exact Nat.le_refl _), List.length_map, el, Nat.sub_self] at hd
        cases hd
        exact DX.shw I hv _ lv
    exact shw_dic h1 h2.1 h3 z keys vals
/-- repr of a tuple in which odd dicts may stand -/
def rReprY (K : PySem.W.Frag) : List V → Hp → VK → Prop := fun xs H Q => ∃ (a : Addr) (vs : List V) (ds : List PyData), xs = [.ref a] ∧ SqT K H a vs ∧ vs.length = ds.length ∧ (∀ (i : Nat) (x : V) (d : PyData), vs[i]? = some x → ds[i]? = some d → DY K H x d) ∧ (PyData.tuple ds).showable = true ∧ (PyData.tuple ds).depth ≤ 40 ∧ (PyData.tuple ds).shown.length ≤ sizeLine ∧ Q (.str (PyData.tuple ds).shown) H
theorem call_reprY (hg : X.A.guards = some []) (hu : X.A.units + 64 < cLine) : CallR X (.builtin "repr") (rReprY X.K) := by
  intro pins s σ H xs us Q I r h
  obtain ⟨a, vs, ds, rfl, hq, hl, g, hs, hd, hz, q⟩ := h
  obtain rfl := Vals.ref1 r
  obtain ⟨its, rv, ⟨o, ho, hc, n, hdd⟩, _⟩ := I.tuple hq
  obtain ⟨⟨as, ra⟩, gg⟩ := shwS_of rv hl fun i x d u hx hd hr => DY.shw I (g i x d hx hd) u hr
  have rd : Reads s.heap (.ref a) (.tuple ds) _ := .tuple ho hc hdd ra
  rw [PyData.showable] at hs
  rw [PyData.shown] at hz q
  rw [PyData.depth] at hd
  obtain ⟨bs, b1, b2⟩ := gg hs fun t m => Nat.le_trans (tupleText_mem_le m) hz
  have out : a ∉ bs := not_mem_of_deeper rd (by rw [PyData.depth]; omega) b1
  refine call_repr_slot (T := "tuple") (idr := "tuple.__repr__") (by omega) ⟨o, ho, hc⟩ F.slot_tuple_repr ?_
  exact call_tuple_reprK ho hc hdd out b2 (g := []) hg (fun b _ => Clear.nil b) (by show X.A.units + 1 + (PyData.depthAll ds + 1) < cLine; omega) (fun _ _ e => e) (fun h' u tk hk => ⟨_, _, rfl, .str _, H, I.kept (t' := tk) hk, ⟨_, rfl⟩, q⟩) hz
end
end L2

set_option Elab.async false
set_option maxRecDepth 100000
set_option maxHeartbeats 4000000
namespace L2
open PySem PySem.Spec PyProof.Rows PySem.SeqAt PySem.Calls PyProof.V PySem.W
set_option linter.unusedVariables false
/-! == of dicts with tuple keys -/
section
variable {prog : Program} {w : World} {K : Type} [DecidableEq K] {knd : HeapKind prog w K} {A : Around} {E : Value → Shared → Prop} {s : Shared}
inductive HitsH {K : Type} (prog : Program) (w : World) (A : Around) (s : Shared) (kb : List (K × Addr × Value)) : List (K × Addr × Value) → Bool → Prop
  | nil : HitsH prog w A s kb [] true
  | miss {k : K} {v : Addr × Value} {r : List (K × Addr × Value)} : (∀ (j : Nat) (p : Addr × Value), kb[j]? ≠ some (k, p)) → HitsH prog w A s kb ((k, v) :: r) false
  | hit {k : K} {v p : Addr × Value} {j : Nat} {r : List (K × Addr × Value)} {e b : Bool} : kb[j]? = some (k, p) → SeqAt.EqP prog w A s v.2 p.2 e → HitsH prog w A s kb r b → HitsH prog w A s kb ((k, v) :: r) (e && b)
theorem HitsH.inv {kb : List (K × Addr × Value)} {k : K} {v : Addr × Value} {r : List (K × Addr × Value)} {b : Bool} (h : HitsH prog w A s kb ((k, v) :: r) b) :
    ((∀ (j : Nat) (p : Addr × Value), kb[j]? ≠ some (k, p)) ∧ b = false) ∨ ∃ (j : Nat) (p : Addr × Value) (e b' : Bool), kb[j]? = some (k, p) ∧ SeqAt.EqP prog w A s v.2 p.2 e ∧ HitsH prog w A s kb r b' ∧ b = (e && b') := by
  cases h with
  | miss hn => exact .inl ⟨hn, rfl⟩
  | hit hy he hr => exact .inr ⟨_, _, _, _, hy, he, hr, rfl⟩
theorem samePairsH {nm : String} {a b : Addr} {ka kb : List (K × Addr × Value)} {r : Bool} {Q : Bool → Shared → Prop} (hu : knd.room A) (ha : (a == sysModules) = false) (hb : (b == sysModules) = false)
    (da : s.heap.DictOfH knd a ka) (db : s.heap.DictOfH knd b kb) (hits : ka.length = kb.length → HitsH prog w A s kb ka r) (h : Q (ka.length == kb.length && r) s) :
    wpAny (model prog w) A (Builtin.Dict.samePairs nm a b) Q E s := by
  obtain ⟨oa, es, ep, hoa, _, hda, hea, hia, hna⟩ := da
  obtain ⟨ob, es', ep', hob, _, hdb, heb, hib, hnb⟩ := db
  have hla : ka.length = es.size := (size_of_entries hea).symm
  have hlb : kb.length = es'.size := (size_of_entries heb).symm
  rw [hla, hlb] at h
  unfold Builtin.Dict.samePairs Builtin.Dict.showsAll
  rw [if_neg (show ¬ (a == sysModules) = true by rw [ha]; exact Bool.false_ne_true), if_neg (show ¬ (b == sysModules) = true by rw [hb]; exact Bool.false_ne_true)]
  refine wpAny_bind (wpAny_pure (wpAny_bind (wpAny_pure ?_)))
  refine wpAny_bind (wpAny_dictEntries hoa hda ?_)
  dsimp only
  refine wpAny_bind (wpAny_dictEntries hob hdb ?_)
  by_cases hsz : es.size = es'.size
  case neg =>
    rw [if_pos (by simpa using hsz)]
    have hbf : (es.size == es'.size) = false := by simpa using hsz
    rw [hbf, Bool.false_and] at h
    exact wpAny_bind (wpAny_rule (wpAny_pure h))
  case pos =>
    have h' : Q r s := by simpa [hsz] using h
    have hits' := hits (by rw [hla, hlb]; exact hsz)
    rw [if_neg (by rw [hsz]; simp)]
    refine wpAny_bind (wpAny_dictEpoch hoa hda ?_)
    refine wpAny_bind ?_
    rw [Std.Legacy.Range.forIn_eq_forIn_range']
    simp only [Std.Legacy.Range.size, Nat.sub_zero, Nat.add_sub_cancel, Nat.div_one]
    refine wpAny_forIn_list _
      (fun rest q s' => s' = s ∧ q = (none, ()) ∧ ∃ i, rest = List.range' i (es.size - i) ∧ i ≤ es.size ∧ HitsH prog w A s kb (ka.drop i) r)
      _ ?_ ?_ _ _ ⟨rfl, rfl, 0, by simp, Nat.zero_le _, hits'⟩
    · rintro x rest q s' ⟨rfl, rfl, i, hr, hi, hpre⟩
      have hlt : i < es.size := by
        rcases Nat.lt_or_ge i es.size with h | h
        · exact h
        · rw [Nat.sub_eq_zero_of_le h] at hr; simp at hr
      obtain ⟨rfl, hrest⟩ : x = i ∧ rest = List.range' (i + 1) (es.size - (i + 1)) := by
        have e : es.size - i = (es.size - (i + 1)) + 1 := by omega
        rw [e, List.range'_succ] at hr
        injection hr with h1 h2
        exact ⟨h1, h2⟩
      refine wpAny_bind (wpAny_dictEntries hoa hda ?_)
      rw [Array.getElem?_eq_getElem hlt]
      have hlt' : x < ka.length := by rw [hla]; exact hlt
      obtain ⟨k, v, hkv⟩ : ∃ k v, ka[x] = (k, v) := ⟨_, _, rfl⟩
      have hdrop : ka.drop x = (k, v) :: ka.drop (x + 1) := by rw [← hkv]; exact List.drop_eq_getElem_cons hlt'
      have hen : es[x] = entryOfKey knd (k, v) := by
        have q := entry_at hea x
        rw [Array.getElem?_eq_getElem hlt, List.getElem?_eq_getElem hlt', hkv] at q
        exact Option.some.inj q
      have hkm : knd.is s'.heap k v.1 := by
        have := hia ka[x] (List.getElem_mem hlt')
        rw [hkv] at this
        exact this
      rw [hdrop] at hpre
      rw [hen]
      show wpAny _ _ (holding [Value.ref v.1, v.2] _ >>= _) _ _ _
      refine wpAny_bind (wpAny_holding (wpAny_bind ?_))
      show wpAny _ _ (dictFind b (.ref v.1) (knd.hash k)) _ _ _
      refine wpAny_dictFind_heap hu hkm hob hdb heb hib hnb (fun hno => ?_) fun j p hj => ?_
      · rcases hpre.inv with ⟨_, er⟩ | ⟨j, y, _, _, hy, _⟩
        · rw [er] at h'
          refine wpAny_pure ?_
          show wpAny _ _ (if (!false) = true then _ else _) _ _ _
          rw [if_pos (by decide)]
          exact wpAny_pure (wpAny_pure h')
        · exact absurd hy (hno j y)
      · have hjlt : j < es'.size := by
          rw [← hlb]
          exact (List.getElem?_eq_some_iff.mp hj).1
        refine wpAny_bind (wpAny_dictEntries hob hdb ?_)
        rw [Array.getElem?_eq_getElem hjlt]
        rcases hpre.inv with ⟨hn, _⟩ | ⟨j2, y, e, b', hy, he, hrr, er⟩
        · exact absurd hj (hn j p)
        · have ejj : j = j2 := by
            obtain ⟨l1, e1⟩ := List.getElem?_eq_some_iff.mp hj
            obtain ⟨l2, e2⟩ := List.getElem?_eq_some_iff.mp hy
            have g1 : (kb.map (·.1))[j]'(by simpa using l1) = k := by rw [List.getElem_map, e1]
            have g2 : (kb.map (·.1))[j2]'(by simpa using l2) = k := by rw [List.getElem_map, e2]
            have pw := List.pairwise_iff_getElem.mp hnb
            rcases Nat.lt_trichotomy j j2 with c | c | c
            · exact absurd (g1.trans g2.symm) (pw j j2 (by simpa using l1) (by simpa using l2) c)
            · exact c
            · exact absurd (g2.trans g1.symm) (pw j2 j (by simpa using l2) (by simpa using l1) c)
          subst ejj
          rw [hj] at hy
          cases hy
          have ev : es'[j].val = p.2 := by
            have q := entry_at heb j
            rw [Array.getElem?_eq_getElem hjlt, hj] at q
            rw [Option.some.inj q]
            rfl
          show wpAny _ _ (holding [es'[j].val] (eqBool v.2 es'[j].val)) _ _ _
          rw [ev]
          refine wpAny_holding (he _ _ ?_)
          cases e with
          | false =>
            rw [er, Bool.false_and] at h'
            show wpAny _ _ (if (!false) = true then _ else _) _ _ _
            rw [if_pos (by decide)]
            exact wpAny_pure (wpAny_pure h')
          | true =>
            rw [Bool.true_and] at er
            rw [← er] at hrr
            show wpAny _ _ (if (!true) = true then _ else _) _ _ _
            rw [if_neg (by decide)]
            refine wpAny_bind (wpAny_dictEpoch hoa hda ?_)
            rw [if_neg (by simp)]
            exact wpAny_pure ⟨rfl, rfl, x + 1, hrest, hlt, hrr⟩
    · rintro q s' ⟨rfl, rfl, i, hr, hi, hpre⟩
      have hin : i = es.size := by
        rcases Nat.lt_or_ge i es.size with h | h
        · have e : es.size - i = (es.size - (i + 1)) + 1 := by omega
          rw [e, List.range'_succ] at hr; exact nomatch hr
        · exact Nat.le_antisymm hi h
      refine wpAny_pure ?_
      rw [hin, ← hla, List.drop_length] at hpre
      cases hpre
      exact h'
theorem DictOfH.ty {d : Addr} {xs : List (K × Addr × Value)} (h : s.heap.DictOfH knd d xs) : s.TypeIs (.ref d) "dict" := let ⟨o, _, _, ho, hc, _⟩ := h; ⟨o, ho, hc.1⟩
theorem rcH_dicts {a b : Addr} {ka kb : List (K × Addr × Value)} {r : Bool} (hr : knd.room A.in1) (ha : (a == sysModules) = false) (hb : (b == sysModules) = false)
    (da : s.heap.DictOfH knd a ka) (db : s.heap.DictOfH knd b kb) (hu : A.units < cLine) (hits : ka.length = kb.length → HitsH prog w A.in1 s kb ka r) (E Q : Value → Shared → Prop) (h : Q (.bool (ka.length == kb.length && r)) s) : wpAny (model prog w) A (richCompare .Eq (.ref a) (.ref b)) Q E s := by
  refine wpAny_richCompare_same_room (op := .Eq) (DictOfH.ty da) (DictOfH.ty db) PySem.F.slot_dict_eq (wpAny_call_entry PySem.F.slot_dict_eq (DictOfH.ty da) PySem.F.entry_dict_eq ?_ (PySem.F.args_dict_eq_2 _ _)) hu
  show wpAny _ _ (Builtin.Dict.dictSlotArgs "__eq__" ⟨[.ref a, .ref b], []⟩ >>= _) _ _ s
  refine wpAny_bind ?_
  unfold Builtin.Dict.dictSlotArgs
  refine wpAny_bind (wpAny_notOrdered_dict (DictOfH.ty da) ?_)
  show wpAny _ _ (pure (Value.ref a, Value.ref b)) _ _ s
  refine wpAny_pure ?_
  refine wpAny_bind (wpAny_isInstance (T := "dict") (DictOfH.ty db) PySem.F.sub_dict_dict ?_)
  simp only [Bool.not_true, Bool.false_eq_true, if_false]
  refine wpAny_bind (wpAny_pure (wpAny_bind (wpAny_pure ?_)))
  refine wpAny_bind (samePairsH hr ha hb da db hits ?_)
  refine wpAny_pure ⟨_, rfl, ?_, ?_⟩
  · exact fun x => nomatch x
  · simpa using h
theorem rcHN_dicts {a b : Addr} {ka kb : List (K × Addr × Value)} {r : Bool} (hr : knd.room A.in1) (ha : (a == sysModules) = false) (hb : (b == sysModules) = false)
    (da : s.heap.DictOfH knd a ka) (db : s.heap.DictOfH knd b kb) (hu : A.units < cLine) (hits : ka.length = kb.length → HitsH prog w A.in1 s kb ka r) (E Q : Value → Shared → Prop) (h : Q (.bool (!(ka.length == kb.length && r))) s) : wpAny (model prog w) A (richCompare .NotEq (.ref a) (.ref b)) Q E s := by
  refine wpAny_richCompare_same_room (op := .NotEq) (DictOfH.ty da) (DictOfH.ty db) PySem.F.slot_dict_ne (wpAny_call_entry PySem.F.slot_dict_ne (DictOfH.ty da) PySem.F.entry_dict_ne ?_ (PySem.F.args_dict_ne_2 _ _)) hu
  show wpAny _ _ (Builtin.Dict.dictSlotArgs "__ne__" ⟨[.ref a, .ref b], []⟩ >>= _) _ _ s
  refine wpAny_bind ?_
  unfold Builtin.Dict.dictSlotArgs
  refine wpAny_bind (wpAny_notOrdered_dict (DictOfH.ty da) ?_)
  show wpAny _ _ (pure (Value.ref a, Value.ref b)) _ _ s
  refine wpAny_pure ?_
  refine wpAny_bind (wpAny_isInstance (T := "dict") (DictOfH.ty db) PySem.F.sub_dict_dict ?_)
  simp only [Bool.not_true, Bool.false_eq_true, if_false]
  refine wpAny_bind (wpAny_pure (wpAny_bind (wpAny_pure ?_)))
  refine wpAny_bind (samePairsH hr ha hb da db hits ?_)
  refine wpAny_pure ⟨_, rfl, ?_, ?_⟩
  · exact fun x => nomatch x
  · simpa using h
end

section
variable {prog : Program} {w : World}
open AutoSeq1 (wpAny_loadPart')
theorem tuple_eqIn (l b : Addr) (items items2 : Array Value) (n n2 : Nat) (dd dd2 : Option Addr) (sl sl2 : Array (Option Value)) (e : Nat → Bool) :
    MeetsIn prog w (Builtin.«tuple.__eq__» ⟨[.ref l, .ref b], []⟩)
      (fun A R s => s.heap.get? l = some { cls := .type "tuple", dict := dd, data := .seq items n, slots := sl } ∧ s.heap.get? b = some { cls := .type "tuple", dict := dd2, data := .seq items2 n2, slots := sl2 } ∧
        (∀ j (h1 : j < items.size) (h2 : j < items2.size), SeqAt.EqP prog w A.in1 s items[j] items2[j] (e j)) ∧
        R (.ok (.ret (.bool ((List.range (min items.size items2.size)).all e && items.size == items2.size)))) s) :=
  .of_wp fun A R s h => by
    obtain ⟨hp, g, d, tk, os⟩ := s; obtain ⟨hl, hb, he, h⟩ := h
    have f2 := AutoSeq1.sub_tuple_tuple
    have hZ : (items.toList.zip items2.toList).length = min items.size items2.size := by simp
    wp_walk using wpAny_loadPart' hl, wpAny_loadPart' hb, wpAny_forIn_list _ (fun rest b s' => b.1 = none ∧ s' = ⟨hp, g, d, tk, os⟩ ∧ ∃ i, rest = (items.toList.zip items2.toList).drop i ∧
      R (.ok (.ret (.bool (((List.range (min items.size items2.size)).drop i).all e && items.size == items2.size)))) ⟨hp, g, d, tk, os⟩) _
    case turn =>
      rintro ⟨y, x⟩ rest b s' ⟨hb', rfl, i, hz, hR⟩
      have hlt : i < (items.toList.zip items2.toList).length := by
        rcases Nat.lt_or_ge i (items.toList.zip items2.toList).length with h' | h'
        · exact h'
        · rw [List.drop_of_length_le h'] at hz; cases hz
      have hm : i < min items.size items2.size := hZ ▸ hlt
      have h1 : i < items.size := Nat.lt_of_lt_of_le hm (Nat.min_le_left _ _)
      have h2 : i < items2.size := Nat.lt_of_lt_of_le hm (Nat.min_le_right _ _)
      rw [List.drop_eq_getElem_cons hlt] at hz
      injection hz with hyx hrest
      have hy : y = items[i] := by have := congrArg Prod.fst hyx; simpa using this
      have hx : x = items2[i] := by have := congrArg Prod.snd hyx; simpa using this
      subst hy hx
      have hd : (List.range (min items.size items2.size)).drop i = i :: (List.range (min items.size items2.size)).drop (i + 1) := by simp [List.drop_eq_getElem_cons, hm]
      rw [hd, List.all_cons] at hR
      refine wpAny_bind (he i h1 h2 _ _ ?_)
      cases hy : e i with
      | true =>
        rw [hy] at hR
        wp_walk
        exact ⟨rfl, rfl, i + 1, hrest, by simpa using hR⟩
      | false =>
        rw [hy] at hR
        wp_walk
        exact ⟨_, rfl, by simpa using hR⟩
    case fin =>
      rintro ⟨b1, b2⟩ s' ⟨hb', rfl, i, hz, hR⟩
      simp only at hb'
      subst hb'
      have hge : min items.size items2.size ≤ i := by
        rcases Nat.lt_or_ge i (items.toList.zip items2.toList).length with h' | h'
        · rw [List.drop_eq_getElem_cons h'] at hz; cases hz
        · exact hZ ▸ h'
      rw [List.drop_of_length_le (by simpa using hge)] at hR
      wp_walk
      exact ⟨_, rfl, by simpa [Builtin.Tuple.tupleCompareSizes] using hR⟩
    case h =>
      exact ⟨rfl, rfl, 0, rfl, by simpa using h⟩
theorem rcP_tups {A : Around} {s : Shared} {l b : Addr} {items items2 : Array Value} {e : Nat → Bool} (hl : s.heap.IsTuple l items) (hb : s.heap.IsTuple b items2) (hu : A.units < cLine)
    (he : ∀ j (h1 : j < items.size) (h2 : j < items2.size), SeqAt.EqP prog w A.in1 s items[j] items2[j] (e j)) (E Q : Value → Shared → Prop) (h : Q (.bool ((List.range (min items.size items2.size)).all e && items.size == items2.size)) s) : wpAny (model prog w) A (richCompare .Eq (.ref l) (.ref b)) Q E s := by
  obtain ⟨⟨cls, dd, data, sl⟩, ho, hc, n, hd⟩ := id hl
  obtain ⟨⟨cls2, dd2, data2, sl2⟩, ho2, hc2, n2, hd2⟩ := id hb
  simp only at hc hd hc2 hd2
  subst hc hd hc2 hd2
  have ta : s.TypeIs (.ref l) "tuple" := ⟨_, ho, rfl⟩
  have tb : s.TypeIs (.ref b) "tuple" := ⟨_, ho2, rfl⟩
  exact wpAny_richCompare_same_room (op := .Eq) ta tb F.slot_tuple_eq (call_meetsIn F.slot_tuple_eq ta F.entry_tuple_eq (F.args_tuple_eq_2 _ _) (tuple_eqIn l b items items2 n n2 dd dd2 sl sl2 e)
    ⟨ho, ho2, he, show Value.bool ((List.range (min items.size items2.size)).all e && items.size == items2.size) ≠ Value.notImplemented ∧ Q (.bool ((List.range (min items.size items2.size)).all e && items.size == items2.size)) s from ⟨(fun x => nomatch x), h⟩⟩) hu
theorem tuple_neIn (l b : Addr) (items items2 : Array Value) (n n2 : Nat) (dd dd2 : Option Addr) (sl sl2 : Array (Option Value)) (e : Nat → Bool) :
    MeetsIn prog w (Builtin.«tuple.__ne__» ⟨[.ref l, .ref b], []⟩)
      (fun A R s => s.heap.get? l = some { cls := .type "tuple", dict := dd, data := .seq items n, slots := sl } ∧ s.heap.get? b = some { cls := .type "tuple", dict := dd2, data := .seq items2 n2, slots := sl2 } ∧
        (∀ j (h1 : j < items.size) (h2 : j < items2.size), SeqAt.EqP prog w A.in1 s items[j] items2[j] (e j)) ∧
        R (.ok (.ret (.bool (!((List.range (min items.size items2.size)).all e && items.size == items2.size))))) s) :=
  .of_wp fun A R s h => by
    obtain ⟨hp, g, d, tk, os⟩ := s; obtain ⟨hl, hb, he, h⟩ := h
    have f2 := AutoSeq1.sub_tuple_tuple
    have hZ : (items.toList.zip items2.toList).length = min items.size items2.size := by simp
    wp_walk using wpAny_loadPart' hl, wpAny_loadPart' hb, wpAny_forIn_list _ (fun rest b s' => b.1 = none ∧ s' = ⟨hp, g, d, tk, os⟩ ∧ ∃ i, rest = (items.toList.zip items2.toList).drop i ∧
      R (.ok (.ret (.bool (!(((List.range (min items.size items2.size)).drop i).all e && items.size == items2.size))))) ⟨hp, g, d, tk, os⟩) _
    case turn =>
      rintro ⟨y, x⟩ rest b s' ⟨hb', rfl, i, hz, hR⟩
      have hlt : i < (items.toList.zip items2.toList).length := by
        rcases Nat.lt_or_ge i (items.toList.zip items2.toList).length with h' | h'
        · exact h'
        · rw [List.drop_of_length_le h'] at hz; cases hz
      have hm : i < min items.size items2.size := hZ ▸ hlt
      have h1 : i < items.size := Nat.lt_of_lt_of_le hm (Nat.min_le_left _ _)
      have h2 : i < items2.size := Nat.lt_of_lt_of_le hm (Nat.min_le_right _ _)
      rw [List.drop_eq_getElem_cons hlt] at hz
      injection hz with hyx hrest
      have hy : y = items[i] := by have := congrArg Prod.fst hyx; simpa using this
      have hx : x = items2[i] := by have := congrArg Prod.snd hyx; simpa using this
      subst hy hx
      have hd : (List.range (min items.size items2.size)).drop i = i :: (List.range (min items.size items2.size)).drop (i + 1) := by simp [List.drop_eq_getElem_cons, hm]
      rw [hd, List.all_cons] at hR
      refine wpAny_bind (he i h1 h2 _ _ ?_)
      cases hy : e i with
      | true =>
        rw [hy] at hR
        wp_walk
        exact ⟨rfl, rfl, i + 1, hrest, by simpa using hR⟩
      | false =>
        rw [hy] at hR
        wp_walk
        exact ⟨_, rfl, by simpa using hR⟩
    case fin =>
      rintro ⟨b1, b2⟩ s' ⟨hb', rfl, i, hz, hR⟩
      simp only at hb'
      subst hb'
      have hge : min items.size items2.size ≤ i := by
        rcases Nat.lt_or_ge i (items.toList.zip items2.toList).length with h' | h'
        · rw [List.drop_eq_getElem_cons h'] at hz; cases hz
        · exact hZ ▸ h'
      rw [List.drop_of_length_le (by simpa using hge)] at hR
      wp_walk
      exact ⟨_, rfl, by simpa [Builtin.Tuple.tupleCompareSizes, bne] using hR⟩
    case h =>
      exact ⟨rfl, rfl, 0, rfl, by simpa using h⟩
theorem rcN_tups {A : Around} {s : Shared} {l b : Addr} {items items2 : Array Value} {e : Nat → Bool} (hl : s.heap.IsTuple l items) (hb : s.heap.IsTuple b items2) (hu : A.units < cLine)
    (he : ∀ j (h1 : j < items.size) (h2 : j < items2.size), SeqAt.EqP prog w A.in1 s items[j] items2[j] (e j)) (E Q : Value → Shared → Prop) (h : Q (.bool (!((List.range (min items.size items2.size)).all e && items.size == items2.size))) s) : wpAny (model prog w) A (richCompare .NotEq (.ref l) (.ref b)) Q E s := by
  obtain ⟨⟨cls, dd, data, sl⟩, ho, hc, n, hd⟩ := id hl
  obtain ⟨⟨cls2, dd2, data2, sl2⟩, ho2, hc2, n2, hd2⟩ := id hb
  simp only at hc hd hc2 hd2
  subst hc hd hc2 hd2
  have ta : s.TypeIs (.ref l) "tuple" := ⟨_, ho, rfl⟩
  have tb : s.TypeIs (.ref b) "tuple" := ⟨_, ho2, rfl⟩
  exact wpAny_richCompare_same_room (op := .NotEq) ta tb F.slot_tuple_ne (call_meetsIn F.slot_tuple_ne ta F.entry_tuple_ne (F.args_tuple_ne_2 _ _) (tuple_neIn l b items items2 n n2 dd dd2 sl sl2 e)
    ⟨ho, ho2, he, show Value.bool (!((List.range (min items.size items2.size)).all e && items.size == items2.size)) ≠ Value.notImplemented ∧ Q (.bool (!((List.range (min items.size items2.size)).all e && items.size == items2.size))) s from ⟨(fun x => nomatch x), h⟩⟩) hu
end
end L2

set_option Elab.async false
set_option maxRecDepth 100000
set_option maxHeartbeats 4000000
namespace L2
open PySem PySem.Spec PyProof.Rows PySem.SeqAt PySem.Calls PyProof.V PySem.W
set_option linter.unusedVariables false
/-! == of nested data in which dicts with tuple keys stand -/
def RcX (K : PySem.W.Frag) (H : Hp) (F : V → V → Bool → Prop) (x y : V) (r : Bool) : Prop :=
  (∃ a b xs ys e, x = .ref a ∧ y = .ref b ∧ SqL K H a xs ∧ SqL K H b ys ∧ xs.length = ys.length ∧ (∀ (j : Nat) u v, xs[j]? = some u → ys[j]? = some v → F u v (e j)) ∧ r = (List.range xs.length).all e) ∨
  (∃ a b xs ys e, x = .ref a ∧ y = .ref b ∧ SqT K H a xs ∧ SqT K H b ys ∧ (∀ (j : Nat) u v, xs[j]? = some u → ys[j]? = some v → F u v (e j)) ∧ r = ((List.range (min xs.length ys.length)).all e && xs.length == ys.length)) ∨
  ∃ a b ks ls f, x = .ref a ∧ y = .ref b ∧ H a = some (.dT ks) ∧ H b = some (.dT ls) ∧ (ks.length = ls.length → ∀ p ∈ ks, (valV ls p.1 = none ∧ f p = false) ∨ ∃ u, valV ls p.1 = some u ∧ F p.2 u (f p)) ∧ r = (ks.length == ls.length && ks.all f)
def EqX (K : PySem.W.Frag) (H : Hp) : Nat → V → V → Bool → Prop
  | 0 => fun _ _ _ => False
  | n + 1 => fun x y r => (∃ d e, Dp K H x d ∧ Dp K H y e ∧ SeqAt.shaped d = true ∧ SeqAt.shaped e = true ∧ r = PyData.eqv d e) ∨ (∃ a, x = .ref a ∧ y = .ref a ∧ r = true) ∨ (RcX K H (EqX K H n) x y r ∧ (x = y → r = true))
theorem atKey_idx {xs : List (List Key × Addr × Value)} {k : List Key} {p : Addr × Value} (h : atKey xs k = some p) : ∃ j : Nat, xs[j]? = some (k, p) := by
  unfold atKey at h
  obtain ⟨q, hq, rfl⟩ := Option.map_eq_some_iff.mp h
  obtain ⟨j, hj⟩ := List.getElem?_of_mem (List.mem_of_find?_eq_some hq)
  have : q.1 = k := by simpa using List.find?_some hq
  exact ⟨j, by rw [hj, ← this]⟩
theorem atKey_no {xs : List (List Key × Addr × Value)} {k : List Key} (h : atKey xs k = none) : ∀ (j : Nat) (p : Addr × Value), xs[j]? ≠ some (k, p) := fun j p e => by
  unfold atKey at h
  have h := Option.map_eq_none_iff.mp h
  have := List.find?_eq_none.mp h (k, p) (List.mem_of_getElem? e)
  simp at this
theorem hitsH_run {P : Program} {w : World} {A : Around} {s : Shared} {H : Hp} {F : V → V → Bool → Prop} (ih : ∀ x y r v u, F x y r → RelV x v → RelV y u → SeqAt.EqP P w A s v u r) {ls : List (List Key × V)} {vb : List (List Key × Addr × Value)} (rb : KT H ls vb) {f : List Key × V → Bool} {ks : List (List Key × V)} {va : List (List Key × Addr × Value)}
    (ra : KT H ks va) : (∀ p ∈ ks, (valV ls p.1 = none ∧ f p = false) ∨ ∃ u, valV ls p.1 = some u ∧ F p.2 u (f p)) → HitsH P w A s vb va (ks.all f) := by
  induction ra with
  | nil => intro _; exact .nil
  | @cons p q ps qs h t k =>
    intro hp
    obtain ⟨h1, h2, h3⟩ := h
    obtain ⟨key, v⟩ := q
    have h1 : p.1 = key := h1
    have rv := rb.val p.1
    rw [List.all_cons]
    rcases hp p List.mem_cons_self with ⟨e, ef⟩ | ⟨u, e, fu⟩
    · rw [ef, Bool.false_and]
      rw [e] at rv
      have : atKey vb p.1 = none := by
        cases c : atKey vb p.1 with
        | none => rfl
        | some z => rw [c] at rv; exact False.elim rv
      rw [h1] at this
      exact .miss (atKey_no this)
    · rw [e] at rv
      obtain ⟨y, hy, ry⟩ := rv.some_of
      obtain ⟨z, hz, rfl⟩ := Option.map_eq_some_iff.mp hy
      rw [h1] at hz
      obtain ⟨j, hj⟩ := atKey_idx hz
      exact .hit hj (ih _ _ _ _ _ fu h3 ry) (k fun p' hm => hp p' (List.mem_cons_of_mem _ hm))
section
variable {X : Cx} {pins : List (Addr × Obj)} {σ : St} {H : Hp} {s : Shared}
theorem vals_at {xs : List V} {us : List Value} (r : Vals xs us) {j : Nat} (h : j < us.length) : ∃ x, xs[j]? = some x ∧ RelV x us[j] := by
  have hx : j < xs.length := by rw [r.length]; exact h
  obtain ⟨u, hu, ru⟩ := r.get (List.getElem?_eq_getElem hx)
  rw [List.getElem?_eq_getElem h] at hu
  cases hu
  exact ⟨_, List.getElem?_eq_getElem hx, ru⟩
section
open AutoSeq1 (wpAny_loadPart')
open MeetsSeq MeetsSeq2 MeetsSeq3 SeqRoads2
theorem ne_loopIn {prog : Program} {w : World} (l b : Addr) (items items2 : Array Value) (n n2 : Nat) (dd dd2 : Option Addr) (sl sl2 : Array (Option Value)) (hsz : items.size = items2.size) (e : Nat → Bool) (k : Nat) :
    ∀ i : Nat, items.size - i = k → MeetsIn prog w (Builtin.«list.__eq__.loop» ⟨[.ref l, .ref b, rawInt i, rawInt 3], []⟩)
      (fun A R s => s.heap.get? l = some { cls := .type "list", dict := dd, data := .seq items n, slots := sl } ∧ s.heap.get? b = some { cls := .type "list", dict := dd2, data := .seq items2 n2, slots := sl2 } ∧
        (∀ j (h1 : j < items.size) (h2 : j < items2.size), SeqAt.EqP prog w A.in1 s items[j] items2[j] (e j)) ∧
        R (.ok (.ret (.bool (!((List.range items.size).drop i).all e)))) s) := by
  induction k with
  | zero =>
    intro i hk A R s h
    obtain ⟨hp, g, d, tk, os⟩ := s; obtain ⟨hl, hb, he, h⟩ := h
    wp_walk using wpAny_loadPart' hl, wpAny_loadPart' hb
    have hi1 : items[((i : Nat) : Int).toNat]? = none := by simp; omega
    have hi2 : items2[((i : Nat) : Int).toNat]? = none := by simp; omega
    have hd : (List.range items.size).drop i = [] := by simp; omega
    rw [hd] at h
    rw [hi1, hi2]
    wp_walk using wpAny_loadPart' hl, wpAny_loadPart' hb
    show R (.ok (.ret (.bool (items.size != items2.size)))) _
    rw [hsz]
    simpa using h
  | succ k ih =>
    intro i hk A R s h
    obtain ⟨hp, g, d, tk, os⟩ := s; obtain ⟨hl, hb, he, h⟩ := h
    wp_walk using wpAny_loadPart' hl, wpAny_loadPart' hb
    have hlt : i < items.size := by omega
    have hlt2 : i < items2.size := by omega
    have hi1 : items[((i : Nat) : Int).toNat]? = some items[i] := by simp [hlt]
    have hi2 : items2[((i : Nat) : Int).toNat]? = some items2[i] := by simp [hlt2]
    have hd : (List.range items.size).drop i = i :: (List.range items.size).drop (i + 1) := by simp [List.drop_eq_getElem_cons, hlt]
    have hc : ((i : Int) + 1) = ((i + 1 : Nat) : Int) := by push_cast; rfl
    rw [hd, List.all_cons] at h
    rw [hi1, hi2]
    refine wpAny_bind (he i hlt hlt2 _ _ ?_)
    cases hb' : e i with
    | true =>
      rw [hb'] at h
      wp_walk
      rw [hc]
      exact ⟨plainId_quiet plain_eq_loop _, codeAny_builtin entry_eq_loop (by
        rw [Around.under_plainId plain_eq_loop _]
        exact ih (i + 1) (by omega) A R _ ⟨hl, hb, he, by simpa using h⟩)⟩
    | false =>
      rw [hb'] at h
      wp_walk using wpAny_loadPart' hl, wpAny_loadPart' hb
      rw [hi1, hi2]
      wp_walk
      simpa using h

theorem list_neIn {prog : Program} {w : World} (l b : Addr) (items items2 : Array Value) (n n2 : Nat) (dd dd2 : Option Addr) (sl sl2 : Array (Option Value)) (hsz : items.size = items2.size) (e : Nat → Bool) :
    MeetsIn prog w (Builtin.«list.__ne__» ⟨[.ref l, .ref b], []⟩)
      (fun A R s => s.heap.get? l = some { cls := .type "list", dict := dd, data := .seq items n, slots := sl } ∧ s.heap.get? b = some { cls := .type "list", dict := dd2, data := .seq items2 n2, slots := sl2 } ∧
        (∀ j (h1 : j < items.size) (h2 : j < items2.size), SeqAt.EqP prog w A.in1 s items[j] items2[j] (e j)) ∧
        R (.ok (.ret (.bool (!(List.range items.size).all e)))) s) := by
  intro A R s h
  obtain ⟨hp, g, d, tk, os⟩ := s; obtain ⟨hl, hb, he, h⟩ := h
  have f3 := AutoSeq1.sub_list_list
  have hne : ¬ (items.size != items2.size) = true := by simp [hsz]
  wp_walk using wpAny_loadPart' hl, wpAny_loadPart' hb
  exact ⟨plainId_quiet plain_eq_loop _, codeAny_builtin entry_eq_loop (by
    rw [Around.under_plainId plain_eq_loop _]
    exact ne_loopIn l b items items2 n n2 dd dd2 sl sl2 hsz e _ 0 rfl A R _ ⟨hl, hb, he, by simpa using h⟩)⟩

theorem rcN_lists {prog : Program} {w : World} {A : Around} {s : Shared} {l b : Addr} {items items2 : Array Value} {e : Nat → Bool} (hl : s.heap.IsList l items) (hb : s.heap.IsList b items2) (hsz : items.size = items2.size) (hu : A.units < cLine)
    (he : ∀ j (h1 : j < items.size) (h2 : j < items2.size), SeqAt.EqP prog w A.in1 s items[j] items2[j] (e j)) (E Q : Value → Shared → Prop) (h : Q (.bool (!(List.range items.size).all e)) s) : wpAny (model prog w) A (richCompare .NotEq (.ref l) (.ref b)) Q E s := by
  obtain ⟨⟨cls, dd, data, sl⟩, ho, hc, n, hd⟩ := id hl
  obtain ⟨⟨cls2, dd2, data2, sl2⟩, ho2, hc2, n2, hd2⟩ := id hb
  simp only at hc hd hc2 hd2
  subst hc hd hc2 hd2
  have ta : s.TypeIs (.ref l) "list" := ⟨_, ho, rfl⟩
  have tb : s.TypeIs (.ref b) "list" := ⟨_, ho2, rfl⟩
  exact wpAny_richCompare_same_room (op := .NotEq) ta tb F.slot_list_ne (call_meetsIn F.slot_list_ne ta F.entry_list_ne (F.args_list_ne_2 _ _) (list_neIn l b items items2 n n2 dd dd2 sl sl2 hsz e)
    ⟨ho, ho2, he, show Value.bool (!(List.range items.size).all e) ≠ Value.notImplemented ∧ Q (.bool (!(List.range items.size).all e)) s from ⟨(fun x => nomatch x), h⟩⟩) hu
end
theorem rcX_run (I : Inv X pins σ H s) {A : Around} {F : V → V → Bool → Prop} (hu : A.units + 4 < cLine) (ih : ∀ x y r v u, F x y r → RelV x v → RelV y u → SeqAt.EqP X.prog X.w A.in1 s v u r) {x y : V} {r : Bool} {v u : Value} (h : RcX X.K H F x y r) (rx : RelV x v) (ry : RelV y u)
    (E Q : Value → Shared → Prop) (q : Q (.bool r) s) : wpAny (model X.prog X.w) A (richCompare .Eq v u) Q E s := by
  rcases h with ⟨a, b, xs, ys, e, rfl, rfl, ha, hb, hl, he, rfl⟩ | ⟨a, b, xs, ys, e, rfl, rfl, ha, hb, he, rfl⟩ | ⟨a, b, ks, ls, f, rfl, rfl, ha, hb, hp, rfl⟩
  · cases (show v = Value.ref a from rx)
    cases (show u = Value.ref b from ry)
    obtain ⟨us, r1, p1, _⟩ := I.list ha
    obtain ⟨ws, r2, p2, _⟩ := I.list hb
    have hsz : us.toArray.size = ws.toArray.size := by
      rw [List.size_toArray, List.size_toArray, ← r1.length, ← r2.length]
      exact hl
    refine SeqAt.rcP_lists (e := e) p1.isList p2.isList hsz (by omega) (fun j h1 h2 => ?_) E Q ?_
    · obtain ⟨x1, g1, q1⟩ := vals_at r1 (j := j) (by simpa using h1)
      obtain ⟨x2, g2, q2⟩ := vals_at r2 (j := j) (by simpa using h2)
      have k := ih _ _ _ _ _ (he j _ _ g1 g2) q1 q2
      simpa using k
    · rw [List.size_toArray, ← r1.length]
      exact q
  · cases (show v = Value.ref a from rx)
    cases (show u = Value.ref b from ry)
    obtain ⟨us, r1, p1, _⟩ := I.tuple ha
    obtain ⟨ws, r2, p2, _⟩ := I.tuple hb
    refine rcP_tups (e := e) p1 p2 (by omega) (fun j h1 h2 => ?_) E Q ?_
    · obtain ⟨x1, g1, q1⟩ := vals_at r1 (j := j) (by simpa using h1)
      obtain ⟨x2, g2, q2⟩ := vals_at r2 (j := j) (by simpa using h2)
      have k := ih _ _ _ _ _ (he j _ _ g1 g2) q1 q2
      simpa using k
    · rw [List.size_toArray, List.size_toArray, ← r1.length, ← r2.length]
      exact q
  · cases (show v = Value.ref a from rx)
    cases (show u = Value.ref b from ry)
    obtain ⟨_, ya, va, ra, da⟩ := dt_of I.hok ha
    obtain ⟨_, yb, vb, rb, db⟩ := dt_of I.hok hb
    refine rcH_dicts (knd := tupleKind (mixKind X.prog X.w)) (tupleKind_room_in1 (by omega)) ya yb da db (by omega) (fun hl => hitsH_run ih rb ra (hp (by rw [ra.length, rb.length]; exact hl))) E Q ?_
    rw [← ra.length, ← rb.length]
    exact q
theorem rcXN_run (I : Inv X pins σ H s) {A : Around} {F : V → V → Bool → Prop} (hu : A.units + 4 < cLine) (ih : ∀ x y r v u, F x y r → RelV x v → RelV y u → SeqAt.EqP X.prog X.w A.in1 s v u r) {x y : V} {r : Bool} {v u : Value} (h : RcX X.K H F x y r) (rx : RelV x v) (ry : RelV y u)
    (E Q : Value → Shared → Prop) (q : Q (.bool (!r)) s) : wpAny (model X.prog X.w) A (richCompare .NotEq v u) Q E s := by
  rcases h with ⟨a, b, xs, ys, e, rfl, rfl, ha, hb, hl, he, rfl⟩ | ⟨a, b, xs, ys, e, rfl, rfl, ha, hb, he, rfl⟩ | ⟨a, b, ks, ls, f, rfl, rfl, ha, hb, hp, rfl⟩
  · cases (show v = Value.ref a from rx)
    cases (show u = Value.ref b from ry)
    obtain ⟨us, r1, p1, _⟩ := I.list ha
    obtain ⟨ws, r2, p2, _⟩ := I.list hb
    have hsz : us.toArray.size = ws.toArray.size := by
      rw [List.size_toArray, List.size_toArray, ← r1.length, ← r2.length]
      exact hl
    refine rcN_lists (e := e) p1.isList p2.isList hsz (by omega) (fun j h1 h2 => ?_) E Q ?_
    · obtain ⟨x1, g1, q1⟩ := vals_at r1 (j := j) (by simpa using h1)
      obtain ⟨x2, g2, q2⟩ := vals_at r2 (j := j) (by simpa using h2)
      have k := ih _ _ _ _ _ (he j _ _ g1 g2) q1 q2
      simpa using k
    · rw [List.size_toArray, ← r1.length]
      exact q
  · cases (show v = Value.ref a from rx)
    cases (show u = Value.ref b from ry)
    obtain ⟨us, r1, p1, _⟩ := I.tuple ha
    obtain ⟨ws, r2, p2, _⟩ := I.tuple hb
    refine rcN_tups (e := e) p1 p2 (by omega) (fun j h1 h2 => ?_) E Q ?_
    · obtain ⟨x1, g1, q1⟩ := vals_at r1 (j := j) (by simpa using h1)
      obtain ⟨x2, g2, q2⟩ := vals_at r2 (j := j) (by simpa using h2)
      have k := ih _ _ _ _ _ (he j _ _ g1 g2) q1 q2
      simpa using k
    · rw [List.size_toArray, List.size_toArray, ← r1.length, ← r2.length]
      exact q
  · cases (show v = Value.ref a from rx)
    cases (show u = Value.ref b from ry)
    obtain ⟨_, ya, va, ra, da⟩ := dt_of I.hok ha
    obtain ⟨_, yb, vb, rb, db⟩ := dt_of I.hok hb
    refine rcHN_dicts (knd := tupleKind (mixKind X.prog X.w)) (tupleKind_room_in1 (by omega)) ya yb da db (by omega) (fun hl => hitsH_run ih rb ra (hp (by rw [ra.length, rb.length]; exact hl))) E Q ?_
    rw [← ra.length, ← rb.length]
    exact q

theorem eqX_run (I : Inv X pins σ H s) : ∀ (n : Nat) (A : Around), A.units + n + 64 < cLine → ∀ (x y : V) (r : Bool) (v u : Value), EqX X.K H n x y r → RelV x v → RelV y u → SeqAt.EqP X.prog X.w A s v u r
  | 0, _, _, _, _, _, _, _, h, _, _ => (show False from h).elim
  | n + 1, A, hu, x, y, r, v, u, h, rx, ry => by
    rcases h with ⟨d, e, hd, he, sd, se, rfl⟩ | ⟨a, rfl, rfl, rfl⟩ | ⟨h, hs⟩
    · obtain ⟨as, r1⟩ := Dp.reads I d x v hd rx
      obtain ⟨bs, r2⟩ := Dp.reads I e y u he ry
      exact (SeqAt.eqAt_reads d e A s v u as bs r1 r2 (SeqAt.canLay_of_shaped sd) (SeqAt.canLay_of_shaped se) (SeqAt.room_of_shaped sd (by omega))).eqP
    · cases (show v = Value.ref a from rx)
      cases (show u = Value.ref a from ry)
      exact (SeqAt.EqAt.same _).eqP
    · have step := rcX_run I (A := A) (by omega) (eqX_run I n A.in1 (by show A.units + 1 + n + 64 < cLine; omega)) h rx ry
      obtain ⟨a, b, rfl, rfl⟩ : ∃ a b, x = .ref a ∧ y = .ref b := by
        rcases h with ⟨a, b, _, _, _, e1, e2, _⟩ | ⟨a, b, _, _, _, e1, e2, _⟩ | ⟨a, b, _, _, _, e1, e2, _⟩
        · exact ⟨a, b, e1, e2⟩
        · exact ⟨a, b, e1, e2⟩
        · exact ⟨a, b, e1, e2⟩
      cases (show v = Value.ref a from rx)
      cases (show u = Value.ref b from ry)
      by_cases e : a = b
      · subst e
        rw [hs rfl]
        exact (SeqAt.EqAt.same _).eqP
      · exact SeqAt.eqP_refs e step
end
section
variable {X : Cx}
/-- a == b of such data -/
def rEqX (K : PySem.W.Frag) : R2 := fun x y H Q => ∃ n r, n ≤ 60 ∧ RcX K H (EqX K H n) x y r ∧ Q (.bl r) H
def rNeX (K : PySem.W.Frag) : R2 := fun x y H Q => ∃ n r, n ≤ 60 ∧ RcX K H (EqX K H n) x y r ∧ Q (.bl (!r)) H
theorem op_eqX (hu : X.A.units + 140 < cLine) : OpR X (compareOp .Eq) (rEqX X.K) := by
  intro pins s σ H x y v u Q I rx ry h
  obtain ⟨n, r, hn, h, q⟩ := h
  exact rcX_run I (A := X.A) (by omega) (eqX_run I n X.A.in1 (by show X.A.units + 1 + n + 64 < cLine; omega)) h rx ry _ _ ⟨.bl r, H, I, rfl, q⟩
theorem op_neX (hu : X.A.units + 140 < cLine) : OpR X (compareOp .NotEq) (rNeX X.K) := by
  intro pins s σ H x y v u Q I rx ry h
  obtain ⟨n, r, hn, h, q⟩ := h
  exact rcXN_run I (A := X.A) (by omega) (eqX_run I n X.A.in1 (by show X.A.units + 1 + n + 64 < cLine; omega)) h rx ry _ _ ⟨.bl (!r), H, I, rfl, q⟩
end
end L2

set_option Elab.async false
set_option maxRecDepth 100000
set_option maxHeartbeats 4000000
namespace PySem.W
open PySem PySem.Calls PyProof.Rows PyProof.V PySem.Spec
set_option linter.unusedVariables false
section
variable {prog : Program} {w : World} {A : Around} {E : Value → Shared → Prop} {s : Shared} {K : Frag} {x C L f : Addr} {h₀ : Heap} {m : Str → Option Value} {ox : Obj} {od : Option Obj} {name : Str} {b tb : Value}
theorem ifBound_KB {M : Model} {id : String} {args : List Value} {Q : Option Value → Shared → Prop} (X : K.In s.heap) (I : InstAt s.heap x ox C od) (hs : findIn K (.ref C) name = some (some (.builtin id))) (S : Slot "object" name id)
    (h : wpAny M A (call (.builtin id) (.ref x :: args)) (fun v => Q (some v)) E s) : wpAny M A (callSpecialIfBound? (.ref x) name args) Q E s := by
  simp only [callSpecialIfBound?, bindSpecialIfBound?]
  refine wpAny_holding (wpAny_bind (wpAny_bind (wpAny_bind (I.type.here ((looks_findIn X hs).here ?_)))))
  simp only [S.bind]
  refine wpAny_bind (wpAny_askSetting (wpAny_ite ?_))
  have fin : wpAny M A (call (.builtin id) ([.ref x] ++ args) >>= fun v => pure (some v)) Q E s := wpAny_bind (wpAny_mono h (fun v s' h' => wpAny_pure h') fun _ _ h' => h')
  split
  · exact wpAny_bind (wpAny_pure (wpAny_pure fin))
  · exact wpAny_tryCatch (wpAny_bind (wpAny_pure (wpAny_pure fin)))
theorem check_ne_K {M : Model} {rest : List Value} {Q : Unit → Shared → Prop} (X : K.In s.heap) (I : InstAt s.heap x ox C od) (hob : subIn K (.ref C) (.type "object") = some true) (ha : argsOk "object.__ne__" ⟨.ref x :: rest, []⟩) (hq : Q () s) :
    wpAny M A (checkBuiltinCall "object.__ne__" ⟨.ref x :: rest, []⟩) Q E s := by
  simp only [checkBuiltinCall, PySem.F.cmpKind_ne, PySem.F.cmpSplit_ne]
  refine wpAny_bind (wpAny_bind (I.type.here ((looks_subIn X hob).here ?_)))
  simp only [Bool.not_true, Bool.false_eq_true, if_false]
  cases hsig : Manifest.signature? "object.__ne__" with
  | none => exact wpAny_pure hq
  | some sig =>
    have ha' := ha
    unfold argsOk at ha'
    rw [hsig] at ha'
    have h2 : Bind.checkArgs "object.__ne__" sig ⟨.ref x :: rest, []⟩ = pure () := ha'
    show wpAny M A (Bind.checkArgs "object.__ne__" sig ⟨.ref x :: rest, []⟩) Q E s
    rw [h2]
    exact wpAny_pure hq
/-- x != y by the class's own == -/
theorem cmp_neK {Q : Value → Shared → Prop} (hu : A.units + 1 < cLine) (F : Fr h₀ L s.heap m) (X₀ : K.In h₀) (I : InstAt s.heap x ox C od) (hb : Looks (model prog w) s.heap (typeOf b) tb) (hn : notFirst K C tb = true)
    (hs : findIn K (.ref C) "__ne__" = some (some (.builtin "object.__ne__"))) (hob : subIn K (.ref C) (.type "object") = some true) (he : findIn K (.ref C) "__eq__" = some (some (.ref f))) (hf : isFn K (.ref f) = true)
    (h : wpAny (model prog w) A.in1 (call (.ref f) [.ref x, b]) (fun v s' => ∃ r, v = .bool r ∧ Q (.bool (!r)) s') E s) : wpAny (model prog w) A (richCompare .NotEq (.ref x) b) Q E s := by
  have X := X₀.keeps F.keep
  have body : ∀ {Q2 : Fin → Shared → Prop}, (∀ r s', Q (.bool (!r)) s' → Q2 (.done (.ret (.bool (!r)))) s') → wpAny (model prog w) A.in1 (Builtin.«object.__ne__» ⟨[.ref x, b], []⟩) Q2 E s := fun {Q2} k => by
    unfold Builtin.«object.__ne__»
    repeat (first
      | with_reducible refine wpAny_cRoomFor (show A.in1.units < cLine from hu) ?_
      | (refine wpAny_bind (m := callSpecialIfBound? (.ref x) (Str.ofString "__eq__") [b]) (ifBound_K X I he hf (wpAny_mono h (fun r s' hr => by
          obtain ⟨b, rfl, hq⟩ := hr
          have hq := k b s' hq
          repeat (first | exact hq | exact wpAny_pure hq | exact wpAny_truthy_bool hq | (refine wpAny_bind (m := truthy (.bool _)) (wpAny_truthy_bool ?_)) | wp_step)) fun _ _ e => e)))
      | wp_step)
  have one : wpAny (model prog w) A (tryCompare (.ref x) "__ne__" b) (fun r s' => ∃ v, r = some v ∧ Q v s') E s := by
    unfold tryCompare
    refine wpAny_bind (ifBound_KB X I hs PySem.F.cmp_object.ne (wpAny_call (codeAny_call_builtin PySem.F.cmp_object.ne.plain PySem.F.cmpEntry_ne (check_ne_K X I hob (PySem.F.cmpArgs_ne _ _) (body fun r s' hq => ?_)))))
    first | exact ⟨.bool (!r), rfl, hq⟩ | exact wpAny_pure ⟨_, rfl, hq⟩ | exact wpAny_pure (wpAny_pure ⟨_, rfl, hq⟩)
  unfold richCompare
  simp only [oneThing_ref]
  refine wpAny_holding (wpAny_bind (wpAny_cRoomFor (Nat.lt_of_succ_lt hu) ?_))
  refine wpAny_bind (I.type.here (wpAny_bind (hb.here ?_)))
  split
  · rename_i q
    have e : subIn K tb (.ref C) = some false := by
      rcases Bool.or_eq_true_iff.mp hn with e | e
      · rw [beq_iff_eq.mp e] at q; simp at q
      · exact beq_iff_eq.mp e
    refine wpAny_bind ((looks_subIn X e).here ?_)
    simp only [Bool.false_eq_true, if_false]
    refine wpAny_bind (wpAny_mono one (fun r s' z => ?_) fun _ _ e => e)
    obtain ⟨v, rfl, hq⟩ := z
    exact wpAny_pure hq
  · refine wpAny_bind (wpAny_pure ?_)
    simp only [Bool.false_eq_true, if_false]
    refine wpAny_bind (wpAny_mono one (fun r s' z => ?_) fun _ _ e => e)
    obtain ⟨v, rfl, hq⟩ := z
    exact wpAny_pure hq
end
end PySem.W
namespace L2
open PySem PySem.Spec PyProof.Rows
set_option linter.unusedVariables false
section
variable {X : Cx} {CX : CXT} {k n : Nat} {f C : Addr} {fd : FuncData} {ps ks : List Str} {sp : Sp} {E : XK} {x : Str} {p pos : Pos} {kws : List Keyword} {tk : TA} {g : List Value → List Value → List Value} {gV : List V → List V → List V}
/-- f(k = v, ..) -/
theorem pe_callN0 (F : FnOk X.prog X.w X.K X.mg X.base CX k f fd ps sp) (hr : Room k X.A) (hg : Gl X x) (hm : X.mg x = some (.ref f)) (hk : PySem.W.keepIn X.K (.ref f) = true) (hb : KBn X.K fd ps 0 ks g gV) (hx : Passes CX X E) (hkw : PK X kws tk)
    (hall : (backToKw pos (keywordEach kws X.env)).all (·.1.isSome) = true := by rfl) (hks : (backToKw pos (keywordEach kws X.env)).filterMap (·.1) = ks := by rfl) (hdb : (x == ("__debug__" : Str)) = false := by decide)
    (hpl : ((backTo pos (starEach [] X.env)).any (·.1) || (backToKw pos (keywordEach kws X.env)).any (·.1.isNone)) = false := by rfl) :
    PE X (.Call (.Name x p) [] kws pos) (tCallN 0 ks.length sp gV E tNil tk) := by
  refine ⟨fun pins s σ H Q I h => ?_⟩
  refine wpAny_Call_Name_kw (ld_glob I hg hm ?_ hdb)
  refine PySem.W.callWith_KW0 (h₀ := X.base) I.ok.mod.kin hk hall ?_ hpl
  refine thn (hkw.run pos pins s σ H _ I h) fun ws s2 ⟨zs, H2, I2, rz, l1, l2, q2⟩ => ⟨I2.kIn, ?_⟩
  rw [hks]
  exact run_fnN (us := []) (vs := []) F hr hb hx I2 .nil rz rfl l2 q2
/-- x == y by the own == of x's class: what it tells -/
def rEqO (C : Addr) (sp : Sp) (E : XK) : R2 := fun x y H Q => ∃ a dx fs b dy gs, x = .ref a ∧ y = .ref b ∧ H a = some (.ins C dx fs) ∧ H b = some (.ins C dy gs) ∧ sp [x, y] H (fun v H' => ∃ r, v = .bl r ∧ Q (.bl r) H') E
def rNeO (C : Addr) (sp : Sp) (E : XK) : R2 := fun x y H Q => ∃ a dx fs b dy gs, x = .ref a ∧ y = .ref b ∧ H a = some (.ins C dx fs) ∧ H b = some (.ins C dy gs) ∧ sp [x, y] H (fun v H' => ∃ r, v = .bl r ∧ Q (.bl (!r)) H') E
theorem op_eqO (F : FnOk X.prog X.w X.K X.mg X.base CX n f fd ps sp) (hs : PySem.W.findIn X.K (.ref C) "__eq__" = some (some (.ref f))) (hf : PySem.W.isFn X.K (.ref f) = true) (hb : Binds X.K fd ps []) (hr : Room n X.A) (hx : Passes CX X E) : OpR X (compareOp .Eq) (rEqO C sp E) := by
  intro pins s σ H x y v u Q I rx ry h
  obtain ⟨a, dx, fs, b, dy, gs, rfl, rfl, ha, hb', hsp⟩ := h
  cases (show v = Value.ref a from rx)
  cases (show u = Value.ref b from ry)
  obtain ⟨mA, J, _⟩ := ins_get I.hok ha
  obtain ⟨mB, J', _⟩ := ins_get I.hok hb'
  obtain ⟨od, J, _⟩ := J.look
  obtain ⟨od', J', _⟩ := J'.look
  obtain ⟨m, hF⟩ := I.fr
  show wpAny (model X.prog X.w) X.A (richCompare .Eq (.ref a) (.ref b)) (EP X pins σ Q) X.xe s
  refine PySem.W.cmp_K (op := .Eq) (tb := .ref C) hr.units0 hF I.ok.mod.kin J J'.type (by simp [PySem.W.notFirst]) hs hf ?_
  have hl := F.len _ _ _ _ hsp
  have r2 : Vals [V.ref a, V.ref b] [Value.ref a, Value.ref b] := .cons rfl (.cons rfl .nil)
  refine wpAny_call (codeAny_mono (F.run X.A X.stack s H ⟨[.ref a, .ref b], []⟩ [.ref a, .ref b] [.ref a, .ref b] _ E hr I.env0 (by
    have := hb s [.ref a, .ref b] I.kIn (by simpa using hl)
    simpa using this) r2 hsp) fun r s' hq => ?_)
  cases r with
  | error e => exact hx pins σ H s e s' I hq
  | ok fl =>
    cases fl with
    | ret w =>
      obtain ⟨z, H', I', rz, r, ez, q⟩ := I.after hq
      subst ez
      cases rz
      exact ⟨.bl r, H', I', rfl, q⟩
    | next => exact False.elim hq
    | brk => exact False.elim hq
    | cont => exact False.elim hq
theorem op_neO (F : FnOk X.prog X.w X.K X.mg X.base CX n f fd ps sp) (hs : PySem.W.findIn X.K (.ref C) "__eq__" = some (some (.ref f))) (hne : PySem.W.findIn X.K (.ref C) "__ne__" = some (some (.builtin "object.__ne__"))) (hob : PySem.W.subIn X.K (.ref C) (.type "object") = some true)
    (hf : PySem.W.isFn X.K (.ref f) = true) (hb : Binds X.K fd ps []) (hr : Room (n + 1) X.A) (hx : Passes CX X E) : OpR X (compareOp .NotEq) (rNeO C sp E) := by
  intro pins s σ H x y v u Q I rx ry h
  obtain ⟨a, dx, fs, b, dy, gs, rfl, rfl, ha, hb', hsp⟩ := h
  cases (show v = Value.ref a from rx)
  cases (show u = Value.ref b from ry)
  obtain ⟨mA, J, _⟩ := ins_get I.hok ha
  obtain ⟨mB, J', _⟩ := ins_get I.hok hb'
  obtain ⟨od, J, _⟩ := J.look
  obtain ⟨od', J', _⟩ := J'.look
  obtain ⟨m, hF⟩ := I.fr
  show wpAny (model X.prog X.w) X.A (richCompare .NotEq (.ref a) (.ref b)) (EP X pins σ Q) X.xe s
  refine PySem.W.cmp_neK (tb := .ref C) (by have := hr.un; omega) hF I.ok.mod.kin J J'.type (by simp [PySem.W.notFirst]) hne hob hs hf ?_
  have hl := F.len _ _ _ _ hsp
  have r2 : Vals [V.ref a, V.ref b] [Value.ref a, Value.ref b] := .cons rfl (.cons rfl .nil)
  have e0 : Env0 X.prog X.w X.K X.mg X.base X.A.in1 X.stack s H := I.env0.in1
  refine wpAny_call (codeAny_mono (F.run X.A.in1 X.stack s H ⟨[.ref a, .ref b], []⟩ [.ref a, .ref b] [.ref a, .ref b] _ E hr.in1 e0 (by
    have := hb s [.ref a, .ref b] I.kIn (by simpa using hl)
    simpa using this) r2 hsp) fun r s' hq => ?_)
  cases r with
  | error e => exact hx pins σ H s e s' I hq
  | ok fl =>
    cases fl with
    | ret w =>
      obtain ⟨z, H', I', rz, r, ez, q⟩ := I.after hq
      subst ez
      cases rz
      exact ⟨r, rfl, .bl (!r), H', I', rfl, q⟩
    | next => exact False.elim hq
    | brk => exact False.elim hq
    | cont => exact False.elim hq
end
end L2

set_option Elab.async false
set_option maxRecDepth 100000
set_option maxHeartbeats 4000000
namespace L2
open PySem PySem.Spec PyProof.Rows
set_option linter.unusedVariables false
/-! dict(xs) of a list of pairs whose keys are tuples -/
def rDictPT (K : PySem.W.Frag) : List V → Hp → VK → Prop := fun xs H Q => ∃ (a : Addr) (ps : List Addr) (kvs : List (List Key × V)), xs = [.ref a] ∧ SqL K H a (ps.map V.ref) ∧ Paired (fun p kv => ∃ b, SqT K H p [.ref b, kv.2] ∧ H b = some (.tup (kv.1.map kV))) ps kvs ∧
    ∀ p, H p = none → Q (.ref p) (upd H p (.dT (mergeT [] kvs)))
section
variable {X : Cx} {pins : List (Addr × Obj)} {σ : St} {H : Hp} {s : Shared}
theorem pairsT_of (I : Inv X pins σ H s) : ∀ {ps : List Addr} {kvs : List (List Key × V)}, Paired (fun p kv => ∃ b, SqT X.K H p [.ref b, kv.2] ∧ H b = some (.tup (kv.1.map kV))) ps kvs →
    ∃ rs : List (List Key × Addr × Value), KT H kvs rs ∧ rs.length = ps.length ∧ ∀ (j : Nat) (q : List Key × Addr × Value), rs[j]? = some q → ∃ p, ps[j]? = some p ∧ s.heap.IsTuple p #[.ref q.2.1, q.2.2]
  | _, _, .nil => ⟨[], .nil, rfl, fun j q e => by simp at e⟩
  | _, _, .cons (a := p) (b := kv) h t => by
    obtain ⟨rs, r, hl, hp⟩ := pairsT_of I t
    obtain ⟨b, h, hb⟩ := h
    obtain ⟨its, rv, ht, _⟩ := I.tuple h
    obtain ⟨u, y, ei, ru, ry⟩ := vals2 rv
    subst ei
    cases (show u = Value.ref b from ru)
    refine ⟨(kv.1, b, y) :: rs, .cons ⟨rfl, hb, ry⟩ r, by rw [List.length_cons, List.length_cons, hl], fun j q e => ?_⟩
    cases j with
    | zero =>
      have e' : (kv.1, b, y) = q := Option.some.inj e
      subst e'
      exact ⟨p, rfl, ht⟩
    | succ j =>
      obtain ⟨c, e1, e2⟩ := hp j q (by simpa using e)
      exact ⟨c, by simpa using e1, e2⟩
end
theorem KT.len {H : Hp} {kvs : List (List Key × V)} {rs : List (List Key × Addr × Value)} (r : KT H kvs rs) : kvs.length = rs.length := Paired.length r
theorem KT.at {H : Hp} : ∀ {kvs : List (List Key × V)} {rs : List (List Key × Addr × Value)}, KT H kvs rs → ∀ x ∈ rs, H x.2.1 = some (.tup (x.1.map kV))
  | _, _, .nil, _, m => (nomatch m)
  | _, _, .cons h t, x, m => by
    rcases List.mem_cons.mp m with rfl | m
    · rw [← h.1]; exact h.2.1
    · exact KT.at t x m
theorem call_dictPT {X : Cx} (hcalm : X.calm = true) (hu : X.A.units + 2 < cLine) : CallR X (.type "dict") (rDictPT X.K) := by
  intro pins s σ H xs us Q I r q
  obtain ⟨a, ps, kvs, ex, hq, hp, q⟩ := q
  subst ex
  obtain ⟨u, eu, rx⟩ := vals1 r
  subst eu
  cases rx
  obtain ⟨its, rv, pl, hz⟩ := I.list hq
  have ei := refs_at rv
  subst ei
  rw [List.length_map] at hz
  obtain ⟨rs, rel, hl, hpr⟩ := pairsT_of I hp
  obtain ⟨o, n, ho, hc, hd, hdat⟩ := pl
  have hlr : (rs.map fun q => (Value.ref q.2.1, q.2.2)).length = ps.length := by rw [List.length_map, hl]
  have hitem : PairItems s.heap (ps.map Value.ref).toArray (fun j => ps.getD j 0) (rs.map fun q => (Value.ref q.2.1, q.2.2)) := by
    refine ⟨by simp [hl], fun j k v e => ?_⟩
    rw [List.getElem?_map] at e
    obtain ⟨x, hx, ex⟩ := Option.map_eq_some_iff.mp e
    injection ex with e1 e2
    subst e1 e2
    obtain ⟨p, e1, e2⟩ := hpr j x hx
    have eg : ps.getD j 0 = p := by rw [List.getD_eq_getElem?_getD, e1]; rfl
    refine ⟨?_, .inl ?_⟩
    · show _ = some (Value.ref (ps.getD j 0))
      rw [List.getElem?_toArray, List.getElem?_map, e1, eg]
      rfl
    · show s.heap.IsTuple (ps.getD j 0) _
      rw [eg]
      exact e2
  refine call_dict_pairsH (knd := tupleKind (mixKind X.prog X.w)) (ps := rs) (PairArg.list a (ps.map Value.ref).toArray (fun j => ps.getD j 0) (rs.map fun q => (Value.ref q.2.1, q.2.2))) (I.ok.hd hcalm) (show X.A.units + 2 < cLine from hu) ⟨⟨o, n, ho, hc, hd, hdat⟩, hitem⟩ ⟨by rw [hlr, hl], fun i key v e => ?_⟩ (fun h' hk x hx => ?_) (by rw [hlr]; exact hz) fun h' tk hd' hk => ?_
  · have e : (rs.map fun q => (Value.ref q.2.1, q.2.2))[i]? = some (key, v) := e
    rw [List.getElem?_map] at e
    obtain ⟨x, hx, ex⟩ := Option.map_eq_some_iff.mp e
    injection ex with e1 e2
    exact ⟨x.1, x.2.1, by rw [hx, ← e2], e1.symm⟩
  · obtain ⟨o1, its, m, h1, h2, h3, h4⟩ := (show IsTupleKey (mixKind X.prog X.w) s.heap x.1 x.2.1 from key_of I.hok (rel.at x hx))
    exact ⟨o1, its, m, hk _ _ (Nat.ne_of_lt (Heap.lt_size h1)) (fun c => nomatch c) h1, h2, h3, h4⟩
  · have hm : (s.heap.objs.size == sysModules) = false := beq_eq_false_iff_ne.mpr (Nat.ne_of_gt I.big)
    have hf := I.hok.fresh (Nat.le_refl s.heap.objs.size)
    have hlen : (mergeT [] kvs).length ≤ sizeLine := by
      have h1 := length_mergeT kvs []
      rw [List.length_nil, Nat.zero_add] at h1
      have := rel.len
      omega
    obtain ⟨o1, es, ep, h1, h2, h3, h4, _, h6⟩ := hd'
    exact ⟨.ref s.heap.objs.size, upd H s.heap.objs.size (.dT (mergeT [] kvs)), I.laid (t' := tk) (fun b u e => hk b u (fun c => nomatch c) e) (Nat.le_refl _)
      (show ObjOk X.prog X.w _ _ _ (.dT (mergeT [] kvs)) from ⟨hlen, hm, _, (rel.merge .nil).keeps (fun c ys ec => (by rw [upd_ne (ne_of_none ec hf)]; exact ec)), o1, es, ep, h1, h2, h3, h4, h6⟩), rfl, q _ hf⟩
end L2

set_option Elab.async false
set_option maxRecDepth 100000
set_option maxHeartbeats 4000000
/-! t[::-1], t a tuple of two -/
namespace HT
open PySem PySem.Calls PyProof.Rows
section
variable {prog : Program} {w : World} {A : Around} {E : Value → Shared → Prop} {s : Shared}
theorem turned_two {sl : Addr} {vl vu vs : Value} {R : Int × Int × Nat → Shared → Prop} (sh : s.heap.IsSliceOf sl vl vu vs) (pl : IsPart vl none) (pu : IsPart vu none) (ps : IsPart vs (some (-1))) (fin : R (1, -1, 2) s) :
    wpAny (model prog w) A (Builtin.Slice.sliceApplied (.ref sl) (pure ((2 : Nat) : Int))) R E s := by
  obtain ⟨o, ho, hc, hd⟩ := id sh
  unfold Builtin.Slice.sliceApplied Builtin.Slice.sliceFields
  refine wpAny_bind (wpAny_bind (wpAny_field ho hd (x := vl) rfl (wpAny_bind (wpAny_field ho hd (x := vu) rfl (wpAny_bind (wpAny_field ho hd (x := vs) rfl (wpAny_pure ?_)))))))
  refine wpAny_bind (slicePart_ ps ?_)
  show wpAny _ _ (if ((-1 : Int) == 0) = true then _ else _) _ _ s
  rw [if_neg (show ¬ ((-1 : Int) == 0) = true by decide)]
  refine wpAny_bind (slicePart_ pl (wpAny_bind (slicePart_ pu (wpAny_bind (wpAny_pure (wpAny_pure ?_))))))
  exact fin
theorem pair_turned {t sl : Addr} {v0 v1 vl vu vs : Value} {R : Value → Shared → Prop} (ht : IsTup s.heap t #[v0, v1]) (sh : s.heap.IsSliceOf sl vl vu vs) (pl : IsPart vl none) (pu : IsPart vu none) (ps : IsPart vs (some (-1)))
    (fin : R (.ref s.heap.objs.size) { s with heap := s.heap.push { cls := .type "tuple", data := .seq #[v1, v0] } }) : wpAny (model prog w) A (getItem (.ref t) (.ref sl)) R E s := by
  have fits : sizeOk (.seq #[v1, v0]) := by
    show 2 ≤ sizeLine
    decide
  obtain ⟨o, ho, hc, hd⟩ := id sh
  have isSl : s.TypeIs (.ref sl) "slice" := ⟨o, ho, hc⟩
  unfold getItem
  try with_reducible refine wpAny_holding ?_
  first | refine wpAny_bind (wpAny_pure ?_) | skip
  refine wpAny_bind (wpAny_sequenceKey ht.typeIs (by decide) ?_)
  refine wpAny_bind (wpAny_callSpecial?_slot (name := Str.ofString "__getitem__") ht.typeIs PyProof.Rows.slot_tuple_getitem (wpAny_call_entry PyProof.Rows.slot_tuple_getitem ht.typeIs entry_tuple_getitem ?_ (args_tuple_getitem _ _)))
  show wpAny _ _ (Builtin.Tuple.tupleItemsOf (.ref t) >>= _) _ _ s
  refine wpAny_bind (tupleItemsOf_ ht (wpAny_bind (wpAny_typeOf isSl ?_)))
  rw [if_pos (by decide)]
  refine wpAny_bind (turned_two sh pl pu ps ?_)
  show wpAny _ _ (if ((1 : Int) == 0 && (-1 : Int) == 1 && (2 : Nat) == 2) = true then _ else _) _ _ s
  rw [if_neg (by decide)]
  first
    | exact wpAny_bind (m := Builtin.Tuple.tupleExact _) (wpAny_newObj_type (wpAny_pure ⟨_, rfl, wpAny_pure fin⟩) fits)
    | exact wpAny_bind (m := Builtin.Tuple.tupleExact _) (wpAny_newObj_type (wpAny_bind (wpAny_pure (wpAny_pure ⟨_, rfl, wpAny_pure fin⟩))) fits)
    | exact wpAny_bind (wpAny_bind (m := Builtin.Tuple.tupleExact _) (wpAny_newObj_type (wpAny_pure (wpAny_pure ⟨_, rfl, wpAny_pure fin⟩)) fits))
    | exact wpAny_bind (wpAny_bind (m := Builtin.Tuple.tupleExact _) (wpAny_newObj_type (wpAny_pure ⟨_, rfl, wpAny_pure fin⟩) fits))
end
end HT
namespace L2
open PySem PySem.Spec PyProof.Rows
variable {X : Cx}
def tRevT (K : PySem.W.Frag) (te : TE) : TE := fun σ H Q => te σ H fun x H1 => ∃ a y z, x = .ref a ∧ SqT K H1 a [y, z] ∧ ∀ p, H1 p = none → Q (.ref p) (upd H1 p (.tup [z, y]))
theorem pe_revT {e : Expr} {te : TE} {k : Nat} {p1 p2 p3 pos : Pos} (he : PE X e te) : PE X (.Subscript e (.Slice none none (some (.UnaryOp .USub (.Constant (.int 1) k p1) p2)) p3) pos) (tRevT X.K te) := by
  refine ⟨fun pins s σ H Q I h => ?_⟩
  refine Subscript_ (thn (he.run pins s σ H _ I h) fun v s1 ⟨x, H1, I1, r1, q1⟩ => ?_)
  obtain ⟨a, y, z, rfl, hx, q⟩ := q1
  cases r1
  have back : PO X (some (.UnaryOp .USub (.Constant (.int 1) k p1) p2)) (tPart (tUn (rU fun i => .int (-i)) (tC (.int 1)))) := po_some (pe_un un_neg pe_int)
  refine wpAny_Slice (thn (po_none.run pins s1 σ H1 (fun o H2 => o = none ∧ H2 = H1) I1 ⟨rfl, rfl⟩) fun vl s2 ⟨l, H2, I2, pl, el, e2⟩ => ?_)
  subst el e2
  refine thn (po_none.run pins s2 σ H2 (fun o H3 => o = none ∧ H3 = H2) I2 ⟨rfl, rfl⟩) fun vu s3 ⟨u, H3, I3, pu, eu, e3⟩ => ?_
  subst eu e3
  refine thn (back.run pins s3 σ H3 (fun o H4 => o = some (-1) ∧ H4 = H3) I3 ⟨1, rfl, -1, rfl, rfl, rfl⟩) fun vs s4 ⟨o, H4, I4, ps, eo, e4⟩ => ?_
  subst eo e4
  have I5 : Inv X pins σ H4 { s4 with heap := s4.heap.push { cls := .type "slice", data := .fields #[vl, vu, vs] } } := I4.kept (t' := s4.toks) fun _ _ q => Heap.get?_push_of_some _ q
  obtain ⟨its, r, ht, hz⟩ := I5.tuple hx
  obtain ⟨v0, v1, rfl, r0, r1⟩ : ∃ v0 v1, its = [v0, v1] ∧ RelV y v0 ∧ RelV z v1 := by
    cases r with
    | cons a0 r => cases r with
      | cons a1 r => cases r; exact ⟨_, _, rfl, a0, a1⟩
  show wpAny (model X.prog X.w) X.A (subscriptTail e (.Slice none none (some (.UnaryOp .USub (.Constant (.int 1) k p1) p2)) p3) (.ref a) (.ref s4.heap.objs.size)) (EP X pins σ Q) X.xe { s4 with heap := s4.heap.push { cls := .type "slice", data := .fields #[vl, vu, vs] } }
  refine tail_any (ops := [.ref a, .ref s4.heap.objs.size]) ht.typeIs (PyProof.Rows.slot_tuple_getitem.lookup) ?_ (by with_unfolding_all rfl)
  refine HT.pair_turned ht (Heap.IsSliceOf.new _ vl vu vs) pl pu ps ?_
  refine ⟨.ref _, _, I5.laid (t' := s4.toks) (o := .tup [z, y]) (fun _ _ q => Heap.get?_push_of_some _ q) (Nat.le_refl _) ?_, rfl, q _ (I5.hok.fresh (Nat.le_refl _))⟩
  exact ⟨(by show 2 ≤ sizeLine; decide), _, .cons r1 (.cons r0 .nil), IsTup.new _ _⟩
end L2

set_option Elab.async false
set_option maxRecDepth 100000
set_option maxHeartbeats 4000000
namespace L2
open PySem PySem.Spec PyProof.Rows
set_option linter.unusedVariables false
/-! name = {k: e for ..} on one line, the name a local -/
theorem sw_trueD {kx vx : Expr} {gs : List Comprehension} {scope : Scope} {pos py : Pos} {y : PySem.Str} {l : Nat} {env : Env} (hk : env.scope.kind = .function) (hy : env.scope.names.lookup y = some .local) (hl : (py.line == pos.line) = true)
    (ha : (scope.names.any fun (n, k) => n == y && (k == .local || k == .cell)) = false) : swapsWith (.DictComp kx vx gs scope pos) (some (.Name y py)) l env = pure true := by
  have ky : env.kindOf y = some .local := hy
  have hb : env.blockKind = .function := by unfold Env.blockKind; rw [hk]; rfl
  unfold swapsWith
  simp only [hb, ky, ha, Expr.pos, hl]
  rfl
section
variable {X : Cx}
theorem ps_setDcT {i : Nat} {y : PySem.Str} {py : Pos} {kx vx tg iter : Expr} {ifs : List Expr} {scope : Scope} {own : List (PySem.Str × Nat)} {pos spos : Pos} {wi : TI} {g : TG} {tt : TT} {tk tv : TE} (hu : X.A.units + 1 < cLine) (hc : X.calm = true) (hN : X.N.Nodup) (hy : X.N[i]? = some y) (hyl : X.env.scope.names.lookup y = some .local)
    (hsw : swapsWith (.DictComp kx vx [⟨tg, iter, ifs, 0⟩] scope pos) (some (.Name y py)) spos.line X.env = pure true) (hi : PI X tg iter wi) (ok : BlkOk X.N X.env.scope scope own)
    (hg : ∀ (s : Shared) (H : Hp) (C : Addr) (cl : List (PySem.Str × Addr)) (fp : List Addr), PG (X.blk s H scope (compEnvC scope cl C X.env) fp) tg g)
    (ht : ∀ (s : Shared) (H : Hp) (C : Addr) (cl : List (PySem.Str × Addr)) (fp : List Addr), PTs (X.blk s H scope (compEnvC scope cl C X.env) fp) ifs tt)
    (hk : ∀ (s : Shared) (H : Hp) (C : Addr) (cl : List (PySem.Str × Addr)) (fp : List Addr), PE (X.blk s H scope (compEnvC scope cl C X.env) fp) kx tk)
    (he : ∀ (s : Shared) (H : Hp) (C : Addr) (cl : List (PySem.Str × Addr)) (fp : List Addr), PE (X.blk s H scope (compEnvC scope cl C X.env) fp) vx tv)
    (hs : ∀ x, foldedSetIterable iter X.env x = pure x := by intro _; rfl) :
    PS X (.Assign [.Name y py] (.DictComp kx vx [⟨tg, iter, ifs, 0⟩] scope pos) spos) (tAsg (tGather (fun _ => .dT []) wi g tt (addT tk tv) (own.map (·.2))) (gName i)) := by
  refine ⟨fun pins s σ H D I h => ?_⟩
  rw [exec_Assign_Name_used _ _ _ _ hsw]
  refine wpAny_bind (wpAny_standAt (wpAny_bind ?_))
  show wpAny _ X.A (do let _ ← comprehension (.DictComp kx vx [⟨tg, iter, ifs, 0⟩] scope pos) scope X.env (firstIterPos [⟨tg, iter, ifs, 0⟩] pos) newDict false (eval iter X.env) (some (assign (.Name y py) X.env))) _ _ s
  have h : tGather (fun _ => .dT []) wi g tt (addT tk tv) (own.map (·.2)) σ H (fun x H1 => gName i x σ H1 D.nx) := h
  refine wpAny_bind (thn (gather_core (Qf := fun _ s' => SP X pins D .next s') (use := some (assign (.Name y py) X.env)) (ob := { cls := .type "dict", data := .dict #[] }) (mk := newDict) (o0 := fun _ => .dT []) (add := addT tk tv)
    (Body := fun acc env R back s => match acc with
      | .ref D => wpAny (model X.prog X.w) X.A (eval kx env) (fun kv s4 => wpAny (model X.prog X.w) X.A (eval vx env) (fun vv s5 => wpAny (model X.prog X.w) X.A (dictSet D kv vv) (fun _ s6 => back s6) (notedBy (model X.prog X.w) X.A env fun e s' => R (.error e) s') s5)
          (notedBy (model X.prog X.w) X.A env fun e s' => R (.error e) s') s4) (notedBy (model X.prog X.w) X.A env fun e s' => R (.error e) s') s
      | _ => False)
    hc hN I hi ok rfl (fun A E s Q q => wpAny_newObj_type q) (fun h H hb => dt_empty h hb) (fun it D env R I turn n s => compLoop_anyD I turn n) (fun it acc env R s a b => codeAny_compStart_dict a b) hg ht ?_ hs h ?_) fun _ s' hq => wpAny_pure (wpAny_pure hq))
  · intro s H C cl fp D R Nx back pins' σ2 H3 s3 I3 q3 k
    refine thnF ((hk s H C cl fp).run _ s3 σ2 H3 _ I3 q3) fun z s4 ⟨yk, H4, I4, r4, q4⟩ => ?_
    refine thnF ((he s H C cl fp).run _ s4 σ2 H4 _ I4 q4) fun z2 s5 ⟨yv, H5, I5, r5, kvs, ks, b, ey, hb, hD, hz, nx⟩ => ?_
    subst ey
    cases (show z = Value.ref b from r4)
    obtain ⟨hl, hd, xs, rel, dd⟩ := dt_of I5.hok hD
    have hz' : xs.length ≤ sizeLine := by rw [← Paired.length rel]; exact hl
    have grown : (putK kvs ks yv).length ≤ sizeLine := by have := length_putK kvs ks yv; omega
    refine wpAny_dictSet_heap (hsz := hz') (show X.A.units < cLine by omega) (key_of I5.hok hb) dd fun h' dd' same => k _ _ ?_ nx
    obtain ⟨q, es, ep, hq, h2, h3, h4, _, h5⟩ := dd'
    refine d_write I5 (by rw [hD]; exact True.intro) same ⟨q, hq⟩ ⟨grown, hd, _, (rel.put ks hb r5).keeps fun c ys ec => ?_, q, es, ep, hq, h2, h3, h4, h5⟩
    rw [upd_ne (ne_of ec hD (fun z => nomatch z))]
    exact ec
  · intro L C s' m H' I' q hn f
    show wpAny _ _ (assign (.Name y py) X.env (.ref L)) _ _ _
    refine wpAny_assign_Name (store_ok2 (v := V.ref L) I' hN hy (.inl hyl) rfl (fun s2 I2 ⟨a, sb, ha⟩ => ?_) (.inr hyl))
    obtain ⟨f0, f1, f2, f3, f4, f5⟩ := f
    have haC : C ≠ a := by
      rcases ha with z | z
      · rw [z]; exact f1
      · exact fun e => f4 y a z e.symm
    refine ⟨m, hn.sameBut sb haC, fun h3 sb3 => ?_⟩
    exact ⟨_, H', I2.turned (t' := s2.toks) (fun b o hb e => (sb3.2 b hb).trans e) f0 f1 f3 f4 f5, q⟩
end
end L2

set_option Elab.async false
set_option maxRecDepth 100000
set_option maxHeartbeats 4000000
namespace TA
open PySem L2 PyProof.Rows
set_option linter.unusedVariables false
def top (i : Nat) : Stmt := PySem.Challenge.pw_twoalone_k35_whole_protocols_of_exchange.main.body.getD i (.Pass ⟨0, 0, 0, 0⟩)
abbrev sWhole : Stmt := top 2
abbrev sWithin : Stmt := top 3
abbrev sHand : Stmt := top 4
abbrev s_is_rising : Stmt := top 5
abbrev s_AloneError : Stmt := top 7
abbrev s_NoTask : Stmt := top 8
abbrev s_NoHand : Stmt := top 9
abbrev s_NoRounds : Stmt := top 10
abbrev s_NoInputs : Stmt := top 11
abbrev s_NoWeaving : Stmt := top 12
abbrev s_NoKnown : Stmt := top 13
abbrev s_NoProtocol : Stmt := top 14
abbrev s_NoText : Stmt := top 15
abbrev sInputs : Stmt := top 19
abbrev sWeaving : Stmt := top 20
abbrev sPut : Stmt := top 21
abbrev sKnown : Stmt := top 22
abbrev s_rounds_behind : Stmt := top 25
abbrev s_agrees : Stmt := top 26
abbrev s_met : Stmt := top 27
abbrev s_standing : Stmt := top 28
abbrev sPlace : Stmt := top 29
abbrev s_is_output : Stmt := top 32
abbrev s_is_outputs : Stmt := top 33
abbrev s_is_rows : Stmt := top 34
abbrev s_is_alone : Stmt := top 35
abbrev s_is_output_pair : Stmt := top 36
abbrev s_is_let : Stmt := top 37
abbrev s_is_input_pair : Stmt := top 38
abbrev s_each_comes : Stmt := top 39
abbrev s_is_both : Stmt := top 40
abbrev s_Task : Stmt := top 41
abbrev s_is_pair : Stmt := top 42
abbrev s_swapped : Stmt := top 43
abbrev s_is_row : Stmt := top 45
abbrev s_is_chosen : Stmt := top 46
abbrev s_is_walks : Stmt := top 47
abbrev s_is_protocol : Stmt := top 48
abbrev s_output_of : Stmt := top 49
abbrev s_tell : Stmt := top 50
abbrev s_alone_fault : Stmt := top 51
abbrev s_outputs_at : Stmt := top 52
abbrev s_walk_fault : Stmt := top 53
abbrev s_protocol_fault : Stmt := top 54
abbrev s_alone_row : Stmt := top 58
abbrev s_both_row : Stmt := top 59
abbrev s_task_text : Stmt := top 60
abbrev s_number : Stmt := top 61
abbrev s_numbers : Stmt := top 62
abbrev s_read_alone : Stmt := top 63
abbrev s_read_both : Stmt := top 64
abbrev s_read_rows : Stmt := top 65
abbrev s_read_task : Stmt := top 66
abbrev sCell : Stmt := top 68
abbrev s__law_digit : Stmt := top 69
abbrev s__law_of : Stmt := top 70
abbrev s__law_rising : Stmt := top 71
abbrev s__law_outs : Stmt := top 72
abbrev s__law_parts : Stmt := top 73
abbrev s__law_walk : Stmt := top 74
abbrev s__law_scheme : Stmt := top 75
abbrev sLawWeav : Stmt := top 76
abbrev s__law_spots : Stmt := top 77
abbrev s__law_turned : Stmt := top 78
abbrev s__law_words : Stmt := top 79
abbrev sLaw : Stmt := top 80
structure Def (P : Program) (w : World) (K : PySem.W.Frag) (mg : Str → Option Value) (base : Heap) (x : Str) (ps : List Str) (k : Nat) (sp : Sp) (f : Addr) (fd : FuncData) : Prop where
  G : FnOk P w K mg base CX0 k f fd ps sp
  b : Binds K fd ps []
  k : PySem.W.keepIn K (.ref f) = true
  m : mg x = some (.ref f)
def isN : PyData → Bool
  | .none => true
  | _ => false
structure Txt (K : PySem.W.Frag) (mg : Str → Option Value) : Prop where
  isi : mg "isinstance" = none
  int : mg "int" = none
  bool : mg "bool" = none
  len : mg "len" = none
  range : mg "range" = none
  list : mg "list" = none
  tuple : mg "tuple" = none
  all : mg "all" = none
  sum : mg "sum" = none
  min : mg "min" = none
theorem same_new {H : Hp} {p : Addr} (h : H p = none) (o : HO) : Same H (upd H p o) := fun b u q => by rw [upd_ne (ne_of_none q h)]; exact q

theorem iteT' {c : Bool} {A B : Prop} (e : c = true) (a : A) : if c = true then A else B := by rw [if_pos e]; exact a
theorem iteF' {c : Bool} {A B : Prop} (e : c = false) (b : B) : if c = true then A else B := by rw [e]; exact b
theorem join2 {b : Bool} {X : Prop} {R : L2.St → Hp → Prop} {σ : L2.St} {H : Hp} (Iv : L2.St → Hp → Prop) (h0 : Iv σ H) (k : ∀ σ Hc, Iv σ Hc → R σ Hc) (h1 : b = true → (∀ σ Hc, Iv σ Hc → R σ Hc) → X) : if b = true then X else R σ H := by
  cases b with
  | false => exact iteF (k σ H h0)
  | true => exact iteT (h1 rfl k)
/-! things of any kind, by their data -/
def tyN : PyData → String
  | .none => "NoneType"
  | .bool _ => "bool"
  | .int _ => "int"
  | .str _ => "str"
  | .list _ => "list"
  | .tuple _ => "tuple"
  | .dict _ => "dict"
theorem sqT_ty {K : PySem.W.Frag} {H : Hp} {a : Addr} {xs : List V} (h : SqT K H a xs) : TyX K H (.ref a) (.type "tuple") := by
  rcases h with h | ⟨o, its, n, h1, h2, _⟩
  · rcases h with h | ⟨o, h⟩
    · exact .base (.tup h)
    · exact .fTuple h
  · exact .kTuple h1 h2
theorem sqL_ty {K : PySem.W.Frag} {H : Hp} {a : Addr} {xs : List V} (h : SqL K H a xs) : TyX K H (.ref a) (.type "list") := by
  rcases h with h | ⟨o, its, n, h1, h2, _⟩
  · rcases h with h | ⟨o, h⟩
    · exact .base (.lst h)
    · exact .base (.frz h)
  · exact .kList h1 h2
theorem dp_ty {K : PySem.W.Frag} {H : Hp} {v : V} {d : PyData} (h : Dp K H v d) : TyX K H v (.type (tyN d)) := by
  cases h with
  | non => exact .base .non
  | bl b => exact .base (.bl b)
  | int i => exact .base (.int i)
  | str x => exact .base (.str x)
  | lst h _ => exact sqL_ty h
  | tup h _ => exact sqT_ty h
theorem dp_non {K : PySem.W.Frag} {H : Hp} {v : V} {d : PyData} (h : Dp K H v d) : decide (v = .non) = isN d := by
  cases h <;> rfl
def isWholeD : PyData → Bool
  | .int _ => true
  | _ => false
def isTupD : PyData → Bool
  | .tuple _ => true
  | _ => false
def within : PyData → Int → Int → Bool
  | .int n, lo, hi => decide (lo ≤ n ∧ n ≤ hi)
  | _, _, _ => false
theorem kit_int (d : PyData) {K : PySem.W.Frag} : ∃ b1 b2, PySem.W.kitOne K (.type (tyN d)) (.type "int") = some b1 ∧ PySem.W.kitOne K (.type (tyN d)) (.type "bool") = some b2 ∧ isWholeD d = (b1 && !b2) := by
  cases d with
  | none => exact ⟨false, false, kit_ty (a := "NoneType") (b := "int") (by decide +kernel), kit_ty (a := "NoneType") (b := "bool") (by decide +kernel), rfl⟩
  | bool b => exact ⟨true, true, kit_ty (a := "bool") (b := "int") (by decide +kernel), kit_ty (a := "bool") (b := "bool") (by decide +kernel), rfl⟩
  | int i => exact ⟨true, false, kit_ty (a := "int") (b := "int") (by decide +kernel), kit_ty (a := "int") (b := "bool") (by decide +kernel), rfl⟩
  | str s => exact ⟨false, false, kit_ty (a := "str") (b := "int") (by decide +kernel), kit_ty (a := "str") (b := "bool") (by decide +kernel), rfl⟩
  | list l => exact ⟨false, false, kit_ty (a := "list") (b := "int") (by decide +kernel), kit_ty (a := "list") (b := "bool") (by decide +kernel), rfl⟩
  | tuple l => exact ⟨false, false, kit_ty (a := "tuple") (b := "int") (by decide +kernel), kit_ty (a := "tuple") (b := "bool") (by decide +kernel), rfl⟩
  | dict l => exact ⟨false, false, kit_ty (a := "dict") (b := "int") (by decide +kernel), kit_ty (a := "dict") (b := "bool") (by decide +kernel), rfl⟩
theorem kit_tup (d : PyData) {K : PySem.W.Frag} : PySem.W.kitOne K (.type (tyN d)) (.type "tuple") = some (isTupD d) := by
  cases d with
  | none => exact (show PySem.W.kitOne K (.type "NoneType") (.type "tuple") = some false from kit_ty (a := "NoneType") (b := "tuple") (by decide +kernel))
  | bool b => exact (show PySem.W.kitOne K (.type "bool") (.type "tuple") = some false from kit_ty (a := "bool") (b := "tuple") (by decide +kernel))
  | int i => exact (show PySem.W.kitOne K (.type "int") (.type "tuple") = some false from kit_ty (a := "int") (b := "tuple") (by decide +kernel))
  | str s => exact (show PySem.W.kitOne K (.type "str") (.type "tuple") = some false from kit_ty (a := "str") (b := "tuple") (by decide +kernel))
  | list l => exact (show PySem.W.kitOne K (.type "list") (.type "tuple") = some false from kit_ty (a := "list") (b := "tuple") (by decide +kernel))
  | tuple l => exact (show PySem.W.kitOne K (.type "tuple") (.type "tuple") = some true from kit_ty (a := "tuple") (b := "tuple") (by decide +kernel))
  | dict l => exact (show PySem.W.kitOne K (.type "dict") (.type "tuple") = some false from kit_ty (a := "dict") (b := "tuple") (by decide +kernel))
theorem dp_tup {K : PySem.W.Frag} {H : Hp} {v : V} {ds : List PyData} (h : Dp K H v (.tuple ds)) : ∃ a xs, v = .ref a ∧ SqT K H a xs ∧ DpAll K H xs ds := by
  cases h with
  | tup h1 h2 => exact ⟨_, _, rfl, h1, h2⟩
theorem dpAll_len {K : PySem.W.Frag} {H : Hp} : ∀ {vs : List V} {ds : List PyData}, DpAll K H vs ds → vs.length = ds.length
  | _, _, .nil => rfl
  | _, _, .cons _ b => congrArg (· + 1) (dpAll_len b)
theorem rd_mono {H H' : Hp} (s : Same H H') {a : Addr} {o : HO} (h : Rd H a o) : Rd H' a o := by
  rcases h with h | ⟨ob, h⟩
  · exact .inl (s _ _ h)
  · exact .inr ⟨ob, s _ _ h⟩
theorem seqT_mono {K : PySem.W.Frag} {H H' : Hp} (s : Same H H') {a : Addr} {xs : List V} (h : SqT K H a xs) : SqT K H' a xs := by
  rcases h with h | h
  · exact .inl (rd_mono s h)
  · exact .inr h
mutual
theorem dp_mono {K : PySem.W.Frag} {H H' : Hp} (s : Same H H') : ∀ (d : PyData) (v : V), Dp K H v d → Dp K H' v d
  | .none, _, h => by cases h; exact .non
  | .bool b, _, h => by cases h; exact .bl b
  | .int i, _, h => by cases h; exact .int i
  | .str x, _, h => by cases h; exact .str x
  | .list ds, _, h => by
    cases h with
    | lst a b => exact .lst (s.seq a) (dpAll_mono s ds _ b)
  | .tuple ds, _, h => by
    cases h with
    | tup a b => exact .tup (seqT_mono s a) (dpAll_mono s ds _ b)
  | .dict _, _, h => by cases h
theorem dpAll_mono {K : PySem.W.Frag} {H H' : Hp} (s : Same H H') : ∀ (ds : List PyData) (vs : List V), DpAll K H vs ds → DpAll K H' vs ds
  | [], _, h => by cases h; exact .nil
  | d :: ds, _, h => by
    cases h with
    | cons a b => exact .cons (dp_mono s d _ a) (dpAll_mono s ds _ b)
end
def spWholeG (K : PySem.W.Frag) : Sp := fun vs H Q _ => ∃ (v : V) (d : PyData), vs = [v] ∧ Dp K H v d ∧ Q (.bl (isWholeD d)) H
def spWithinG (K : PySem.W.Frag) : Sp := fun vs H Q _ => ∃ (v : V) (d : PyData) (lo hi : Int), vs = [v, .int lo, .int hi] ∧ Dp K H v d ∧ Q (.bl (within d lo hi)) H
def spHandG (K : PySem.W.Frag) : Sp := fun vs H Q _ => ∃ (v : V) (d : PyData), vs = [v] ∧ Dp K H v d ∧ Q (.bl (within d 0 1)) H
/-! a walk of n turns, whatever is walked: the word Pv is kept from turn to turn -/
theorem turns {J : It} (n : Nat) {H0 : Hp} {Qd : Hp → Prop} {B : (Hp → Prop) → V → Hp → Prop} (Pv : Nat → Hp → Prop) (start : Pv 0 H0) (last : ∀ H, Pv n H → J.stop n H ∧ Qd H)
    (turn : ∀ i H, i < n → Pv i H → J.go i H ∧ ∀ x H', J.yld i H x H' → B (Pv (i + 1)) x H') :
    ∃ W : Nat → Nat → Hp → Prop, (∃ m, W 0 m H0) ∧ ∀ i m H, W i m H →
      (J.stop i H ∧ Qd H) ∨ (J.go i H ∧ ∃ Nx : Hp → Prop, (∀ H', Nx H' → ∃ m', m' < m ∧ W (i + 1) m' H') ∧ ∀ x H', J.yld i H x H' → B Nx x H') := by
  refine ⟨fun i m H => i + m = n ∧ Pv i H, ⟨n, by omega, start⟩, fun i m H h => ?_⟩
  obtain ⟨hm, word⟩ := h
  cases m with
  | zero =>
    have hin : i = n := by omega
    rw [hin] at word ⊢
    exact Or.inl (last H word)
  | succ m =>
    obtain ⟨go, step⟩ := turn i H (by omega) word
    exact Or.inr ⟨go, Pv (i + 1), fun H' w' => ⟨m, by omega, by omega, w'⟩, step⟩
theorem list_turns {K : PySem.W.Frag} {a : Addr} {xs : List V} {H0 : Hp} {Qd : Hp → Prop} {B : (Hp → Prop) → V → Hp → Prop} (Pv : Nat → Hp → Prop) (start : Pv 0 H0) (still : ∀ i H, i ≤ xs.length → Pv i H → SqL K H a xs)
    (turn : ∀ i x H, xs[i]? = some x → Pv i H → B (Pv (i + 1)) x H) (last : ∀ H, Pv xs.length H → Qd H) :
    ∃ W : Nat → Nat → Hp → Prop, (∃ m, W 0 m H0) ∧ ∀ i m H, W i m H →
      ((Itl K a).stop i H ∧ Qd H) ∨ ((Itl K a).go i H ∧ ∃ Nx : Hp → Prop, (∀ H', Nx H' → ∃ m', m' < m ∧ W (i + 1) m' H') ∧ ∀ x H', (Itl K a).yld i H x H' → B Nx x H') :=
  turns xs.length Pv start (fun H w => ⟨⟨xs, still _ H (Nat.le_refl _) w, Nat.le_refl _⟩, last H w⟩) fun i H hi w =>
    have there := still i H (Nat.le_of_lt hi) w
    ⟨⟨xs, xs[i], there, List.getElem?_eq_getElem hi⟩, fun x H' ⟨same, given⟩ => by rw [same]; exact turn i x H (given xs there) w⟩
theorem tup_turns {K : PySem.W.Frag} {a : Addr} {xs : List V} {H0 : Hp} {Qd : Hp → Prop} {B : (Hp → Prop) → V → Hp → Prop} (Pv : Nat → Hp → Prop) (start : Pv 0 H0) (still : ∀ i H, i ≤ xs.length → Pv i H → SqT K H a xs)
    (turn : ∀ i x H, xs[i]? = some x → Pv i H → B (Pv (i + 1)) x H) (last : ∀ H, Pv xs.length H → Qd H) :
    ∃ W : Nat → Nat → Hp → Prop, (∃ m, W 0 m H0) ∧ ∀ i m H, W i m H →
      ((Itt K a).stop i H ∧ Qd H) ∨ ((Itt K a).go i H ∧ ∃ Nx : Hp → Prop, (∀ H', Nx H' → ∃ m', m' < m ∧ W (i + 1) m' H') ∧ ∀ x H', (Itt K a).yld i H x H' → B Nx x H') :=
  turns xs.length Pv start (fun H w => ⟨⟨xs, still _ H (Nat.le_refl _) w, Nat.le_refl _⟩, last H w⟩) fun i H hi w =>
    have there := still i H (Nat.le_of_lt hi) w
    ⟨⟨xs, xs[i], there, List.getElem?_eq_getElem hi⟩, fun x H' ⟨same, given⟩ => by rw [same]; exact turn i x H (given xs there) w⟩
theorem range_turns {lo : Int} {n : Nat} {H0 : Hp} {Qd : Hp → Prop} {B : (Hp → Prop) → V → Hp → Prop} (Pv : Nat → Hp → Prop) (start : Pv 0 H0)
    (turn : ∀ i H, i < n → Pv i H → B (Pv (i + 1)) (.int (lo + i)) H) (last : ∀ H, Pv n H → Qd H) :
    ∃ W : Nat → Nat → Hp → Prop, (∃ m, W 0 m H0) ∧ ∀ i m H, W i m H →
      ((Itr lo n).stop i H ∧ Qd H) ∨ ((Itr lo n).go i H ∧ ∃ Nx : Hp → Prop, (∀ H', Nx H' → ∃ m', m' < m ∧ W (i + 1) m' H') ∧ ∀ x H', (Itr lo n).yld i H x H' → B Nx x H') :=
  turns n Pv start (fun H w => ⟨Nat.le_refl _, last H w⟩) fun i H hi w => ⟨hi, fun x H' ⟨same, given⟩ => by rw [same, given]; exact turn i H hi w⟩
theorem small13 {n : Nat} (h : n ≤ 100000) : n ≤ sizeLine := Nat.le_trans h (by decide)

section
variable {P : Program} {w : World} {K : PySem.W.Frag} {mg : Str → Option Value} {base : Heap}
theorem scWhole : FnScope ["thing"] ["thing"] (defScope sWhole) := ⟨rfl, rfl, rfl, by decide +kernel, rfl, by decide +kernel, by decide +kernel⟩
theorem scWithin : FnScope ["thing", "least", "most"] ["thing", "least", "most"] (defScope sWithin) := ⟨rfl, rfl, rfl, by decide +kernel, rfl, by decide +kernel, by decide +kernel⟩
theorem scHand : FnScope ["thing"] ["thing"] (defScope sHand) := ⟨rfl, rfl, rfl, by decide +kernel, rfl, by decide +kernel, by decide +kernel⟩
theorem ok_wholeG {f : Addr} {fd : FuncData} (F : Fun K "is_whole" "is_whole" sWhole f fd) (T : Txt K mg) : FnOk P w K mg base CX0 1 f fd ["thing"] (spWholeG K) := by
  refine F.ok scWhole (fun vs H Q E h => ?_) (fun cdv A outer s H vs Q E hr h => ?_)
  · obtain ⟨v, d, rfl, _⟩ := h
    rfl
  obtain ⟨v, d, rfl, hk, q⟩ := h
  refine ⟨_, pss_one (ps_ret (pe_and (pe_callB call_isi (by rfl) T.isi boot_isinstance (pa_cons (pv 0) (pa_cons (pe_bltn (v := .ty "int") (by rfl) T.int boot_int rfl) pa_nil)))
    (pe_one (pe_not (pe_callB call_isi (by rfl) T.isi boot_isinstance (pa_cons (pv 0) (pa_cons (pe_bltn (v := .ty "bool") (by rfl) T.bool boot_bool rfl) pa_nil))))))), ?_⟩
  obtain ⟨b1, b2, e1, e2, e3⟩ := kit_int d (K := K)
  rw [e3] at q
  refine ⟨_, rfl, v, V.ty "int", _, _, b1, rfl, .ty "int", (dp_ty hk), e1, b1, rfl, ?_⟩
  cases b1 with
  | false => exact iteF q
  | true => exact iteT ⟨_, rfl, v, V.ty "bool", _, _, b2, rfl, .ty "bool", (dp_ty hk), e2, b2, rfl, q⟩
theorem ok_withinG {f g : Addr} {fd gd : FuncData} (F : Fun K "is_whole_within" "is_whole_within" sWithin f fd) (W : Def P w K mg base "is_whole" ["thing"] 1 (spWholeG K) g gd) : FnOk P w K mg base CX0 2 f fd ["thing", "least", "most"] (spWithinG K) := by
  refine F.ok scWithin (fun vs H Q E h => ?_) (fun cdv A outer s H vs Q E hr h => ?_)
  · obtain ⟨v, d, lo, hi, rfl, _⟩ := h
    rfl
  obtain ⟨v, d, lo, hi, rfl, hk, q⟩ := h
  refine ⟨_, pss_one (ps_ret (pe_and (pe_call W.G hr rfl W.m W.k W.b .nil pass0 (pa_cons (pv 0) pa_nil)) (pe_one (pe_chain op_le op_le (pv 1) (pv 0) (pv 2))))), ?_⟩
  refine ⟨_, rfl, v, d, rfl, hk, isWholeD d, rfl, ?_⟩
  by_cases hw : ∃ n, d = .int n
  · obtain ⟨n, rfl⟩ := hw
    have ev : v = .int n := by
      cases hk; rfl
    subst ev
    refine iteT ⟨_, rfl, _, rfl, _, _, rfl, rfl, _, rfl, ?_⟩
    by_cases h1 : lo ≤ n
    · rw [decide_eq_true h1]
      refine iteT ⟨_, rfl, _, _, rfl, rfl, ?_⟩
      have e : within (.int n) lo hi = decide (n ≤ hi) := by unfold within; simp [h1]
      rw [e] at q
      exact q
    · rw [decide_eq_false h1]
      refine iteF ?_
      have e : within (.int n) lo hi = false := by unfold within; simp [h1]
      rw [e] at q
      exact q
  · have e1 : isWholeD d = false := by
      cases d with
      | int n => exact absurd ⟨n, rfl⟩ hw
      | _ => rfl
    have e2 : within d lo hi = false := by
      cases d with
      | int n => exact absurd ⟨n, rfl⟩ hw
      | _ => rfl
    rw [e1]
    rw [e2] at q
    exact iteF q
theorem ok_handG {f g : Addr} {fd gd : FuncData} (F : Fun K "is_hand" "is_hand" sHand f fd) (W : Def P w K mg base "is_whole_within" ["thing", "least", "most"] 2 (spWithinG K) g gd) : FnOk P w K mg base CX0 3 f fd ["thing"] (spHandG K) := by
  refine F.ok scHand (fun vs H Q E h => ?_) (fun cdv A outer s H vs Q E hr h => ?_)
  · obtain ⟨v, d, rfl, _⟩ := h
    rfl
  obtain ⟨v, d, rfl, hk, q⟩ := h
  refine ⟨_, pss_one (ps_ret (pe_call W.G hr rfl W.m W.k W.b .nil pass0 (pa_cons (pv 0) (pa_cons pe_int (pa_cons pe_int pa_nil))))), ?_⟩
  exact ⟨_, rfl, v, d, 0, 1, rfl, hk, q⟩
end
end TA

set_option Elab.async false
set_option maxRecDepth 100000
set_option maxHeartbeats 4000000
namespace TA
open PySem L2 PyProof.Rows
set_option linter.unusedVariables false
/-! a task's parts, of any data -/
theorem dpAll_get {K : PySem.W.Frag} {H : Hp} : ∀ {vs : List V} {ds : List PyData} {i : Nat} {x : V}, DpAll K H vs ds → vs[i]? = some x → ∃ d, ds[i]? = some d ∧ Dp K H x d
  | _, _, _, _, .nil, e => by simp at e
  | _, _, 0, _, .cons a b, e => ⟨_, rfl, by simp at e; rw [← e]; exact a⟩
  | _, _, i + 1, x, .cons a b, e => by
    obtain ⟨d, h1, h2⟩ := dpAll_get (i := i) (x := x) b (by simpa using e)
    exact ⟨d, by simpa using h1, h2⟩
theorem same_upd {H0 H : Hp} {p : Addr} {o : HO} (s : Same H0 H) (f : H0 p = none) : Same H0 (upd H p o) := fun b u e => by
  rw [upd_ne (ne_of_none e f)]
  exact s _ _ e
theorem take_bl (bs : List Bool) {i : Nat} {b : Bool} (h : bs[i]? = some b) : (bs.take i).map V.bl ++ [V.bl b] = (bs.take (i + 1)).map V.bl := by
  rw [List.take_add_one, h, List.map_append]
  rfl
def isLstD : PyData → Bool
  | .list _ => true
  | _ => false
theorem kit_lst (d : PyData) {K : PySem.W.Frag} : PySem.W.kitOne K (.type (tyN d)) (.type "list") = some (isLstD d) := by
  cases d with
  | none => exact (show PySem.W.kitOne K (.type "NoneType") (.type "list") = some false from kit_ty (by decide +kernel))
  | bool b => exact (show PySem.W.kitOne K (.type "bool") (.type "list") = some false from kit_ty (by decide +kernel))
  | int b => exact (show PySem.W.kitOne K (.type "int") (.type "list") = some false from kit_ty (by decide +kernel))
  | str b => exact (show PySem.W.kitOne K (.type "str") (.type "list") = some false from kit_ty (by decide +kernel))
  | list b => exact (show PySem.W.kitOne K (.type "list") (.type "list") = some true from kit_ty (by decide +kernel))
  | tuple b => exact (show PySem.W.kitOne K (.type "tuple") (.type "list") = some false from kit_ty (by decide +kernel))
  | dict b => exact (show PySem.W.kitOne K (.type "dict") (.type "list") = some false from kit_ty (by decide +kernel))
/-- what stands in a list of ints, one behind the other -/
def risI (ns : List Int) : Bool := ((List.range (ns.length - 1)).map fun i => decide (ns.getD i 0 < ns.getD (i + 1) 0)).all id
def intsOf : List PyData → List Int := List.map fun d => match d with
  | .int i => i
  | _ => 0
def outB (d : PyData) : Bool := within d 0 63
def outsB : PyData → Bool
  | .list ds => decide (0 < ds.length) && ((ds.map outB).all id && risI (intsOf ds))
  | _ => false
def rowsB : PyData → Bool
  | .list ds => decide (0 < ds.length) && (ds.map outsB).all id
  | _ => false
def aloneB : PyData → Bool
  | .list ds => decide (ds.length = 2) && (ds.map rowsB).all id
  | _ => false
theorem outs_ints {K : PySem.W.Frag} {H : Hp} : ∀ {ds : List PyData} {vs : List V}, DpAll K H vs ds → (ds.map outB).all id = true → vs = (intsOf ds).map V.int
  | [], _, h, _ => by cases h; rfl
  | d :: ds, _, h, a => by
    rw [List.map_cons, List.all_cons] at a
    obtain ⟨a1, a2⟩ := Bool.and_eq_true_iff.mp a
    cases h with
    | cons h1 h2 =>
      cases d with
      | int i =>
        cases h1
        rw [outs_ints h2 a2]
        rfl
      | _ => exact Bool.noConfusion (show false = true from a1)
def spOut (K : PySem.W.Frag) : Sp := fun vs H Q _ => ∃ (v : V) (d : PyData), vs = [v] ∧ Dp K H v d ∧ Q (.bl (outB d)) H
def spRisI (K : PySem.W.Frag) : Sp := fun vs H Q _ => ∃ (p : Addr) (ns : List Int), vs = [.ref p] ∧ SqL K H p (ns.map V.int) ∧ 1 ≤ ns.length ∧ ns.length ≤ 1000 ∧ ∀ H', Same H H' → Q (.bl (risI ns)) H'
def small (d : PyData) : Prop := ∀ ds, d = .list ds → ds.length ≤ 1000
def spOuts (K : PySem.W.Frag) : Sp := fun vs H Q _ => ∃ (v : V) (d : PyData), vs = [v] ∧ Dp K H v d ∧ small d ∧ ∀ H', Same H H' → Q (.bl (outsB d)) H'
def spRows (K : PySem.W.Frag) : Sp := fun vs H Q _ => ∃ (v : V) (d : PyData), vs = [v] ∧ Dp K H v d ∧ small d ∧ (∀ ds, d = .list ds → ∀ e ∈ ds, small e) ∧ ∀ H', Same H H' → Q (.bl (rowsB d)) H'
def spAlone (K : PySem.W.Frag) : Sp := fun vs H Q _ => ∃ (v : V) (d : PyData), vs = [v] ∧ Dp K H v d ∧ small d ∧ (∀ ds, d = .list ds → ∀ e ∈ ds, small e ∧ ∀ es, e = .list es → ∀ g ∈ es, small g) ∧ ∀ H', Same H H' → Q (.bl (aloneB d)) H'
section
variable {P : Program} {w : World} {K : PySem.W.Frag} {mg : Str → Option Value} {base : Heap}
theorem scOut : FnScope ["thing"] ["thing"] (defScope s_is_output) := ⟨rfl, rfl, rfl, by decide +kernel, rfl, by decide +kernel, by decide +kernel⟩
theorem ok_out {f g : Addr} {fd gd : FuncData} {t63 : Tok} (F : Fun K "is_output" "is_output" s_is_output f fd) (m63 : mg "MOST_OUTPUT" = some (.int 63 t63)) (W : Def P w K mg base "is_whole_within" ["thing", "least", "most"] 2 (spWithinG K) g gd) : FnOk P w K mg base CX0 3 f fd ["thing"] (spOut K) := by
  refine F.ok scOut (fun vs H Q E h => ?_) (fun cdv A outer s H vs Q E hr h => ?_)
  · obtain ⟨v, d, rfl, _⟩ := h
    rfl
  obtain ⟨v, d, rfl, hk, q⟩ := h
  refine ⟨_, pss_one (ps_ret (pe_call W.G hr rfl W.m W.k W.b .nil pass0 (pa_cons (pv 0) (pa_cons pe_int (pa_cons (pe_glob (v := .int 63) rfl m63 ⟨_, rfl⟩) pa_nil))))), ?_⟩
  exact ⟨_, rfl, v, d, 0, 63, rfl, hk, q⟩
theorem scRis : FnScope ["things", "at"] ["things"] (defScope s_is_rising) := ⟨rfl, rfl, rfl, by decide +kernel, rfl, by decide +kernel, by decide +kernel⟩
theorem ok_risI {f : Addr} {fd : FuncData} (F : Fun K "is_rising" "is_rising" s_is_rising f fd) (T : Txt K mg) : FnOk P w K mg base CX0 1 f fd ["things"] (spRisI K) := by
  refine F.ok scRis (fun vs H Q E h => ?_) (fun cdv A outer s H vs Q E hr h => ?_)
  · obtain ⟨p, ns, rfl, _⟩ := h
    rfl
  obtain ⟨p, ns, rfl, hS, n1, n2, q⟩ := h
  have nd := scRis.nd
  refine ⟨_, pss_one (ps_ret (pe_callB (cr_all rfl) (by rfl) T.all (by decide +kernel) (pa_cons
      (pe_lc (own := [("at", 1)]) (g := gName 1) (tt := tYes) (te := tOp (rI0 fun i j => .bl (decide (i < j))) (tOp (rIxL K) (tVar 0) (tVar 1)) (tOp (rIxL K) (tVar 0) (tOp (rI0 fun i j => .int (i + j)) (tVar 1) (tC (.int 1))))) rfl nd
        (pi_range1 (by rfl) T.range (pa_cons (pe_op op_sub (pe_callB call_len_seq (by rfl) T.len PySem.boot_len (pa_cons (pv 0) pa_nil)) pe_int) pa_nil))
        (blkOk_by (N := ["things", "at"]) (sc := defScope s_is_rising) (by decide +kernel)) (fun _ _ _ _ _ => pg_name (i := 1) nd rfl (Or.inl rfl)) (fun _ _ _ _ _ => pts_nil)
        (fun _ _ _ _ _ => (by refine pe_cmpR op_lt ?_ ?_ (nomark _); (exact pe_ix ix_list (pv 0) (pv 1) (fun _ _ => rfl)); (exact pe_ix ix_list (pv 0) (pe_op op_add (pv 1) pe_int) (fun _ _ => rfl))))) pa_nil))), ?_⟩
  refine ⟨_, rfl, p, _, rfl, .inl hS, _, _, rfl, rfl, ?_⟩
  rw [List.length_map]
  have e1 : ((ns.length : Nat) : Int) - 1 = ((ns.length - 1 : Nat) : Int) := by omega
  refine ⟨((ns.length - 1 : Nat) : Int), congrArg (fun z => [V.int z]) e1, by omega, by omega, fun D hD => ?_⟩
  refine range_turns (n := ns.length - 1) (fun i H' => Same H H' ∧ H' D = some (.lst ((((List.range (ns.length - 1)).map fun i => decide (ns.getD i 0 < ns.getD (i + 1) 0)).take i).map V.bl))) ⟨same_new hD _, upd_same⟩ ?_ ?_
  · rintro i H' hi ⟨s1, h1⟩
    have ei : (0 : Int) + (i : Int) = (i : Int) := by omega
    rw [ei]
    have g0 : ns[i]? = some (ns.getD i 0) := by rw [List.getD_eq_getElem?_getD, List.getElem?_eq_getElem (by omega)]; rfl
    have g1 : ns[i + 1]? = some (ns.getD (i + 1) 0) := by rw [List.getD_eq_getElem?_getD, List.getElem?_eq_getElem (by omega)]; rfl
    have hb : ((List.range (ns.length - 1)).map fun i => decide (ns.getD i 0 < ns.getD (i + 1) 0))[i]? = some (decide (ns.getD i 0 < ns.getD (i + 1) 0)) := by
      rw [List.getElem?_map, List.getElem?_range hi]; rfl
    refine ⟨rfl, _, rfl, _, rfl, p, _, _, _, rfl, rfl, s1.seq hS, atI_nat (by rw [List.getElem?_map, g0]; rfl), _, rfl, _, rfl, _, _, rfl, rfl, p, _, _, _, rfl, rfl, s1.seq hS, (by rw [show (i : Int) + 1 = ((i + 1 : Nat) : Int) by omega]; exact atI_nat (by rw [List.getElem?_map, g1]; rfl)), _, _, rfl, rfl, _, h1, ?_, same_upd s1 hD, by rw [upd_same, take_bl _ hb]⟩
    rw [List.length_map]
    exact Nat.lt_of_le_of_lt (List.length_take_le _ _) (Nat.lt_of_lt_of_le hi (Nat.le_trans (by omega) (show 1000 ≤ sizeLine by decide)))
  · rintro H' ⟨s1, h1⟩
    rw [List.take_of_length_le (by rw [List.length_map, List.length_range]; exact Nat.le_refl _)] at h1
    exact ⟨D, _, rfl, SqL.of h1, q _ s1⟩
theorem scOuts : FnScope ["thing", "x"] ["thing"] (defScope s_is_outputs) := ⟨rfl, rfl, rfl, by decide +kernel, rfl, by decide +kernel, by decide +kernel⟩
theorem ok_outs {f g1 g2 : Addr} {fd d1 d2 : FuncData} (F : Fun K "is_outputs" "is_outputs" s_is_outputs f fd) (T : Txt K mg) (W : Def P w K mg base "is_output" ["thing"] 3 (spOut K) g1 d1) (R : Def P w K mg base "is_rising" ["things"] 1 (spRisI K) g2 d2) : FnOk P w K mg base CX0 4 f fd ["thing"] (spOuts K) := by
  refine F.ok scOuts (fun vs H Q E h => ?_) (fun cdv A outer s H vs Q E hr h => ?_)
  · obtain ⟨v, d, rfl, _⟩ := h
    rfl
  obtain ⟨v, d, rfl, hk, hz, q⟩ := h
  have nd := scOuts.nd
  refine ⟨_, pss_one (ps_ret (pe_and (pe_callB call_isi (by rfl) T.isi boot_isinstance (pa_cons (pv 0) (pa_cons (pe_bltn (v := .ty "list") (by rfl) T.list boot_list rfl) pa_nil)))
    (pe_and (pe_cmpR op_gt (pe_callB call_len_seq (by rfl) T.len PySem.boot_len (pa_cons (pv 0) pa_nil)) pe_int (nomark _))
    (pe_and (pe_callB (cr_all rfl) (by rfl) T.all (by decide +kernel) (pa_cons
      (pe_lc (own := [("x", 1)]) (g := gName 1) (tt := tYes) (te := tCall (spOut K) [] E0 (tCons (tVar 1) tNil)) rfl nd (pi_list (pv 0)) (blkOk_by (N := ["thing", "x"]) (sc := defScope s_is_outputs) (by decide +kernel)) (fun _ _ _ _ _ => pg_name (i := 1) nd rfl (Or.inl rfl)) (fun _ _ _ _ _ => pts_nil)
        (fun _ _ _ _ _ => (by exact pe_call W.G hr rfl W.m W.k W.b .nil pass0 (pa_cons (pv 1) pa_nil)))) pa_nil))
    (pe_one (pe_call R.G (hr.mono (by decide)) rfl R.m R.k R.b .nil pass0 (pa_cons (pv 0) pa_nil))))))), ?_⟩
  refine ⟨_, rfl, v, .ty "list", _, _, isLstD d, rfl, .ty "list", dp_ty hk, kit_lst d, _, rfl, ?_⟩
  cases cl : isLstD d with
  | false =>
    have : outsB d = false := by cases d <;> first | rfl | cases cl
    rw [this] at q
    exact iteF (q _ (Same.refl H))
  | true =>
    obtain ⟨ds, rfl⟩ : ∃ ds, d = .list ds := by cases d <;> first | exact ⟨_, rfl⟩ | cases cl
    obtain ⟨p, vs, rfl, hS, hD⟩ : ∃ t vs, v = .ref t ∧ SqL K H t vs ∧ DpAll K H vs ds := by
      cases hk with
      | lst a b => exact ⟨_, _, rfl, a, b⟩
    have hl := dpAll_len hD
    have hds := hz ds rfl
    have eO : outsB (.list ds) = (decide (0 < ds.length) && ((ds.map outB).all id && risI (intsOf ds))) := rfl
    refine iteT ⟨_, rfl, p, _, rfl, .inl hS, _, _, rfl, rfl, ?_⟩
    by_cases c : 0 < ds.length
    case neg =>
      rw [eO, decide_eq_false c, Bool.false_and] at q
      refine ⟨_, rfl, iteF' (decide_eq_false (by omega)) ?_⟩
      exact q _ (Same.refl H)
    rw [eO, decide_eq_true c, Bool.true_and] at q
    refine ⟨_, rfl, iteT' (decide_eq_true (by omega)) ?_⟩
    refine ⟨_, rfl, p, rfl, ⟨_, hS⟩, fun D hD' => ?_⟩
    refine list_turns (xs := vs) (fun i H' => Same H H' ∧ H' D = some (.lst (((ds.map outB).take i).map V.bl))) ⟨same_new hD' _, upd_same⟩ (fun i H' _ h => h.1.seq hS) ?_ ?_
    · rintro i x H' hx ⟨s1, h1⟩
      obtain ⟨di, hdi, hxi⟩ := dpAll_get hD hx
      have hi : i < ds.length := (List.getElem?_eq_some_iff.mp hdi).1
      have hb : (ds.map outB)[i]? = some (outB di) := by rw [List.getElem?_map, hdi]; rfl
      refine ⟨rfl, _, rfl, x, di, rfl, dp_mono s1 _ _ hxi, _, h1, ?_, same_upd s1 hD', by rw [upd_same, take_bl _ hb]⟩
      rw [List.length_map]
      exact Nat.lt_of_le_of_lt (List.length_take_le _ _) (Nat.lt_of_lt_of_le hi (Nat.le_trans hds (by decide)))
    · rintro H1 ⟨s1, h1⟩
      rw [hl, ← List.length_map (f := outB), List.take_length] at h1
      refine ⟨D, _, rfl, SqL.of h1, _, rfl, ?_⟩
      cases ca : (ds.map outB).all id with
      | false =>
        rw [ca, Bool.false_and] at q
        exact iteF (q _ s1)
      | true =>
        rw [ca, Bool.true_and] at q
        have ev := outs_ints hD ca
        have hS' : SqL K H1 p ((intsOf ds).map V.int) := by rw [← ev]; exact s1.seq hS
        have li : (intsOf ds).length = ds.length := List.length_map _
        exact iteT ⟨_, rfl, p, intsOf ds, rfl, hS', by omega, by omega, fun H2 s2 => q _ (s1.trans s2)⟩
theorem sc_rows : FnScope ["thing", "outputs"] ["thing"] (defScope s_is_rows) := ⟨rfl, rfl, rfl, by decide +kernel, rfl, by decide +kernel, by decide +kernel⟩
theorem ok_rows {f g1 : Addr} {fd d1 : FuncData} (F : Fun K "is_rows" "is_rows" s_is_rows f fd) (T : Txt K mg) (W : Def P w K mg base "is_outputs" ["thing"] 4 (spOuts K) g1 d1) : FnOk P w K mg base CX0 5 f fd ["thing"] (spRows K) := by
  refine F.ok sc_rows (fun vs H Q E h => ?_) (fun cdv A outer s H vs Q E hr h => ?_)
  · obtain ⟨v, d, rfl, _⟩ := h
    rfl
  obtain ⟨v, d, rfl, hk, hz, hin, q⟩ := h
  have nd := sc_rows.nd
  refine ⟨_, pss_one (ps_ret (pe_and (pe_callB call_isi (by rfl) T.isi boot_isinstance (pa_cons (pv 0) (pa_cons (pe_bltn (v := .ty "list") (by rfl) T.list boot_list rfl) pa_nil)))
    (pe_and (pe_cmpR op_gt (pe_callB call_len_seq (by rfl) T.len PySem.boot_len (pa_cons (pv 0) pa_nil)) pe_int (nomark _))
    (pe_one (pe_callB (cr_all rfl) (by rfl) T.all (by decide +kernel) (pa_cons
      (pe_lc (own := [("outputs", 1)]) (g := gName 1) (tt := tYes) (te := tCall (spOuts K) [] E0 (tCons (tVar 1) tNil)) rfl nd (pi_list (pv 0)) (blkOk_by (N := ["thing", "outputs"]) (sc := defScope s_is_rows) (by decide +kernel)) (fun _ _ _ _ _ => pg_name (i := 1) nd rfl (Or.inl rfl)) (fun _ _ _ _ _ => pts_nil)
        (fun _ _ _ _ _ => (by exact pe_call W.G hr rfl W.m W.k W.b .nil pass0 (pa_cons (pv 1) pa_nil)))) pa_nil)))))), ?_⟩
  refine ⟨_, rfl, v, .ty "list", _, _, isLstD d, rfl, .ty "list", dp_ty hk, kit_lst d, _, rfl, ?_⟩
  cases cl : isLstD d with
  | false =>
    have : rowsB d = false := by cases d <;> first | rfl | cases cl
    rw [this] at q
    exact iteF (q _ (Same.refl H))
  | true =>
    obtain ⟨ds, rfl⟩ : ∃ ds, d = .list ds := by cases d <;> first | exact ⟨_, rfl⟩ | cases cl
    obtain ⟨p, vs, rfl, hS, hD⟩ : ∃ t vs, v = .ref t ∧ SqL K H t vs ∧ DpAll K H vs ds := by
      cases hk with
      | lst a b => exact ⟨_, _, rfl, a, b⟩
    have hl := dpAll_len hD
    have hds := hz ds rfl
    have eO : rowsB (.list ds) = (decide (0 < ds.length) && (ds.map outsB).all id) := rfl
    refine iteT ⟨_, rfl, p, _, rfl, .inl hS, _, _, rfl, rfl, ?_⟩
    by_cases c : 0 < ds.length
    case neg =>
      rw [eO, decide_eq_false c, Bool.false_and] at q
      refine ⟨_, rfl, iteF' (decide_eq_false (by omega)) ?_⟩
      exact q _ (Same.refl H)
    rw [eO, decide_eq_true c, Bool.true_and] at q
    refine ⟨_, rfl, iteT' (decide_eq_true (by omega)) ?_⟩
    refine ⟨_, rfl, p, rfl, ⟨_, hS⟩, fun D hD' => ?_⟩
    refine list_turns (xs := vs) (fun i H' => Same H H' ∧ H' D = some (.lst (((ds.map outsB).take i).map V.bl))) ⟨same_new hD' _, upd_same⟩ (fun i H' _ h => h.1.seq hS) ?_ ?_
    · rintro i x H' hx ⟨s1, h1⟩
      obtain ⟨di, hdi, hxi⟩ := dpAll_get hD hx
      have hi : i < ds.length := (List.getElem?_eq_some_iff.mp hdi).1
      have hb : (ds.map outsB)[i]? = some (outsB di) := by rw [List.getElem?_map, hdi]; rfl
      refine ⟨rfl, _, rfl, x, di, rfl, dp_mono s1 _ _ hxi, hin ds rfl di (List.mem_of_getElem? hdi), fun H2 s2 => ⟨_, s2 _ _ h1, ?_, same_upd (s1.trans s2) hD', by rw [upd_same, take_bl _ hb]⟩⟩
      rw [List.length_map]
      exact Nat.lt_of_le_of_lt (List.length_take_le _ _) (Nat.lt_of_lt_of_le hi (Nat.le_trans hds (by decide)))
    · rintro H1 ⟨s1, h1⟩
      rw [hl, ← List.length_map (f := outsB), List.take_length] at h1
      exact ⟨D, _, rfl, SqL.of h1, q _ s1⟩
theorem sc_alone : FnScope ["thing", "rows"] ["thing"] (defScope s_is_alone) := ⟨rfl, rfl, rfl, by decide +kernel, rfl, by decide +kernel, by decide +kernel⟩
theorem ok_alone {f g1 : Addr} {fd d1 : FuncData} (F : Fun K "is_alone" "is_alone" s_is_alone f fd) (T : Txt K mg) (W : Def P w K mg base "is_rows" ["thing"] 5 (spRows K) g1 d1) : FnOk P w K mg base CX0 6 f fd ["thing"] (spAlone K) := by
  refine F.ok sc_alone (fun vs H Q E h => ?_) (fun cdv A outer s H vs Q E hr h => ?_)
  · obtain ⟨v, d, rfl, _⟩ := h
    rfl
  obtain ⟨v, d, rfl, hk, hz, hin, q⟩ := h
  have nd := sc_alone.nd
  refine ⟨_, pss_one (ps_ret (pe_and (pe_callB call_isi (by rfl) T.isi boot_isinstance (pa_cons (pv 0) (pa_cons (pe_bltn (v := .ty "list") (by rfl) T.list boot_list rfl) pa_nil)))
    (pe_and (pe_cmpR op_eq (pe_callB call_len_seq (by rfl) T.len PySem.boot_len (pa_cons (pv 0) pa_nil)) pe_int (nomark _))
    (pe_one (pe_callB (cr_all rfl) (by rfl) T.all (by decide +kernel) (pa_cons
      (pe_lc (own := [("rows", 1)]) (g := gName 1) (tt := tYes) (te := tCall (spRows K) [] E0 (tCons (tVar 1) tNil)) rfl nd (pi_list (pv 0)) (blkOk_by (N := ["thing", "rows"]) (sc := defScope s_is_alone) (by decide +kernel)) (fun _ _ _ _ _ => pg_name (i := 1) nd rfl (Or.inl rfl)) (fun _ _ _ _ _ => pts_nil)
        (fun _ _ _ _ _ => (by exact pe_call W.G hr rfl W.m W.k W.b .nil pass0 (pa_cons (pv 1) pa_nil)))) pa_nil)))))), ?_⟩
  refine ⟨_, rfl, v, .ty "list", _, _, isLstD d, rfl, .ty "list", dp_ty hk, kit_lst d, _, rfl, ?_⟩
  cases cl : isLstD d with
  | false =>
    have : aloneB d = false := by cases d <;> first | rfl | cases cl
    rw [this] at q
    exact iteF (q _ (Same.refl H))
  | true =>
    obtain ⟨ds, rfl⟩ : ∃ ds, d = .list ds := by cases d <;> first | exact ⟨_, rfl⟩ | cases cl
    obtain ⟨p, vs, rfl, hS, hD⟩ : ∃ t vs, v = .ref t ∧ SqL K H t vs ∧ DpAll K H vs ds := by
      cases hk with
      | lst a b => exact ⟨_, _, rfl, a, b⟩
    have hl := dpAll_len hD
    have hds := hz ds rfl
    have eO : aloneB (.list ds) = (decide (ds.length = 2) && (ds.map rowsB).all id) := rfl
    refine iteT ⟨_, rfl, p, _, rfl, .inl hS, rfl, _, rfl, ?_⟩
    by_cases c : ds.length = 2
    case neg =>
      rw [eO, decide_eq_false c, Bool.false_and] at q
      refine iteF' (decide_eq_false fun e => by injection e with e; omega) ?_
      exact q _ (Same.refl H)
    rw [eO, decide_eq_true c, Bool.true_and] at q
    refine iteT' (decide_eq_true (by rw [hl, c]; rfl)) ?_
    refine ⟨_, rfl, p, rfl, ⟨_, hS⟩, fun D hD' => ?_⟩
    refine list_turns (xs := vs) (fun i H' => Same H H' ∧ H' D = some (.lst (((ds.map rowsB).take i).map V.bl))) ⟨same_new hD' _, upd_same⟩ (fun i H' _ h => h.1.seq hS) ?_ ?_
    · rintro i x H' hx ⟨s1, h1⟩
      obtain ⟨di, hdi, hxi⟩ := dpAll_get hD hx
      have hi : i < ds.length := (List.getElem?_eq_some_iff.mp hdi).1
      have hb : (ds.map rowsB)[i]? = some (rowsB di) := by rw [List.getElem?_map, hdi]; rfl
      refine ⟨rfl, _, rfl, x, di, rfl, dp_mono s1 _ _ hxi, (hin ds rfl di (List.mem_of_getElem? hdi)).1, (hin ds rfl di (List.mem_of_getElem? hdi)).2, fun H2 s2 => ⟨_, s2 _ _ h1, ?_, same_upd (s1.trans s2) hD', by rw [upd_same, take_bl _ hb]⟩⟩
      rw [List.length_map]
      exact Nat.lt_of_le_of_lt (List.length_take_le _ _) (Nat.lt_of_lt_of_le hi (Nat.le_trans hds (by decide)))
    · rintro H1 ⟨s1, h1⟩
      rw [hl, ← List.length_map (f := rowsB), List.take_length] at h1
      exact ⟨D, _, rfl, SqL.of h1, q _ s1⟩
end
end TA

set_option Elab.async false
set_option maxRecDepth 100000
set_option maxHeartbeats 4000000
namespace TA
open PySem L2 PyProof.Rows
set_option linter.unusedVariables false
def pairB : PyData → Bool
  | .tuple ds => decide (ds.length = 2) && (ds.map outB).all id
  | _ => false
def pairOf : PyData → List Int
  | .tuple ds => intsOf ds
  | _ => []
def risP (ps : List (List Int)) : Bool := ((List.range (ps.length - 1)).map fun i => HT.lexLt (ps.getD i []) (ps.getD (i + 1) [])).all id
def letB : PyData → Bool
  | .list ds => decide (0 < ds.length) && ((ds.map pairB).all id && risP (ds.map pairOf))
  | _ => false
def spPairB (K : PySem.W.Frag) : Sp := fun vs H Q _ => ∃ (v : V) (d : PyData), vs = [v] ∧ Dp K H v d ∧ ∀ H', Same H H' → Q (.bl (pairB d)) H'
/-- pairs of ints stand at these places -/
def PairsAt (K : PySem.W.Frag) (H : Hp) (xs : List V) (ps : List (List Int)) : Prop := xs.length = ps.length ∧ ∀ i : Nat, i < ps.length → ∃ a, xs[i]? = some (.ref a) ∧ SqT K H a ((ps.getD i []).map V.int)
def spRisP (K : PySem.W.Frag) : Sp := fun vs H Q _ => ∃ (p : Addr) (xs : List V) (ps : List (List Int)), vs = [.ref p] ∧ SqL K H p xs ∧ PairsAt K H xs ps ∧ 1 ≤ ps.length ∧ ps.length ≤ 1000 ∧ ∀ H', Same H H' → Q (.bl (risP ps)) H'
def spLetB (K : PySem.W.Frag) : Sp := fun vs H Q _ => ∃ (v : V) (d : PyData), vs = [v] ∧ Dp K H v d ∧ small d ∧ ∀ H', Same H H' → Q (.bl (letB d)) H'
theorem pairs_at {K : PySem.W.Frag} {H : Hp} {ds : List PyData} {vs : List V} (h : DpAll K H vs ds) (a : (ds.map pairB).all id = true) : PairsAt K H vs (ds.map pairOf) := by
  refine ⟨by rw [List.length_map]; exact dpAll_len h, fun i hi => ?_⟩
  rw [List.length_map] at hi
  have hl := dpAll_len h
  obtain ⟨d, hd, hx⟩ := dpAll_get h (List.getElem?_eq_getElem (show i < vs.length by omega))
  have hb : pairB d = true := by
    have := List.all_eq_true.mp a (pairB d) (List.mem_map.mpr ⟨d, List.mem_of_getElem? hd, rfl⟩)
    exact this
  cases d with
  | tuple es =>
    obtain ⟨_, b2⟩ := Bool.and_eq_true_iff.mp (show (decide (es.length = 2) && (es.map outB).all id) = true from hb)
    obtain ⟨t, xs, ex, ht, hes⟩ := dp_tup hx
    refine ⟨t, by rw [List.getElem?_eq_getElem (show i < vs.length by omega), ex], ?_⟩
    have e : (ds.map pairOf).getD i [] = intsOf es := by
      rw [List.getD_eq_getElem?_getD, List.getElem?_map, hd]; rfl
    rw [e, ← outs_ints hes b2]
    exact ht
  | _ => cases hb
section
variable {P : Program} {w : World} {K : PySem.W.Frag} {mg : Str → Option Value} {base : Heap}
theorem sc_outpair : FnScope ["thing", "x"] ["thing"] (defScope s_is_output_pair) := ⟨rfl, rfl, rfl, by decide +kernel, rfl, by decide +kernel, by decide +kernel⟩
theorem ok_outpair {f g1 : Addr} {fd d1 : FuncData} (F : Fun K "is_output_pair" "is_output_pair" s_is_output_pair f fd) (T : Txt K mg) (W : Def P w K mg base "is_output" ["thing"] 3 (spOut K) g1 d1) : FnOk P w K mg base CX0 4 f fd ["thing"] (spPairB K) := by
  refine F.ok sc_outpair (fun vs H Q E h => ?_) (fun cdv A outer s H vs Q E hr h => ?_)
  · obtain ⟨v, d, rfl, _⟩ := h
    rfl
  obtain ⟨v, d, rfl, hk, q⟩ := h
  have nd := sc_outpair.nd
  refine ⟨_, pss_one (ps_ret (pe_and (pe_callB call_isi (by rfl) T.isi boot_isinstance (pa_cons (pv 0) (pa_cons (pe_bltn (v := .ty "tuple") (by rfl) T.tuple boot_tuple rfl) pa_nil)))
    (pe_and (pe_cmpR op_eq (pe_callB call_len_seq (by rfl) T.len PySem.boot_len (pa_cons (pv 0) pa_nil)) pe_int (nomark _))
    (pe_one (pe_callB (cr_all rfl) (by rfl) T.all (by decide +kernel) (pa_cons
      (pe_lc (own := [("x", 1)]) (g := gName 1) (tt := tYes) (te := tCall (spOut K) [] E0 (tCons (tVar 1) tNil)) rfl nd (pi_tup (pv 0)) (blkOk_by (N := ["thing", "x"]) (sc := defScope s_is_output_pair) (by decide +kernel)) (fun _ _ _ _ _ => pg_name (i := 1) nd rfl (Or.inl rfl)) (fun _ _ _ _ _ => pts_nil)
        (fun _ _ _ _ _ => (by exact pe_call W.G hr rfl W.m W.k W.b .nil pass0 (pa_cons (pv 1) pa_nil)))) pa_nil)))))), ?_⟩
  refine ⟨_, rfl, v, .ty "tuple", _, _, isTupD d, rfl, .ty "tuple", dp_ty hk, kit_tup d, _, rfl, ?_⟩
  cases cl : isTupD d with
  | false =>
    have : pairB d = false := by cases d <;> first | rfl | cases cl
    rw [this] at q
    exact iteF (q _ (Same.refl H))
  | true =>
    obtain ⟨ds, rfl⟩ : ∃ ds, d = .tuple ds := by cases d <;> first | exact ⟨_, rfl⟩ | cases cl
    obtain ⟨p, vs, rfl, hS, hD⟩ := dp_tup hk
    have hl := dpAll_len hD
    have eO : pairB (.tuple ds) = (decide (ds.length = 2) && (ds.map outB).all id) := rfl
    refine iteT ⟨_, rfl, p, _, rfl, .inr hS, rfl, _, rfl, ?_⟩
    by_cases c : ds.length = 2
    case neg =>
      rw [eO, decide_eq_false c, Bool.false_and] at q
      refine iteF' (decide_eq_false fun e => by injection e with e; omega) ?_
      exact q _ (Same.refl H)
    rw [eO, decide_eq_true c, Bool.true_and] at q
    refine iteT' (decide_eq_true (by rw [hl, c]; rfl)) ?_
    refine ⟨_, rfl, p, rfl, ⟨_, hS⟩, fun D hD' => ?_⟩
    refine tup_turns (xs := vs) (fun i H' => Same H H' ∧ H' D = some (.lst (((ds.map outB).take i).map V.bl))) ⟨same_new hD' _, upd_same⟩ (fun i H' _ h => seqT_mono h.1 hS) ?_ ?_
    · rintro i x H' hx ⟨s1, h1⟩
      obtain ⟨di, hdi, hxi⟩ := dpAll_get hD hx
      have hi : i < ds.length := (List.getElem?_eq_some_iff.mp hdi).1
      have hb : (ds.map outB)[i]? = some (outB di) := by rw [List.getElem?_map, hdi]; rfl
      refine ⟨rfl, _, rfl, x, di, rfl, dp_mono s1 _ _ hxi, _, h1, ?_, same_upd s1 hD', by rw [upd_same, take_bl _ hb]⟩
      rw [List.length_map]
      exact Nat.lt_of_le_of_lt (List.length_take_le _ _) (Nat.lt_of_lt_of_le hi (by rw [c]; decide))
    · rintro H1 ⟨s1, h1⟩
      rw [hl, ← List.length_map (f := outB), List.take_length] at h1
      exact ⟨D, _, rfl, SqL.of h1, q _ s1⟩
theorem ok_risP {f : Addr} {fd : FuncData} (F : Fun K "is_rising" "is_rising" s_is_rising f fd) (T : Txt K mg) : FnOk P w K mg base CX0 1 f fd ["things"] (spRisP K) := by
  refine F.ok scRis (fun vs H Q E h => ?_) (fun cdv A outer s H vs Q E hr h => ?_)
  · obtain ⟨p, xs, ps, rfl, _⟩ := h
    rfl
  obtain ⟨p, xs, ps, rfl, hS, ⟨hl, hp⟩, n1, n2, q⟩ := h
  have nd := scRis.nd
  refine ⟨_, pss_one (ps_ret (pe_callB (cr_all rfl) (by rfl) T.all (by decide +kernel) (pa_cons
      (pe_lc (own := [("at", 1)]) (g := gName 1) (tt := tYes) (te := tOp (rLtT K) (tOp (rIxL K) (tVar 0) (tVar 1)) (tOp (rIxL K) (tVar 0) (tOp (rI0 fun i j => .int (i + j)) (tVar 1) (tC (.int 1))))) rfl nd
        (pi_range1 (by rfl) T.range (pa_cons (pe_op op_sub (pe_callB call_len_seq (by rfl) T.len PySem.boot_len (pa_cons (pv 0) pa_nil)) pe_int) pa_nil))
        (blkOk_by (N := ["things", "at"]) (sc := defScope s_is_rising) (by decide +kernel)) (fun _ _ _ _ _ => pg_name (i := 1) nd rfl (Or.inl rfl)) (fun _ _ _ _ _ => pts_nil)
        (fun _ _ _ _ _ => (by refine pe_cmpR (op_ltT ?_) ?_ ?_ (nomark _); (have := hr.un; show (A.deeper (envOfC "is_rising" (defScope s_is_rising) s.heap.objs.size f cdv)).units < cLine; omega); (exact pe_ix ix_list (pv 0) (pv 1) (fun _ _ => rfl)); (exact pe_ix ix_list (pv 0) (pe_op op_add (pv 1) pe_int) (fun _ _ => rfl))))) pa_nil))), ?_⟩
  refine ⟨_, rfl, p, _, rfl, .inl hS, _, _, rfl, rfl, ?_⟩
  rw [hl]
  have e1 : ((ps.length : Nat) : Int) - 1 = ((ps.length - 1 : Nat) : Int) := by omega
  refine ⟨((ps.length - 1 : Nat) : Int), congrArg (fun z => [V.int z]) e1, by omega, by omega, fun D hD => ?_⟩
  refine range_turns (n := ps.length - 1) (fun i H' => Same H H' ∧ H' D = some (.lst ((((List.range (ps.length - 1)).map fun i => HT.lexLt (ps.getD i []) (ps.getD (i + 1) [])).take i).map V.bl))) ⟨same_new hD _, upd_same⟩ ?_ ?_
  · rintro i H' hi ⟨s1, h1⟩
    have ei : (0 : Int) + (i : Int) = (i : Int) := by omega
    rw [ei]
    obtain ⟨a0, g0, t0⟩ := hp i (by omega)
    obtain ⟨a1, g1, t1⟩ := hp (i + 1) (by omega)
    have hb : ((List.range (ps.length - 1)).map fun i => HT.lexLt (ps.getD i []) (ps.getD (i + 1) []))[i]? = some (HT.lexLt (ps.getD i []) (ps.getD (i + 1) [])) := by
      rw [List.getElem?_map, List.getElem?_range hi]; rfl
    refine ⟨rfl, _, rfl, _, rfl, p, _, _, _, rfl, rfl, s1.seq hS, atI_nat g0, _, rfl, _, rfl, _, _, rfl, rfl, p, _, _, _, rfl, rfl, s1.seq hS, (by rw [show (i : Int) + 1 = ((i + 1 : Nat) : Int) by omega]; exact atI_nat g1), a0, a1, _, _, rfl, rfl, seqT_mono s1 t0, seqT_mono s1 t1, _, h1, ?_, same_upd s1 hD, by rw [upd_same, take_bl _ hb]⟩
    rw [List.length_map]
    exact Nat.lt_of_le_of_lt (List.length_take_le _ _) (Nat.lt_of_lt_of_le hi (Nat.le_trans (by omega) (show 1000 ≤ sizeLine by decide)))
  · rintro H' ⟨s1, h1⟩
    rw [List.take_of_length_le (by rw [List.length_map, List.length_range]; exact Nat.le_refl _)] at h1
    exact ⟨D, _, rfl, SqL.of h1, q _ s1⟩
end
end TA

set_option Elab.async false
set_option maxRecDepth 100000
set_option maxHeartbeats 4000000
namespace TA
open PySem L2 PyProof.Rows
set_option linter.unusedVariables false
section
variable {P : Program} {w : World} {K : PySem.W.Frag} {mg : Str → Option Value} {base : Heap}
theorem sc_let : FnScope ["thing", "x"] ["thing"] (defScope s_is_let) := ⟨rfl, rfl, rfl, by decide +kernel, rfl, by decide +kernel, by decide +kernel⟩
theorem ok_let {f g1 g2 : Addr} {fd d1 d2 : FuncData} (F : Fun K "is_let" "is_let" s_is_let f fd) (T : Txt K mg) (W : Def P w K mg base "is_output_pair" ["thing"] 4 (spPairB K) g1 d1) (R : Def P w K mg base "is_rising" ["things"] 1 (spRisP K) g2 d2) : FnOk P w K mg base CX0 5 f fd ["thing"] (spLetB K) := by
  refine F.ok sc_let (fun vs H Q E h => ?_) (fun cdv A outer s H vs Q E hr h => ?_)
  · obtain ⟨v, d, rfl, _⟩ := h
    rfl
  obtain ⟨v, d, rfl, hk, hz, q⟩ := h
  have nd := sc_let.nd
  refine ⟨_, pss_one (ps_ret (pe_and (pe_callB call_isi (by rfl) T.isi boot_isinstance (pa_cons (pv 0) (pa_cons (pe_bltn (v := .ty "list") (by rfl) T.list boot_list rfl) pa_nil)))
    (pe_and (pe_cmpR op_gt (pe_callB call_len_seq (by rfl) T.len PySem.boot_len (pa_cons (pv 0) pa_nil)) pe_int (nomark _))
    (pe_and (pe_callB (cr_all rfl) (by rfl) T.all (by decide +kernel) (pa_cons
      (pe_lc (own := [("x", 1)]) (g := gName 1) (tt := tYes) (te := tCall (spPairB K) [] E0 (tCons (tVar 1) tNil)) rfl nd (pi_list (pv 0)) (blkOk_by (N := ["thing", "x"]) (sc := defScope s_is_let) (by decide +kernel)) (fun _ _ _ _ _ => pg_name (i := 1) nd rfl (Or.inl rfl)) (fun _ _ _ _ _ => pts_nil)
        (fun _ _ _ _ _ => (by exact pe_call W.G hr rfl W.m W.k W.b .nil pass0 (pa_cons (pv 1) pa_nil)))) pa_nil))
    (pe_one (pe_call R.G (hr.mono (by decide)) rfl R.m R.k R.b .nil pass0 (pa_cons (pv 0) pa_nil))))))), ?_⟩
  refine ⟨_, rfl, v, .ty "list", _, _, isLstD d, rfl, .ty "list", dp_ty hk, kit_lst d, _, rfl, ?_⟩
  cases cl : isLstD d with
  | false =>
    have : letB d = false := by cases d <;> first | rfl | cases cl
    rw [this] at q
    exact iteF (q _ (Same.refl H))
  | true =>
    obtain ⟨ds, rfl⟩ : ∃ ds, d = .list ds := by cases d <;> first | exact ⟨_, rfl⟩ | cases cl
    obtain ⟨p, vs, rfl, hS, hD⟩ : ∃ t vs, v = .ref t ∧ SqL K H t vs ∧ DpAll K H vs ds := by
      cases hk with
      | lst a b => exact ⟨_, _, rfl, a, b⟩
    have hl := dpAll_len hD
    have hds := hz ds rfl
    have eO : letB (.list ds) = (decide (0 < ds.length) && ((ds.map pairB).all id && risP (ds.map pairOf))) := rfl
    refine iteT ⟨_, rfl, p, _, rfl, .inl hS, _, _, rfl, rfl, ?_⟩
    by_cases c : 0 < ds.length
    case neg =>
      rw [eO, decide_eq_false c, Bool.false_and] at q
      refine ⟨_, rfl, iteF' (decide_eq_false (by omega)) ?_⟩
      exact q _ (Same.refl H)
    rw [eO, decide_eq_true c, Bool.true_and] at q
    refine ⟨_, rfl, iteT' (decide_eq_true (by omega)) ?_⟩
    refine ⟨_, rfl, p, rfl, ⟨_, hS⟩, fun D hD' => ?_⟩
    refine list_turns (xs := vs) (fun i H' => Same H H' ∧ H' D = some (.lst (((ds.map pairB).take i).map V.bl))) ⟨same_new hD' _, upd_same⟩ (fun i H' _ h => h.1.seq hS) ?_ ?_
    · rintro i x H' hx ⟨s1, h1⟩
      obtain ⟨di, hdi, hxi⟩ := dpAll_get hD hx
      have hi : i < ds.length := (List.getElem?_eq_some_iff.mp hdi).1
      have hb : (ds.map pairB)[i]? = some (pairB di) := by rw [List.getElem?_map, hdi]; rfl
      refine ⟨rfl, _, rfl, x, di, rfl, dp_mono s1 _ _ hxi, fun H2 s2 => ⟨_, s2 _ _ h1, ?_, same_upd (s1.trans s2) hD', by rw [upd_same, take_bl _ hb]⟩⟩
      rw [List.length_map]
      exact Nat.lt_of_le_of_lt (List.length_take_le _ _) (Nat.lt_of_lt_of_le hi (Nat.le_trans hds (by decide)))
    · rintro H1 ⟨s1, h1⟩
      rw [hl, ← List.length_map (f := pairB), List.take_length] at h1
      refine ⟨D, _, rfl, SqL.of h1, _, rfl, ?_⟩
      cases ca : (ds.map pairB).all id with
      | false =>
        rw [ca, Bool.false_and] at q
        exact iteF (q _ s1)
      | true =>
        rw [ca, Bool.true_and] at q
        have hp := pairs_at (dpAll_mono s1 _ _ hD) ca
        have li : (ds.map pairOf).length = ds.length := List.length_map _
        exact iteT ⟨_, rfl, p, vs, ds.map pairOf, rfl, s1.seq hS, hp, by omega, by omega, fun H2 s2 => q _ (s1.trans s2)⟩
end
end TA

set_option Elab.async false
set_option maxRecDepth 100000
set_option maxHeartbeats 4000000
namespace TA
open PySem L2 PyProof.Rows
set_option linter.unusedVariables false
/-- a pair of inputs, so many of each hand -/
def inB (n0 n1 : Nat) : PyData → Bool
  | .tuple [x, y] => within x 0 ((n0 : Int) - 1) && within y 0 ((n1 : Int) - 1)
  | _ => false
theorem inB_no {n0 n1 : Nat} {d : PyData} (h : ∀ x y, d ≠ .tuple [x, y]) : inB n0 n1 d = false := by
  match d, h with
  | .tuple [x, y], h => exact absurd rfl (h x y)
  | .tuple [], _ | .tuple [_], _ | .tuple (_ :: _ :: _ :: _), _ | .none, _ | .bool _, _ | .int _, _ | .str _, _ | .list _, _ | .dict _, _ => rfl
theorem tup_cases (d : PyData) : (∃ x y, d = .tuple [x, y]) ∨ (∀ x y, d ≠ .tuple [x, y]) := by
  match d with
  | .tuple [x, y] => exact .inl ⟨x, y, rfl⟩
  | .tuple [] | .tuple [_] | .tuple (_ :: _ :: _ :: _) | .none | .bool _ | .int _ | .str _ | .list _ | .dict _ => exact .inr (fun x y e => by cases e)
theorem dp_pair {K : PySem.W.Frag} {H : Hp} {v : V} {d : PyData} (h : Dp K H v d) : (∃ a x y e f, v = .ref a ∧ d = .tuple [e, f] ∧ SqT K H a [x, y] ∧ Dp K H x e ∧ Dp K H y f) ∨ ((∀ x y, d ≠ .tuple [x, y]) ∧ (isTupD d = false ∨ (isTupD d = true ∧ ∃ a xs, v = .ref a ∧ SqT K H a xs ∧ xs.length ≠ 2))) := by
  rcases tup_cases d with ⟨e, f, rfl⟩ | hn
  · left
    obtain ⟨a, xs, rfl, hs, ha⟩ := dp_tup h
    cases ha with
    | cons h1 h2 =>
      cases h2 with
      | cons h2 h3 =>
        cases h3
        exact ⟨_, _, _, _, _, rfl, rfl, hs, h1, h2⟩
  · right
    refine ⟨hn, ?_⟩
    cases h with
    | @tup a xs ds h1 h2 =>
      refine .inr ⟨rfl, a, xs, rfl, h1, fun e => ?_⟩
      have el := dpAll_len h2
      rw [e] at el
      match ds, el, hn with
      | [x, y], _, hn => exact hn x y rfl
    | _ => exact .inl rfl
/-- the outputs let alone, as two lists of rows -/
structure AloneAt (K : PySem.W.Frag) (H : Hp) (al : Addr) (n0 n1 : Nat) : Prop where
  ex : ∃ (r0 r1 : Addr) (xs0 xs1 : List V), SqL K H al [.ref r0, .ref r1] ∧ SqL K H r0 xs0 ∧ SqL K H r1 xs1 ∧ xs0.length = n0 ∧ xs1.length = n1
theorem AloneAt.mono {K : PySem.W.Frag} {H H' : Hp} {al : Addr} {n0 n1 : Nat} (s : Same H H') (h : AloneAt K H al n0 n1) : AloneAt K H' al n0 n1 := by
  obtain ⟨r0, r1, xs0, xs1, a, b, c, d⟩ := h.ex
  exact ⟨r0, r1, xs0, xs1, s.seq a, s.seq b, s.seq c, d⟩
def spInp (K : PySem.W.Frag) : Sp := fun vs H Q _ => ∃ (v : V) (d : PyData) (al : Addr) (n0 n1 : Nat), vs = [v, .ref al] ∧ Dp K H v d ∧ AloneAt K H al n0 n1 ∧ ∀ H', Same H H' → Q (.bl (inB n0 n1 d)) H'
structure TxtH (K : PySem.W.Frag) (mg : Str → Option Value) : Prop where
  hands : ∃ hA, mg "HANDS" = some (.ref hA) ∧ ∀ H, SqT K H hA [.int 0, .int 1]
section
variable {P : Program} {w : World} {K : PySem.W.Frag} {mg : Str → Option Value} {base : Heap}
abbrev nInp : List Str := ["thing", "alone", "hand"]
theorem sc_inp : FnScope nInp ["thing", "alone"] (defScope s_is_input_pair) := ⟨rfl, rfl, rfl, by decide +kernel, rfl, by decide +kernel, by decide +kernel⟩
theorem ok_inp {f g1 : Addr} {fd d1 : FuncData} (F : Fun K "is_input_pair" "is_input_pair" s_is_input_pair f fd) (T : Txt K mg) (U : TxtH K mg) (W : Def P w K mg base "is_whole_within" ["thing", "least", "most"] 2 (spWithinG K) g1 d1) : FnOk P w K mg base CX0 3 f fd ["thing", "alone"] (spInp K) := by
  refine F.ok sc_inp (fun vs H Q E h => ?_) (fun cdv A outer s H vs Q E hr h => ?_)
  · obtain ⟨v, d, al, n0, n1, rfl, _⟩ := h
    rfl
  obtain ⟨v, d, al, n0, n1, rfl, hk, hA, q⟩ := h
  obtain ⟨hT, mH, hH⟩ := U.hands
  have nd := sc_inp.nd
  refine ⟨_, pss_one (ps_ret (pe_and (pe_callB call_isi (by rfl) T.isi boot_isinstance (pa_cons (pv 0) (pa_cons (pe_bltn (v := .ty "tuple") (by rfl) T.tuple boot_tuple rfl) pa_nil)))
    (pe_and (pe_cmpR op_eq (pe_callB call_len_seq (by rfl) T.len PySem.boot_len (pa_cons (pv 0) pa_nil)) pe_int (nomark _))
    (pe_one (pe_callB (cr_all rfl) (by rfl) T.all (by decide +kernel) (pa_cons
      (pe_lc (own := [("hand", 2)]) (g := gName 2) (tt := tYes) (te := tCall (spWithinG K) [] E0 (tCons (tOp (rIxT K) (tVar 0) (tVar 2)) (tCons (tC (.int 0)) (tCons (tOp (rI0 fun i j => .int (i - j)) (tCB (fun xs H Q => ∃ p ys, xs = [.ref p] ∧ (SqL K H p ys ∨ SqT K H p ys) ∧ Q (.int ys.length) H) (tCons (tOp (rIxL K) (tVar 1) (tVar 2)) tNil)) (tC (.int 1))) tNil)))) rfl nd
        (pi_tup (pe_glob (v := .ref hT) rfl mH rfl)) (blkOk_by (N := nInp) (sc := defScope s_is_input_pair) (by decide +kernel)) (fun _ _ _ _ _ => pg_name (i := 2) nd rfl (Or.inl rfl)) (fun _ _ _ _ _ => pts_nil)
        (fun _ _ _ _ _ => (by refine pe_call W.G hr rfl W.m W.k W.b .nil pass0 (pa_cons ?_ (pa_cons pe_int (pa_cons (pe_op op_sub ?_ pe_int) pa_nil))); (exact pe_ix ix_tup (pv 0) (pv 2) (fun _ _ => rfl)); (refine pe_callB call_len_seq (by rfl) T.len PySem.boot_len (pa_cons ?_ pa_nil); (exact pe_ix ix_list (pv 1) (pv 2) (fun _ _ => rfl)))))) pa_nil)))))), ?_⟩
  rcases dp_pair hk with ⟨a, x, y, e, g, rfl, rfl, ha, hx, hy⟩ | ⟨hn, c2 | ⟨c2, a, xs, rfl, ha, hl⟩⟩
  case inr.inl =>
    rw [inB_no hn] at q
    exact ⟨_, rfl, v, V.ty "tuple", _, _, false, rfl, .ty "tuple", dp_ty hk, (by rw [kit_tup, c2]), _, rfl, iteF (q _ (Same.refl H))⟩
  case inr.inr =>
    rw [inB_no hn] at q
    refine ⟨_, rfl, V.ref a, V.ty "tuple", _, _, true, rfl, .ty "tuple", dp_ty hk, (by rw [kit_tup, c2]), _, rfl, iteT ?_⟩
    refine ⟨_, rfl, a, _, rfl, .inr ha, rfl, _, rfl, iteF' (decide_eq_false fun e => hl (by injection e with e; omega)) ?_⟩
    exact q _ (Same.refl H)
  refine ⟨_, rfl, V.ref a, V.ty "tuple", _, _, true, rfl, .ty "tuple", dp_ty hk, kit_tup _, _, rfl, iteT ?_⟩
  refine ⟨_, rfl, a, _, rfl, .inr ha, rfl, _, rfl, iteT ?_⟩
  obtain ⟨r0, r1, xs0, xs1, k1, k2, k3, rfl, rfl⟩ := hA.ex
  refine ⟨hT, rfl, ⟨_, hH H⟩, fun D hD => ?_⟩
  refine tup_turns (xs := [V.int 0, V.int 1]) (fun i H' => Same H H' ∧ H' D = some (.lst (([within e 0 ((xs0.length : Int) - 1), within g 0 ((xs1.length : Int) - 1)].take i).map V.bl))) ⟨same_new hD _, upd_same⟩ (fun i H' _ _ => hH H') ?_ ?_
  · rintro i z H' hz ⟨s1, h1⟩
    rcases i with _ | _ | i
    · obtain rfl : z = .int 0 := by simpa using hz.symm
      exact ⟨rfl, _, rfl, _, rfl, a, _, _, _, rfl, rfl, seqT_mono s1 ha, (by rfl), _, rfl, _, rfl, al, _, _, _, rfl, rfl, s1.seq k1, (by rfl), r0, _, rfl, .inl (s1.seq k2), _, _, rfl, rfl, x, e, 0, _, rfl, dp_mono s1 _ _ hx, _, h1, (by show 0 < sizeLine; decide), same_upd s1 hD, by rw [upd_same]; rfl⟩
    · obtain rfl : z = .int 1 := by simpa using hz.symm
      exact ⟨rfl, _, rfl, _, rfl, a, _, _, _, rfl, rfl, seqT_mono s1 ha, (by rfl), _, rfl, _, rfl, al, _, _, _, rfl, rfl, s1.seq k1, (by rfl), r1, _, rfl, .inl (s1.seq k3), _, _, rfl, rfl, y, g, 0, _, rfl, dp_mono s1 _ _ hy, _, h1, (by show 1 < sizeLine; decide), same_upd s1 hD, by rw [upd_same]; rfl⟩
    · simp at hz
  · rintro H' ⟨s1, h1⟩
    refine ⟨D, _, rfl, SqL.of h1, ?_⟩
    have z := q _ s1
    have e2 : inB xs0.length xs1.length (.tuple [e, g]) = (within e 0 ((xs0.length : Int) - 1) && within g 0 ((xs1.length : Int) - 1)) := rfl
    rw [e2] at z
    show Q (.bl (_ && (_ && true))) H'
    rw [Bool.and_true]
    exact z
end
end TA

set_option Elab.async false
set_option maxRecDepth 100000
set_option maxHeartbeats 4000000
namespace TA
open PySem L2 PyProof.Rows
set_option linter.unusedVariables false
/-! a task's things in the heap -/
inductive A2 {α β : Type} (R : α → β → Prop) : List α → List β → Prop
  | nil : A2 R [] []
  | cons {x y xs ys} : R x y → A2 R xs ys → A2 R (x :: xs) (y :: ys)
theorem A2.len {α β : Type} {R : α → β → Prop} : ∀ {xs : List α} {ys : List β}, A2 R xs ys → xs.length = ys.length
  | _, _, .nil => rfl
  | _, _, .cons _ b => congrArg (· + 1) b.len
theorem A2.imp {α β : Type} {R S : α → β → Prop} (f : ∀ x y, R x y → S x y) : ∀ {xs : List α} {ys : List β}, A2 R xs ys → A2 S xs ys
  | _, _, .nil => .nil
  | _, _, .cons a b => .cons (f _ _ a) (b.imp f)
theorem A2.get {α β : Type} {R : α → β → Prop} : ∀ {xs : List α} {ys : List β} {i : Nat} {x : α}, A2 R xs ys → xs[i]? = some x → ∃ y, ys[i]? = some y ∧ R x y
  | _, _, i, _, .nil, e => by simp at e
  | _, _, 0, _, .cons a _, e => ⟨_, rfl, by simp at e; rw [← e]; exact a⟩
  | _, _, i + 1, x, .cons _ b, e => by
    obtain ⟨y, h1, h2⟩ := A2.get (i := i) (x := x) b (by simpa using e)
    exact ⟨y, by simpa using h1, h2⟩
theorem A2.at {α β : Type} {R : α → β → Prop} {xs : List α} {ys : List β} {i : Nat} {y : β} (h : A2 R xs ys) (e : ys[i]? = some y) : ∃ x, xs[i]? = some x ∧ R x y := by
  have hi : i < xs.length := by rw [h.len]; exact (List.getElem?_eq_some_iff.mp e).1
  obtain ⟨y', h1, h2⟩ := h.get (List.getElem?_eq_getElem hi)
  rw [e] at h1
  cases h1
  exact ⟨_, List.getElem?_eq_getElem hi, h2⟩
theorem A2.snoc {α β : Type} {R : α → β → Prop} : ∀ {xs : List α} {ys : List β} {x : α} {y : β}, A2 R xs ys → R x y → A2 R (xs ++ [x]) (ys ++ [y])
  | _, _, _, _, .nil, h => .cons h .nil
  | _, _, _, _, .cons a b, h => .cons a (b.snoc h)
theorem A2.mem {α β : Type} {R : α → β → Prop} {xs : List α} {ys : List β} {x : α} (h : A2 R xs ys) (m : x ∈ xs) : ∃ y, y ∈ ys ∧ R x y := by
  obtain ⟨i, e⟩ := List.getElem?_of_mem m
  obtain ⟨y, e2, r⟩ := h.get e
  exact ⟨y, List.mem_of_getElem? e2, r⟩
theorem A2.ofMap {α β γ : Type} {R : α → β → Prop} (f : γ → α) (g : γ → β) : ∀ (zs : List γ), (∀ z ∈ zs, R (f z) (g z)) → A2 R (zs.map f) (zs.map g)
  | [], _ => .nil
  | z :: zs, h => .cons (h z List.mem_cons_self) (A2.ofMap f g zs fun x m => h x (List.mem_cons_of_mem _ m))
/-- a pair of ints, a list of ints, rows of these, what is let alone, pairs let -/
def TpAt (H : Hp) (v : V) (p : Int × Int) : Prop := ∃ t, v = .ref t ∧ H t = some (.tup [.int p.1, .int p.2])
def RowAt (H : Hp) (v : V) (row : List Int) : Prop := ∃ t, v = .ref t ∧ H t = some (.lst (row.map .int))
def RowsAt (H : Hp) (v : V) (rows : List (List Int)) : Prop := ∃ t xs, v = .ref t ∧ H t = some (.lst xs) ∧ A2 (RowAt H) xs rows
def AlAt (H : Hp) (v : V) (al : Nat → List (List Int)) : Prop := ∃ t x0 x1, v = .ref t ∧ H t = some (.lst [x0, x1]) ∧ RowsAt H x0 (al 0) ∧ RowsAt H x1 (al 1)
def LetAt (H : Hp) (v : V) (l : List (Int × Int)) : Prop := ∃ t xs, v = .ref t ∧ H t = some (.lst xs) ∧ A2 (TpAt H) xs l
/-- pairs of inputs -/
abbrev IP := Nat × Nat
def kI (p : IP) : List Key := [.inl (p.1 : Int), .inl (p.2 : Int)]
def iI (p : IP) : Int × Int := ((p.1 : Int), (p.2 : Int))
abbrev BD := List (IP × List (Int × Int))
def EnAt (H : Hp) (e : List Key × V) (b : IP × List (Int × Int)) : Prop := e.1 = kI b.1 ∧ LetAt H e.2 b.2
def BoAt (H : Hp) (d : Addr) (bo : BD) : Prop := ∃ kvs, H d = some (.dT kvs) ∧ A2 (EnAt H) kvs bo
/-- what is no dict stands as it stood -/
def flatO (o : HO) : Prop := (∃ xs, o = .lst xs) ∨ (∃ xs, o = .tup xs)
def Kp (H H' : Hp) : Prop := ∀ b o, flatO o → H b = some o → H' b = some o
theorem Kp.lst {H H' : Hp} (s : Kp H H') {b xs} (e : H b = some (.lst xs)) : H' b = some (.lst xs) := s _ _ (.inl ⟨_, rfl⟩) e
theorem Kp.tup {H H' : Hp} (s : Kp H H') {b xs} (e : H b = some (.tup xs)) : H' b = some (.tup xs) := s _ _ (.inr ⟨_, rfl⟩) e
theorem Kp.refl (H : Hp) : Kp H H := fun _ _ _ e => e
theorem Kp.trans {H H1 H2 : Hp} (s : Kp H H1) (t : Kp H1 H2) : Kp H H2 := fun b o f e => t b o f (s b o f e)
theorem Kp.same {H H' : Hp} (s : Same H H') : Kp H H' := fun b o _ e => s b o e
theorem Kp.put {H : Hp} {d : Addr} {u : HO} {o : HO} (e : H d = some u) (n : ¬ flatO u) : Kp H (upd H d o) := fun b x f h => by
  by_cases c : b = d
  · subst c
    rw [e] at h
    cases h
    exact absurd f n
  · rw [upd_ne c]; exact h
theorem nf_dT {k : List (List Key × V)} : ¬ flatO (.dT k) := by rintro (⟨_, h⟩ | ⟨_, h⟩) <;> cases h
theorem nf_frz {o u} : ¬ flatO (.frz o u) := by rintro (⟨_, h⟩ | ⟨_, h⟩) <;> cases h
theorem TpAt.mono {H H' : Hp} (s : Kp H H') {v : V} {p : Int × Int} (h : TpAt H v p) : TpAt H' v p := by
  obtain ⟨t, e, h⟩ := h
  exact ⟨t, e, s.tup h⟩
theorem RowAt.mono {H H' : Hp} (s : Kp H H') {v : V} {p} (h : RowAt H v p) : RowAt H' v p := by
  obtain ⟨t, e, h⟩ := h
  exact ⟨t, e, s.lst h⟩
theorem RowsAt.mono {H H' : Hp} (s : Kp H H') {v : V} {p} (h : RowsAt H v p) : RowsAt H' v p := by
  obtain ⟨t, xs, e, h, a⟩ := h
  exact ⟨t, xs, e, s.lst h, a.imp fun _ _ r => r.mono s⟩
theorem AlAt.mono {H H' : Hp} (s : Kp H H') {v : V} {p} (h : AlAt H v p) : AlAt H' v p := by
  obtain ⟨t, x0, x1, e, h, a, b⟩ := h
  exact ⟨t, x0, x1, e, s.lst h, a.mono s, b.mono s⟩
theorem LetAt.mono {H H' : Hp} (s : Kp H H') {v : V} {p} (h : LetAt H v p) : LetAt H' v p := by
  obtain ⟨t, xs, e, h, a⟩ := h
  exact ⟨t, xs, e, s.lst h, a.imp fun _ _ r => r.mono s⟩
theorem EnAt.mono {H H' : Hp} (s : Kp H H') {v} {p} (h : EnAt H v p) : EnAt H' v p := ⟨h.1, h.2.mono s⟩
theorem BoAt.mono {H H' : Hp} (s : Same H H') {v} {p} (h : BoAt H v p) : BoAt H' v p := by
  obtain ⟨kvs, h, a⟩ := h
  exact ⟨kvs, s _ _ h, a.imp fun _ _ r => r.mono (.same s)⟩
def But (a : Addr) (H H' : Hp) : Prop := ∀ b o, b ≠ a → H b = some o → H' b = some o
theorem But.trans {a : Addr} {H H1 H2 : Hp} (h : But a H H1) (g : But a H1 H2) : But a H H2 := fun b o e q => g b o e (h b o e q)
theorem But.same {a : Addr} {H H' : Hp} (s : Same H H') : But a H H' := fun b o _ q => s b o q
theorem But.at {a : Addr} {H : Hp} {o : HO} : But a H (upd H a o) := fun b u nb e => by rw [upd_ne nb]; exact e
theorem But.kp {d : Addr} {H H' : Hp} {u : HO} (e : H d = some u) (n : ¬ flatO u) (s : But d H H') : Kp H H' := fun b x f h => s b x (fun c => by subst c; rw [e] at h; cases h; exact n f) h
/-- a dict that was locked and is unlocked again -/
theorem But.unlock {d : Addr} {H H' : Hp} {u : HO} (e : H d = some u) (s : But d H H') : Same H (upd H' d u) := fun b x h => by
  by_cases c : b = d
  · subst c
    rw [e] at h
    cases h
    exact upd_same
  · rw [upd_ne c]; exact s b x c h
theorem But.new {d p : Addr} {H0 H : Hp} {o : HO} (s : But d H0 H) (f : H0 p = none) : But d H0 (upd H p o) := fun b u nb e => by
  rw [upd_ne (ne_of_none e f)]
  exact s b u nb e
/-! the same as data -/
def pairD (p : Int × Int) : PyData := .tuple [.int p.1, .int p.2]
def rowD (row : List Int) : PyData := .list (row.map .int)
def rowsD (rows : List (List Int)) : PyData := .list (rows.map rowD)
def alD (al : Nat → List (List Int)) : PyData := .list [rowsD (al 0), rowsD (al 1)]
def letD (l : List (Int × Int)) : PyData := .list (l.map pairD)
theorem dp_ints {K : PySem.W.Frag} {H : Hp} : ∀ (row : List Int), DpAll K H (row.map V.int) (row.map PyData.int)
  | [] => .nil
  | i :: r => .cons (.int i) (dp_ints r)
theorem A2.dp {K : PySem.W.Frag} {H : Hp} {α : Type} {R : V → α → Prop} (f : α → PyData) (g : ∀ x y, R x y → Dp K H x (f y)) : ∀ {xs : List V} {ys : List α}, A2 R xs ys → DpAll K H xs (ys.map f)
  | _, _, .nil => .nil
  | _, _, .cons a b => .cons (g _ _ a) (b.dp f g)
theorem TpAt.dp {K : PySem.W.Frag} {H : Hp} {v : V} {p} (h : TpAt H v p) : Dp K H v (pairD p) := by
  obtain ⟨t, rfl, h⟩ := h
  exact .tup (SqT.of h) (.cons (.int _) (.cons (.int _) .nil))
theorem RowAt.dp {K : PySem.W.Frag} {H : Hp} {v : V} {p} (h : RowAt H v p) : Dp K H v (rowD p) := by
  obtain ⟨t, rfl, h⟩ := h
  exact .lst (SqL.of h) (dp_ints p)
theorem RowsAt.dp {K : PySem.W.Frag} {H : Hp} {v : V} {p} (h : RowsAt H v p) : Dp K H v (rowsD p) := by
  obtain ⟨t, xs, rfl, h, a⟩ := h
  exact .lst (SqL.of h) (a.dp rowD fun _ _ r => r.dp)
theorem AlAt.dp {K : PySem.W.Frag} {H : Hp} {v : V} {p} (h : AlAt H v p) : Dp K H v (alD p) := by
  obtain ⟨t, x0, x1, rfl, h, a, b⟩ := h
  exact .lst (SqL.of h) (.cons a.dp (.cons b.dp .nil))
theorem LetAt.dp {K : PySem.W.Frag} {H : Hp} {v : V} {p} (h : LetAt H v p) : Dp K H v (letD p) := by
  obtain ⟨t, xs, rfl, h, a⟩ := h
  exact .lst (SqL.of h) (a.dp pairD fun _ _ r => r.dp)
/-! what is drawn -/
def ltP (p q : Int × Int) : Prop := p.1 < q.1 ∨ (p.1 = q.1 ∧ p.2 < q.2)
def ltN (p q : IP) : Prop := p.1 < q.1 ∨ (p.1 = q.1 ∧ p.2 < q.2)
def okOut (x : Int) : Prop := 0 ≤ x ∧ x ≤ 63
def okRow (row : List Int) : Prop := 1 ≤ row.length ∧ row.length ≤ 60 ∧ row.Pairwise (· < ·) ∧ ∀ x ∈ row, okOut x
def okLet (l : List (Int × Int)) : Prop := 1 ≤ l.length ∧ l.length ≤ 60 ∧ l.Pairwise ltP ∧ ∀ p ∈ l, okOut p.1 ∧ okOut p.2
structure TD where
  al : Nat → List (List Int)
  bo : BD
structure WF (T : TD) : Prop where
  n0 : ∀ h, h < 2 → 1 ≤ (T.al h).length ∧ (T.al h).length ≤ 20
  row : ∀ h, h < 2 → ∀ r ∈ T.al h, okRow r
  srt : (T.bo.map (·.1)).Pairwise (· ≠ ·)
  rng : ∀ e ∈ T.bo, e.1.1 < (T.al 0).length ∧ e.1.2 < (T.al 1).length
  lets : ∀ e ∈ T.bo, okLet e.2
  com0 : ∀ a, a < (T.al 0).length → ∃ e ∈ T.bo, e.1.1 = a
  com1 : ∀ a, a < (T.al 1).length → ∃ e ∈ T.bo, e.1.2 = a
  many : T.bo.length ≤ 60
/-! the checks say yes to what is drawn -/
theorem risI_yes {ns : List Int} (h : ns.Pairwise (· < ·)) : risI ns = true := by
  unfold risI
  rw [List.all_eq_true]
  intro b hb
  obtain ⟨i, hi, rfl⟩ := List.mem_map.mp hb
  have hi := List.mem_range.mp hi
  have h1 : i < ns.length := by omega
  have h2 : i + 1 < ns.length := by omega
  show decide _ = true
  rw [decide_eq_true_eq, List.getD_eq_getElem?_getD, List.getD_eq_getElem?_getD, List.getElem?_eq_getElem h1, List.getElem?_eq_getElem h2]
  exact List.pairwise_iff_getElem.mp h i (i + 1) h1 h2 (by omega)
theorem out_yes {x : Int} (h : okOut x) : outB (.int x) = true := by
  unfold outB within
  exact decide_eq_true h
theorem intsOf_ints : ∀ row : List Int, intsOf (row.map PyData.int) = row
  | [] => rfl
  | x :: r => by
    have := intsOf_ints r
    unfold intsOf at this ⊢
    rw [List.map_cons, List.map_cons, this]
theorem outs_yes {row : List Int} (h : okRow row) : outsB (rowD row) = true := by
  show (decide (0 < (row.map PyData.int).length) && (((row.map PyData.int).map outB).all id && risI (intsOf (row.map PyData.int)))) = true
  rw [intsOf_ints, risI_yes h.2.2.1, List.length_map, decide_eq_true (show 0 < row.length by have := h.1; omega), Bool.and_true, Bool.true_and, List.all_eq_true]
  intro b hb
  obtain ⟨d, hd, rfl⟩ := List.mem_map.mp hb
  obtain ⟨x, hx, rfl⟩ := List.mem_map.mp hd
  exact out_yes (h.2.2.2 x hx)
theorem rows_yes {rows : List (List Int)} (h0 : 1 ≤ rows.length) (h : ∀ r ∈ rows, okRow r) : rowsB (rowsD rows) = true := by
  show (decide (0 < (rows.map rowD).length) && ((rows.map rowD).map outsB).all id) = true
  rw [List.length_map, decide_eq_true (show 0 < rows.length by omega), Bool.true_and, List.all_eq_true]
  intro b hb
  obtain ⟨d, hd, rfl⟩ := List.mem_map.mp hb
  obtain ⟨x, hx, rfl⟩ := List.mem_map.mp hd
  exact outs_yes (h x hx)
theorem alone_yes {T : TD} (W : WF T) : aloneB (alD T.al) = true := by
  show (decide (2 = 2) && [rowsB (rowsD (T.al 0)), rowsB (rowsD (T.al 1))].all id) = true
  rw [rows_yes (W.n0 0 (by decide)).1 (W.row 0 (by decide)), rows_yes (W.n0 1 (by decide)).1 (W.row 1 (by decide))]
  rfl
theorem lex_yes {p q : Int × Int} (h : ltP p q) : HT.lexLt [p.1, p.2] [q.1, q.2] = true := by
  rcases h with h | ⟨h1, h2⟩
  · have : ¬ p.1 = q.1 := by omega
    simp [HT.lexLt, h, this]
  · have : ¬ p.2 = q.2 := by omega
    simp [HT.lexLt, h1, h2, this]
theorem risP_yes {l : List (Int × Int)} (h : l.Pairwise ltP) : risP ((l.map pairD).map pairOf) = true := by
  unfold risP
  rw [List.all_eq_true]
  intro b hb
  obtain ⟨i, hi, rfl⟩ := List.mem_map.mp hb
  have hi := List.mem_range.mp hi
  rw [List.length_map, List.length_map] at hi
  have h1 : i < l.length := by omega
  have h2 : i + 1 < l.length := by omega
  have e : ∀ j (hj : j < l.length), ((l.map pairD).map pairOf).getD j [] = [l[j].1, l[j].2] := fun j hj => by
    rw [List.getD_eq_getElem?_getD, List.getElem?_map, List.getElem?_map, List.getElem?_eq_getElem hj]
    rfl
  show HT.lexLt _ _ = true
  rw [e i h1, e (i + 1) h2]
  exact lex_yes (List.pairwise_iff_getElem.mp h i (i + 1) h1 h2 (by omega))
theorem pair_yes {p : Int × Int} (h : okOut p.1 ∧ okOut p.2) : pairB (pairD p) = true := by
  show (decide (2 = 2) && [outB (.int p.1), outB (.int p.2)].all id) = true
  rw [out_yes h.1, out_yes h.2]
  rfl
theorem let_yes {l : List (Int × Int)} (h : okLet l) : letB (letD l) = true := by
  show (decide (0 < (l.map pairD).length) && (((l.map pairD).map pairB).all id && risP ((l.map pairD).map pairOf))) = true
  rw [risP_yes h.2.2.1, List.length_map, decide_eq_true (show 0 < l.length by have := h.1; omega), Bool.and_true, Bool.true_and, List.all_eq_true]
  intro b hb
  obtain ⟨d, hd, rfl⟩ := List.mem_map.mp hb
  obtain ⟨x, hx, rfl⟩ := List.mem_map.mp hd
  exact pair_yes (h.2.2.2 x hx)
theorem in_yes {n0 n1 : Nat} {p : IP} (h : p.1 < n0 ∧ p.2 < n1) : inB n0 n1 (pairD (iI p)) = true := by
  show (decide ((0 : Int) ≤ (p.1 : Int) ∧ (p.1 : Int) ≤ (n0 : Int) - 1) && decide ((0 : Int) ≤ (p.2 : Int) ∧ (p.2 : Int) ≤ (n1 : Int) - 1)) = true
  rw [decide_eq_true (show (0 : Int) ≤ (p.1 : Int) ∧ (p.1 : Int) ≤ (n0 : Int) - 1 by omega), decide_eq_true (show (0 : Int) ≤ (p.2 : Int) ∧ (p.2 : Int) ≤ (n1 : Int) - 1 by omega)]
  rfl
theorem small_row {row : List Int} (h : okRow row) : small (rowD row) := fun ds e => by
  cases e
  rw [List.length_map]
  have := h.2.1
  omega
end TA

set_option Elab.async false
set_option maxRecDepth 100000
set_option maxHeartbeats 4000000
namespace TA
open PySem L2 PyProof.Rows
set_option linter.unusedVariables false
structure Txt2 (K : PySem.W.Frag) (mg : Str → Option Value) : Prop where
  sorted : mg "sorted" = none
  set : mg "set" = none
  max : mg "max" = none
  zip : mg "zip" = none
  dict : mg "dict" = none
theorem hu65_of {A : Around} {k : Nat} (hr : Room k A) : A.units + 65 < cLine := by have := hr.un; omega
theorem keyT_turns {d : Addr} {o : Obj} {kvs : List (List Key × V)} {H0 : Hp} {Qd : Hp → Prop} {B : (Hp → Prop) → V → Hp → Prop} (Pv : Nat → Hp → Prop) (start : Pv 0 H0) (still : ∀ i H, Pv i H → H d = some (.frz o (.dT kvs)))
    (turn : ∀ i k v q H, kvs[i]? = some (k, v) → H q = some (.tup (k.map kV)) → Pv i H → B (Pv (i + 1)) (.ref q) H) (last : ∀ H, Pv kvs.length H → Qd H) :
    ∃ W : Nat → Nat → Hp → Prop, (∃ m, W 0 m H0) ∧ ∀ i m H, W i m H →
      ((Itkt d o kvs).stop i H ∧ Qd H) ∨ ((Itkt d o kvs).go i H ∧ ∃ Nx : Hp → Prop, (∀ H', Nx H' → ∃ m', m' < m ∧ W (i + 1) m' H') ∧ ∀ x H', (Itkt d o kvs).yld i H x H' → B Nx x H') :=
  turns kvs.length Pv start (fun H w => ⟨⟨still _ H w, Nat.le_refl _⟩, last H w⟩) fun i H hi w => ⟨⟨still i H w, hi⟩, fun x H' ⟨e, k, v, q, e1, e2, e3⟩ => by rw [e, e2]; exact turn i k v q H e1 e3 w⟩
theorem itemT_turns {d : Addr} {o : Obj} {kvs : List (List Key × V)} {H0 : Hp} {Qd : Hp → Prop} {B : (Hp → Prop) → V → Hp → Prop} (Pv : Nat → Hp → Prop) (start : Pv 0 H0) (still : ∀ i H, Pv i H → H d = some (.frz o (.dT kvs)))
    (turn : ∀ i k v q T H, kvs[i]? = some (k, v) → H q = some (.tup (k.map kV)) → H T = none → Pv i H → B (Pv (i + 1)) (.ref T) (upd H T (.tup [.ref q, v]))) (last : ∀ H, Pv kvs.length H → Qd H) :
    ∃ W : Nat → Nat → Hp → Prop, (∃ m, W 0 m H0) ∧ ∀ i m H, W i m H →
      ((Itit d o kvs).stop i H ∧ Qd H) ∨ ((Itit d o kvs).go i H ∧ ∃ Nx : Hp → Prop, (∀ H', Nx H' → ∃ m', m' < m ∧ W (i + 1) m' H') ∧ ∀ x H', (Itit d o kvs).yld i H x H' → B Nx x H') :=
  turns kvs.length Pv start (fun H w => ⟨⟨still _ H w, Nat.le_refl _⟩, last H w⟩) fun i H hi w => ⟨⟨still i H w, hi⟩, fun x H' ⟨T, q, k, v, e1, e2, e3, e4, e5⟩ => by rw [e3, e5]; exact turn i k v q T H e1 e2 e4 w⟩
/-! what comes, each once -/
def sel (h : Nat) (p : IP) : Nat := if h = 0 then p.1 else p.2
def distStep (acc : List Int) (x : Int) : List Int := if x ∈ acc then acc else acc ++ [x]
def dist (l : List Int) : List Int := l.foldl distStep []
theorem dist_snoc (l : List Int) (x : Int) : dist (l ++ [x]) = distStep (dist l) x := by
  unfold dist
  rw [List.foldl_append]
  rfl
theorem dist_mem_aux (x : Int) : ∀ (l acc : List Int), x ∈ l.foldl distStep acc ↔ x ∈ acc ∨ x ∈ l
  | [], acc => by simp
  | y :: l, acc => by
    rw [List.foldl_cons, dist_mem_aux x l]
    unfold distStep
    split
    · rename_i h
      constructor
      · rintro (a | a)
        · exact .inl a
        · exact .inr (List.mem_cons_of_mem _ a)
      · rintro (a | a)
        · exact .inl a
        · rcases List.mem_cons.mp a with rfl | a
          · exact .inl h
          · exact .inr a
    · rw [List.mem_append, List.mem_singleton, List.mem_cons]
      constructor
      · rintro ((a | a) | a)
        · exact .inl a
        · exact .inr (.inl a)
        · exact .inr (.inr a)
      · rintro (a | a | a)
        · exact .inl (.inl a)
        · exact .inl (.inr a)
        · exact .inr a
theorem dist_mem {l : List Int} {x : Int} : x ∈ dist l ↔ x ∈ l := by
  unfold dist
  rw [dist_mem_aux]
  simp
theorem dist_nd_aux : ∀ (l acc : List Int), acc.Nodup → (l.foldl distStep acc).Nodup
  | [], _, h => h
  | y :: l, acc, h => by
    rw [List.foldl_cons]
    refine dist_nd_aux l _ ?_
    unfold distStep
    split
    · exact h
    · rename_i c
      exact List.nodup_append.mpr ⟨h, by simp, fun a ha b hb e => by rw [List.mem_singleton] at hb; subst hb; subst e; exact c ha⟩
theorem dist_nd (l : List Int) : (dist l).Nodup := dist_nd_aux l [] List.nodup_nil
theorem nodup_sub : ∀ {xs ys : List Int}, xs.Nodup → (∀ x ∈ xs, x ∈ ys) → xs.length ≤ ys.length
  | [], _, _, _ => Nat.zero_le _
  | x :: xs, ys, h, s => by
    have hx := s x List.mem_cons_self
    obtain ⟨h1, h2⟩ := List.nodup_cons.mp h
    have r := nodup_sub (xs := xs) (ys := ys.erase x) h2 fun y hy => by
      have ne : y ≠ x := fun e => h1 (e ▸ hy)
      exact (List.mem_erase_of_ne ne).mpr (s y (List.mem_cons_of_mem _ hy))
    rw [List.length_erase_of_mem hx] at r
    have : 0 < ys.length := List.length_pos_of_mem hx
    rw [List.length_cons]
    omega
/-- all below n come, nothing else does -/
theorem dist_all {l : List Int} {n : Nat} (h1 : ∀ x ∈ l, ∃ a : Nat, a < n ∧ x = (a : Int)) (h2 : ∀ a : Nat, a < n → (a : Int) ∈ l) : (dist l).length = n := by
  have e : ((List.range n).map fun (a : Nat) => (a : Int)).length = n := by rw [List.length_map, List.length_range]
  have nd : ((List.range n).map fun (a : Nat) => (a : Int)).Nodup := List.Pairwise.map _ (fun a b (h : a ≠ b) => by show (a : Int) ≠ (b : Int); omega) List.nodup_range
  refine Nat.le_antisymm ?_ ?_
  · rw [← e]
    refine nodup_sub (dist_nd l) fun x hx => ?_
    obtain ⟨a, ha, rfl⟩ := h1 x (dist_mem.mp hx)
    exact List.mem_map.mpr ⟨a, List.mem_range.mpr ha, rfl⟩
  · have r := nodup_sub (xs := (List.range n).map fun (a : Nat) => (a : Int)) (ys := dist l) nd fun x hx => by
      obtain ⟨a, ha, rfl⟩ := List.mem_map.mp hx
      exact dist_mem.mpr (h2 a (List.mem_range.mp ha))
    rw [e] at r
    exact r
theorem dist_len_le (l : List Int) : (dist l).length ≤ l.length := nodup_sub (dist_nd l) fun x hx => dist_mem.mp hx
/-- row h of what is let alone -/
theorem AlAt.row {H : Hp} {v : V} {al : Nat → List (List Int)} (h : AlAt H v al) : ∃ t x0 x1, v = .ref t ∧ H t = some (.lst [x0, x1]) ∧ ∀ k, k < 2 → ∃ x, ([x0, x1] : List V)[k]? = some x ∧ RowsAt H x (al k) := by
  obtain ⟨t, x0, x1, e, h, a, b⟩ := h
  refine ⟨t, x0, x1, e, h, fun k hk => ?_⟩
  obtain rfl | rfl : k = 0 ∨ k = 1 := by omega
  · exact ⟨x0, rfl, a⟩
  · exact ⟨x1, rfl, b⟩
theorem kI_at {p : IP} {h : Nat} (hh : h < 2) : ((kI p).map kV)[h]? = some (.int (sel h p : Int)) := by
  obtain rfl | rfl : h = 0 ∨ h = 1 := by omega
  · rfl
  · rfl
theorem dec_nat {a b : Nat} : decide (V.int (a : Int) = V.int (b : Int)) = decide (a = b) := by
  by_cases c : a = b
  · rw [decide_eq_true c, c]; exact decide_eq_true rfl
  · rw [decide_eq_false c]; exact decide_eq_false fun e => by injection e with e; omega
def spEach (K : PySem.W.Frag) : Sp := fun vs H Q _ => ∃ (d : Addr) (v : V) (h : Nat) (kvs : List (List Key × V)) (ips : List IP) (al : Nat → List (List Int)), vs = [.ref d, v, .int (h : Int)] ∧ h < 2 ∧ H d = some (.dT kvs) ∧ kvs.map (·.1) = ips.map kI ∧ AlAt H v al ∧ ips.length ≤ 60 ∧
  ∀ H', Same H H' → Q (.bl (decide ((dist (ips.map fun p => ((sel h p : Nat) : Int))).length = (al h).length))) H'
section
variable {P : Program} {w : World} {K : PySem.W.Frag} {mg : Str → Option Value} {base : Heap}
abbrev nEach : List Str := ["both", "alone", "hand", "pair"]
theorem sc_each : FnScope nEach ["both", "alone", "hand"] (defScope s_each_comes) := ⟨rfl, rfl, rfl, by decide +kernel, rfl, by decide +kernel, by decide +kernel⟩
theorem ok_each {f : Addr} {fd : FuncData} (F : Fun K "each_comes" "each_comes" s_each_comes f fd) (T : Txt K mg) (T2 : Txt2 K mg) : FnOk P w K mg base CX0 1 f fd ["both", "alone", "hand"] (spEach K) := by
  refine F.ok sc_each (fun vs H Q E h => ?_) (fun cdv A outer s H vs Q E hr h => ?_)
  · obtain ⟨d, v, h, kvs, ips, al, rfl, _⟩ := h
    rfl
  obtain ⟨d, v, h, kvs, ips, al, rfl, hh, hd, hk, hA, hn, q⟩ := h
  have nd := sc_each.nd
  refine ⟨_, (pss_one (ps_ret (pe_cmpR op_eq (pe_callB call_len_SI (by rfl) T.len PySem.boot_len (pa_cons (pe_lock (pe_scI (own := [("pair", 3)]) (g := (gName 3)) (tt := tYes) (te := (tOp (rIxT K) (tVar 3) (tVar 2))) rfl nd (pi_keys (pv 0)) (blkOk_by (N := nEach) (sc := defScope s_each_comes) (by decide +kernel)) (fun _ _ _ _ _ => (by exact (pg_name (i := 3) nd rfl (Or.inl rfl)))) (fun _ _ _ _ _ => pts_nil) (fun _ _ _ _ _ => (by exact (pe_ix ix_tup (pv 3) (pv 2) (fun _ _ => rfl)))))) pa_nil)) (pe_callB call_len_seq (by rfl) T.len PySem.boot_len (pa_cons (pe_ix ix_list (pv 1) (pv 2) (fun _ _ => rfl)) pa_nil)) (nomark _)))), ?_⟩
  have hkl : kvs.length = ips.length := by
    have := congrArg List.length hk
    rwa [List.length_map, List.length_map] at this
  refine ⟨d, _, hd, trivial, fun od => ?_⟩
  have hd1 : (upd H d (.frz od (.dT kvs))) d = some (.frz od (.dT kvs)) := upd_same
  refine ⟨_, rfl, d, od, rfl, .inr ⟨kvs, hd1, fun D hD => ?_⟩⟩
  have nD : d ≠ D := ne_of_none hd1 hD
  refine keyT_turns (fun i H' => But d H H' ∧ H' d = some (.frz od (.dT kvs)) ∧ H' D = some (SetO w D (fun j => decide (j ∈ dist ((ips.take i).map fun p => ((sel h p : Nat) : Int)))) (dist ((ips.take i).map fun p => ((sel h p : Nat) : Int))).length)) ?_ (fun i H' h => h.2.1) ?_ ?_
  · refine ⟨But.at.trans (.same (same_new hD _)), by rw [upd_ne nD]; exact hd1, ?_⟩
    rw [upd_same]
    exact congrArg (fun z => some (SetO w D z 0)) (funext fun j => by simp [dist])
  · rintro i k v' qa H' hi hq ⟨b1, e1, e2⟩
    have hi2 : i < ips.length := by rw [← hkl]; exact (List.getElem?_eq_some_iff.mp hi).1
    have ek : k = kI ips[i] := by
      have z : (kvs.map (·.1))[i]? = some k := by rw [List.getElem?_map, hi]; rfl
      rw [hk, List.getElem?_map, List.getElem?_eq_getElem hi2] at z
      exact (Option.some.inj z).symm
    subst ek
    refine ⟨rfl, _, rfl, _, rfl, qa, _, _, _, rfl, rfl, SqT.of hq, atI_nat (kI_at hh), _, _, _, rfl, e2, ?_, ?_⟩
    · have := dist_len_le ((ips.take i).map fun p => ((sel h p : Nat) : Int))
      rw [List.length_map, List.length_take] at this
      unfold scanBound
      omega
    · have hDn : H D = none := by
        cases e : H D with
        | none => rfl
        | some o =>
          have z := But.at (H := H) (o := .frz od (.dT kvs)) D o (Ne.symm nD) e
          rw [z] at hD
          cases hD
      refine ⟨b1.new hDn, by rw [upd_ne nD]; exact e1, ?_⟩
      have et : (ips.take (i + 1)).map (fun p => ((sel h p : Nat) : Int)) = (ips.take i).map (fun p => ((sel h p : Nat) : Int)) ++ [((sel h ips[i] : Nat) : Int)] := by
        rw [List.take_add_one, List.getElem?_eq_getElem hi2, List.map_append]
        rfl
      rw [upd_same, et, dist_snoc]
      generalize dist ((ips.take i).map fun p => ((sel h p : Nat) : Int)) = L
      generalize ((sel h ips[i] : Nat) : Int) = x
      unfold distStep
      by_cases c : x ∈ L
      · rw [if_pos c, if_pos (decide_eq_true c)]
        refine congrArg (fun z => some (SetO w D z L.length)) (funext fun j => ?_)
        by_cases cj : j = x
        · subst cj; simp [c]
        · simp [cj]
      · rw [if_neg c, if_neg (by simp [c])]
        rw [List.length_append]
        refine congrArg (fun z => some (SetO w D z (L.length + 1))) (funext fun j => ?_)
        by_cases cj : j = x
        · subst cj; simp
        · simp [cj]
  · rintro H1 ⟨b1, e1, e2⟩
    rw [hkl, List.take_length] at e2
    have s1 : Same H (upd H1 d (.dT kvs)) := b1.unlock hd
    refine ⟨e1, D, _, _, rfl, (by rw [upd_ne (Ne.symm nD)]; exact e2), ?_⟩
    obtain ⟨t, x0, x1, rfl, ht, hrow⟩ := hA.row
    obtain ⟨x, hx, r, xs, rfl, hr2, ha2⟩ := hrow h hh
    refine ⟨_, rfl, _, rfl, t, _, _, _, rfl, rfl, SqL.of (s1 _ _ ht), atI_nat hx, r, xs, rfl, .inl (SqL.of (s1 _ _ hr2)), rfl, ?_⟩
    rw [dec_nat, ha2.len]
    exact q _ s1
end
end TA

set_option Elab.async false
set_option maxRecDepth 100000
set_option maxHeartbeats 4000000
namespace TA
open PySem L2 PyProof.Rows
set_option linter.unusedVariables false
theorem AlAt.at2 {K : PySem.W.Frag} {H : Hp} {v : V} {al : Nat → List (List Int)} (h : AlAt H v al) : ∃ t, v = .ref t ∧ AloneAt K H t (al 0).length (al 1).length := by
  obtain ⟨t, x0, x1, e, h, ⟨r0, xs0, rfl, h0, a0⟩, ⟨r1, xs1, rfl, h1, a1⟩⟩ := h
  exact ⟨t, e, ⟨r0, r1, xs0, xs1, SqL.of h, SqL.of h0, SqL.of h1, a0.len, a1.len⟩⟩
theorem all_true (n : Nat) : (List.replicate n true).all id = true := by
  rw [List.all_eq_true]
  intro b hb
  exact (List.mem_replicate.mp hb).2
theorem rep_snoc {n : Nat} : (List.replicate n true).map V.bl ++ [V.bl true] = (List.replicate (n + 1) true).map V.bl := by
  rw [List.replicate_succ', List.map_append]
  rfl
theorem comes_all {T : TD} (W : WF T) {h : Nat} (hh : h < 2) : (dist ((T.bo.map (·.1)).map fun p => ((sel h p : Nat) : Int))).length = (T.al h).length := by
  refine dist_all (fun x hx => ?_) (fun a ha => ?_)
  · obtain ⟨p, hp, rfl⟩ := List.mem_map.mp hx
    obtain ⟨e, he, rfl⟩ := List.mem_map.mp hp
    refine ⟨_, ?_, rfl⟩
    obtain ⟨r1, r2⟩ := W.rng e he
    obtain rfl | rfl : h = 0 ∨ h = 1 := by omega
    · exact r1
    · exact r2
  · obtain rfl | rfl : h = 0 ∨ h = 1 := by omega
    · obtain ⟨e, he, rfl⟩ := W.com0 a ha
      exact List.mem_map.mpr ⟨e.1, List.mem_map.mpr ⟨e, he, rfl⟩, rfl⟩
    · obtain ⟨e, he, rfl⟩ := W.com1 a ha
      exact List.mem_map.mpr ⟨e.1, List.mem_map.mpr ⟨e, he, rfl⟩, rfl⟩
theorem small_let {l : List (Int × Int)} (h : okLet l) : small (letD l) := fun ds e => by
  cases e
  rw [List.length_map]
  have := h.2.1
  omega
theorem keys_of {H : Hp} : ∀ {kvs : List (List Key × V)} {bo : BD}, A2 (EnAt H) kvs bo → kvs.map (·.1) = (bo.map (·.1)).map kI
  | _, _, .nil => rfl
  | _, _, .cons a b => by rw [List.map_cons, List.map_cons, List.map_cons, keys_of b, a.1]
theorem kI_tp {H : Hp} {q : Addr} {p : IP} (h : H q = some (.tup ((kI p).map kV))) : TpAt H (.ref q) (iI p) := ⟨q, rfl, h⟩
def spBoth (K : PySem.W.Frag) : Sp := fun vs H Q _ => ∃ (d : Addr) (v : V) (T : TD), vs = [.ref d, v] ∧ BoAt H d T.bo ∧ AlAt H v T.al ∧ WF T ∧ ∀ H', Same H H' → Q (.bl true) H'
section
variable {P : Program} {w : World} {K : PySem.W.Frag} {mg : Str → Option Value} {base : Heap}
abbrev nBoth : List Str := ["thing", "alone", "pair", "let", "hand"]
theorem sc_both : FnScope nBoth ["thing", "alone"] (defScope s_is_both) := ⟨rfl, rfl, rfl, by decide +kernel, rfl, by decide +kernel, by decide +kernel⟩
theorem ok_both {f g1 g2 g3 : Addr} {fd d1 d2 d3 : FuncData} (F : Fun K "is_both" "is_both" s_is_both f fd) (T : Txt K mg) (T2 : Txt2 K mg) (U : TxtH K mg) (W1 : Def P w K mg base "is_input_pair" ["thing", "alone"] 3 (spInp K) g1 d1)
    (W2 : Def P w K mg base "is_let" ["thing"] 5 (spLetB K) g2 d2) (W3 : Def P w K mg base "each_comes" ["both", "alone", "hand"] 1 (spEach K) g3 d3) : FnOk P w K mg base CX0 6 f fd ["thing", "alone"] (spBoth K) := by
  refine F.ok sc_both (fun vs H Q E h => ?_) (fun cdv A outer s H vs Q E hr h => ?_)
  · obtain ⟨d, v, D, rfl, _⟩ := h
    rfl
  obtain ⟨d, v, D, rfl, ⟨kvs, hd, ha⟩, hA, hW, q⟩ := h
  obtain ⟨hT, mH, hH⟩ := U.hands
  have nd := sc_both.nd
  refine ⟨_, (pss_one (ps_ret (pe_and (pe_callB call_isi (by rfl) T.isi boot_isinstance (pa_cons (pv 0) (pa_cons (pe_bltn (v := .ty "dict") (by rfl) T2.dict boot_dict rfl) pa_nil))) (pe_and (pe_callB (cr_all rfl) (by rfl) T.all (by decide +kernel) (pa_cons (pe_lock (pe_lc (own := [("pair", 2), ("let", 3)]) (g := (gTup K 2 (gCons (gName 2) (gCons (gName 3) gNil)))) (tt := tYes) (te := (tAndV (tCall (spInp K) [] E0 (tCons (tVar 2) (tCons (tVar 1) tNil))) (tCall (spLetB K) [] E0 (tCons (tVar 3) tNil)))) rfl nd (pi_itemsT (pv 0)) (blkOk_by (N := nBoth) (sc := defScope s_is_both) (by decide +kernel)) (fun _ _ _ _ _ => (by exact (pg_tup (by rfl) (pgs_cons (pg_name (i := 2) nd rfl (Or.inl rfl)) (pgs_cons (pg_name (i := 3) nd rfl (Or.inl rfl)) pgs_nil))))) (fun _ _ _ _ _ => pts_nil) (fun _ _ _ _ _ => (by exact (pe_and (pe_call W1.G (hr.mono (by decide)) rfl W1.m W1.k W1.b .nil pass0 (pa_cons (pv 2) (pa_cons (pv 1) pa_nil))) (pe_one (pe_call W2.G (hr.mono (by decide)) rfl W2.m W2.k W2.b .nil pass0 (pa_cons (pv 3) pa_nil)))))))) pa_nil)) (pe_one (pe_callB (cr_all rfl) (by rfl) T.all (by decide +kernel) (pa_cons (pe_lc (own := [("hand", 4)]) (g := (gName 4)) (tt := tYes) (te := (tCall (spEach K) [] E0 (tCons (tVar 0) (tCons (tVar 1) (tCons (tVar 4) tNil))))) rfl nd (pi_tup (pe_glob (v := .ref hT) rfl mH rfl)) (blkOk_by (N := nBoth) (sc := defScope s_is_both) (by decide +kernel)) (fun _ _ _ _ _ => (by exact (pg_name (i := 4) nd rfl (Or.inl rfl)))) (fun _ _ _ _ _ => pts_nil) (fun _ _ _ _ _ => (by exact (pe_call W3.G (hr.mono (by decide)) rfl W3.m W3.k W3.b .nil pass0 (pa_cons (pv 0) (pa_cons (pv 1) (pa_cons (pv 4) pa_nil))))))) pa_nil))))))), ?_⟩
  have hkl := ha.len
  refine ⟨_, rfl, V.ref d, .ty "dict", .type "dict", .type "dict", true, rfl, .ty "dict", .base (.dT hd), kit_ty (by decide +kernel), _, rfl, iteT ?_⟩
  refine ⟨d, _, hd, trivial, fun od => ?_⟩
  have hd1 : (upd H d (.frz od (.dT kvs))) d = some (.frz od (.dT kvs)) := upd_same
  refine ⟨_, rfl, d, od, kvs, rfl, hd1, fun L hL => ?_⟩
  have nL : d ≠ L := ne_of_none hd1 hL
  have hLn : H L = none := by
    cases e : H L with
    | none => rfl
    | some o =>
      have z := But.at (H := H) (o := .frz od (.dT kvs)) L o (Ne.symm nL) e
      rw [z] at hL
      cases hL
  refine itemT_turns (fun i H' => But d H H' ∧ H' d = some (.frz od (.dT kvs)) ∧ H' L = some (.lst ((List.replicate i true).map V.bl))) ⟨But.at.trans (.same (same_new hL _)), by rw [upd_ne nL]; exact hd1, upd_same⟩ (fun i H' h => h.2.1) ?_ ?_
  · rintro i k x qa Tt H' hi hq hTn ⟨b1, e1, e2⟩
    obtain ⟨eb, hbi, ek, hx⟩ := ha.get hi
    have hm := List.mem_of_getElem? hbi
    dsimp only at ek hx
    subst ek
    have s1 := same_new hTn (.tup [V.ref qa, x])
    have kp : Kp H (upd H' Tt (.tup [V.ref qa, x])) := (b1.kp hd nf_dT).trans (.same s1)
    obtain ⟨al, rfl, hAl⟩ := (hA.mono kp).at2 (K := K)
    have hi2 : i < kvs.length := (List.getElem?_eq_some_iff.mp hi).1
    refine ⟨Tt, _, rfl, SqT.of upd_same, rfl, _, _, rfl, _, _, rfl, rfl, rfl, _, rfl, _, rfl, _, _, al, _, _, rfl, (kI_tp (s1 _ _ hq)).dp, hAl, fun H2 s2 => ?_⟩
    rw [in_yes (hW.rng eb hm)]
    refine ⟨_, rfl, iteT ⟨_, rfl, _, _, rfl, ((hx.mono kp).mono (.same s2)).dp, small_let (hW.lets eb hm), fun H3 s3 => ?_⟩⟩
    rw [let_yes (hW.lets eb hm)]
    have s13 := (s1.trans s2).trans s3
    refine ⟨_, s13 _ _ e2, ?_, (b1.trans (.same s13)).new hLn, by rw [upd_ne nL]; exact s13 _ _ e1, by rw [upd_same, rep_snoc]⟩
    rw [List.length_map, List.length_replicate]
    have := hW.many
    exact Nat.lt_of_lt_of_le (show i < 100 by omega) (by decide)
  · rintro H1 ⟨b1, e1, e2⟩
    have s1 : Same H (upd H1 d (.dT kvs)) := b1.unlock hd
    refine ⟨e1, L, _, rfl, SqL.of (by rw [upd_ne (Ne.symm nL)]; exact e2), ?_⟩
    rw [all_true]
    refine ⟨_, rfl, iteT ⟨hT, rfl, ⟨_, hH _⟩, fun L2 hL2 => ?_⟩⟩
    generalize upd H1 d (.dT kvs) = H2 at s1 hL2 ⊢
    refine tup_turns (xs := [V.int 0, V.int 1]) (fun i H' => Same H H' ∧ H' L2 = some (.lst ((List.replicate i true).map V.bl))) ⟨s1.trans (same_new hL2 _), upd_same⟩ (fun i H' _ _ => hH H') ?_ ?_
    · rintro i z H' hz ⟨s3, h3⟩
      have hi : i < 2 := (List.getElem?_eq_some_iff.mp hz).1
      obtain rfl : z = .int (i : Int) := by
        obtain rfl | rfl : i = 0 ∨ i = 1 := by omega
        · simpa using hz.symm
        · simpa using hz.symm
      obtain ⟨al, x0, x1, rfl, _⟩ := id hA
      refine ⟨rfl, _, rfl, _, rfl, _, rfl, d, _, i, kvs, D.bo.map (·.1), D.al, rfl, hi, s3 _ _ hd, keys_of ha, hA.mono (.same s3), by rw [List.length_map]; exact hW.many, fun H4 s4 => ?_⟩
      rw [comes_all hW hi, decide_eq_true rfl]
      have hL2n : H L2 = none := by
        cases e : H L2 with
        | none => rfl
        | some o => rw [s1 _ _ e] at hL2; cases hL2
      refine ⟨_, s4 _ _ h3, ?_, same_upd (s3.trans s4) hL2n, by rw [upd_same, rep_snoc]⟩
      rw [List.length_map, List.length_replicate]
      exact Nat.lt_of_lt_of_le (show i < 100 by omega) (by decide)
    · rintro H3 ⟨s3, h3⟩
      refine ⟨L2, _, rfl, SqL.of h3, ?_⟩
      rw [all_true]
      exact q _ s3
end
end TA

set_option Elab.async false
set_option maxRecDepth 100000
set_option maxHeartbeats 4000000
namespace TA
open PySem L2 PyProof.Rows
set_option linter.unusedVariables false
abbrev s_init : Stmt := inClass s_Task 0
abbrev s_eq : Stmt := inClass s_Task 1
abbrev s_inputs : Stmt := inClass s_Task 2
abbrev s_pairs : Stmt := inClass s_Task 3
theorem kfld : ¬ (("alone" : Str) = "both") := by decide +kernel
/-- a task's fields -/
def flds (a d : Addr) : List (Str × V) := putF "both" (.ref d) (putF "alone" (.ref a) [])
theorem flds_eq (a d : Addr) : flds a d = ([("alone", V.ref a), ("both", V.ref d)] : List (Str × V)) := by
  show (if ("alone" : Str) = "both" then [(("alone" : Str), V.ref d)] else (("alone" : Str), V.ref a) :: putF "both" (V.ref d) []) = ([("alone", V.ref a), ("both", V.ref d)] : List (Str × V))
  rw [if_neg kfld]
  all_goals rfl
theorem flds_alone (a d : Addr) : (flds a d).lookup ("alone" : Str) = some (.ref a) := by
  unfold flds
  rw [lookup_putF, if_neg kfld, lookup_putF, if_pos rfl]
theorem flds_both (a d : Addr) : (flds a d).lookup ("both" : Str) = some (.ref d) := by
  unfold flds
  rw [lookup_putF, if_pos rfl]
theorem flds_no (a d : Addr) {m : Str} (h1 : ¬ m = "both") (h2 : ¬ m = "alone") : (flds a d).lookup m = none := by
  unfold flds
  rw [lookup_putF, if_neg h1, lookup_putF, if_neg h2]
  all_goals rfl
/-- a task stands at p -/
def TaskAt (C : Addr) (H : Hp) (p : Addr) (T : TD) : Prop := ∃ dx a d, H p = some (.ins C dx (flds a d)) ∧ AlAt H (.ref a) T.al ∧ BoAt H d T.bo
theorem TaskAt.mono {C : Addr} {H H' : Hp} (s : Same H H') {p : Addr} {T : TD} (h : TaskAt C H p T) : TaskAt C H' p T := by
  obtain ⟨dx, a, d, h1, h2, h3⟩ := h
  exact ⟨dx, a, d, s _ _ h1, h2.mono (.same s), h3.mono s⟩
/-- a task whose dict is perhaps walked just now -/
def BoR (H : Hp) (d : Addr) (bo : BD) : Prop := ∃ kvs, Rd H d (.dT kvs) ∧ A2 (EnAt H) kvs bo
def TaskR (C : Addr) (H : Hp) (p : Addr) (T : TD) : Prop := ∃ dx a d, H p = some (.ins C dx (flds a d)) ∧ AlAt H (.ref a) T.al ∧ BoR H d T.bo
theorem rd_same {H H' : Hp} (s : Same H H') {a : Addr} {u : HO} (h : Rd H a u) : Rd H' a u := by
  rcases h with h | ⟨o, h⟩
  · exact .inl (s _ _ h)
  · exact .inr ⟨o, s _ _ h⟩
theorem rd_some {H : Hp} {a : Addr} {u : HO} (h : Rd H a u) : H a ≠ none := by
  rcases h with h | ⟨o, h⟩ <;> rw [h] <;> exact fun c => by cases c
theorem BoR.mono {H H' : Hp} (s : Same H H') {v} {p} (h : BoR H v p) : BoR H' v p := by
  obtain ⟨kvs, h, a⟩ := h
  exact ⟨kvs, rd_same s h, a.imp fun _ _ r => r.mono (.same s)⟩
theorem TaskAt.r {C : Addr} {H : Hp} {p : Addr} {T : TD} (h : TaskAt C H p T) : TaskR C H p T := by
  obtain ⟨dx, a, d, h1, h2, kvs, h3, h4⟩ := h
  exact ⟨dx, a, d, h1, h2, kvs, .inl h3, h4⟩
theorem TaskR.mono {C : Addr} {H H' : Hp} (s : Same H H') {p : Addr} {T : TD} (h : TaskR C H p T) : TaskR C H' p T := by
  obtain ⟨dx, a, d, h1, h2, h3⟩ := h
  exact ⟨dx, a, d, s _ _ h1, h2.mono (.same s), h3.mono s⟩
theorem dget_rd {H : Hp} {a b : Addr} {kvs : List (List Key × V)} {k : List Key} (e : Rd H a (.dT kvs)) (eb : H b = some (.tup (k.map kV))) : DGet H a (.ref b) (valV kvs k) := .inr ⟨kvs, k, b, e, rfl, eb, rfl⟩
def rLenTR : List V → Hp → VK → Prop := fun xs H Q => ∃ (p : Addr) (kvs : List (List Key × V)), xs = [.ref p] ∧ Rd H p (.dT kvs) ∧ Q (.int ((kvs.length : Nat) : Int)) H
theorem len_dTR {X : Cx} : CallR X (.builtin "len") rLenTR := by
  intro pins s σ H xs us Q I r h
  obtain ⟨p, kvs, rfl, hp, q⟩ := h
  obtain ⟨u, rfl, rx⟩ := vals1 r
  obtain rfl : u = .ref p := rx
  obtain ⟨z, hd, ys, rel, dd⟩ := dt_rd I.hok hp
  have hl : kvs.length = ys.length := Paired.length rel
  refine call_len_dictH hd dd (by rw [← hl]; rw [sizeLine_eq] at z; omega) ?_
  rw [← hl]
  exact ⟨.int ((kvs.length : Nat) : Int), H, I.tok _, ⟨_, rfl⟩, q⟩
structure TxtC (K : PySem.W.Frag) (mg : Str → Option Value) (C : Addr) : Prop where
  cl : Cls K C
  nA : NoAttr K C "alone"
  nB : NoAttr K C "both"
  mg : mg "Task" = some (.ref C)
structure MDef (P : Program) (w : World) (K : PySem.W.Frag) (mg : Str → Option Value) (base : Heap) (C : Addr) (m : Str) (ps : List Str) (k : Nat) (sp : Sp) (f : Addr) (fd : FuncData) : Prop where
  G : FnOk P w K mg base CX0 k f fd ps sp
  b : Binds K fd ps []
  M : Meth K C m f
/-- what is new in H' behind H0, but for D -/
def nwx (H0 : Hp) (D : Addr) (H' : Hp) : Hp := fun b => if H0 b = none ∧ b ≠ D then H' b else none
theorem nwx_some {H0 : Hp} {D : Addr} {H' : Hp} {b : Addr} {o : HO} (h : nwx H0 D H' b = some o) : H0 b = none ∧ b ≠ D ∧ H' b = some o := by
  unfold nwx at h
  split at h
  · rename_i c
    exact ⟨c.1, c.2, h⟩
  · cases h
theorem nwx_put {H0 : Hp} {D : Addr} {H' : Hp} {b : Addr} {o : HO} (h0 : H0 b = none) (hD : b ≠ D) (h : H' b = some o) : nwx H0 D H' b = some o := by
  unfold nwx
  rw [if_pos ⟨h0, hD⟩, h]
theorem kp_nwx {H0 : Hp} {D : Addr} {H' : Hp} : Kp (nwx H0 D H') H' := fun b o _ h => (nwx_some h).2.2
theorem kp_nwx_but {H0 : Hp} {D : Addr} {H H' : Hp} (s : But D H H') : Kp (nwx H0 D H) (nwx H0 D H') := fun b o _ h => by
  obtain ⟨h1, h2, h3⟩ := nwx_some h
  exact nwx_put h1 h2 (s b o h2 h3)
theorem none_of_same {H H' : Hp} (s : Same H H') {b : Addr} (h : H' b = none) : H b = none := by
  cases e : H b with
  | none => rfl
  | some o => rw [s _ _ e] at h; cases h
theorem none_of_but {d : Addr} {H H' : Hp} (s : But d H H') {b : Addr} (n : b ≠ d) (h : H' b = none) : H b = none := by
  cases e : H b with
  | none => rfl
  | some o => rw [s _ _ n e] at h; cases h
theorem kp_nwx_in {H0 H1 : Hp} {D D1 : Addr} {H2 : Hp} (s : Same H0 H1) {o1 : HO} (e1 : H1 D1 = some o1) : Kp (nwx H1 D H2) (nwx H0 D1 H2) := fun b o _ h => by
  obtain ⟨h1, h2, h3⟩ := nwx_some h
  exact nwx_put (none_of_same s h1) (fun c => by subst c; rw [e1] at h1; cases h1) h3
/-- pairs let in a new list, the pairs' tuples anywhere -/
def Let2 (Hl H : Hp) (v : V) (l : List (Int × Int)) : Prop := ∃ t xs, v = .ref t ∧ Hl t = some (.lst xs) ∧ A2 (TpAt H) xs l
theorem Let2.mono {Hl Hl' H H' : Hp} (s : Kp Hl Hl') (s' : Kp H H') {v : V} {p} (h : Let2 Hl H v p) : Let2 Hl' H' v p := by
  obtain ⟨t, xs, e, h, a⟩ := h
  exact ⟨t, xs, e, s.lst h, a.imp fun _ _ r => r.mono s'⟩
def En2 (Hl H : Hp) (e : List Key × V) (b : IP × List (Int × Int)) : Prop := e.1 = kI b.1 ∧ Let2 Hl H e.2 b.2
theorem En2.mono {Hl Hl' H H' : Hp} (s : Kp Hl Hl') (s' : Kp H H') {v} {p} (h : En2 Hl H v p) : En2 Hl' H' v p := ⟨h.1, h.2.mono s s'⟩
theorem En2.en {Hl H : Hp} (s : Kp Hl H) {v} {p} (h : En2 Hl H v p) : EnAt H v p := by
  obtain ⟨e, t, xs, e2, h, a⟩ := h
  exact ⟨e, t, xs, e2, s.lst h, a⟩
theorem kI_inj {p q : IP} (h : kI p = kI q) : p = q := by
  unfold kI at h
  injection h with h1 h2
  injection h2 with h2 _
  injection h1 with h1
  injection h2 with h2
  have a : p.1 = q.1 := by omega
  have b : p.2 = q.2 := by omega
  exact Prod.ext a b
theorem valV_noneP : ∀ {kvs : List (List Key × V)} {k : List Key}, (∀ e ∈ kvs, e.1 ≠ k) → valV kvs k = none
  | [], _, _ => rfl
  | e :: r, k, h => by
    rw [valV_neg (h e List.mem_cons_self)]
    exact valV_noneP fun x hx => h x (List.mem_cons_of_mem _ hx)
theorem ltN_ne {p q : IP} (h : ltN p q) : p ≠ q := by
  rintro rfl
  rcases h with h | ⟨_, h⟩ <;> omega
/-- what a new task holds: its lists are new, all of them -/
def NewAt (C : Addr) (H H' : Hp) (p : Addr) (T : TD) : Prop := ∃ dx a d kvs, H' p = some (.ins C dx (flds a d)) ∧ AlAt (nwx H p H') (.ref a) T.al ∧ H d = none ∧ H' d = some (.dT kvs) ∧ A2 (En2 (nwx H p H') H') kvs T.bo
theorem NewAt.task {C : Addr} {H H' : Hp} {p : Addr} {T : TD} (h : NewAt C H H' p T) : TaskAt C H' p T := by
  obtain ⟨dx, a, d, kvs, h1, h2, _, h3, h4⟩ := h
  exact ⟨dx, a, d, h1, h2.mono kp_nwx, kvs, h3, h4.imp fun _ _ r => r.en kp_nwx⟩
def spInit (K : PySem.W.Frag) (C : Addr) : Sp := fun vs H Q _ => ∃ (p dx a d : Addr) (T : TD), vs = [.ref p, .ref a, .ref d] ∧ H p = some (.ins C dx []) ∧ AlAt H (.ref a) T.al ∧ BoAt H d T.bo ∧ WF T ∧
  ∀ H', But p H H' → NewAt C H H' p T → Q .non H'
theorem al_rows {H : Hp} {v : V} {al : Nat → List (List Int)} (h : AlAt H v al) : ∃ t xs, v = .ref t ∧ H t = some (.lst xs) ∧ A2 (RowsAt H) xs [al 0, al 1] := by
  obtain ⟨t, x0, x1, e, h, a, b⟩ := h
  exact ⟨t, _, e, h, .cons a (.cons b .nil)⟩
theorem al_of {H : Hp} {t : Addr} {xs : List V} {al : Nat → List (List Int)} (h : H t = some (.lst xs)) (a : A2 (RowsAt H) xs [al 0, al 1]) : AlAt H (.ref t) al := by
  cases a with
  | cons a b =>
    cases b with
    | cons b c =>
      cases c
      exact ⟨t, _, _, rfl, h, a, b⟩
theorem small_rows {T : TD} (W : WF T) {h : Nat} (hh : h < 2) : ∀ e ∈ (T.al h).map rowD, small e := fun e he => by
  obtain ⟨r, hr, rfl⟩ := List.mem_map.mp he
  exact small_row (W.row h hh r hr)
theorem take_get {α : Type} {l : List α} {i : Nat} {x : α} (h : l[i]? = some x) : l.take (i + 1) = l.take i ++ [x] := by
  rw [List.take_add_one, h]
  rfl
section
variable {P : Program} {w : World} {K : PySem.W.Frag} {mg : Str → Option Value} {base : Heap}
abbrev nInit : List Str := ["self", "alone", "both", "rows", "outputs", "pair", "let"]
theorem sc_init : FnScope nInit ["self", "alone", "both"] (defScope s_init) := ⟨rfl, rfl, rfl, by decide +kernel, rfl, by decide +kernel, by decide +kernel⟩
theorem ok_init {f g4 g5 C : Addr} {fd d4 d5 : FuncData} (F : Fun K "__init__" "Task.__init__" s_init f fd) (T : Txt K mg) (T2 : Txt2 K mg) (Z : TxtC K mg C) (W4 : Def P w K mg base "is_alone" ["thing"] 6 (spAlone K) g4 d4)
    (W5 : Def P w K mg base "is_both" ["thing", "alone"] 6 (spBoth K) g5 d5) : FnOk P w K mg base CX0 7 f fd ["self", "alone", "both"] (spInit K C) := by
  refine F.ok sc_init (fun vs H Q E h => ?_) (fun cdv A outer s H vs Q E hr h => ?_)
  · obtain ⟨p, dx, a, d, D, rfl, _⟩ := h
    rfl
  obtain ⟨p, dx, a, d, D, rfl, hp, hA, hB, hW, q⟩ := h
  have nd := sc_init.nd
  have hu := hu_of hr
  refine ⟨_, (pss_cons (ps_if (pt_not (pt_val (pe_call W4.G (hr.mono (by decide)) rfl W4.m W4.k W4.b .nil pass0 (pa_cons (pv 1) pa_nil))))
      pss_never
      pss_nil)
    (pss_cons (ps_if (pt_not (pt_val (pe_call W5.G (hr.mono (by decide)) rfl W5.m W5.k W5.b .nil pass0 (pa_cons (pv 2) (pa_cons (pv 1) pa_nil)))))
      pss_never
      pss_nil)
    (pss_cons (ps_fld (pv 0) (pe_lc (own := [("rows", 3)]) (g := (gName 3)) (tt := tYes) (te := (tLc (iList K (tVar 3)) (gName 4) tYes (tCB (fun xs H Q => ∃ p ys, xs = [.ref p] ∧ (SqL K H p ys ∨ SqT K H p ys) ∧ ∀ l, H l = none → Q (.ref l) (upd H l (.lst ys))) (tCons (tVar 4) tNil)) [4])) rfl nd (pi_list (pv 1)) (blkOk_by (N := nInit) (sc := defScope s_init) (by decide +kernel)) (fun _ _ _ _ _ => (by exact (pg_name (i := 3) nd rfl (Or.inl rfl)))) (fun _ _ _ _ _ => pts_nil) (fun _ _ _ _ _ => (by exact (pe_lc (own := [("outputs", 4)]) (g := (gName 4)) (tt := tYes) (te := (tCB (fun xs H Q => ∃ p ys, xs = [.ref p] ∧ (SqL K H p ys ∨ SqT K H p ys) ∧ ∀ l, H l = none → Q (.ref l) (upd H l (.lst ys))) (tCons (tVar 4) tNil))) rfl nd (pi_list (pv 3)) (blkOk_by (N := nInit)  (by kernel_rfl)) (fun _ _ _ _ _ => (by exact (pg_name (i := 4) nd rfl (Or.inl rfl)))) (fun _ _ _ _ _ => pts_nil) (fun _ _ _ _ _ => (by exact (pe_callTy call_list_of (by rfl) T.list boot_list (pa_cons (pv 4) pa_nil)))))))) rfl)
    (pss_one (ps_fld (pv 0) (pe_lock (pe_dcT (own := [("pair", 5), ("let", 6)]) (g := (gTup K 2 (gCons (gName 5) (gCons (gName 6) gNil)))) (tt := tYes) (tk := (tVar 5)) (tv := (tCB (fun xs H Q => ∃ p ys, xs = [.ref p] ∧ (SqL K H p ys ∨ SqT K H p ys) ∧ ∀ l, H l = none → Q (.ref l) (upd H l (.lst ys))) (tCons (tVar 6) tNil))) hu rfl nd (pi_itemsT (pv 2)) (blkOk_by (N := nInit) (sc := defScope s_init) (by decide +kernel)) (fun _ _ _ _ _ => (by exact (pg_tup (by rfl) (pgs_cons (pg_name (i := 5) nd rfl (Or.inl rfl)) (pgs_cons (pg_name (i := 6) nd rfl (Or.inl rfl)) pgs_nil))))) (fun _ _ _ _ _ => pts_nil) (fun _ _ _ _ _ => (by exact (pv 5))) (fun _ _ _ _ _ => (by exact (pe_callTy call_list_of (by rfl) T.list boot_list (pa_cons (pv 6) pa_nil)))))) rfl))))), ?_⟩
  refine ⟨_, rfl, _, _, rfl, hA.dp, (fun ds e => by cases e; exact (by decide : 2 ≤ 1000)), ?_, fun H1 s1 => ?_⟩
  · rintro ds e z hz
    cases e
    rcases List.mem_cons.mp hz with rfl | hz
    · refine ⟨fun es e => ?_, fun es e => ?_⟩
      · cases e
        rw [List.length_map]
        have := hW.n0 0 (by decide); omega
      · cases e
        exact small_rows hW (by decide)
    · obtain rfl := List.mem_singleton.mp hz
      refine ⟨fun es e => ?_, fun es e => ?_⟩
      · cases e
        rw [List.length_map]
        have := hW.n0 1 (by decide); omega
      · cases e
        exact small_rows hW (by decide)
  rw [alone_yes hW]
  refine ⟨true, rfl, iteF ?_⟩
  refine ⟨_, rfl, _, rfl, d, _, D, rfl, hB.mono s1, hA.mono (.same s1), hW, fun H2 s2 => ⟨true, rfl, iteF ?_⟩⟩
  have s12 := s1.trans s2
  obtain ⟨al, xs, e, hal, hrows⟩ := al_rows (hA.mono (.same s12))
  obtain rfl : a = al := by injection e
  clear e
  refine ⟨_, rfl, a, rfl, ⟨_, SqL.of hal⟩, fun D1 hD1 => ?_⟩
  have hD1n : H D1 = none := none_of_same s12 hD1
  refine list_turns (xs := xs) (fun i H' => Same H2 H' ∧ ∃ ys, H' D1 = some (.lst ys) ∧ A2 (RowsAt (nwx H2 D1 H')) ys ([D.al 0, D.al 1].take i)) ⟨same_new hD1 _, [], upd_same, .nil⟩ (fun i H' _ h => h.1.seq (SqL.of hal)) ?_ ?_
  · rintro i x H' hx ⟨s3, ys, hy, ay⟩
    obtain ⟨rows, hr1, t, zs, rfl, ht, az⟩ := hrows.get hx
    have ht3 := s3 _ _ ht
    have hsz : rows.length ≤ 20 := by
      have hi : i < 2 := (List.getElem?_eq_some_iff.mp hr1).1
      obtain rfl | rfl : i = 0 ∨ i = 1 := by omega
      · obtain rfl : D.al 0 = rows := by simpa using hr1
        exact (hW.n0 0 (by decide)).2
      · obtain rfl : D.al 1 = rows := by simpa using hr1
        exact (hW.n0 1 (by decide)).2
    refine ⟨rfl, _, rfl, t, rfl, ⟨_, SqL.of ht3⟩, fun D2 hD2 => ?_⟩
    refine list_turns (xs := zs) (fun j H4 => Same H' H4 ∧ ∃ us, H4 D2 = some (.lst us) ∧ A2 (RowAt (nwx H' D2 H4)) us (rows.take j)) ⟨same_new hD2 _, [], upd_same, .nil⟩ (fun j H4 _ h => h.1.seq (SqL.of ht3)) ?_ ?_
    · rintro j z H4 hz ⟨s4, us, hu4, au⟩
      obtain ⟨row, hr2, tt, rfl, htt⟩ := az.get hz
      have htt4 := s4 _ _ (s3 _ _ htt)
      refine ⟨rfl, _, rfl, tt, _, rfl, .inl (SqL.of htt4), fun l hl => ?_⟩
      have s5 := same_new hl (.lst (row.map V.int))
      have nl : l ≠ D2 := (ne_of_none hu4 hl).symm
      have hjr : us.length < rows.length := by
        rw [au.len, List.length_take]
        have := (List.getElem?_eq_some_iff.mp hr2).1
        omega
      refine ⟨us, s5 _ _ hu4, Nat.lt_of_lt_of_le (show us.length < 100 by omega) (by decide), ?_⟩
      refine ⟨same_upd (s4.trans s5) hD2, _, upd_same, ?_⟩
      rw [take_get hr2]
      refine A2.snoc (au.imp fun _ _ r => r.mono (kp_nwx_but ((But.same s5).trans But.at))) ⟨l, rfl, nwx_put (none_of_same s4 hl) nl ?_⟩
      rw [upd_ne nl]
      exact upd_same
    · rintro H4 ⟨s4, us, hu4, au⟩
      have hzl := az.len
      rw [hzl, List.take_length] at au
      have ne : D2 ≠ D1 := (ne_of_none hy hD2).symm
      refine ⟨ys, s4 _ _ hy, ?_, ?_⟩
      · rw [ay.len, List.length_take]
        exact Nat.lt_of_le_of_lt (Nat.min_le_right _ _) (by show 2 < sizeLine; decide)
      refine ⟨same_upd (s3.trans s4) hD1, _, upd_same, ?_⟩
      rw [take_get hr1]
      refine A2.snoc (ay.imp fun _ _ r => r.mono (kp_nwx_but ((But.same s4).trans But.at))) ?_
      have r0 : RowsAt (nwx H2 D1 H4) (.ref D2) rows := ⟨D2, us, rfl, nwx_put (none_of_same s3 hD2) ne hu4, au.imp fun _ _ r => r.mono (kp_nwx_in s3 hy)⟩
      exact r0.mono (kp_nwx_but But.at)
  · rintro H3 ⟨s3, ys, hy, ay⟩
    have hxl := hrows.len
    rw [hxl, List.take_length] at ay
    have hp3 := s3 _ _ (s12 _ _ hp)
    refine ⟨_, rfl, p, C, dx, _, rfl, hp3, Z.cl, Z.nA, (by show 0 < 1000; decide), ?_⟩
    have npD1 : D1 ≠ p := (ne_of_none (s12 _ _ hp) hD1).symm
    generalize hH5 : upd H3 p (.ins C dx (putF "alone" (.ref D1) [])) = H5
    have b5 : But p H H5 := by rw [← hH5]; exact (But.same (s12.trans s3)).trans But.at
    have hp5 : H5 p = some (.ins C dx (putF "alone" (.ref D1) [])) := by rw [← hH5]; exact upd_same
    have hD15 : H5 D1 = some (.lst ys) := by rw [← hH5, upd_ne npD1]; exact hy
    have ay5 : A2 (RowsAt (nwx H p H5)) ys [D.al 0, D.al 1] := ay.imp fun _ _ r => r.mono fun b o _ h => by
      obtain ⟨h1, h2, h3⟩ := nwx_some h
      have hb : b ≠ p := fun c => by subst c; rw [s12 _ _ hp] at h1; cases h1
      refine nwx_put (none_of_same s12 h1) hb ?_
      rw [← hH5, upd_ne hb]; exact h3
    obtain ⟨kvs, hd, ha⟩ := hB
    have ndp : d ≠ p := ne_of hd hp (fun z => by cases z)
    have hd5 : H5 d = some (.dT kvs) := b5 _ _ ndp hd
    have ha5 : A2 (EnAt H5) kvs D.bo := ha.imp fun _ _ r => r.mono (b5.kp hp (by rintro (⟨_, h⟩ | ⟨_, h⟩) <;> cases h))
    refine ⟨d, _, hd5, trivial, fun od => ?_⟩
    have hd6 : (upd H5 d (.frz od (.dT kvs))) d = some (.frz od (.dT kvs)) := upd_same
    refine ⟨_, rfl, d, od, kvs, rfl, hd6, fun L hL => ?_⟩
    have nL : d ≠ L := ne_of_none hd6 hL
    have hLn : H5 L = none := none_of_but But.at (Ne.symm nL) hL
    refine itemT_turns (fun i H' => But d H5 H' ∧ H' d = some (.frz od (.dT kvs)) ∧ ∃ ks, H' L = some (.dT ks) ∧ A2 (En2 (nwx H5 L H') H') ks (D.bo.take i)) ⟨But.at.trans (.same (same_new hL _)), by rw [upd_ne nL]; exact hd6, [], upd_same, .nil⟩ (fun i H' h => h.2.1) ?_ ?_
    · rintro i k x qa Tt H' hi hq hTn ⟨b1, e1, ks, e2, as⟩
      obtain ⟨eb, hbi, ek, hx⟩ := ha5.get hi
      dsimp only at ek hx
      subst ek
      have s1 := same_new hTn (.tup [V.ref qa, x])
      have kp : Kp H5 (upd H' Tt (.tup [V.ref qa, x])) := (b1.kp hd5 nf_dT).trans (.same s1)
      obtain ⟨t, xs2, rfl, ht, at2⟩ := hx.mono kp
      refine ⟨Tt, _, rfl, SqT.of upd_same, rfl, _, _, rfl, _, _, rfl, rfl, rfl, _, rfl, _, rfl, t, _, rfl, .inl (SqL.of ht), fun l hl => ?_⟩
      have s2 := same_new hl (.lst xs2)
      have hil : i < D.bo.length := (List.getElem?_eq_some_iff.mp hbi).1
      have hks : ks.length < 100 := by
        rw [as.len, List.length_take]
        have := hW.many
        omega
      refine ⟨ks, _, qa, rfl, s2 _ _ (s1 _ _ hq), s2 _ _ (s1 _ _ e2), Nat.lt_of_lt_of_le hks (by decide), ?_⟩
      have nl : l ≠ L := (ne_of_none (s1 _ _ e2) hl).symm
      have hvn : valV ks (kI eb.1) = none := valV_noneP fun e he c => by
        obtain ⟨y, hy1, hy2, _⟩ := as.mem he
        rw [hy2] at c
        have c := kI_inj c
        obtain ⟨j, hj⟩ := List.getElem?_of_mem hy1
        have hjl : j < i := by
          have := (List.getElem?_eq_some_iff.mp hj).1
          rw [List.length_take] at this
          omega
        rw [List.getElem?_take_of_lt hjl] at hj
        have sr := List.pairwise_iff_getElem.mp hW.srt j i (by rw [List.length_map]; omega) (by rw [List.length_map]; exact hil) hjl
        rw [List.getElem_map, List.getElem_map, (List.getElem?_eq_some_iff.mp hj).2, (List.getElem?_eq_some_iff.mp hbi).2] at sr
        exact sr c
      rw [putK_new _ hvn]
      have s12' := s1.trans s2
      have kpl : Kp (upd (upd H' Tt (.tup [V.ref qa, V.ref t])) l (.lst xs2)) (upd (upd (upd H' Tt (.tup [V.ref qa, V.ref t])) l (.lst xs2)) L (.dT (ks ++ [(kI eb.1, V.ref l)]))) := .put (s12' _ _ e2) nf_dT
      refine ⟨(b1.trans (.same s12')).new hLn, by rw [upd_ne nL]; exact s12' _ _ e1, _, upd_same, ?_⟩
      rw [take_get hbi]
      refine A2.snoc (as.imp fun _ _ r => r.mono (kp_nwx_but ((But.same s12').trans But.at)) ((Kp.same s12').trans kpl)) ⟨rfl, l, xs2, rfl, nwx_put ?_ nl ?_, at2.imp fun _ _ r => r.mono ((Kp.same s2).trans kpl)⟩
      · refine none_of_but (b1.trans (.same s1)) (fun c => ?_) hl
        subst c
        rw [s1 _ _ e1] at hl
        cases hl
      · rw [upd_ne nl]; exact upd_same
    · rintro H6 ⟨b1, e1, ks, e2, as⟩
      rw [ha5.len, List.take_length] at as
      have s6 : Same H5 (upd H6 d (.dT kvs)) := b1.unlock hd5
      generalize hH7 : upd H6 d (.dT kvs) = H7 at s6
      have e27 : H7 L = some (.dT ks) := by rw [← hH7, upd_ne (Ne.symm nL)]; exact e2
      have kp67 : Kp H6 H7 := by rw [← hH7]; exact .put e1 nf_frz
      refine ⟨e1, ?_⟩
      have hp7 := s6 _ _ hp5
      refine ⟨_, rfl, p, C, dx, _, rfl, hp7, Z.cl, Z.nB, (by show 1 < 1000; decide), ?_⟩
      have npL : L ≠ p := fun c => by subst c; rw [hp5] at hLn; cases hLn
      have nLp : H L = none := none_of_but b5 npL hLn
      have b7 : But p H (upd H7 p (.ins C dx (flds D1 L))) := (b5.trans (.same s6)).trans But.at
      refine q _ b7 ⟨dx, D1, L, ks, upd_same, al_of (nwx_put hD1n npD1 ?_) (ay5.imp fun _ _ r => r.mono (kp_nwx_but ((But.same s6).trans But.at))), nLp, ?_, as.imp fun _ _ r => r.mono (fun b o _ h => ?_) ?_⟩
      · rw [upd_ne npD1]; exact s6 _ _ hD15
      · rw [upd_ne npL]; exact e27
      · obtain ⟨h1, h2, h3⟩ := nwx_some h
        have hb : b ≠ p := fun c => by subst c; rw [hp5] at h1; cases h1
        have hbd : b ≠ d := fun c => by subst c; rw [hd5] at h1; cases h1
        refine nwx_put (none_of_but b5 hb h1) hb ?_
        rw [upd_ne hb, ← hH7, upd_ne hbd]
        exact h3
      · exact kp67.trans (.put hp7 (by rintro (⟨_, h⟩ | ⟨_, h⟩) <;> cases h))
end
end TA

set_option Elab.async false
set_option maxRecDepth 100000
set_option maxHeartbeats 4000000
namespace TA
open PySem L2 PyProof.Rows
set_option linter.unusedVariables false
theorem inV_int (x : Int) (fs : List Int) : inV (.int x) (fs.map V.int) = decide (x ∈ fs) := by
  induction fs with
  | nil => rfl
  | cons y r ih =>
    show (eqV (.int y) (.int x) || inV (.int x) (r.map V.int)) = _
    rw [ih]
    by_cases c : y = x
    · subst c
      rw [show eqV (.int y) (.int y) = true from by simp [eqV]]
      simp
    · rw [show eqV (.int y) (.int x) = false from by simp [eqV, c]]
      by_cases m : x ∈ r
      · simp [m]
      · have : ¬ x = y := fun e => c e.symm
        simp [m, this]
theorem flat_ints (fs : List Int) : (fs.map V.int).all flatV = true := by
  rw [List.all_eq_true]
  intro v hv
  obtain ⟨x, _, rfl⟩ := List.mem_map.mp hv
  rfl
def hasK (bo : BD) (xy : Int × Int) : Bool := bo.any fun e => decide (iI e.1 = xy)
theorem hasK_yes {bo : BD} {e : IP × List (Int × Int)} (h : e ∈ bo) : hasK bo (iI e.1) = true := List.any_eq_true.mpr ⟨e, h, decide_eq_true rfl⟩
def k2 (xy : Int × Int) : List Key := [.inl xy.1, .inl xy.2]
theorem k2_iff {p : IP} {xy : Int × Int} : kI p = k2 xy ↔ iI p = xy := by
  unfold kI k2 iI
  constructor
  · intro h
    injection h with h1 h2
    injection h2 with h2 _
    injection h1 with h1
    injection h2 with h2
    exact Prod.ext h1 h2
  · intro h
    rw [← h]
theorem some_hasK {H : Hp} : ∀ {kvs : List (List Key × V)} {bo : BD}, A2 (EnAt H) kvs bo → ∀ xy, (valV kvs (k2 xy)).isSome = hasK bo xy
  | _, _, .nil, _ => rfl
  | (k, v) :: kvs, b :: bo, .cons a r, xy => by
    obtain ⟨ek, _⟩ := a
    dsimp only at ek
    subst ek
    show _ = (decide (iI b.1 = xy) || hasK bo xy)
    by_cases c : iI b.1 = xy
    · rw [valV_pos (k2_iff.mpr c), decide_eq_true c]
      rfl
    · rw [valV_neg (fun h => c (k2_iff.mp h)), some_hasK r xy, decide_eq_false c, Bool.false_or]
theorem iI_inj {p q : IP} (h : iI p = iI q) : p = q := by
  unfold iI at h
  injection h with h1 h2
  exact Prod.ext (by omega) (by omega)
/-- what the dict holds at a pair that comes -/
theorem val_at {H : Hp} : ∀ {kvs : List (List Key × V)} {bo : BD}, A2 (EnAt H) kvs bo → (bo.map (·.1)).Pairwise (· ≠ ·) → ∀ e ∈ bo, ∃ v, valV kvs (kI e.1) = some v ∧ LetAt H v e.2
  | _, _, .nil, _, e, m => by cases m
  | (k, v) :: kvs, b :: bo, .cons a r, s, e, m => by
    obtain ⟨ek, hl⟩ := a
    dsimp only at ek hl
    subst ek
    rw [List.map_cons, List.pairwise_cons] at s
    rcases List.mem_cons.mp m with rfl | m
    · exact ⟨v, valV_pos rfl, hl⟩
    · rw [valV_neg (fun h => s.1 _ (List.mem_map.mpr ⟨e, m, rfl⟩) (kI_inj h))]
      exact val_at r s.2 e m
/-- the pairs in order -/
def leN (p q : IP × List (Int × Int)) : Bool := decide (p.1.1 < q.1.1 ∨ (p.1.1 = q.1.1 ∧ p.1.2 ≤ q.1.2))
def sb (T : TD) : BD := T.bo.mergeSort leN
theorem sb_perm (T : TD) : (sb T).Perm T.bo := List.mergeSort_perm _ _
theorem sb_mem {T : TD} {e : IP × List (Int × Int)} : e ∈ sb T ↔ e ∈ T.bo := (sb_perm T).mem_iff
theorem sb_sorted (T : TD) : (sb T).Pairwise fun a b => leN a b = true := by
  refine List.pairwise_mergeSort (fun a b c h1 h2 => ?_) (fun a b => ?_) _
  · have h1 := of_decide_eq_true h1
    have h2 := of_decide_eq_true h2
    refine decide_eq_true ?_
    omega
  · unfold leN
    rw [Bool.or_eq_true, decide_eq_true_eq, decide_eq_true_eq]
    omega
def rowB (d : PyData) (m : Nat) : Bool := match d with
  | .list ds => decide (ds.length = m) && (ds.map outB).all id
  | _ => false
def chosenB (d : PyData) (n0 n1 : Nat) : Bool := match d with
  | .list [d0, d1] => rowB d0 n0 && rowB d1 n1
  | _ => false
def okA (T : TD) (ch : Nat → List Int) (h a : Nat) : Prop := (ch h).getD a 0 ∈ (T.al h).getD a []
instance {T : TD} {ch : Nat → List Int} {h a : Nat} : Decidable (okA T ch h a) := by unfold okA; exact inferInstance
def spInputs (K : PySem.W.Frag) (C : Addr) : Sp := fun vs H Q _ => ∃ (p : Addr) (h : Nat) (T : TD), vs = [.ref p, .int (h : Int)] ∧ h < 2 ∧ TaskR C H p T ∧ Q (.int ((T.al h).length : Int)) H
def spPairs (K : PySem.W.Frag) (C : Addr) : Sp := fun vs H Q _ => ∃ (p : Addr) (T : TD), vs = [.ref p] ∧ TaskAt C H p T ∧ WF T ∧ ∀ (r : Addr) (xs : List V), H r = none → A2 (TpAt H) xs ((sb T).map fun e => iI e.1) → Q (.ref r) (upd H r (.lst xs))
def spPair (K : PySem.W.Frag) (C : Addr) : Sp := fun vs H Q _ => ∃ (p : Addr) (v : V) (T : TD) (xy : Int × Int), vs = [.ref p, v] ∧ TaskR C H p T ∧ WF T ∧ TpAt H v xy ∧ ∀ H', Same H H' → Q (.bl (hasK T.bo xy)) H'
def spRow (K : PySem.W.Frag) : Sp := fun vs H Q _ => ∃ (v : V) (d : PyData) (m : Nat), vs = [v, .int (m : Int)] ∧ Dp K H v d ∧ small d ∧ ∀ H', Same H H' → Q (.bl (rowB d m)) H'
def spChosen (K : PySem.W.Frag) (C : Addr) : Sp := fun vs H Q _ => ∃ (p : Addr) (v : V) (d : PyData) (T : TD), vs = [.ref p, v] ∧ TaskR C H p T ∧ Dp K H v d ∧ (∀ ds, d = .list ds → ∀ e ∈ ds, small e) ∧ ∀ H', Same H H' → Q (.bl (chosenB d (T.al 0).length (T.al 1).length)) H'
/-- what alone_fault tells -/
def AloneRes (T : TD) (ch : Nat → List Int) (fv : V) (H' : Hp) : Prop := (fv = .non ∧ ∀ h a, h < 2 → a < (T.al h).length → okA T ch h a) ∨
  ∃ r h a, fv = .ref r ∧ H' r = some (.tup [.str "alone", .int ((h : Nat) : Int), .int ((a : Nat) : Int)]) ∧ h < 2 ∧ a < (T.al h).length ∧ ¬ okA T ch h a ∧ ∀ h' a', h' < 2 → a' < (T.al h').length → (h' < h ∨ (h' = h ∧ a' < a)) → okA T ch h' a'
def spAloneF (K : PySem.W.Frag) (C : Addr) : Sp := fun vs H Q _ => ∃ (p : Addr) (v : V) (T : TD) (ch : Nat → List Int), vs = [.ref p, v] ∧ TaskAt C H p T ∧ WF T ∧ RowsAt H v [ch 0, ch 1] ∧ (∀ h, h < 2 → (ch h).length = (T.al h).length) ∧
  ∀ fv H', Same H H' → AloneRes T ch fv H' → Q fv H'
section
variable {P : Program} {w : World} {K : PySem.W.Frag} {mg : Str → Option Value} {base : Heap}
abbrev nInputs : List Str := ["self", "hand"]
theorem sc_inputs : FnScope nInputs nInputs (defScope s_inputs) := ⟨rfl, rfl, rfl, by decide +kernel, rfl, by decide +kernel, by decide +kernel⟩
theorem within_hand {h : Nat} (hh : h < 2) : within (.int (h : Int)) 0 1 = true := by
  show decide ((0 : Int) ≤ (h : Int) ∧ (h : Int) ≤ 1) = true
  exact decide_eq_true (by omega)
theorem ok_inputs {f g C : Addr} {fd gd : FuncData} (F : Fun K "inputs" "Task.inputs" s_inputs f fd) (T : Txt K mg) (Z : TxtC K mg C) (WH : Def P w K mg base "is_hand" ["thing"] 3 (spHandG K) g gd) : FnOk P w K mg base CX0 4 f fd nInputs (spInputs K C) := by
  refine F.ok sc_inputs (fun vs H Q E h => ?_) (fun cdv A outer s H vs Q E hr h => ?_)
  · obtain ⟨p, h, D, rfl, _⟩ := h
    rfl
  obtain ⟨p, h, D, rfl, hh, hT, q⟩ := h
  refine ⟨_, (pss_cons (ps_if (pt_not (pt_val (pe_call WH.G (hr.mono (by decide)) rfl WH.m WH.k WH.b .nil pass0 (pa_cons (pv 1) pa_nil))))
      pss_never
      pss_nil)
    (pss_one (ps_ret (pe_callB call_len_seq (by rfl) T.len PySem.boot_len (pa_cons (pe_ix ix_list (pe_fld (pv 0) rfl) (pv 1) (fun _ _ => rfl)) pa_nil))))), ?_⟩
  obtain ⟨dx, a, d, hp, hA, _⟩ := hT
  obtain ⟨t, x0, x1, e, ht, hrow⟩ := hA.row
  obtain rfl : a = t := by injection e
  obtain ⟨x, hx, r, xs, rfl, hr2, ha2⟩ := hrow h hh
  refine ⟨_, rfl, _, _, rfl, .int _, ?_⟩
  rw [within_hand hh]
  refine ⟨true, rfl, iteF ?_⟩
  refine ⟨_, rfl, p, C, dx, _, _, rfl, hp, Z.cl, Z.nA, flds_alone _ _, _, rfl, a, _, _, _, rfl, rfl, SqL.of ht, atI_nat hx, r, xs, rfl, .inl (SqL.of hr2), ?_⟩
  rw [ha2.len]
  exact q
abbrev nPairs : List Str := ["self"]
theorem sc_pairs : FnScope nPairs nPairs (defScope s_pairs) := ⟨rfl, rfl, rfl, by decide +kernel, rfl, by decide +kernel, by decide +kernel⟩
theorem keys_sorted {T : TD} (W : WF T) {L : List (Addr × List Int)} (h1 : (L.map (·.2)).Perm (T.bo.map fun e => [((e.1.1 : Nat) : Int), ((e.1.2 : Nat) : Int)])) (h2 : L.Pairwise (fun q r => TS.code 64 q.2 ≤ TS.code 64 r.2)) :
    L.map (·.2) = (sb T).map fun e => [((e.1.1 : Nat) : Int), ((e.1.2 : Nat) : Int)] := by
  have n0 := (W.n0 0 (by decide)).2
  have n1 := (W.n0 1 (by decide)).2
  have bd : ∀ x ∈ T.bo.map (fun e => [((e.1.1 : Nat) : Int), ((e.1.2 : Nat) : Int)]), ∃ a b : Nat, a < 20 ∧ b < 20 ∧ x = [(a : Int), (b : Int)] := fun x hx => by
    obtain ⟨e, he, rfl⟩ := List.mem_map.mp hx
    have := W.rng e he
    exact ⟨e.1.1, e.1.2, by omega, by omega, rfl⟩
  have hp := (sb_perm T).map (fun e => [((e.1.1 : Nat) : Int), ((e.1.2 : Nat) : Int)])
  have h3 := h1.trans hp.symm
  refine List.Perm.eq_of_pairwise (le := fun a b => TS.code 64 a ≤ TS.code 64 b) (fun a b ha hb h h' => ?_) (List.pairwise_map.mpr h2) ?_ h3
  · obtain ⟨a1, a2, _, _, rfl⟩ := bd a (h1.mem_iff.mp ha)
    obtain ⟨b1, b2, _, _, rfl⟩ := bd b (hp.mem_iff.mp hb)
    rw [code_pair, code_pair] at h h'
    have e1 : a1 = b1 := by omega
    have e2 : a2 = b2 := by omega
    rw [e1, e2]
  · rw [List.pairwise_map]
    refine (sb_sorted T).imp_of_mem fun {a b} ha hb h => ?_
    have := W.rng a (sb_mem.mp ha)
    have := W.rng b (sb_mem.mp hb)
    rw [code_pair, code_pair]
    have h := of_decide_eq_true h
    rcases h with h | ⟨h, h'⟩
    · omega
    · omega
theorem ok_pairs {f C : Addr} {fd : FuncData} (F : Fun K "pairs" "Task.pairs" s_pairs f fd) (T2 : Txt2 K mg) (Z : TxtC K mg C) : FnOk P w K mg base CX0 1 f fd nPairs (spPairs K C) := by
  refine F.ok sc_pairs (fun vs H Q E h => ?_) (fun cdv A outer s H vs Q E hr h => ?_)
  · obtain ⟨p, D, rfl, _⟩ := h
    rfl
  obtain ⟨p, D, rfl, hT, hW, q⟩ := h
  refine ⟨_, (pss_one (ps_ret (pe_callB (cr_sortedDT (d := 2) (B := 64) (by decide) rfl) (by rfl) T2.sorted (by decide +kernel) (pa_cons (pe_fld (pv 0) rfl) pa_nil)))), ?_⟩
  obtain ⟨dx, a, d, hp, hA, kvs, hd, ha⟩ := hT
  refine ⟨_, rfl, p, C, dx, _, _, rfl, hp, Z.cl, Z.nB, flds_both _ _, d, kvs, D.bo.map (fun e => [((e.1.1 : Nat) : Int), ((e.1.2 : Nat) : Int)]), rfl, .inl hd, ?_, ?_, ?_, fun L r h1 h2 h3 hr0 => ?_⟩
  · rw [keys_of ha, List.map_map, List.map_map]
    rfl
  · rw [List.length_map]
    have := hW.many
    omega
  · intro ns hns
    obtain ⟨e, he, rfl⟩ := List.mem_map.mp hns
    have := hW.rng e he
    have := (hW.n0 0 (by decide)).2
    have := (hW.n0 1 (by decide)).2
    refine ⟨rfl, fun m hm => ?_⟩
    rcases List.mem_cons.mp hm with rfl | hm
    · omega
    · obtain rfl := List.mem_singleton.mp hm
      omega
  · refine q r _ hr0 ?_
    have e := keys_sorted hW h1 h2
    clear h1 h2 q
    generalize sb D = bo at e
    induction L generalizing bo with
    | nil =>
      cases bo with
      | nil => exact .nil
      | cons _ _ => cases e
    | cons x L ih =>
      cases bo with
      | nil => cases e
      | cons b bo =>
        rw [List.map_cons, List.map_cons] at e
        injection e with e1 e2
        refine .cons ⟨x.1, rfl, ?_⟩ (ih (fun y hy => h3 y (List.mem_cons_of_mem _ hy)) bo e2)
        rw [h3 x List.mem_cons_self, e1]
        rfl
abbrev nIsPair : List Str := ["task", "thing"]
theorem sc_ispair : FnScope nIsPair nIsPair (defScope s_is_pair) := ⟨rfl, rfl, rfl, by decide +kernel, rfl, by decide +kernel, by decide +kernel⟩
theorem inB_hasK {T : TD} (W : WF T) {xy : Int × Int} (h : inB (T.al 0).length (T.al 1).length (pairD xy) = false) : hasK T.bo xy = false := by
  cases c : hasK T.bo xy with
  | false => rfl
  | true =>
    obtain ⟨e, he, h1⟩ := List.any_eq_true.mp c
    have h2 := of_decide_eq_true h1
    rw [← h2, in_yes (W.rng e he)] at h
    cases h
theorem ok_ispair {f g C : Addr} {fd gd : FuncData} (F : Fun K "is_pair" "is_pair" s_is_pair f fd) (T : Txt K mg) (Z : TxtC K mg C) (W1 : Def P w K mg base "is_input_pair" ["thing", "alone"] 3 (spInp K) g gd) : FnOk P w K mg base CX0 4 f fd nIsPair (spPair K C) := by
  refine F.ok sc_ispair (fun vs H Q E h => ?_) (fun cdv A outer s H vs Q E hr h => ?_)
  · obtain ⟨p, v, D, xy, rfl, _⟩ := h
    rfl
  obtain ⟨p, v, D, xy, rfl, hT, hW, hv, q⟩ := h
  have hu := hu_of hr
  refine ⟨_, (pss_one (ps_ret (pe_and (pe_call W1.G (hr.mono (by decide)) rfl W1.m W1.k W1.b .nil pass0 (pa_cons (pv 1) (pa_cons (pe_fld (pv 0) rfl) pa_nil))) (pe_one (pe_cmp (pc_din hu (pv 1) (pe_fld (pv 0) rfl)) rfl))))), ?_⟩
  obtain ⟨dx, a, d, hp, hA, hB⟩ := hT
  obtain ⟨al, e, hal⟩ := hA.at2 (K := K)
  obtain rfl : a = al := by injection e
  refine ⟨_, rfl, _, rfl, p, C, dx, _, _, rfl, hp, Z.cl, Z.nA, flds_alone _ _, v, _, a, _, _, rfl, hv.dp, hal, fun H1 s1 => ⟨_, rfl, ?_⟩⟩
  cases c : inB (D.al 0).length (D.al 1).length (pairD xy) with
  | false =>
    rw [inB_hasK hW c] at q
    exact iteF (q _ s1)
  | true =>
    obtain ⟨kvs, hd, ha⟩ := hB.mono s1
    obtain ⟨t, rfl, ht⟩ := hv.mono (.same s1)
    refine iteT ⟨_, rfl, _, rfl, p, C, dx, _, _, rfl, s1 _ _ hp, Z.cl, Z.nB, flds_both _ _, d, _, rfl, dget_rd (k := k2 xy) hd ht, ?_⟩
    rw [some_hasK ha]
    exact q _ s1
abbrev nRow : List Str := ["thing", "many", "x"]
theorem sc_row : FnScope nRow ["thing", "many"] (defScope s_is_row) := ⟨rfl, rfl, rfl, by decide +kernel, rfl, by decide +kernel, by decide +kernel⟩
theorem ok_row {f g : Addr} {fd gd : FuncData} (F : Fun K "is_row" "is_row" s_is_row f fd) (T : Txt K mg) (WO : Def P w K mg base "is_output" ["thing"] 3 (spOut K) g gd) : FnOk P w K mg base CX0 4 f fd ["thing", "many"] (spRow K) := by
  refine F.ok sc_row (fun vs H Q E h => ?_) (fun cdv A outer s H vs Q E hr h => ?_)
  · obtain ⟨v, d, m, rfl, _⟩ := h
    rfl
  obtain ⟨v, d, m, rfl, hk, hz, q⟩ := h
  have nd := sc_row.nd
  refine ⟨_, (pss_one (ps_ret (pe_and (pe_callB call_isi (by rfl) T.isi boot_isinstance (pa_cons (pv 0) (pa_cons (pe_bltn (v := .ty "list") (by rfl) T.list boot_list rfl) pa_nil))) (pe_and (pe_cmpR op_eq (pe_callB call_len_seq (by rfl) T.len PySem.boot_len (pa_cons (pv 0) pa_nil)) (pv 1) (nomark _)) (pe_one (pe_callB (cr_all rfl) (by rfl) T.all (by decide +kernel) (pa_cons (pe_lc (own := [("x", 2)]) (g := (gName 2)) (tt := tYes) (te := (tCall (spOut K) [] E0 (tCons (tVar 2) tNil))) rfl nd (pi_list (pv 0)) (blkOk_by (N := nRow) (sc := defScope s_is_row) (by decide +kernel)) (fun _ _ _ _ _ => (by exact (pg_name (i := 2) nd rfl (Or.inl rfl)))) (fun _ _ _ _ _ => pts_nil) (fun _ _ _ _ _ => (by exact (pe_call WO.G (hr.mono (by decide)) rfl WO.m WO.k WO.b .nil pass0 (pa_cons (pv 2) pa_nil))))) pa_nil))))))), ?_⟩
  refine ⟨_, rfl, v, .ty "list", _, _, isLstD d, rfl, .ty "list", dp_ty hk, kit_lst d, _, rfl, ?_⟩
  cases cl : isLstD d with
  | false =>
    have : rowB d m = false := by cases d <;> first | rfl | cases cl
    rw [this] at q
    exact iteF (q _ (Same.refl H))
  | true =>
    obtain ⟨ds, rfl⟩ : ∃ ds, d = .list ds := by cases d <;> first | exact ⟨_, rfl⟩ | cases cl
    obtain ⟨p, vs, rfl, hS, hD⟩ : ∃ t vs, v = .ref t ∧ SqL K H t vs ∧ DpAll K H vs ds := by
      cases hk with
      | lst a b => exact ⟨_, _, rfl, a, b⟩
    have hl := dpAll_len hD
    have hds := hz ds rfl
    have eO : rowB (.list ds) m = (decide (ds.length = m) && (ds.map outB).all id) := rfl
    refine iteT ⟨_, rfl, p, _, rfl, .inl hS, _, rfl, rfl, _, rfl, ?_⟩
    rw [hl, dec_nat]
    by_cases c : ds.length = m
    case neg =>
      rw [eO, decide_eq_false c, Bool.false_and] at q
      refine iteF' (decide_eq_false c) ?_
      exact q _ (Same.refl H)
    rw [eO, decide_eq_true c, Bool.true_and] at q
    refine iteT' (decide_eq_true c) ?_
    refine ⟨_, rfl, p, rfl, ⟨_, hS⟩, fun D hD' => ?_⟩
    refine list_turns (xs := vs) (fun i H' => Same H H' ∧ H' D = some (.lst (((ds.map outB).take i).map V.bl))) ⟨same_new hD' _, upd_same⟩ (fun i H' _ h => h.1.seq hS) ?_ ?_
    · rintro i x H' hx ⟨s1, h1⟩
      obtain ⟨di, hdi, hxi⟩ := dpAll_get hD hx
      have hi : i < ds.length := (List.getElem?_eq_some_iff.mp hdi).1
      have hb : (ds.map outB)[i]? = some (outB di) := by rw [List.getElem?_map, hdi]; rfl
      refine ⟨rfl, _, rfl, x, di, rfl, dp_mono s1 _ _ hxi, _, h1, ?_, same_upd s1 hD', by rw [upd_same, take_bl _ hb]⟩
      rw [List.length_map]
      exact Nat.lt_of_le_of_lt (List.length_take_le _ _) (Nat.lt_of_lt_of_le hi (Nat.le_trans hds (by decide)))
    · rintro H1 ⟨s1, h1⟩
      rw [hl, ← List.length_map (f := outB), List.take_length] at h1
      exact ⟨D, _, rfl, SqL.of h1, q _ s1⟩
end
end TA

set_option Elab.async false
set_option maxRecDepth 100000
set_option maxHeartbeats 4000000
namespace TA
open PySem L2 PyProof.Rows
set_option linter.unusedVariables false
theorem two_cases (ds : List PyData) : (∃ x y, ds = [x, y]) ∨ ds.length ≠ 2 := by
  match ds with
  | [x, y] => exact .inl ⟨x, y, rfl⟩
  | [] | [_] | _ :: _ :: _ :: _ => exact .inr (by simp)
theorem chosen_no {ds : List PyData} {n0 n1 : Nat} (h : ds.length ≠ 2) : chosenB (.list ds) n0 n1 = false := by
  match ds, h with
  | [x, y], h => exact absurd rfl h
  | [], _ | [_], _ | _ :: _ :: _ :: _, _ => rfl
theorem hand_at {i : Nat} {z : V} (h : ([V.int 0, V.int 1] : List V)[i]? = some z) : i < 2 ∧ z = .int (i : Int) := by
  have hi : i < 2 := (List.getElem?_eq_some_iff.mp h).1
  refine ⟨hi, ?_⟩
  obtain rfl | rfl : i = 0 ∨ i = 1 := by omega
  · simpa using h.symm
  · simpa using h.symm
section
variable {P : Program} {w : World} {K : PySem.W.Frag} {mg : Str → Option Value} {base : Heap}
abbrev nChosen : List Str := ["task", "thing", "hand"]
theorem sc_chosen : FnScope nChosen ["task", "thing"] (defScope s_is_chosen) := ⟨rfl, rfl, rfl, by decide +kernel, rfl, by decide +kernel, by decide +kernel⟩
theorem ok_chosen {f g1 g2 C : Addr} {fd d1 d2 : FuncData} (F : Fun K "is_chosen" "is_chosen" s_is_chosen f fd) (T : Txt K mg) (U : TxtH K mg) (Z : TxtC K mg C) (WR : Def P w K mg base "is_row" ["thing", "many"] 4 (spRow K) g1 d1)
    (Inp : MDef P w K mg base C "inputs" nInputs 4 (spInputs K C) g2 d2) : FnOk P w K mg base CX0 5 f fd ["task", "thing"] (spChosen K C) := by
  refine F.ok sc_chosen (fun vs H Q E h => ?_) (fun cdv A outer s H vs Q E hr h => ?_)
  · obtain ⟨p, v, d, D, rfl, _⟩ := h
    rfl
  obtain ⟨p, v, d, D, rfl, hTk, hk, hz, q⟩ := h
  obtain ⟨hT, mH, hH⟩ := U.hands
  have nd := sc_chosen.nd
  refine ⟨_, (pss_one (ps_ret (pe_and (pe_callB call_isi (by rfl) T.isi boot_isinstance (pa_cons (pv 1) (pa_cons (pe_bltn (v := .ty "list") (by rfl) T.list boot_list rfl) pa_nil))) (pe_and (pe_cmpR op_eq (pe_callB call_len_seq (by rfl) T.len PySem.boot_len (pa_cons (pv 1) pa_nil)) pe_int (nomark _)) (pe_one (pe_callB (cr_all rfl) (by rfl) T.all (by decide +kernel) (pa_cons (pe_lc (own := [("hand", 2)]) (g := (gName 2)) (tt := tYes) (te := (tCall (spRow K) [] E0 (tCons (tOp (rIxL K) (tVar 1) (tVar 2)) (tCons (tMeth C "inputs" (spInputs K C) [] E0 (tVar 0) (tCons (tVar 2) tNil)) tNil)))) rfl nd (pi_tup (pe_glob (v := .ref hT) rfl mH rfl)) (blkOk_by (N := nChosen) (sc := defScope s_is_chosen) (by decide +kernel)) (fun _ _ _ _ _ => (by exact (pg_name (i := 2) nd rfl (Or.inl rfl)))) (fun _ _ _ _ _ => pts_nil) (fun _ _ _ _ _ => (by exact (pe_call WR.G (hr.mono (by decide)) rfl WR.m WR.k WR.b .nil pass0 (pa_cons (pe_ix ix_list (pv 1) (pv 2) (fun _ _ => rfl)) (pa_cons (pe_meth (pv 0) Z.cl Inp.M Inp.G (hr.mono (by decide)) Inp.b .nil pass0 (pa_cons (pv 2) pa_nil)) pa_nil)))))) pa_nil))))))), ?_⟩
  refine ⟨_, rfl, v, .ty "list", _, _, isLstD d, rfl, .ty "list", dp_ty hk, kit_lst d, _, rfl, ?_⟩
  cases cl : isLstD d with
  | false =>
    have : chosenB d (D.al 0).length (D.al 1).length = false := by cases d <;> first | rfl | cases cl
    rw [this] at q
    exact iteF (q _ (Same.refl H))
  | true =>
    obtain ⟨ds, rfl⟩ : ∃ ds, d = .list ds := by cases d <;> first | exact ⟨_, rfl⟩ | cases cl
    obtain ⟨t, vs, rfl, hS, hD⟩ : ∃ t vs, v = .ref t ∧ SqL K H t vs ∧ DpAll K H vs ds := by
      cases hk with
      | lst a b => exact ⟨_, _, rfl, a, b⟩
    have hl := dpAll_len hD
    refine iteT ⟨_, rfl, t, _, rfl, .inl hS, rfl, _, rfl, ?_⟩
    rcases two_cases ds with ⟨x, y, rfl⟩ | c
    case inr =>
      rw [chosen_no c] at q
      refine iteF' (decide_eq_false fun e => c (by injection e with e; omega)) ?_
      exact q _ (Same.refl H)
    refine iteT' (decide_eq_true (by rw [hl]; rfl)) ?_
    cases hD with
    | cons hx hD =>
    cases hD with
    | cons hy hD =>
    cases hD
    rename_i vx vy
    refine ⟨hT, rfl, ⟨_, hH _⟩, fun L hL => ?_⟩
    refine tup_turns (xs := [V.int 0, V.int 1]) (fun i H' => Same H H' ∧ H' L = some (.lst (([rowB x (D.al 0).length, rowB y (D.al 1).length].take i).map V.bl))) ⟨same_new hL _, upd_same⟩ (fun i H' _ _ => hH H') ?_ ?_
    · rintro i z H' hz' ⟨s3, h3⟩
      obtain ⟨hi, rfl⟩ := hand_at hz'
      obtain ⟨u, e, hu1, hu2, hu3⟩ : ∃ u e, ([vx, vy] : List V)[i]? = some u ∧ ([x, y] : List PyData)[i]? = some e ∧ Dp K H u e := by
        obtain rfl | rfl : i = 0 ∨ i = 1 := by omega
        · exact ⟨vx, x, rfl, rfl, hx⟩
        · exact ⟨vy, y, rfl, rfl, hy⟩
      obtain ⟨dx, a, d, hp, hA, hB⟩ := hTk.mono s3
      refine ⟨rfl, _, rfl, _, rfl, t, _, _, _, rfl, rfl, s3.seq hS, atI_nat hu1, ?_⟩
      refine ⟨_, rfl, p, dx, _, rfl, hp, flds_no _ _ (by decide +kernel) (by decide +kernel), _, rfl, p, i, D, rfl, hi, ⟨dx, a, d, hp, hA, hB⟩, ?_⟩
      refine ⟨u, e, (D.al i).length, rfl, dp_mono s3 _ _ hu3, hz _ rfl _ (List.mem_of_getElem? hu2), fun H4 s4 => ?_⟩
      have hb : [rowB x (D.al 0).length, rowB y (D.al 1).length][i]? = some (rowB e (D.al i).length) := by
        obtain rfl | rfl : i = 0 ∨ i = 1 := by omega
        · obtain rfl : x = e := by simpa using hu2
          rfl
        · obtain rfl : y = e := by simpa using hu2
          rfl
      refine ⟨_, s4 _ _ h3, ?_, same_upd (s3.trans s4) hL, by rw [upd_same, take_bl _ hb]⟩
      rw [List.length_map]
      exact Nat.lt_of_le_of_lt (List.length_take_le _ _) (Nat.lt_of_lt_of_le hi (by decide))
    · rintro H3 ⟨s3, h3⟩
      refine ⟨L, _, rfl, SqL.of h3, ?_⟩
      have e1 : chosenB (.list [x, y]) (D.al 0).length (D.al 1).length = (([rowB x (D.al 0).length, rowB y (D.al 1).length].take [V.int 0, V.int 1].length).all id) := by
        show (rowB x _ && rowB y _) = (rowB x _ && (rowB y _ && true))
        rw [Bool.and_true]
      rw [e1] at q
      exact q _ s3
abbrev nAF : List Str := ["task", "alone", "hand", "at"]
theorem sc_af : FnScope nAF ["task", "alone"] (defScope s_alone_fault) := ⟨rfl, rfl, rfl, by decide +kernel, rfl, by decide +kernel, by decide +kernel⟩
theorem ok_af {f g2 C : Addr} {fd d2 : FuncData} (F : Fun K "alone_fault" "alone_fault" s_alone_fault f fd) (T : Txt K mg) (U : TxtH K mg) (Z : TxtC K mg C)
    (Inp : MDef P w K mg base C "inputs" nInputs 4 (spInputs K C) g2 d2) : FnOk P w K mg base CX0 5 f fd ["task", "alone"] (spAloneF K C) := by
  refine F.ok sc_af (fun vs H Q E h => ?_) (fun cdv A outer s H vs Q E hr h => ?_)
  · obtain ⟨p, v, D, ch, rfl, _⟩ := h
    rfl
  obtain ⟨p, v, D, ch, rfl, hTk, hW, hR, hlen, q0⟩ := h
  obtain ⟨hT, mH, hH⟩ := U.hands
  have nd := sc_af.nd
  refine ⟨_, (pss_cons (ps_for PassesOwn.never (by rfl) (pi_tup (pe_glob (v := .ref hT) rfl mH rfl)) (pg_name (i := 2) nd rfl (Or.inl rfl))
      (pss_one (ps_for PassesOwn.never (by rfl) (pi_range1 (by rfl) T.range (pa_cons (pe_meth (pv 0) Z.cl Inp.M Inp.G (hr.mono (by decide)) Inp.b .nil pass0 (pa_cons (pv 2) pa_nil)) pa_nil)) (pg_name (i := 3) nd rfl (Or.inl rfl))
      (pss_one (ps_if (pt_cmpR op_notIn_seq (pe_ix ix_list (pe_ix ix_list (pv 1) (pv 2) (fun _ _ => rfl)) (pv 3) (fun _ _ => rfl)) (pe_ix ix_list (pe_ix ix_list (pe_fld (pv 0) rfl) (pv 2) (fun _ _ => rfl)) (pv 3) (fun _ _ => rfl)) (by rfl))
      (pss_one (ps_ret (pe_tup (pa_cons pe_str (pa_cons (pv 2) (pa_cons (pv 3) pa_nil))))))
      pss_nil)))))
    (pss_one (ps_ret pe_non))), ?_⟩
  refine ⟨hT, rfl, ⟨_, hH _⟩, for_tup (xs := [V.int 0, V.int 1]) (fun i σ H' => ∃ g1 g2, σ = [some (.ref p), some v, g1, g2] ∧ Same H H' ∧ ∀ h a, h < i → a < (D.al h).length → okA D ch h a) ⟨_, _, rfl, Same.refl H, fun h a hh => absurd hh (Nat.not_lt_zero _)⟩ (fun i σ H' _ _ => hH H') ?_ ?_⟩
  · rintro i z σ H' hz ⟨g1, g2, rfl, s1, ok1⟩
    obtain ⟨hi, rfl⟩ := hand_at hz
    obtain ⟨dx, a, d, hp, hA, hB⟩ := hTk.mono s1
    have n0 := hW.n0 i hi
    refine ⟨_, rfl, p, dx, _, rfl, hp, flds_no _ _ (by decide +kernel) (by decide +kernel), _, rfl, p, i, D, rfl, hi, TaskAt.r ⟨dx, a, d, hp, hA, hB⟩, ?_⟩
    refine ⟨_, rfl, by omega, by omega, for_range (n := (D.al i).length) (fun j σ H2 => ∃ g2, σ = [some (.ref p), some v, some (.int (i : Int)), g2] ∧ Same H H2 ∧ ∀ a, a < j → okA D ch i a) ⟨_, rfl, s1, fun a ha => absurd ha (Nat.not_lt_zero _)⟩ ?_ ?_⟩
    · rintro j σ H2 hj ⟨g2, rfl, s2, ok2⟩
      have ej : (0 : Int) + (j : Int) = (j : Int) := by omega
      rw [ej]
      obtain ⟨t, xs, rfl, ht, ar⟩ := hR.mono (.same s2)
      obtain ⟨y, hy, r, rfl, hr'⟩ := ar.at (i := i) (y := ch i) (by
        obtain rfl | rfl : i = 0 ∨ i = 1 := by omega
        · rfl
        · rfl)
      obtain ⟨dx2, a2, d2, hp2, hA2, hB2⟩ := hTk.mono s2
      obtain ⟨t3, x0, x1, e3, ht3, hrow3⟩ := hA2.row
      obtain rfl : a2 = t3 := by injection e3
      obtain ⟨x, hx, r3, xs3, rfl, hr3, ha3⟩ := hrow3 i hi
      obtain ⟨y3, hy3, r4, rfl, hr4⟩ := ha3.at (i := j) (y := (D.al i)[j]) (List.getElem?_eq_getElem hj)
      have hcj : j < (ch i).length := by rw [hlen i hi]; exact hj
      have gc : ((ch i).map V.int)[j]? = some (.int ((ch i).getD j 0)) := by rw [List.getElem?_map, List.getD_eq_getElem?_getD, List.getElem?_eq_getElem hcj]; rfl
      refine ⟨_, rfl, _, rfl, t, _, _, _, rfl, rfl, SqL.of ht, atI_nat hy, _, rfl, r, _, _, _, rfl, rfl, SqL.of hr', atI_nat gc, ?_⟩
      refine ⟨_, rfl, p, C, dx2, _, _, rfl, hp2, Z.cl, Z.nA, flds_alone _ _, _, rfl, a2, _, _, _, rfl, rfl, SqL.of ht3, atI_nat hx, _, rfl, r3, _, _, _, rfl, rfl, SqL.of hr3, atI_nat hy3, ?_⟩
      refine ⟨r4, _, rfl, .inl (SqL.of hr4), rfl, flat_ints _, _, rfl, ?_⟩
      have eA : inV (.int ((ch i).getD j 0)) ((D.al i)[j].map V.int) = decide (okA D ch i j) := by
        rw [inV_int]
        refine decide_eq_decide.mpr ?_
        unfold okA
        rw [List.getD_eq_getElem?_getD (l := D.al i), List.getElem?_eq_getElem hj]
        rfl
      by_cases c : okA D ch i j
      · refine iteF' (by simp only [if_true]; rw [eA, decide_eq_true c]; rfl) ?_
        refine ⟨_, rfl, s2, fun a ha => ?_⟩
        rcases Nat.lt_succ_iff_lt_or_eq.mp ha with h | rfl
        · exact ok2 a h
        · exact c
      · refine iteT' (by simp only [if_true]; rw [eA, decide_eq_false c]; rfl) ?_
        refine ⟨_, rfl, _, rfl, (by show 3 ≤ sizeLine; decide), fun u hu => ?_⟩
        refine q0 (.ref u) _ (s2.trans (same_new hu _)) (.inr ⟨u, i, j, rfl, upd_same, hi, hj, c, fun h' a' hh' ha' e => ?_⟩)
        rcases e with e | ⟨rfl, e⟩
        · exact ok1 h' a' e ha'
        · exact ok2 a' e
    · rintro σ H2 ⟨g2, rfl, s2, ok2⟩
      refine ⟨_, _, rfl, s2, fun h a hh ha => ?_⟩
      rcases Nat.lt_succ_iff_lt_or_eq.mp hh with h' | rfl
      · exact ok1 h a h' ha
      · exact ok2 a ha
  · rintro σ H' ⟨g1, g2, rfl, s1, ok1⟩
    exact q0 .non H' s1 (.inl ⟨rfl, fun h a hh ha => ok1 h a hh ha⟩)
end
end TA

set_option Elab.async false
set_option maxRecDepth 100000
set_option maxHeartbeats 4000000
namespace TA
open PySem L2 PyProof.Rows
set_option linter.unusedVariables false
abbrev EB := IP × List (Int × Int)
/-! a task's text -/
def numS (i : Int) : Str := Str.ofString (toString i)
def dashS (p : Int × Int) : Str := ((Str.empty ++ numS p.1) ++ ("-" : Str)) ++ numS p.2
def rowAW (h a : Nat) (outs : List Int) : List Str := ("alone" : Str) :: numS h :: numS a :: outs.map numS
def rowBW (e : EB) : List Str := ("both" : Str) :: numS e.1.1 :: numS e.1.2 :: e.2.map dashS
def rowsAW (T : TD) (h : Nat) : List (List Str) := (List.range (T.al h).length).map fun a => rowAW h a ((T.al h).getD a [])
def rowsW (T : TD) : List (List Str) := rowsAW T 0 ++ rowsAW T 1 ++ (sb T).map rowBW
def rowS (ws : List Str) : Str := Txt.join " " ws
def textS (T : TD) : Str := Txt.join "\n" ((rowsW T).map rowS)
theorem numS_facts : ∀ k : Nat, k < 64 → (TL.tl (numS (k : Int))).all (fun c => decide (48 ≤ c ∧ c ≤ 57)) = true ∧ 1 ≤ (numS (k : Int)).length ∧ (numS (k : Int)).length ≤ 2 ∧ PySem.intText? (numS (k : Int)) = some (k : Int) := by decide +kernel
theorem okOut_nat {i : Int} (h : okOut i) : ∃ k : Nat, k < 64 ∧ i = (k : Int) := ⟨i.toNat, by have := h.1; have := h.2; omega, by have := h.1; omega⟩
theorem numS_tl {i : Int} (h : okOut i) : ∀ c ∈ TL.tl (numS i), 48 ≤ c ∧ c ≤ 57 := by
  obtain ⟨k, hk, rfl⟩ := okOut_nat h
  intro c hc
  have := List.all_eq_true.mp (numS_facts k hk).1 c hc
  simpa using this
theorem numS_len {i : Int} (h : okOut i) : 1 ≤ (numS i).length ∧ (numS i).length ≤ 2 := by
  obtain ⟨k, hk, rfl⟩ := okOut_nat h
  exact ⟨(numS_facts k hk).2.1, (numS_facts k hk).2.2.1⟩
theorem numS_int {i : Int} (h : okOut i) : PySem.intText? (numS i) = some i := by
  obtain ⟨k, hk, rfl⟩ := okOut_nat h
  exact (numS_facts k hk).2.2.2
theorem tl_empty : TL.tl Str.empty = [] := rfl
theorem dashS_tl (p : Int × Int) : TL.tl (dashS p) = TL.tl (numS p.1) ++ (45 :: TL.tl (numS p.2)) := by
  unfold dashS
  rw [TL.tl_append, TL.tl_append, TL.tl_append, tl_empty, List.nil_append, List.append_assoc]
  rfl
theorem dashS_eq (p : Int × Int) : dashS p = Txt.join "-" [numS p.1, numS p.2] := by
  rw [TL.join_eq]
  refine TL.ext_tl ?_
  rw [dashS_tl, TL.tl_join]
  rfl
theorem joinL_mem {S : List Nat} {c : Nat} : ∀ {ps : List (List Nat)}, c ∈ TL.joinL S ps → c ∈ S ∨ ∃ p ∈ ps, c ∈ p
  | [], h => (nomatch h)
  | [p], h => .inr ⟨p, List.mem_singleton.mpr rfl, h⟩
  | p :: q :: r, h => by
    have h : c ∈ p ++ (S ++ TL.joinL S (q :: r)) := h
    rcases List.mem_append.mp h with h | h
    · exact .inr ⟨p, List.mem_cons_self, h⟩
    rcases List.mem_append.mp h with h | h
    · exact .inl h
    rcases joinL_mem h with h | ⟨p', hp, h⟩
    · exact .inl h
    · exact .inr ⟨p', List.mem_cons_of_mem _ hp, h⟩
theorem joinL_len {S : List Nat} : ∀ (ps : List (List Nat)), (TL.joinL S ps).length ≤ (ps.map (·.length)).sum + ps.length * S.length
  | [] => Nat.zero_le _
  | [p] => by
    show p.length ≤ ([p].map (·.length)).sum + 1 * S.length
    simp
  | p :: q :: r => by
    have h := joinL_len (S := S) (q :: r)
    show (p ++ (S ++ TL.joinL S (q :: r))).length ≤ _
    rw [List.length_append, List.length_append, List.map_cons, List.sum_cons, List.length_cons (a := p), Nat.succ_mul]
    omega
theorem tl_len (x : Str) : (TL.tl x).length = x.length := Array.length_toList
theorem dashS_mem {p : Int × Int} (h1 : okOut p.1) (h2 : okOut p.2) {c : Nat} (h : c ∈ TL.tl (dashS p)) : (48 ≤ c ∧ c ≤ 57) ∨ c = 45 := by
  rw [dashS_tl] at h
  rcases List.mem_append.mp h with h | h
  · exact .inl (numS_tl h1 c h)
  rcases List.mem_cons.mp h with h | h
  · exact .inr h
  · exact .inl (numS_tl h2 c h)
theorem dashS_len {p : Int × Int} (h1 : okOut p.1) (h2 : okOut p.2) : (dashS p).length ≤ 5 := by
  rw [← tl_len, dashS_tl, List.length_append, List.length_cons, tl_len, tl_len]
  have := (numS_len h1).2
  have := (numS_len h2).2
  omega
/-- a word of a row -/
def okWord (x : Str) : Prop := x.length ≤ 5 ∧ ∀ c ∈ TL.tl x, c ≠ 32 ∧ c ≠ 10
theorem okWord_num {i : Int} (h : okOut i) : okWord (numS i) := ⟨by have := (numS_len h).2; omega, fun c hc => by have := numS_tl h c hc; omega⟩
theorem okWord_dash {p : Int × Int} (h1 : okOut p.1) (h2 : okOut p.2) : okWord (dashS p) := ⟨dashS_len h1 h2, fun c hc => by have := dashS_mem h1 h2 hc; omega⟩
theorem okWord_alone : okWord "alone" := ⟨by decide +kernel, by decide +kernel⟩
theorem okWord_both : okWord "both" := ⟨by decide +kernel, by decide +kernel⟩
theorem split_words {ws : List Str} (hne : ws ≠ []) (h : ∀ x ∈ ws, okWord x) : Txt.split (rowS ws) " " = ws :=
  TL.split_join (y := " ") (s := 32) (S := []) (by decide +kernel) (by decide +kernel) hne fun p hp c => ((h p hp).2 32 c).1 rfl
theorem row_tl {ws : List Str} (h : ∀ x ∈ ws, okWord x) {c : Nat} (hc : c ∈ TL.tl (rowS ws)) : c ≠ 10 := by
  unfold rowS at hc
  rw [TL.join_eq, TL.tl_join] at hc
  rcases joinL_mem hc with h1 | ⟨p, hp, h1⟩
  · rw [show TL.tl (" " : Str) = [32] by decide +kernel] at h1
    obtain rfl := List.mem_singleton.mp h1
    decide
  · obtain ⟨x, hx, rfl⟩ := List.mem_map.mp hp
    exact ((h x hx).2 c h1).2
theorem sum_le {l : List Nat} {m : Nat} (h : ∀ x ∈ l, x ≤ m) : l.sum ≤ l.length * m := by
  induction l with
  | nil => exact Nat.zero_le _
  | cons x l ih =>
    rw [List.sum_cons, List.length_cons, Nat.succ_mul]
    have := h x List.mem_cons_self
    have := ih fun y hy => h y (List.mem_cons_of_mem _ hy)
    omega
theorem words_sum {ws : List Str} (h : ∀ x ∈ ws, okWord x) : (ws.map (·.length)).sum + ws.length * (" " : Str).length ≤ ws.length * 6 := by
  have h1 := sum_le (l := ws.map (·.length)) (m := 5) fun x hx => by
    obtain ⟨y, hy, rfl⟩ := List.mem_map.mp hx
    exact (h y hy).1
  rw [List.length_map] at h1
  rw [show (" " : Str).length = 1 by decide +kernel]
  omega
theorem row_len {ws : List Str} (h : ∀ x ∈ ws, okWord x) : (rowS ws).length ≤ ws.length * 6 := by
  rw [← tl_len]
  unfold rowS
  rw [TL.join_eq, TL.tl_join]
  have h1 := joinL_len (S := TL.tl (" " : Str)) (ws.map TL.tl)
  have h2 := words_sum h
  rw [List.map_map, List.length_map] at h1
  have e : (fun x : List Nat => x.length) ∘ TL.tl = fun x : Str => x.length := funext tl_len
  rw [e, show (TL.tl (" " : Str)).length = 1 by decide +kernel] at h1
  rw [show (" " : Str).length = 1 by decide +kernel] at h2
  omega
theorem okA_words {T : TD} (W : WF T) {h a : Nat} (hh : h < 2) (ha : a < (T.al h).length) : (∀ x ∈ rowAW h a ((T.al h).getD a []), okWord x) ∧ (rowAW h a ((T.al h).getD a [])).length ≤ 63 := by
  have hn := (W.n0 h hh).2
  have hr := W.row h hh ((T.al h).getD a []) (by
    rw [List.getD_eq_getElem?_getD, List.getElem?_eq_getElem ha]
    exact List.getElem_mem ha)
  refine ⟨fun x hx => ?_, by unfold rowAW; rw [List.length_cons, List.length_cons, List.length_cons, List.length_map]; have := hr.2.1; omega⟩
  rcases List.mem_cons.mp hx with rfl | hx
  · exact okWord_alone
  rcases List.mem_cons.mp hx with rfl | hx
  · exact okWord_num ⟨by omega, by omega⟩
  rcases List.mem_cons.mp hx with rfl | hx
  · exact okWord_num ⟨by omega, by omega⟩
  · obtain ⟨y, hy, rfl⟩ := List.mem_map.mp hx
    exact okWord_num (hr.2.2.2 y hy)
theorem okB_words {T : TD} (W : WF T) {e : EB} (he : e ∈ T.bo) : (∀ x ∈ rowBW e, okWord x) ∧ (rowBW e).length ≤ 63 := by
  have rg := W.rng e he
  have q0 := (W.n0 0 (by decide)).2
  have q1 := (W.n0 1 (by decide)).2
  have hl := W.lets e he
  refine ⟨fun x hx => ?_, by unfold rowBW; rw [List.length_cons, List.length_cons, List.length_cons, List.length_map]; have := hl.2.1; omega⟩
  rcases List.mem_cons.mp hx with rfl | hx
  · exact okWord_both
  rcases List.mem_cons.mp hx with rfl | hx
  · exact okWord_num ⟨by omega, by omega⟩
  rcases List.mem_cons.mp hx with rfl | hx
  · exact okWord_num ⟨by omega, by omega⟩
  · obtain ⟨y, hy, rfl⟩ := List.mem_map.mp hx
    exact okWord_dash (hl.2.2.2 y hy).1 (hl.2.2.2 y hy).2
theorem rowsW_ok {T : TD} (W : WF T) : ∀ ws ∈ rowsW T, ws ≠ [] ∧ (∀ x ∈ ws, okWord x) ∧ ws.length ≤ 63 := fun ws h => by
  unfold rowsW at h
  have al : ∀ hd, hd < 2 → ws ∈ rowsAW T hd → ws ≠ [] ∧ (∀ x ∈ ws, okWord x) ∧ ws.length ≤ 63 := fun hd hh h => by
    obtain ⟨a, ha, rfl⟩ := List.mem_map.mp h
    exact ⟨fun c => (by cases c), okA_words W hh (List.mem_range.mp ha)⟩
  rcases List.mem_append.mp h with h | h
  · rcases List.mem_append.mp h with h | h
    · exact al 0 (by decide) h
    · exact al 1 (by decide) h
  · obtain ⟨e, he, rfl⟩ := List.mem_map.mp h
    exact ⟨fun c => (by cases c), okB_words W (sb_mem.mp he)⟩
theorem rowsW_len {T : TD} (W : WF T) : 1 ≤ (rowsW T).length ∧ (rowsW T).length ≤ 100 := by
  unfold rowsW rowsAW
  rw [List.length_append, List.length_append, List.length_map, List.length_map, List.length_map, List.length_range, List.length_range, (sb_perm T).length_eq]
  have := W.n0 0 (by decide)
  have := W.n0 1 (by decide)
  have := W.many
  omega
theorem rows_sum {T : TD} (W : WF T) : (((rowsW T).map rowS).map (·.length)).sum + ((rowsW T).map rowS).length * ("\n" : Str).length ≤ 50000 := by
  have h1 := sum_le (l := ((rowsW T).map rowS).map (·.length)) (m := 378) fun x hx => by
    obtain ⟨y, hy, rfl⟩ := List.mem_map.mp hx
    obtain ⟨ws, hw, rfl⟩ := List.mem_map.mp hy
    obtain ⟨_, o, l⟩ := rowsW_ok W ws hw
    exact Nat.le_trans (row_len o) (by omega)
  rw [List.length_map, List.length_map] at h1
  have := (rowsW_len W).2
  rw [List.length_map, show ("\n" : Str).length = 1 by decide +kernel]
  omega
theorem join_len (sep : Str) (ps : List Str) : (Txt.join sep ps).length ≤ (ps.map (·.length)).sum + ps.length * sep.length := by
  rw [← tl_len, TL.join_eq, TL.tl_join]
  have h1 := joinL_len (S := TL.tl sep) (ps.map TL.tl)
  rw [List.map_map, List.length_map] at h1
  have e : (fun x : List Nat => x.length) ∘ TL.tl = fun x : Str => x.length := funext tl_len
  rw [e, tl_len] at h1
  exact h1
theorem text_len {T : TD} (W : WF T) : (textS T).length ≤ 50000 := Nat.le_trans (join_len _ _) (rows_sum W)
theorem split_rows {T : TD} (W : WF T) : Txt.split (textS T) "\n" = (rowsW T).map rowS :=
  TL.split_join (y := "\n") (s := 10) (S := []) (by decide +kernel) (by decide +kernel) (fun c => by
    have := (rowsW_len W).1
    rw [List.map_eq_nil_iff.mp c] at this
    cases this) fun p hp c => by
    obtain ⟨ws, hw, rfl⟩ := List.mem_map.mp hp
    exact row_tl (rowsW_ok W ws hw).2.1 c rfl
theorem split_dash {p : Int × Int} (h1 : okOut p.1) (h2 : okOut p.2) : Txt.split (dashS p) "-" = [numS p.1, numS p.2] := by
  rw [dashS_eq]
  refine TL.split_join (y := "-") (s := 45) (S := []) (by decide +kernel) (by decide +kernel) (fun c => by cases c) fun q hq c => ?_
  rcases List.mem_cons.mp hq with rfl | hq
  · have := numS_tl h1 _ c
    omega
  · obtain rfl := List.mem_singleton.mp hq
    have := numS_tl h2 _ c
    omega
end TA

set_option Elab.async false
set_option maxRecDepth 100000
set_option maxHeartbeats 4000000
namespace TA
open PySem L2 PyProof.Rows StX
set_option linter.unusedVariables false
theorem AlAt.rowAt {H : Hp} {v : V} {al : Nat → List (List Int)} (hA : AlAt H v al) {h a : Nat} (hh : h < 2) (ha : a < (al h).length) : ∃ t x0 x1 r xs r4, v = .ref t ∧ H t = some (.lst [x0, x1]) ∧ ([x0, x1] : List V)[h]? = some (.ref r) ∧ H r = some (.lst xs) ∧ xs[a]? = some (.ref r4) ∧ H r4 = some (.lst (((al h).getD a []).map V.int)) ∧ (al h).getD a [] ∈ al h ∧ xs.length = (al h).length := by
  obtain ⟨t, x0, x1, rfl, ht, hrow⟩ := hA.row
  obtain ⟨x, hx, r, xs, rfl, hr, ha2⟩ := hrow h hh
  have e1 : (al h)[a]? = some ((al h).getD a []) := by
    rw [List.getD_eq_getElem?_getD, List.getElem?_eq_getElem ha]
    rfl
  obtain ⟨y, hy, r4, rfl, hr4⟩ := ha2.at e1
  exact ⟨t, x0, x1, r, xs, r4, rfl, ht, hx, hr, hy, hr4, List.mem_of_getElem? e1, ha2.len⟩
theorem log_ok {i : Int} (h : okOut i) : i.natAbs.log2 < 1920 := by
  obtain ⟨k, hk, rfl⟩ := okOut_nat h
  have all : ∀ k : Nat, k < 64 → ((k : Int).natAbs.log2 < 1920) := by decide +kernel
  exact all k hk
theorem strs_snoc {ws : List Str} {x : Str} : ws.map V.str ++ [V.str x] = (ws ++ [x]).map V.str := by rw [List.map_append]; rfl
theorem take_map {α β : Type} (f : α → β) {l : List α} {i : Nat} {x : α} (h : l[i]? = some x) : (l.map f).take (i + 1) = (l.map f).take i ++ [f x] := by
  rw [List.take_add_one, List.getElem?_map, h]
  rfl
def spAR (K : PySem.W.Frag) (C : Addr) : Sp := fun vs H Q _ => ∃ (p : Addr) (T : TD) (h a : Nat), vs = [.ref p, .int (h : Int), .int (a : Int)] ∧ TaskAt C H p T ∧ WF T ∧ h < 2 ∧ a < (T.al h).length ∧ ∀ H', Same H H' → Q (.str (rowS (rowAW h a ((T.al h).getD a [])))) H'
def spBR (K : PySem.W.Frag) (C : Addr) : Sp := fun vs H Q _ => ∃ (p tt : Addr) (T : TD) (e : EB), vs = [.ref p, .ref tt] ∧ TaskAt C H p T ∧ WF T ∧ e ∈ T.bo ∧ TpAt H (.ref tt) (iI e.1) ∧ ∀ H', Same H H' → Q (.str (rowS (rowBW e))) H'
def spTT (K : PySem.W.Frag) (C : Addr) : Sp := fun vs H Q _ => ∃ (p : Addr) (T : TD), vs = [.ref p] ∧ TaskAt C H p T ∧ WF T ∧ ∀ H', Same H H' → Q (.str (textS T)) H'
section
variable {P : Program} {w : World} {K : PySem.W.Frag} {mg : Str → Option Value} {base : Heap}
abbrev nAR : List Str := ["task", "hand", "at", "words", "output"]
theorem sc_ar : FnScope nAR ["task", "hand", "at"] (defScope s_alone_row) := ⟨rfl, rfl, rfl, by decide +kernel, rfl, by decide +kernel, by decide +kernel⟩
theorem ok_ar {f C : Addr} {fd : FuncData} (F : Fun K "alone_row" "alone_row" s_alone_row f fd) (Ts : mg "str" = none) (Z : TxtC K mg C) : FnOk P w K mg base CX0 1 f fd ["task", "hand", "at"] (spAR K C) := by
  refine F.ok sc_ar (fun vs H Q E h => ?_) (fun cdv A outer s H vs Q E hr h => ?_)
  · obtain ⟨p, D, h, a, rfl, _⟩ := h
    rfl
  obtain ⟨p, D, h, a, rfl, hT, hW, hh, ha, q⟩ := h
  have nd := sc_ar.nd
  refine ⟨_, pss_cons (ps_set (i := 3) nd rfl (Or.inl rfl) (pe_lst (pa_cons pe_str (pa_cons (pe_callTy call_str_int (by rfl) Ts PyProof.Rows.boot_str (pa_cons (pv 1) pa_nil)) (pa_cons (pe_callTy call_str_int (by rfl) Ts PyProof.Rows.boot_str (pa_cons (pv 2) pa_nil))
      (pa_star (pe_lc (own := [("output", 4)]) (g := gName 4) (tt := tYes) (te := tCB (fun xs H Q => ∃ i, xs = [.int i] ∧ i.natAbs.log2 < 1920 ∧ Q (.str (toString i)) H) (tCons (tVar 4) tNil)) rfl nd (pi_list (pe_ix ix_list (pe_ix ix_list (pe_fld (pv 0) rfl) (pv 1) (fun _ _ => rfl)) (pv 2) (fun _ _ => rfl))) (blkOk_by (N := nAR) (sc := defScope s_alone_row) (by decide +kernel)) (fun _ _ _ _ _ => (by exact pg_name (i := 4) nd rfl (Or.inl rfl))) (fun _ _ _ _ _ => pts_nil)
        (fun _ _ _ _ _ => (by exact pe_callTy call_str_int (by rfl) Ts PyProof.Rows.boot_str (pa_cons (pv 4) pa_nil)))) pa_nil))))))
    (pss_one (ps_ret (pe_join pe_str (pv 3)))), ?_⟩
  obtain ⟨dx, aa, d, hp, hA, hB⟩ := hT
  obtain ⟨t, x0, x1, r, xs, r4, e1, ht, hx, hr1, hy, hr4, hmem, _⟩ := hA.rowAt hh ha
  obtain rfl : aa = t := by injection e1
  obtain ⟨okw, okl⟩ := okA_words hW hh ha
  have hn := (hW.n0 h hh).2
  have hrow := hW.row h hh _ hmem
  generalize (D.al h).getD a [] = row at hr4 hrow okw okl q ⊢
  refine ⟨_, rfl, _, rfl, log_ok ⟨by omega, by omega⟩, _, rfl, _, rfl, log_ok ⟨by omega, by omega⟩, ?_⟩
  refine ⟨_, rfl, p, C, dx, _, _, rfl, hp, Z.cl, Z.nA, flds_alone _ _, _, rfl, aa, _, _, _, rfl, rfl, SqL.of ht, atI_nat hx, _, rfl, r, _, _, _, rfl, rfl, SqL.of hr1, atI_nat hy, r4, rfl, ⟨_, SqL.of hr4⟩, fun L hL => ?_⟩
  refine list_turns (xs := row.map V.int) (fun i H' => Same H H' ∧ H' L = some (.lst (((row.map numS).take i).map V.str))) ⟨same_new hL _, upd_same⟩ (fun i H' _ h => SqL.of (h.1 _ _ hr4)) ?_ ?_
  · rintro i x H' hxi ⟨s1, h1⟩
    rw [List.getElem?_map] at hxi
    obtain ⟨o, ho, rfl⟩ := Option.map_eq_some_iff.mp hxi
    refine ⟨rfl, _, rfl, _, rfl, log_ok (hrow.2.2.2 o (List.mem_of_getElem? ho)), _, h1, ?_, same_upd s1 hL, ?_⟩
    · rw [List.length_map]
      refine Nat.lt_of_le_of_lt (List.length_take_le _ _) ?_
      have hi := (List.getElem?_eq_some_iff.mp ho).1
      have := hrow.2.1
      exact Nat.lt_of_lt_of_le (show i < 100 by omega) (by decide)
    · rw [upd_same, take_map numS ho, ← strs_snoc]
      rfl
  rintro H1 ⟨s1, h1⟩
  rw [List.length_map, ← List.length_map (f := numS), List.take_length] at h1
  refine ⟨L, _, rfl, .inr (SqL.of h1), ?_⟩
  refine ⟨?_, fun wl hwl => ?_⟩
  · have : (rowAW h a row).length ≤ 63 := okl
    unfold rowAW at this
    rw [List.length_cons, List.length_cons, List.length_cons] at this
    show (V.str _ :: V.str _ :: V.str _ :: ((row.map numS).map V.str ++ [])).length ≤ sizeLine
    rw [List.append_nil, List.length_cons, List.length_cons, List.length_cons, List.length_map]
    exact Nat.le_trans this (by decide)
  have hwS : (upd H1 wl (.lst (V.str "alone" :: V.str (numS h) :: V.str (numS a) :: ((row.map numS).map V.str ++ [])))) wl = some (.lst ((rowAW h a row).map V.str)) := by
    rw [upd_same, List.append_nil]
    rfl
  have s2 := s1.trans (same_new hwl (.lst (V.str "alone" :: V.str (numS h) :: V.str (numS a) :: ((row.map numS).map V.str ++ []))))
  refine ⟨⟨_, rfl⟩, _, rfl, _, wl, rowAW h a row, rfl, rfl, .inl (SqL.of hwS), ?_, q _ s2⟩
  exact Nat.le_trans (words_sum okw) (by omega)
abbrev nBR : List Str := ["task", "pair", "words", "x", "y"]
theorem sc_br : FnScope nBR ["task", "pair"] (defScope s_both_row) := ⟨rfl, rfl, rfl, by decide +kernel, rfl, by decide +kernel, by decide +kernel⟩
theorem ok_br {f C : Addr} {fd : FuncData} (F : Fun K "both_row" "both_row" s_both_row f fd) (Ts : mg "str" = none) (Z : TxtC K mg C) : FnOk P w K mg base CX0 1 f fd ["task", "pair"] (spBR K C) := by
  refine F.ok sc_br (fun vs H Q E h => ?_) (fun cdv A outer s H vs Q E hr h => ?_)
  · obtain ⟨p, tt, D, e, rfl, _⟩ := h
    rfl
  obtain ⟨p, tt, D, e, rfl, hT, hW, he, htp, q⟩ := h
  have nd := sc_br.nd
  have hu := hu_of hr
  refine ⟨_, (pss_cons (ps_set (i := 2) nd rfl (Or.inl rfl) (pe_lst (pa_cons pe_str (pa_cons (pe_callTy call_str_int (by rfl) Ts PyProof.Rows.boot_str (pa_cons (pe_ix ix_tup (pv 1) pe_int (fun _ _ => rfl)) pa_nil)) (pa_cons (pe_callTy call_str_int (by rfl) Ts PyProof.Rows.boot_str (pa_cons (pe_ix ix_tup (pv 1) pe_int (fun _ _ => rfl)) pa_nil)) (pa_star (pe_lc (own := [("x", 3), ("y", 4)]) (g := (gTup K 2 (gCons (gName 3) (gCons (gName 4) gNil)))) (tt := tYes) (te := (fun σ H Q => tJs [(tFmt (tVar 3)), (tC (.str "-")), (tFmt (tVar 4))] Str.empty σ H fun out H1 => Q (.str out) H1)) rfl nd (pi_list (pe_dget hu (pe_fld (pv 0) rfl) (pv 1) (fun _ _ => rfl))) (blkOk_by (N := nBR) (sc := defScope s_both_row) (by decide +kernel)) (fun _ _ _ _ _ => (by exact (pg_tup (by rfl) (pgs_cons (pg_name (i := 3) nd rfl (Or.inl rfl)) (pgs_cons (pg_name (i := 4) nd rfl (Or.inl rfl)) pgs_nil))))) (fun _ _ _ _ _ => pts_nil) (fun _ _ _ _ _ => (by exact (pe_joined (PJ.cons (pe_fmt (pv 3)) (PJ.cons pe_str (PJ.cons (pe_fmt (pv 4)) PJ.nil))))))) pa_nil))))))
    (pss_one (ps_ret (pe_join pe_str (pv 2))))), ?_⟩
  obtain ⟨dx, aa, d, hp, hA, kvs, hd, hE⟩ := hT
  obtain ⟨t0, e0, ht⟩ := htp
  obtain rfl : tt = t0 := by injection e0
  obtain ⟨v, hv, l, xs, rfl, hl, hx⟩ := val_at hE hW.srt e he
  obtain ⟨okw, okl⟩ := okB_words hW he
  have rg := hW.rng e he
  have q0 := (hW.n0 0 (by decide)).2
  have q1 := (hW.n0 1 (by decide)).2
  have hlet := hW.lets e he
  refine ⟨_, rfl, tt, _, _, _, rfl, rfl, SqT.of ht, (by rfl), _, rfl, log_ok ⟨by show (0:Int) ≤ (e.1.1 : Int); omega, by show (e.1.1 : Int) ≤ 63; omega⟩, _, rfl, tt, _, _, _, rfl, rfl, SqT.of ht, (by rfl), _, rfl, log_ok ⟨by show (0:Int) ≤ (e.1.2 : Int); omega, by show (e.1.2 : Int) ≤ 63; omega⟩, ?_⟩
  refine ⟨_, rfl, p, C, dx, _, _, rfl, hp, Z.cl, Z.nB, flds_both _ _, _, rfl, d, _, rfl, hv ▸ DGet.t (k := kI e.1) hd ht, _, rfl, ⟨_, SqL.of hl⟩, fun L hL => ?_⟩
  refine list_turns (xs := xs) (fun i H' => Same H H' ∧ H' L = some (.lst (((e.2.map dashS).take i).map V.str))) ⟨same_new hL _, upd_same⟩ (fun i H' _ h => SqL.of (h.1 _ _ hl)) ?_ ?_
  · rintro i x H' hxi ⟨s1, h1⟩
    obtain ⟨y, hy, t1, rfl, ht1⟩ := hx.get hxi
    have oy := hlet.2.2.2 y (List.mem_of_getElem? hy)
    have g1 := (numS_len oy.1).2
    have g2 := (numS_len oy.2).2
    have e0 : (Str.empty ++ numS y.1).length ≤ 2 := by rw [← tl_len, TL.tl_append, tl_empty, List.nil_append, tl_len]; exact g1
    have e1 : ((Str.empty ++ numS y.1) ++ ("-" : Str)).length ≤ 3 := by rw [← tl_len, TL.tl_append, List.length_append, tl_len, tl_len, show ("-" : Str).length = 1 by decide +kernel]; omega
    have e2 := dashS_len oy.1 oy.2
    refine ⟨_, _, rfl, SqT.of (s1 _ _ ht1), rfl, _, _, rfl, _, _, rfl, rfl, rfl, ?_⟩
    refine ⟨_, rfl, .inr ⟨_, rfl, log_ok oy.1, _, rfl, Nat.le_trans e0 (by decide), _, rfl, Nat.le_trans e1 (by decide), _, rfl, .inr ⟨_, rfl, log_ok oy.2, _, rfl, Nat.le_trans e2 (by decide), ?_⟩⟩⟩
    refine ⟨_, h1, ?_, same_upd s1 hL, ?_⟩
    · rw [List.length_map]
      refine Nat.lt_of_le_of_lt (List.length_take_le _ _) ?_
      have hi := (List.getElem?_eq_some_iff.mp hy).1
      have := hlet.2.1
      exact Nat.lt_of_lt_of_le (show i < 100 by omega) (by decide)
    · rw [upd_same, take_map dashS hy, ← strs_snoc]
      rfl
  rintro H1 ⟨s1, h1⟩
  rw [show xs.length = (e.2.map dashS).length by rw [List.length_map]; exact hx.len, List.take_length] at h1
  refine ⟨L, _, rfl, .inr (SqL.of h1), ?_⟩
  refine ⟨?_, fun wl hwl => ?_⟩
  · have : (rowBW e).length ≤ 63 := okl
    unfold rowBW at this
    rw [List.length_cons, List.length_cons, List.length_cons] at this
    show (V.str _ :: V.str _ :: V.str _ :: ((e.2.map dashS).map V.str ++ [])).length ≤ sizeLine
    rw [List.append_nil, List.length_cons, List.length_cons, List.length_cons, List.length_map]
    exact Nat.le_trans this (by decide)
  have hwS : (upd H1 wl (.lst (V.str "both" :: V.str (numS e.1.1) :: V.str (numS e.1.2) :: ((e.2.map dashS).map V.str ++ [])))) wl = some (.lst ((rowBW e).map V.str)) := by
    rw [upd_same, List.append_nil]
    rfl
  have s2 := s1.trans (same_new hwl (.lst (V.str "both" :: V.str (numS e.1.1) :: V.str (numS e.1.2) :: ((e.2.map dashS).map V.str ++ []))))
  refine ⟨⟨_, rfl⟩, _, rfl, _, wl, rowBW e, rfl, rfl, .inl (SqL.of hwS), ?_, q _ s2⟩
  exact Nat.le_trans (words_sum okw) (by omega)
def preA (T : TD) (i : Nat) : List Str := (List.range i).flatMap fun h => (rowsAW T h).map rowS
theorem preA_2 (T : TD) : preA T 2 ++ ((sb T).map rowBW).map rowS = (rowsW T).map rowS := by
  unfold preA rowsW
  rw [List.map_append, List.map_append, show List.range 2 = [0, 1] from rfl, List.flatMap_cons, List.flatMap_cons, List.flatMap_nil, List.append_nil]
theorem preA_suc (T : TD) (i : Nat) : preA T (i + 1) = preA T i ++ (rowsAW T i).map rowS := by
  unfold preA
  rw [List.range_succ, List.flatMap_append]
  simp
theorem rowsAW_len (T : TD) (h : Nat) : ((rowsAW T h).map rowS).length = (T.al h).length := by unfold rowsAW; rw [List.length_map, List.length_map, List.length_range]
theorem rowsAW_get (T : TD) {h a : Nat} (ha : a < (T.al h).length) : ((rowsAW T h).map rowS).take (a + 1) = ((rowsAW T h).map rowS).take a ++ [rowS (rowAW h a ((T.al h).getD a []))] := by
  have e : (rowsAW T h)[a]? = some (rowAW h a ((T.al h).getD a [])) := by
    unfold rowsAW
    rw [List.getElem?_map, List.getElem?_range ha]
    rfl
  exact take_map rowS e
theorem preA_len {T : TD} (W : WF T) {i : Nat} (hi : i ≤ 2) : (preA T i).length ≤ 20 * i := by
  have n0 := (W.n0 0 (by decide)).2
  have n1 := (W.n0 1 (by decide)).2
  obtain rfl | rfl | rfl : i = 0 ∨ i = 1 ∨ i = 2 := by omega
  · exact Nat.zero_le _
  · rw [preA_suc, List.length_append, rowsAW_len]
    show 0 + _ ≤ _
    omega
  · rw [preA_suc, preA_suc, List.length_append, List.length_append, rowsAW_len, rowsAW_len]
    show 0 + _ + _ ≤ _
    omega
theorem two_at {i : Nat} {z : V} (h : ([V.int 0, V.int 1] : List V)[i]? = some z) : i < 2 ∧ z = .int (i : Int) := by
  rcases i with _ | _ | i
  · exact ⟨by decide, (Option.some.inj h).symm⟩
  · exact ⟨by decide, (Option.some.inj h).symm⟩
  · cases h
abbrev nTT : List Str := ["task", "rows", "hand", "at", "pair"]
theorem sc_tt : FnScope nTT ["task"] (defScope s_task_text) := ⟨rfl, rfl, rfl, by decide +kernel, rfl, by decide +kernel, by decide +kernel⟩
theorem ok_tt {f g1 g2 g3 g4 C : Addr} {fd d1 d2 d3 d4 : FuncData} (F : Fun K "task_text" "task_text" s_task_text f fd) (T : Txt K mg) (U : TxtH K mg) (Z : TxtC K mg C) (AR : Def P w K mg base "alone_row" ["task", "hand", "at"] 1 (spAR K C) g1 d1) (BR : Def P w K mg base "both_row" ["task", "pair"] 1 (spBR K C) g2 d2)
    (Inp : MDef P w K mg base C "inputs" nInputs 4 (spInputs K C) g3 d3) (Prs : MDef P w K mg base C "pairs" ["self"] 1 (spPairs K C) g4 d4) : FnOk P w K mg base CX0 5 f fd ["task"] (spTT K C) := by
  refine F.ok sc_tt (fun vs H Q E h => ?_) (fun cdv A outer s H vs Q E hr h => ?_)
  · obtain ⟨p, D, rfl, _⟩ := h
    rfl
  obtain ⟨p, D, rfl, hT, hW, q⟩ := h
  have nd := sc_tt.nd
  obtain ⟨hT_, mH, hH⟩ := U.hands
  refine ⟨_, (pss_cons (ps_setLc2 (i := 1) (own := [("hand", 2), ("at", 3)]) (vs1 := [3]) (wi1 := iRng1 (tCons (tMeth C "inputs" (spInputs K C) [] E0 (tVar 0) (tCons (tVar 2) tNil)) tNil)) (tt1 := tYes) (te := (tCall (spAR K C) [] E0 (tCons (tVar 0) (tCons (tVar 2) (tCons (tVar 3) tNil))))) rfl nd rfl rfl (sw_true rfl rfl rfl (by decide +kernel)) (pi_tup (pe_glob (v := .ref hT_) rfl mH rfl)) (blkOk_by (N := nTT) (sc := defScope s_task_text) (by decide +kernel)) (by decide)
      (fun _ _ _ _ _ => pg_name (i := 2) nd rfl (Or.inl rfl)) (fun _ _ _ _ _ => pts_nil) (fun _ _ _ _ _ => (by refine pi_range1 (by rfl) T.range ?_; exact pa_cons (pe_meth (pv 0) Z.cl Inp.M Inp.G (hr.mono (by decide)) Inp.b .nil pass0 (pa_cons (pv 2) pa_nil)) pa_nil)) (fun _ _ _ _ _ => pg_name (i := 3) nd rfl (Or.inl rfl))
      (fun _ _ _ _ _ => pts_nil)
      (fun _ _ _ _ _ => (by exact pe_call AR.G (hr.mono (by decide)) rfl AR.m AR.k AR.b .nil pass0 (pa_cons (pv 0) (pa_cons (pv 2) (pa_cons (pv 3) pa_nil))))))
    (pss_one (ps_ret (pe_join pe_str (pe_op op_cat (pv 1) (pe_lc (own := [("pair", 4)]) (g := (gName 4)) (tt := tYes) (te := (tCall (spBR K C) [] E0 (tCons (tVar 0) (tCons (tVar 4) tNil)))) rfl nd (pi_list (pe_meth0 (pv 0) Z.cl Prs.M Prs.G (hr.mono (by decide)) Prs.b .nil pass0)) (blkOk_by (N := nTT) (sc := defScope s_task_text) (by decide +kernel)) (fun _ _ _ _ _ => (by exact (pg_name (i := 4) nd rfl (Or.inl rfl)))) (fun _ _ _ _ _ => pts_nil) (fun _ _ _ _ _ => (by exact (pe_call BR.G (hr.mono (by decide)) rfl BR.m BR.k BR.b .nil pass0 (pa_cons (pv 0) (pa_cons (pv 4) pa_nil))))))))))), ?_⟩
  refine ⟨hT_, rfl, ⟨_, hH _⟩, fun L hL => ?_⟩
  refine tup_turns (xs := [V.int 0, V.int 1]) (fun i H' => Same H H' ∧ H' L = some (.lst ((preA D i).map V.str))) ⟨same_new hL _, upd_same⟩ (fun i H' _ _ => hH H') ?_ ?_
  · rintro i z H1 hz ⟨s1, h1⟩
    obtain ⟨hi, rfl⟩ := two_at hz
    have hT1 := hT.mono s1
    have n := (hW.n0 i hi).2
    obtain ⟨dx, aa, d, hp, hA, hB⟩ := hT1
    have n1 := (hW.n0 i hi).2
    have n2 := preA_len hW (show i ≤ 2 by omega)
    refine ⟨rfl, _, rfl, p, dx, _, rfl, hp, flds_no _ _ (by decide +kernel) (by decide +kernel), _, rfl, p, i, D, rfl, hi, (TaskAt.r ⟨dx, aa, d, hp, hA, hB⟩), _, rfl, by omega, by omega, ?_⟩
    rw [Int.toNat_natCast]
    refine range_turns (n := (D.al i).length) (fun j H' => Same H H' ∧ H' L = some (.lst ((preA D i ++ ((rowsAW D i).map rowS).take j).map V.str))) ⟨s1, by rw [List.take_zero, List.append_nil]; exact h1⟩ ?_ ?_
    · rintro j H2 hj ⟨s2, h2⟩
      have ej : (0 : Int) + (j : Int) = (j : Int) := by omega
      rw [ej]
      refine ⟨rfl, _, rfl, _, rfl, _, rfl, p, D, i, j, rfl, hT.mono s2, hW, hi, hj, fun H3 s3 => ?_⟩
      refine ⟨_, s3 _ _ h2, ?_, same_upd (s2.trans s3) hL, ?_⟩
      · rw [List.length_map, List.length_append, List.length_take]
        exact Nat.lt_of_le_of_lt (show _ ≤ 100 by omega) (by decide)
      · rw [upd_same, rowsAW_get D hj, ← List.append_assoc, ← strs_snoc]
    · rintro H2 ⟨s2, h2⟩
      refine ⟨s2, ?_⟩
      rw [preA_suc, ← rowsAW_len D i, List.take_length] at *
      exact h2
  rintro H1 ⟨s1, h1⟩
  obtain ⟨dx, aa, d, hp, hA, hB⟩ := hT.mono s1
  refine ⟨⟨_, rfl⟩, _, rfl, _, rfl, p, dx, _, rfl, hp, flds_no _ _ (by decide +kernel) (by decide +kernel), p, D, rfl, ⟨dx, aa, d, hp, hA, hB⟩, hW, fun r xs hr1 hx => ?_⟩
  have s2 := s1.trans (same_new hr1 (.lst xs))
  generalize eH2 : upd H1 r (.lst xs) = H2 at s2
  have hr2 : H2 r = some (.lst xs) := by rw [← eH2]; exact upd_same
  have s12 : Same H1 H2 := by rw [← eH2]; exact same_new hr1 _
  have hx2 := hx.imp fun _ _ t => t.mono (.same s12)
  have h12 := s12 _ _ h1
  refine ⟨r, rfl, ⟨_, SqL.of hr2⟩, fun M hM => ?_⟩
  refine list_turns (xs := xs) (fun i H' => Same H2 H' ∧ H' M = some (.lst (((((sb D).map rowBW).map rowS).take i).map V.str))) ⟨same_new hM _, upd_same⟩ (fun i H' _ h => SqL.of (h.1 _ _ hr2)) ?_ ?_
  · rintro i x H3 hxi ⟨s3, h3⟩
    obtain ⟨y, hy, hty⟩ := hx2.get hxi
    rw [List.getElem?_map] at hy
    obtain ⟨e, he, rfl⟩ := Option.map_eq_some_iff.mp hy
    obtain ⟨tt, rfl, htt⟩ := hty
    refine ⟨rfl, _, rfl, _, rfl, p, tt, D, e, rfl, hT.mono (s2.trans s3), hW, sb_mem.mp (List.mem_of_getElem? he), ⟨tt, rfl, s3 _ _ htt⟩, fun H4 s4 => ?_⟩
    refine ⟨_, s4 _ _ h3, ?_, same_upd (s3.trans s4) hM, ?_⟩
    · rw [List.length_map]
      have hi := (List.getElem?_eq_some_iff.mp he).1
      have := (sb_perm D).length_eq
      have := hW.many
      exact Nat.lt_of_le_of_lt (List.length_take_le _ _) (Nat.lt_of_lt_of_le (show i < 100 by omega) (by decide))
    · have e1 : ((sb D).map rowBW)[i]? = some (rowBW e) := by rw [List.getElem?_map, he]; rfl
      rw [upd_same, take_map rowS e1, ← strs_snoc]
  rintro H3 ⟨s3, h3⟩
  have el : xs.length = (((sb D).map rowBW).map rowS).length := by rw [hx2.len, List.length_map, List.length_map, List.length_map]
  rw [el, List.take_length] at h3
  have ew := congrArg List.length (preA_2 D)
  rw [List.length_append, List.length_map (as := rowsW D)] at ew
  have lw := (rowsW_len hW).2
  refine ⟨L, M, _, _, rfl, rfl, s3 _ _ h12, h3, ?_, fun N hN => ?_⟩
  · rw [List.length_map, List.length_map]
    show (preA D 2).length + _ ≤ _
    exact Nat.le_trans (show _ ≤ 100 by omega) (by decide)
  have hN1 : (upd H3 N (.lst ((preA D 2).map V.str ++ (((sb D).map rowBW).map rowS).map V.str))) N = some (.lst (((rowsW D).map rowS).map V.str)) := by
    rw [upd_same, ← List.map_append, preA_2]
  refine ⟨_, N, (rowsW D).map rowS, rfl, rfl, .inl (SqL.of hN1), Nat.le_trans (rows_sum hW) (by decide), q _ ?_⟩
  exact (s2.trans s3).trans (same_new hN _)
end
end TA

set_option Elab.async false
set_option maxRecDepth 100000
set_option maxHeartbeats 4000000
namespace TA
open PySem L2 PyProof.Rows StX
set_option linter.unusedVariables false
/-- a number that is written by figures -/
def spNum (K : PySem.W.Frag) : Sp := fun vs H Q _ => ∃ i : Int, vs = [.str (numS i)] ∧ okOut i ∧ ∀ H', Same H H' → Q (.int i) H'
/-- numbers that are -/
def spNums (K : PySem.W.Frag) : Sp := fun vs H Q _ => ∃ (wp : Addr) (ns : List Int), vs = [.ref wp, .int (ns.length : Int)] ∧ SqL K H wp ((ns.map numS).map V.str) ∧ (∀ i ∈ ns, okOut i) ∧ ns.length ≤ 100 ∧ ∀ r H', Same H H' → H r = none → H' r = some (.lst (ns.map V.int)) → Q (.ref r) H'
theorem str_turns {z : Str} {H0 : Hp} {Qd : Hp → Prop} {B : (Hp → Prop) → V → Hp → Prop} (Pv : Nat → Hp → Prop) (start : Pv 0 H0)
    (turn : ∀ i c H, (TL.tl z)[i]? = some c → Pv i H → B (Pv (i + 1)) (.str ⟨#[c]⟩) H) (last : ∀ H, Pv (TL.tl z).length H → Qd H) :
    ∃ W : Nat → Nat → Hp → Prop, (∃ m, W 0 m H0) ∧ ∀ i m H, W i m H →
      ((Its z).stop i H ∧ Qd H) ∨ ((Its z).go i H ∧ ∃ Nx : Hp → Prop, (∀ H', Nx H' → ∃ m', m' < m ∧ W (i + 1) m' H') ∧ ∀ x H', (Its z).yld i H x H' → B Nx x H') :=
  turns (TL.tl z).length Pv start (fun H w => ⟨by show z.cps.size ≤ _; rw [← Array.length_toList]; exact Nat.le_refl _, last H w⟩) fun i H hi w =>
    ⟨by show i < z.cps.size; rw [← Array.length_toList]; exact hi, fun x H' ⟨same, c, hc, hx⟩ => by
      rw [same, hx]
      exact turn i c H (by show z.cps.toList[i]? = some c; rw [Array.getElem?_toList]; exact hc) w⟩
theorem bl_all {n : Nat} : (List.replicate n true).all id = true := by
  rw [List.all_eq_true]
  intro b hb
  exact List.eq_of_mem_replicate hb
theorem fig_mem {c : Nat} (h : 48 ≤ c ∧ c ≤ 57) : c ∈ ("0123456789" : Str).cps.toList := by
  have all : ∀ k : Nat, k < 10 → 48 + k ∈ ("0123456789" : Str).cps.toList := by decide +kernel
  have := all (c - 48) (by omega)
  rwa [show 48 + (c - 48) = c by omega] at this
section
variable {P : Program} {w : World} {K : PySem.W.Frag} {mg : Str → Option Value} {base : Heap}
abbrev nNU : List Str := ["word", "sign"]
theorem sc_num : FnScope nNU ["word"] (defScope s_number) := ⟨rfl, rfl, rfl, by decide +kernel, rfl, by decide +kernel, by decide +kernel⟩
theorem ok_num {f : Addr} {fd : FuncData} {t9 tF : Tok} (F : Fun K "number" "number" s_number f fd) (T : Txt K mg) (m9 : mg "MOST_FIGURES" = some (.int 9 t9)) (mFg : mg "FIGURES" = some (.str "0123456789" tF)) : FnOk P w K mg base CX0 1 f fd ["word"] (spNum K) := by
  refine F.ok sc_num (fun vs H Q E h => ?_) (fun cdv A outer s H vs Q E hr h => ?_)
  · obtain ⟨i, rfl, _⟩ := h
    rfl
  obtain ⟨i, rfl, oi, q⟩ := h
  have nd := sc_num.nd
  refine ⟨_, (pss_cons (ps_if (PW.pt (pw_or (pt_not (pt_chain op_lt op_le pe_int (pe_callB call_len_str (by rfl) T.len PySem.boot_len (pa_cons (pv 0) pa_nil)) (pe_glob (v := .int 9) rfl m9 ⟨_, rfl⟩))) (pw_or1 (pt_not (pt_val (pe_callB (cr_all rfl) (by rfl) T.all (by decide +kernel) (pa_cons (pe_lc (own := [("sign", 1)]) (g := (gName 1)) (tt := tYes) (te := (tOp (fun x y H Q => ∃ (c : Nat) (z : Str), x = .str ⟨#[c]⟩ ∧ y = .str z ∧ Q (.bl (decide (c ∈ z.cps.toList))) H) (tVar 1) (tC (.str "0123456789")))) rfl nd (pi_str (pv 0)) (blkOk_by (N := nNU) (sc := defScope s_number) (by decide +kernel)) (fun _ _ _ _ _ => (by exact (pg_name (i := 1) nd rfl (Or.inl rfl)))) (fun _ _ _ _ _ => pts_nil) (fun _ _ _ _ _ => (by exact (pe_cmpR op_in_sign (pv 1) (pe_glob (v := .str "0123456789") rfl mFg ⟨_, rfl⟩) (by rfl))))) pa_nil)))))))
      pss_never
      pss_nil)
    (pss_one (ps_ret (pe_callTy call_int_str (by rfl) T.int boot_int (pa_cons (pv 0) pa_nil))))), ?_⟩
  have l1 := (numS_len oi).1
  have l2 := (numS_len oi).2
  have tl2 := (numS_tl oi)
  refine ⟨_, rfl, _, rfl, Nat.le_trans l2 (by decide), _, _, rfl, rfl, true, congrArg V.bl (decide_eq_true (show (0 : Int) < ((numS i).length : Int) by omega)), iteT ?_⟩
  refine ⟨_, _, rfl, rfl, true, congrArg V.bl (decide_eq_true (show ((numS i).length : Int) ≤ 9 by omega)), iteF ?_⟩
  refine ⟨_, rfl, _, rfl, fun L hL => ?_⟩
  refine str_turns (fun k H' => Same H H' ∧ H' L = some (.lst ((List.replicate k true).map V.bl))) ⟨same_new hL _, upd_same⟩ ?_ ?_
  · rintro k c H' hc ⟨s1, h1⟩
    have hc2 := numS_tl oi c (List.mem_of_getElem? hc)
    have hk := (List.getElem?_eq_some_iff.mp hc).1
    rw [tl_len] at hk
    refine ⟨rfl, _, rfl, _, _, rfl, rfl, _, h1, ?_, same_upd s1 hL, ?_⟩
    · rw [List.length_map, List.length_replicate]
      exact Nat.lt_of_lt_of_le (show k < 100 by omega) (by decide)
    · rw [upd_same, decide_eq_true (fig_mem hc2), List.replicate_succ', List.map_append]
      rfl
  rintro H1 ⟨s1, h1⟩
  refine ⟨L, _, rfl, SqL.of h1, _, rfl, ?_⟩
  rw [bl_all]
  refine iteF ?_
  exact ⟨_, rfl, _, _, rfl, numS_int oi, by omega, q _ s1⟩
abbrev nNS : List Str := ["words", "many", "word"]
theorem sc_nums : FnScope nNS ["words", "many"] (defScope s_numbers) := ⟨rfl, rfl, rfl, by decide +kernel, rfl, by decide +kernel, by decide +kernel⟩
theorem ok_nums {f g : Addr} {fd gd : FuncData} (F : Fun K "numbers" "numbers" s_numbers f fd) (T : Txt K mg) (NU : Def P w K mg base "number" ["word"] 1 (spNum K) g gd) : FnOk P w K mg base CX0 2 f fd ["words", "many"] (spNums K) := by
  refine F.ok sc_nums (fun vs H Q E h => ?_) (fun cdv A outer s H vs Q E hr h => ?_)
  · obtain ⟨wp, ns, rfl, _⟩ := h
    rfl
  obtain ⟨wp, ns, rfl, hwp, ons, hl, q⟩ := h
  have nd := sc_nums.nd
  refine ⟨_, (pss_cons (ps_if (pt_cmpR op_ne (pe_callB call_len_seq (by rfl) T.len PySem.boot_len (pa_cons (pv 0) pa_nil)) (pv 1) (nomark _))
      pss_never
      pss_nil)
    (pss_one (ps_ret (pe_lc (own := [("word", 2)]) (g := (gName 2)) (tt := tYes) (te := (tCall (spNum K) [] E0 (tCons (tVar 2) tNil))) rfl nd (pi_list (pv 0)) (blkOk_by (N := nNS) (sc := defScope s_numbers) (by decide +kernel)) (fun _ _ _ _ _ => (by exact (pg_name (i := 2) nd rfl (Or.inl rfl)))) (fun _ _ _ _ _ => pts_nil) (fun _ _ _ _ _ => (by exact (pe_call NU.G (hr.mono (by decide)) rfl NU.m NU.k NU.b .nil pass0 (pa_cons (pv 2) pa_nil)))))))), ?_⟩
  refine ⟨_, rfl, wp, _, rfl, .inl hwp, _, rfl, rfl, ?_⟩
  rw [List.length_map, List.length_map]
  refine ⟨false, congrArg V.bl (show (!decide (V.int (ns.length : Int) = V.int (ns.length : Int))) = false by rw [decide_eq_true rfl]; rfl), iteF ?_⟩
  refine ⟨_, rfl, wp, rfl, ⟨_, hwp⟩, fun L hL => ?_⟩
  refine list_turns (xs := (ns.map numS).map V.str) (fun i H' => Same H H' ∧ H' L = some (.lst ((ns.take i).map V.int))) ⟨same_new hL _, upd_same⟩ (fun i H' _ h => h.1.seq hwp) ?_ ?_
  · rintro i x H' hx ⟨s1, h1⟩
    rw [List.getElem?_map, List.getElem?_map, Option.map_map] at hx
    obtain ⟨n, hn, rfl⟩ := Option.map_eq_some_iff.mp hx
    refine ⟨rfl, _, rfl, n, rfl, ons n (List.mem_of_getElem? hn), fun H2 s2 => ?_⟩
    refine ⟨_, s2 _ _ h1, ?_, same_upd (s1.trans s2) hL, ?_⟩
    · rw [List.length_map]
      have hi := (List.getElem?_eq_some_iff.mp hn).1
      exact Nat.lt_of_le_of_lt (List.length_take_le _ _) (Nat.lt_of_lt_of_le (show i < 100 by omega) (by decide))
    · rw [upd_same, take_get hn, List.map_append]
      rfl
  rintro H1 ⟨s1, h1⟩
  rw [List.length_map, List.length_map, List.take_length] at h1
  exact q L H1 s1 hL h1
theorem cut_take {xs : List V} {k : Nat} (h : k ≤ xs.length) : cutV xs none (some (k : Int)) = xs.take k := by
  unfold cutV
  rw [HT.sIx_none, HT.sIx_nat, Nat.min_eq_left h]
  rfl
theorem cut_drop {xs : List V} {k : Nat} (h : k ≤ xs.length) : cutV xs (some (k : Int)) none = xs.drop k := by
  unfold cutV
  rw [HT.sIx_nat, HT.sIx_none, Nat.min_eq_left h]
  exact List.take_of_length_le (by rw [List.length_drop]; exact Nat.le_refl _)
/-- the row of one hand's input that is read -/
def spRA (K : PySem.W.Frag) : Sp := fun vs H Q _ => ∃ (ap wp : Addr) (x0 x1 : V) (h a : Nat) (outs : List Int) (r : Addr) (rs : List V), vs = [.ref ap, .ref wp] ∧ SqL K H ap [x0, x1] ∧ SqL K H wp ((numS (h : Int) :: numS (a : Int) :: outs.map numS).map V.str) ∧ h < 2 ∧ a < 60 ∧ (∀ o ∈ outs, okOut o) ∧ outs.length ≤ 90 ∧
  ([x0, x1] : List V)[h]? = some (.ref r) ∧ H r = some (.lst rs) ∧ rs.length ≤ 100 ∧ ∀ l H1, Same H H1 → H l = none → H1 l = some (.lst (outs.map V.int)) → Q .non (upd H1 r (.lst (rs ++ [.ref l])))
abbrev nRA : List Str := ["alone", "words", "hand", "word"]
theorem sc_ra : FnScope nRA ["alone", "words"] (defScope s_read_alone) := ⟨rfl, rfl, rfl, by decide +kernel, rfl, by decide +kernel, by decide +kernel⟩
theorem ok_ra {f g1 g2 : Addr} {fd d1 d2 : FuncData} (F : Fun K "read_alone" "read_alone" s_read_alone f fd) (T : Txt K mg) (U : TxtH K mg) (NU : Def P w K mg base "number" ["word"] 1 (spNum K) g1 d1) (NS : Def P w K mg base "numbers" ["words", "many"] 2 (spNums K) g2 d2) : FnOk P w K mg base CX0 3 f fd ["alone", "words"] (spRA K) := by
  refine F.ok sc_ra (fun vs H Q E h => ?_) (fun cdv A outer s H vs Q E hr h => ?_)
  · obtain ⟨ap, wp, x0, x1, h, a, outs, r, rs, rfl, _⟩ := h
    rfl
  obtain ⟨ap, wp, x0, x1, h, a, outs, r, rs, rfl, hap, hwp, hh, ha, oo, ol, hx, hr1, rl, q⟩ := h
  have nd := sc_ra.nd
  obtain ⟨hT, mH, hH⟩ := U.hands
  refine ⟨_, (pss_cons (ps_set (i := 2) nd rfl (Or.inl rfl) (pe_ix ix_list (pe_call NS.G (hr.mono (by decide)) rfl NS.m NS.k NS.b .nil pass0 (pa_cons (pe_slice sl_list (pv 1) po_none (po_some pe_int)) (pa_cons pe_int pa_nil))) pe_int (fun _ _ => rfl)))
    (pss_cons (ps_if (pt_cmpR op_notIn_seq (pv 2) (pe_glob (v := .ref hT) rfl mH rfl) (by rfl))
      pss_never
      pss_nil)
    (pss_one (ps_expr (pe_bm PySem.F.plainAttrs_list PySem.F.slot_list_append PySem.F.type_list_append mt_append (pe_ix ix_list (pv 0) (pv 2) (fun _ _ => rfl)) (pa_cons (pe_lc (own := [("word", 3)]) (g := (gName 3)) (tt := tYes) (te := (tCall (spNum K) [] E0 (tCons (tVar 3) tNil))) rfl nd (pi_list (pe_slice sl_list (pv 1) (po_some pe_int) po_none)) (blkOk_by (N := nRA) (sc := defScope s_read_alone) (by decide +kernel)) (fun _ _ _ _ _ => (by exact (pg_name (i := 3) nd rfl (Or.inl rfl)))) (fun _ _ _ _ _ => pts_nil) (fun _ _ _ _ _ => (by exact (pe_call NU.G (hr.mono (by decide)) rfl NU.m NU.k NU.b .nil pass0 (pa_cons (pv 3) pa_nil))))) pa_nil)))))), ?_⟩
  have oh : okOut (h : Int) := ⟨by omega, by omega⟩
  have oa : okOut (a : Int) := ⟨by omega, by omega⟩
  refine ⟨_, rfl, _, rfl, wp, _, rfl, hwp, fun p hp => ?_⟩
  have ec : cutV ((numS (h : Int) :: numS (a : Int) :: outs.map numS).map V.str) none (some 2) = ([(h : Int), (a : Int)].map numS).map V.str := by
    rw [show (2 : Int) = ((2 : Nat) : Int) from rfl, cut_take (by simp)]
    rfl
  rw [ec]
  have s1 := same_new hp (.lst (([(h : Int), (a : Int)].map numS).map V.str))
  refine ⟨p, [(h : Int), (a : Int)], rfl, SqL.of upd_same, fun i hi => ?_, (by show 2 ≤ 100; decide), fun p2 H2 s2 hp2 h2 => ?_⟩
  · rcases List.mem_cons.mp hi with rfl | hi
    · exact oh
    · obtain rfl := List.mem_singleton.mp hi
      exact oa
  have s12 := s1.trans s2
  refine ⟨p2, _, _, .int (h : Int), rfl, rfl, SqL.of h2, (by show atI _ ((0 : Nat) : Int) = _; exact atI_nat rfl), ?_⟩
  have hin : inV (.int (h : Int)) [.int 0, .int 1] = true := by
    obtain rfl | rfl : h = 0 ∨ h = 1 := by omega
    · rfl
    · rfl
  refine ⟨_, rfl, hT, _, rfl, .inr (hH _), rfl, rfl, false, by rw [if_pos rfl, hin]; rfl, iteF ?_⟩
  have hap2 := s12.seq hap
  have hwp2 := s12.seq hwp
  refine ⟨_, rfl, _, rfl, ap, _, _, .ref r, rfl, rfl, hap2, atI_nat hx, .inl ⟨rfl, _, SqL.of (s12 _ _ hr1)⟩, ?_⟩
  have ed : cutV ((numS (h : Int) :: numS (a : Int) :: outs.map numS).map V.str) (some 2) none = (outs.map numS).map V.str := by
    rw [show (2 : Int) = ((2 : Nat) : Int) from rfl, cut_drop (by simp)]
    rfl
  refine ⟨_, rfl, _, rfl, wp, _, rfl, hwp2, fun p3 hp3 => ?_⟩
  rw [ed]
  have s3 := same_new hp3 (.lst ((outs.map numS).map V.str))
  refine ⟨p3, rfl, ⟨_, SqL.of upd_same⟩, fun L hL => ?_⟩
  generalize eH3 : upd H2 p3 (.lst ((outs.map numS).map V.str)) = H3 at s3 hL ⊢
  have h3 : H3 p3 = some (.lst ((outs.map numS).map V.str)) := by rw [← eH3]; exact upd_same
  have s13 := s12.trans s3
  refine list_turns (xs := (outs.map numS).map V.str) (fun i H' => Same H3 H' ∧ H' L = some (.lst ((outs.take i).map V.int))) ⟨same_new hL _, upd_same⟩ (fun i H' _ h => SqL.of (h.1 _ _ h3)) ?_ ?_
  · rintro i x H' hx ⟨s4, h4⟩
    rw [List.getElem?_map, List.getElem?_map, Option.map_map] at hx
    obtain ⟨n, hn, rfl⟩ := Option.map_eq_some_iff.mp hx
    refine ⟨rfl, _, rfl, n, rfl, oo n (List.mem_of_getElem? hn), fun H2 s2 => ?_⟩
    refine ⟨_, s2 _ _ h4, ?_, same_upd (s4.trans s2) hL, ?_⟩
    · rw [List.length_map]
      have hi := (List.getElem?_eq_some_iff.mp hn).1
      exact Nat.lt_of_le_of_lt (List.length_take_le _ _) (Nat.lt_of_lt_of_le (show i < 100 by omega) (by decide))
    · rw [upd_same, take_get hn, List.map_append]
      rfl
  rintro H4 ⟨s4, h4⟩
  rw [List.length_map, List.length_map, List.take_length] at h4
  refine ⟨r, rs, .ref L, rfl, rfl, (s13.trans s4) _ _ hr1, Nat.lt_of_le_of_lt rl (by decide), ?_⟩
  exact q L H4 (s13.trans s4) (none_of_same s13 hL) h4
end
end TA

set_option Elab.async false
set_option maxRecDepth 100000
set_option maxHeartbeats 4000000
namespace TA
open PySem L2 PyProof.Rows StX
set_option linter.unusedVariables false
/-- the row of a pair that is read -/
def spRB (K : PySem.W.Frag) : Sp := fun vs H Q _ => ∃ (d wp : Addr) (kvs : List (List Key × V)) (e : EB), vs = [.ref d, .ref wp] ∧ H d = some (.dT kvs) ∧ kvs.length ≤ 100 ∧ SqL K H wp ((numS (e.1.1 : Int) :: numS (e.1.2 : Int) :: e.2.map dashS).map V.str) ∧ e.1.1 < 60 ∧ e.1.2 < 60 ∧ (∀ o ∈ e.2, okOut o.1 ∧ okOut o.2) ∧ e.2.length ≤ 90 ∧
  ∀ l H1, Same H H1 → H l = none → LetAt H1 (.ref l) e.2 → Q .non (upd H1 d (.dT (putK kvs (kI e.1) (.ref l))))
theorem tp_upd {H : Hp} {L : Addr} {ys : List V} {o : HO} (h : H L = some (.lst ys)) {v : V} {p : Int × Int} (t : TpAt H v p) : TpAt (upd H L o) v p := by
  obtain ⟨a, rfl, ha⟩ := t
  exact ⟨a, rfl, by rw [upd_ne (fun c => by subst c; rw [ha] at h; cases h)]; exact ha⟩
section
variable {P : Program} {w : World} {K : PySem.W.Frag} {mg : Str → Option Value} {base : Heap}
abbrev nRB : List Str := ["both", "words", "pair", "word"]
theorem sc_rb : FnScope nRB ["both", "words"] (defScope s_read_both) := ⟨rfl, rfl, rfl, by decide +kernel, rfl, by decide +kernel, by decide +kernel⟩
theorem ok_rb {f g2 : Addr} {fd d2 : FuncData} (F : Fun K "read_both" "read_both" s_read_both f fd) (T : Txt K mg) (NS : Def P w K mg base "numbers" ["words", "many"] 2 (spNums K) g2 d2) : FnOk P w K mg base CX0 3 f fd ["both", "words"] (spRB K) := by
  refine F.ok sc_rb (fun vs H Q E h => ?_) (fun cdv A outer s H vs Q E hr h => ?_)
  · obtain ⟨d, wp, kvs, e, rfl, _⟩ := h
    rfl
  obtain ⟨d, wp, kvs, e, rfl, hd, kl, hwp, h0, h1, oo, ol, q⟩ := h
  have nd := sc_rb.nd
  have hu := hu_of hr
  refine ⟨_, (pss_cons (ps_set (i := 2) nd rfl (Or.inl rfl) (pe_callTy call_tuple_of (by rfl) T.tuple boot_tuple (pa_cons (pe_call NS.G (hr.mono (by decide)) rfl NS.m NS.k NS.b .nil pass0 (pa_cons (pe_slice sl_list (pv 1) po_none (po_some pe_int)) (pa_cons pe_int pa_nil))) pa_nil)))
    (pss_one (ps_dput hu (pv 0) (pv 2) (pe_lc (own := [("word", 3)]) (g := (gName 3)) (tt := tYes) (te := (tCB (fun xs H Q => ∃ p ys, xs = [.ref p] ∧ ((SqL K H p ys ∧ ∀ l, H l = none → Q (.ref l) (upd H l (.tup ys))) ∨ (SqT K H p ys ∧ Q (.ref p) H))) (tCons (tCall (spNums K) [] E0 (tCons (tM1 (fun x xs H Q => ∃ a b, x = .str a ∧ xs = [.str b] ∧ (b.length == 0) = false ∧ a.length + 2 ≤ sizeLine ∧ rNewStrs (Txt.split a b) H Q) (tVar 3) (tC (.str "-"))) (tCons (tC (.int 2)) tNil))) tNil))) rfl nd (pi_list (pe_slice sl_list (pv 1) (po_some pe_int) po_none)) (blkOk_by (N := nRB) (sc := defScope s_read_both) (by decide +kernel)) (fun _ _ _ _ _ => (by exact (pg_name (i := 3) nd rfl (Or.inl rfl)))) (fun _ _ _ _ _ => pts_nil) (fun _ _ _ _ _ => (by exact (pe_callTy call_tuple_of (by rfl) T.tuple boot_tuple (pa_cons (pe_call NS.G (hr.mono (by decide)) rfl NS.m NS.k NS.b .nil pass0 (pa_cons (pe_split (pv 3) pe_str) (pa_cons pe_int pa_nil))) pa_nil))))) rfl))), ?_⟩
  have oh : okOut (e.1.1 : Int) := ⟨by omega, by omega⟩
  have oa : okOut (e.1.2 : Int) := ⟨by omega, by omega⟩
  refine ⟨_, rfl, _, rfl, wp, _, rfl, hwp, fun p hp => ?_⟩
  have ec : cutV ((numS (e.1.1 : Int) :: numS (e.1.2 : Int) :: e.2.map dashS).map V.str) none (some 2) = ([(e.1.1 : Int), (e.1.2 : Int)].map numS).map V.str := by
    rw [show (2 : Int) = ((2 : Nat) : Int) from rfl, cut_take (by simp)]
    rfl
  rw [ec]
  have s1 := same_new hp (.lst (([(e.1.1 : Int), (e.1.2 : Int)].map numS).map V.str))
  refine ⟨p, [(e.1.1 : Int), (e.1.2 : Int)], rfl, SqL.of upd_same, fun i hi => ?_, (by show 2 ≤ 100; decide), fun p2 H2 s2 hp2 h2 => ?_⟩
  · rcases List.mem_cons.mp hi with rfl | hi
    · exact oh
    · obtain rfl := List.mem_singleton.mp hi
      exact oa
  have s12 := s1.trans s2
  refine ⟨p2, _, rfl, .inl ⟨SqL.of h2, fun kt hkt => ?_⟩⟩
  have s3 := s12.trans (same_new hkt (.tup ([(e.1.1 : Int), (e.1.2 : Int)].map V.int)))
  have ed : cutV ((numS (e.1.1 : Int) :: numS (e.1.2 : Int) :: e.2.map dashS).map V.str) (some 2) none = (e.2.map dashS).map V.str := by
    rw [show (2 : Int) = ((2 : Nat) : Int) from rfl, cut_drop (by simp)]
    rfl
  have hkt2 : (upd H2 kt (.tup ([(e.1.1 : Int), (e.1.2 : Int)].map V.int))) kt = some (.tup [.int (e.1.1 : Int), .int (e.1.2 : Int)]) := upd_same
  have htk := none_of_same s12 hkt
  have hwp3 := s3.seq hwp
  generalize upd H2 kt (.tup ([(e.1.1 : Int), (e.1.2 : Int)].map V.int)) = H3 at s3 hkt2 hwp3 ⊢
  refine ⟨_, rfl, _, rfl, wp, _, rfl, hwp3, fun p3 hp3 => ?_⟩
  rw [ed]
  have s4 := s3.trans (same_new hp3 (.lst ((e.2.map dashS).map V.str)))
  have hkt3 := (same_new hp3 (.lst ((e.2.map dashS).map V.str))) _ _ hkt2
  have h4 : (upd H3 p3 (.lst ((e.2.map dashS).map V.str))) p3 = some (.lst ((e.2.map dashS).map V.str)) := upd_same
  generalize upd H3 p3 (.lst ((e.2.map dashS).map V.str)) = H4 at s4 h4 hkt3 ⊢
  refine ⟨p3, rfl, ⟨_, SqL.of h4⟩, fun L hL => ?_⟩
  refine list_turns (xs := (e.2.map dashS).map V.str) (fun i H' => Same H4 H' ∧ ∃ ys, H' L = some (.lst ys) ∧ A2 (TpAt H') ys (e.2.take i)) ⟨same_new hL _, [], upd_same, .nil⟩ (fun i H' _ h => SqL.of (h.1 _ _ h4)) ?_ ?_
  · rintro i x H' hx ⟨s5, ys, h5, ay⟩
    rw [List.getElem?_map, List.getElem?_map, Option.map_map] at hx
    obtain ⟨o, ho, rfl⟩ := Option.map_eq_some_iff.mp hx
    have oy := oo o (List.mem_of_getElem? ho)
    refine ⟨rfl, _, rfl, ⟨_, rfl⟩, _, _, rfl, rfl, by decide +kernel, ?_, fun q1 hq1 => ?_⟩
    · have := dashS_len oy.1 oy.2
      exact Nat.le_trans (show _ ≤ 100 by omega) (by decide)
    rw [split_dash oy.1 oy.2]
    refine ⟨q1, [o.1, o.2], rfl, SqL.of upd_same, fun i hi => ?_, (by show 2 ≤ 100; decide), fun q2 H6 s6 hq2 h6 => ?_⟩
    · rcases List.mem_cons.mp hi with rfl | hi
      · exact oy.1
      · obtain rfl := List.mem_singleton.mp hi
        exact oy.2
    refine ⟨q2, _, rfl, .inl ⟨SqL.of h6, fun kt2 hkt2' => ?_⟩⟩
    have s7 := ((same_new hq1 _).trans s6).trans (same_new hkt2' (.tup ([o.1, o.2].map V.int)))
    refine ⟨ys, s7 _ _ h5, ?_, same_upd (s5.trans s7) hL, ys ++ [.ref kt2], upd_same, ?_⟩
    · have hi := (List.getElem?_eq_some_iff.mp ho).1
      have := ay.len
      rw [List.length_take] at this
      exact Nat.lt_of_lt_of_le (show ys.length < 100 by omega) (by decide)
    · rw [take_get ho]
      exact A2.snoc (ay.imp fun _ _ r => tp_upd (s7 _ _ h5) (r.mono (.same s7))) (tp_upd (s7 _ _ h5) ⟨kt2, rfl, upd_same⟩)
  rintro H5 ⟨s5, ys, h5, ay⟩
  rw [List.length_map, List.length_map, List.take_length] at ay
  have s45 := s4.trans s5
  exact ⟨_, rfl, _, rfl, d, _, rfl, DPut.t (k := kI e.1) (s45 _ _ hd) (s5 _ _ hkt3) (Nat.lt_of_le_of_lt kl (by decide)), q L H5 s45 (none_of_same s4 hL) ⟨L, ys, rfl, h5, ay⟩⟩
end
end TA

set_option Elab.async false
set_option maxRecDepth 100000
set_option maxHeartbeats 4000000
namespace TA
open PySem L2 PyProof.Rows StX
set_option linter.unusedVariables false
/-- a row -/
inductive Rw where
  | al (h a : Nat) (outs : List Int)
  | bo (e : EB)
def Rw.ws : Rw → List Str
  | .al h a o => rowAW h a o
  | .bo e => rowBW e
def rws (T : TD) : List Rw := (List.range (T.al 0).length).map (fun a => Rw.al 0 a ((T.al 0).getD a [])) ++ (List.range (T.al 1).length).map (fun a => Rw.al 1 a ((T.al 1).getD a [])) ++ (sb T).map Rw.bo
def isAl (h : Nat) : Rw → Option (List Int)
  | .al h' _ o => if h' = h then some o else none
  | .bo _ => none
def isBo : Rw → Option EB
  | .al _ _ _ => none
  | .bo e => some e
def alOf (L : List Rw) (h : Nat) : List (List Int) := L.filterMap (isAl h)
def boOf (L : List Rw) : BD := L.filterMap isBo
theorem rws_rows (T : TD) : (rws T).map Rw.ws = rowsW T := by
  unfold rws rowsW rowsAW
  rw [List.map_append, List.map_append, List.map_map, List.map_map, List.map_map]
  rfl
theorem fm_some {α β γ : Type} (f : γ → α) (g : α → Option β) (k : γ → β) (h : ∀ z, g (f z) = some (k z)) : ∀ l : List γ, (l.map f).filterMap g = l.map k
  | [] => rfl
  | z :: l => by rw [List.map_cons, List.filterMap_cons, h z, fm_some f g k h l]; rfl
theorem fm_none {α β γ : Type} (f : γ → α) (g : α → Option β) (h : ∀ z, g (f z) = none) : ∀ l : List γ, (l.map f).filterMap g = []
  | [] => rfl
  | z :: l => by rw [List.map_cons, List.filterMap_cons, h z, fm_none f g h l]
theorem range_getD {α : Type} (d : α) : ∀ l : List α, (List.range l.length).map (fun a => l.getD a d) = l := fun l => by
  refine List.ext_getElem (by rw [List.length_map, List.length_range]) fun i h1 h2 => ?_
  rw [List.getElem_map, List.getElem_range, List.getD_eq_getElem?_getD, List.getElem?_eq_getElem h2]
  rfl
theorem alOf_rws (T : TD) {h : Nat} (hh : h < 2) : alOf (rws T) h = T.al h := by
  unfold alOf rws
  rw [List.filterMap_append, List.filterMap_append, fm_none Rw.bo _ (fun _ => rfl), List.append_nil]
  obtain rfl | rfl : h = 0 ∨ h = 1 := by omega
  · rw [fm_some (fun a => Rw.al 0 a ((T.al 0).getD a [])) (isAl 0) (fun a => (T.al 0).getD a []) (fun _ => rfl), fm_none _ _ (fun _ => rfl), List.append_nil, range_getD]
  · rw [fm_none _ _ (fun _ => rfl), fm_some (fun a => Rw.al 1 a ((T.al 1).getD a [])) (isAl 1) (fun a => (T.al 1).getD a []) (fun _ => rfl), List.nil_append, range_getD]
theorem boOf_rws (T : TD) : boOf (rws T) = sb T := by
  unfold boOf rws
  rw [List.filterMap_append, List.filterMap_append, fm_none _ _ (fun _ => rfl), fm_none _ _ (fun _ => rfl), List.nil_append, fm_some Rw.bo _ (fun e => e) (fun _ => rfl), List.map_id']
  rfl
theorem alOf_snoc_al (L : List Rw) (h a : Nat) (o : List Int) (k : Nat) : alOf (L ++ [.al h a o]) k = if h = k then alOf L k ++ [o] else alOf L k := by
  unfold alOf
  rw [List.filterMap_append]
  by_cases c : h = k
  · rw [if_pos c]
    show _ ++ List.filterMap _ [Rw.al h a o] = _
    rw [List.filterMap_cons, show isAl k (.al h a o) = some o from if_pos c]
    rfl
  · rw [if_neg c, List.filterMap_cons, show isAl k (.al h a o) = none from if_neg c, List.filterMap_nil, List.append_nil]
theorem boOf_snoc_al (L : List Rw) (h a : Nat) (o : List Int) : boOf (L ++ [.al h a o]) = boOf L := by
  unfold boOf
  rw [List.filterMap_append]
  exact List.append_nil _
theorem alOf_snoc_bo (L : List Rw) (e : EB) (k : Nat) : alOf (L ++ [.bo e]) k = alOf L k := by
  unfold alOf
  rw [List.filterMap_append]
  exact List.append_nil _
theorem boOf_snoc_bo (L : List Rw) (e : EB) : boOf (L ++ [.bo e]) = boOf L ++ [e] := by
  unfold boOf
  rw [List.filterMap_append]
  rfl
/-! what stays beside some lists and dicts -/
def vwl (S : List Addr) (H : Hp) : Hp := fun b => if b ∈ S then none else H b
def ButL (S : List Addr) (H H' : Hp) : Prop := ∀ b o, b ∉ S → H b = some o → H' b = some o
theorem vwl_some {S : List Addr} {H : Hp} {b : Addr} {o : HO} : vwl S H b = some o ↔ b ∉ S ∧ H b = some o := by
  unfold vwl
  by_cases c : b ∈ S
  · rw [if_pos c]
    exact ⟨fun h => (nomatch h), fun h => (h.1 c).elim⟩
  · rw [if_neg c]
    exact ⟨fun h => ⟨c, h⟩, fun h => h.2⟩
theorem ButL.vw {S : List Addr} {H H' : Hp} (b : ButL S H H') : Same (vwl S H) (vwl S H') := fun a o h => by
  obtain ⟨n, h⟩ := vwl_some.mp h
  exact vwl_some.mpr ⟨n, b _ _ n h⟩
theorem vwl_kp {S : List Addr} {H : Hp} : Kp (vwl S H) H := .same fun a o h => (vwl_some.mp h).2
theorem ButL.refl (S : List Addr) (H : Hp) : ButL S H H := fun _ _ _ h => h
theorem ButL.trans {S : List Addr} {H H1 H2 : Hp} (a : ButL S H H1) (b : ButL S H1 H2) : ButL S H H2 := fun _ _ n h => b _ _ n (a _ _ n h)
theorem Same.bl {S : List Addr} {H H' : Hp} (a : Same H H') : ButL S H H' := fun _ _ _ h => a _ _ h
theorem ButL.at {S : List Addr} {H : Hp} {a : Addr} {o : HO} (m : a ∈ S) : ButL S H (upd H a o) := fun b _ n h => by
  rw [upd_ne (fun c => n (by rw [c]; exact m))]
  exact h
/-- what is read so far -/
structure RSt (H1 H' : Hp) (d : Addr) (r : Nat → Addr) (al : Nat → List (List Int)) (bo : BD) : Prop where
  but : ButL [r 0, r 1, d] H1 H'
  ro : ∀ h, h < 2 → ∃ xs, H' (r h) = some (.lst xs) ∧ A2 (RowAt (vwl [r 0, r 1, d] H')) xs (al h)
  bo : ∃ kvs, H' d = some (.dT kvs) ∧ A2 (EnAt (vwl [r 0, r 1, d] H')) kvs bo
section
variable {H1 H' H2 : Hp} {d : Addr} {r : Nat → Addr} {al : Nat → List (List Int)} {bo : BD}
theorem r_in {h : Nat} (hh : h < 2) : r h ∈ [r 0, r 1, d] := by
  obtain rfl | rfl : h = 0 ∨ h = 1 := by omega
  · exact List.mem_cons_self
  · exact List.mem_cons_of_mem _ List.mem_cons_self
theorem d_in : d ∈ [r 0, r 1, d] := by simp
theorem RSt.there (R : RSt H1 H' d r al bo) {b : Addr} (m : b ∈ [r 0, r 1, d]) : H' b ≠ none := by
  rcases List.mem_cons.mp m with rfl | m
  · obtain ⟨xs, h, _⟩ := R.ro 0 (by decide)
    rw [h]
    exact fun c => nomatch c
  rcases List.mem_cons.mp m with rfl | m
  · obtain ⟨xs, h, _⟩ := R.ro 1 (by decide)
    rw [h]
    exact fun c => nomatch c
  obtain rfl := List.mem_singleton.mp m
  obtain ⟨kvs, h, _⟩ := R.bo
  rw [h]
  exact fun c => nomatch c
theorem RSt.same (R : RSt H1 H' d r al bo) (s : Same H' H2) : RSt H1 H2 d r al bo := by
  have v := (Same.bl s : ButL [r 0, r 1, d] H' H2).vw
  refine ⟨R.but.trans (Same.bl s), fun h hh => ?_, ?_⟩
  · obtain ⟨xs, h1, h2⟩ := R.ro h hh
    exact ⟨xs, s _ _ h1, h2.imp fun _ _ q => q.mono (.same v)⟩
  · obtain ⟨kvs, h1, h2⟩ := R.bo
    exact ⟨kvs, s _ _ h1, h2.imp fun _ _ q => q.mono (.same v)⟩
theorem RSt.putA (R : RSt H1 H' d r al bo) (n01 : r 0 ≠ r 1) (nd : ∀ h, h < 2 → r h ≠ d) {h : Nat} (hh : h < 2) {xs : List V} (hx : H' (r h) = some (.lst xs)) {outs : List Int} {l : Addr} (s : Same H' H2) (hl : H' l = none) (hl2 : H2 l = some (.lst (outs.map V.int))) :
    RSt H1 (upd H2 (r h) (.lst (xs ++ [.ref l]))) d r (fun k => if h = k then al k ++ [outs] else al k) bo := by
  have R2 := R.same s
  have nl : l ∉ [r 0, r 1, d] := fun m => R.there m hl
  have v := (ButL.at (H := H2) (o := .lst (xs ++ [.ref l])) (r_in (r := r) (d := d) hh)).vw
  refine ⟨R2.but.trans (ButL.at (r_in hh)), fun k hk => ?_, ?_⟩
  · obtain ⟨ys, h1, h2⟩ := R2.ro k hk
    by_cases c : h = k
    · subst c
      rw [s _ _ hx] at h1
      obtain rfl : xs = ys := by injection h1 with h1; injection h1
      refine ⟨_, upd_same, ?_⟩
      rw [if_pos rfl]
      exact A2.snoc (h2.imp fun _ _ q => q.mono (.same v)) ⟨l, rfl, v _ _ (vwl_some.mpr ⟨nl, hl2⟩)⟩
    · have nk : r k ≠ r h := by
        obtain rfl | rfl : h = 0 ∨ h = 1 := by omega
        · obtain rfl : k = 1 := by omega
          exact fun z => n01 z.symm
        · obtain rfl : k = 0 := by omega
          exact n01
      refine ⟨ys, by rw [upd_ne nk]; exact h1, ?_⟩
      rw [if_neg c]
      exact h2.imp fun _ _ q => q.mono (.same v)
  · obtain ⟨kvs, h1, h2⟩ := R2.bo
    exact ⟨kvs, by rw [upd_ne (fun c => nd h hh c.symm)]; exact h1, h2.imp fun _ _ q => q.mono (.same v)⟩
theorem let_vw {S : List Addr} {H : Hp} {l : Addr} {ls : List (Int × Int)} (nl : l ∉ S) (nt : ∀ b ∈ S, ∀ ys, H b ≠ some (.tup ys)) (h : LetAt H (.ref l) ls) : LetAt (vwl S H) (.ref l) ls := by
  obtain ⟨t, xs, e, hl, a⟩ := h
  injection e with e
  subst e
  refine ⟨_, xs, rfl, vwl_some.mpr ⟨nl, hl⟩, a.imp fun _ _ q => ?_⟩
  obtain ⟨b, rfl, hb⟩ := q
  exact ⟨b, rfl, vwl_some.mpr ⟨fun m => nt b m _ hb, hb⟩⟩
theorem RSt.putB (R : RSt H1 H' d r al bo) (nd : ∀ h, h < 2 → r h ≠ d) {kvs : List (List Key × V)} (hd : H' d = some (.dT kvs)) {e : EB} (new : ∀ f ∈ bo, f.1 ≠ e.1) {l : Addr} (s : Same H' H2) (hl : H' l = none) (hl2 : LetAt H2 (.ref l) e.2) :
    RSt H1 (upd H2 d (.dT (putK kvs (kI e.1) (.ref l)))) d r al (bo ++ [e]) := by
  have R2 := R.same s
  have nl : l ∉ [r 0, r 1, d] := fun m => R.there m hl
  have v := (ButL.at (H := H2) (o := .dT (putK kvs (kI e.1) (.ref l))) (d_in (r := r) (d := d))).vw
  refine ⟨R2.but.trans (ButL.at d_in), fun k hk => ?_, ?_⟩
  · obtain ⟨ys, h1, h2⟩ := R2.ro k hk
    exact ⟨ys, by rw [upd_ne (nd k hk)]; exact h1, h2.imp fun _ _ q => q.mono (.same v)⟩
  · obtain ⟨kvs', h1, h2⟩ := R2.bo
    rw [s _ _ hd] at h1
    obtain rfl : kvs = kvs' := by injection h1 with h1; injection h1
    have ek : putK kvs (kI e.1) (V.ref l) = kvs ++ [(kI e.1, V.ref l)] := putK_new _ (valV_noneP fun x hx c => by
      obtain ⟨f, hf, q⟩ := h2.mem hx
      exact new f hf (kI_inj (q.1.symm.trans c)))
    rw [ek] at v ⊢
    refine ⟨_, upd_same, ?_⟩
    refine A2.snoc (h2.imp fun _ _ q => q.mono (.same v)) ⟨rfl, LetAt.mono (.same v) (let_vw nl (fun b m ys c => ?_) hl2)⟩
    rcases List.mem_cons.mp m with rfl | m
    · obtain ⟨xs, h, _⟩ := R2.ro 0 (by decide)
      rw [h] at c; cases c
    rcases List.mem_cons.mp m with rfl | m
    · obtain ⟨xs, h, _⟩ := R2.ro 1 (by decide)
      rw [h] at c; cases c
    obtain rfl := List.mem_singleton.mp m
    rw [s _ _ hd] at c; cases c
end
end TA

set_option Elab.async false
set_option maxRecDepth 100000
set_option maxHeartbeats 4000000
namespace TA
open PySem L2 PyProof.Rows StX
set_option linter.unusedVariables false
/-- the rows of a task's text that are read -/
def spRR (K : PySem.W.Frag) : Sp := fun vs H Q _ => ∃ T : TD, vs = [.str (textS T)] ∧ WF T ∧ ∀ (r A d : Addr) (H' : Hp), Same H H' → H' r = some (.tup [.ref A, .ref d]) → AlAt H' (.ref A) T.al → BoAt H' d (sb T) → Q (.ref r) H'
theorem rws_len {T : TD} : (rws T).length = (rowsW T).length := by rw [← rws_rows, List.length_map]
theorem rws_ok {T : TD} (W : WF T) {x : Rw} (hx : x ∈ rws T) : (∃ h a o, x = .al h a o ∧ h < 2 ∧ a < 60 ∧ o ∈ T.al h) ∨ ∃ e, x = .bo e ∧ e ∈ T.bo := by
  have n0 := (W.n0 0 (by decide)).2
  have n1 := (W.n0 1 (by decide)).2
  unfold rws at hx
  rcases List.mem_append.mp hx with hx | hx
  · rcases List.mem_append.mp hx with hx | hx
    · obtain ⟨a, ha, rfl⟩ := List.mem_map.mp hx
      have ha := List.mem_range.mp ha
      exact .inl ⟨0, a, _, rfl, by decide, by omega, by rw [List.getD_eq_getElem?_getD, List.getElem?_eq_getElem ha]; exact List.getElem_mem ha⟩
    · obtain ⟨a, ha, rfl⟩ := List.mem_map.mp hx
      have ha := List.mem_range.mp ha
      exact .inl ⟨1, a, _, rfl, by decide, by omega, by rw [List.getD_eq_getElem?_getD, List.getElem?_eq_getElem ha]; exact List.getElem_mem ha⟩
  · obtain ⟨e, he, rfl⟩ := List.mem_map.mp hx
    exact .inr ⟨e, rfl, sb_mem.mp he⟩
theorem fm_len {α β : Type} (f : α → Option β) (l : List α) : (l.filterMap f).length ≤ l.length := List.length_filterMap_le f l
theorem sb_srt {T : TD} (W : WF T) : ((sb T).map (·.1)).Pairwise (· ≠ ·) := (((sb_perm T).map (·.1)).pairwise_iff (fun h => Ne.symm h)).mpr W.srt
theorem bo_new {T : TD} (W : WF T) {i : Nat} {e : EB} (hi : (rws T)[i]? = some (.bo e)) : ∀ f ∈ boOf ((rws T).take i), f.1 ≠ e.1 := fun f hf => by
  have h1 : (boOf ((rws T).take (i + 1))).Sublist (sb T) := by
    rw [← boOf_rws]
    exact (List.take_sublist _ _).filterMap _
  rw [take_get hi, boOf_snoc_bo] at h1
  have h2 := (sb_srt W).sublist (h1.map (·.1))
  rw [List.map_append, List.pairwise_append] at h2
  exact h2.2.2 _ (List.mem_map_of_mem hf) _ (List.mem_singleton.mpr rfl)
theorem ButL.same {S : List Addr} {H H1 H' : Hp} (b : ButL S H1 H') (s : Same H H1) (n : ∀ a ∈ S, H a = none) : Same H H' := fun a o h => b a o (fun m => by rw [n a m] at h; cases h) (s _ _ h)
theorem RSt.al_at {H1 H' : Hp} {Ap d : Addr} {r : Nat → Addr} {al : Nat → List (List Int)} {bo : BD} (R : RSt H1 H' d r al bo) (h : H' Ap = some (.lst [.ref (r 0), .ref (r 1)])) : AlAt H' (.ref Ap) al := by
  obtain ⟨x0, a0, b0⟩ := R.ro 0 (by decide)
  obtain ⟨x1, a1, b1⟩ := R.ro 1 (by decide)
  exact ⟨Ap, _, _, rfl, h, ⟨_, x0, rfl, a0, b0.imp fun _ _ q => q.mono vwl_kp⟩, ⟨_, x1, rfl, a1, b1.imp fun _ _ q => q.mono vwl_kp⟩⟩
theorem RSt.bo_at {H1 H' : Hp} {d : Addr} {r : Nat → Addr} {al : Nat → List (List Int)} {bo : BD} (R : RSt H1 H' d r al bo) : BoAt H' d bo := by
  obtain ⟨kvs, a, b⟩ := R.bo
  exact ⟨kvs, a, b.imp fun _ _ q => q.mono vwl_kp⟩
theorem RSt.ofEq {H1 H' : Hp} {d : Addr} {r : Nat → Addr} {al al' : Nat → List (List Int)} {bo bo' : BD} (R : RSt H1 H' d r al bo) (e : ∀ h, h < 2 → al h = al' h) (e2 : bo = bo') : RSt H1 H' d r al' bo' := by
  subst e2
  refine ⟨R.but, fun h hh => ?_, R.bo⟩
  rw [← e h hh]
  exact R.ro h hh
section
variable {P : Program} {w : World} {K : PySem.W.Frag} {mg : Str → Option Value} {base : Heap}
abbrev nRR : List Str := ["text", "alone", "both", "row", "words"]
theorem sc_rr : FnScope nRR ["text"] (defScope s_read_rows) := ⟨rfl, rfl, rfl, by decide +kernel, rfl, by decide +kernel, by decide +kernel⟩
theorem ok_rr {f g1 g2 : Addr} {fd d1 d2 : FuncData} (F : Fun K "read_rows" "read_rows" s_read_rows f fd) (RA : Def P w K mg base "read_alone" ["alone", "words"] 3 (spRA K) g1 d1) (RB : Def P w K mg base "read_both" ["both", "words"] 3 (spRB K) g2 d2) : FnOk P w K mg base CX0 4 f fd ["text"] (spRR K) := by
  refine F.ok sc_rr (fun vs H Q E h => ?_) (fun cdv A outer s H vs Q E hr h => ?_)
  · obtain ⟨T, rfl, _⟩ := h
    rfl
  obtain ⟨T, rfl, W, q⟩ := h
  have nd := sc_rr.nd
  refine ⟨_, (pss_cons (ps_par (i := 1) (j := 2) (by rfl) nd rfl rfl (by decide) rfl rfl (pa_cons (pe_lst (pa_cons (pe_lst pa_nil) (pa_cons (pe_lst pa_nil) pa_nil))) (pa_cons pe_dnewT pa_nil)) (by rfl))
    (pss_cons (ps_for PassesOwn.never (by rfl) (pi_list (pe_split (pv 0) pe_str)) (pg_name (i := 3) nd rfl (Or.inl rfl))
      (pss_cons (ps_set (i := 4) nd rfl (Or.inl rfl) (pe_split (pv 3) pe_str))
    (pss_one (ps_if (pt_cmpR op_eq (pe_ix ix_list (pv 4) pe_int (fun _ _ => rfl)) pe_str (nomark _))
      (pss_one (ps_expr (pe_call RA.G (hr.mono (by decide)) rfl RA.m RA.k RA.b .nil pass0 (pa_cons (pv 1) (pa_cons (pe_slice sl_list (pv 4) (po_some pe_int) po_none) pa_nil)))))
      (pss_one (ps_if (pt_cmpR op_eq (pe_ix ix_list (pv 4) pe_int (fun _ _ => rfl)) pe_str (nomark _))
      (pss_one (ps_expr (pe_call RB.G (hr.mono (by decide)) rfl RB.m RB.k RB.b .nil pass0 (pa_cons (pv 2) (pa_cons (pe_slice sl_list (pv 4) (po_some pe_int) po_none) pa_nil)))))
      pss_never))))))
    (pss_one (ps_ret (pe_tup (pa_cons (pv 1) (pa_cons (pv 2) pa_nil))))))), ?_⟩
  refine ⟨(by show 0 ≤ sizeLine; decide), fun r0 h0 => ⟨(by show 0 ≤ sizeLine; decide), fun r1 h1 => ⟨(by show 2 ≤ sizeLine; decide), fun Ap hA d hd => ⟨_, _, rfl, ?_⟩⟩⟩⟩
  have sa := same_new h0 (.lst [])
  have sb' := same_new h1 (.lst [])
  have sc := same_new hA (.lst [.ref r0, .ref r1])
  have sd := same_new hd (.dT [])
  have e0 := sd _ _ (sc _ _ (sb' _ _ (upd_same (H := H) (a := r0) (o := .lst []))))
  have e1 := sd _ _ (sc _ _ (upd_same (H := upd H r0 (.lst [])) (a := r1) (o := .lst [])))
  have eA := sd _ _ (upd_same (H := upd (upd H r0 (.lst [])) r1 (.lst [])) (a := Ap) (o := .lst [.ref r0, .ref r1]))
  have ed := upd_same (H := upd (upd (upd H r0 (.lst [])) r1 (.lst [])) Ap (.lst [.ref r0, .ref r1])) (a := d) (o := .dT [])
  have s0 := ((sa.trans sb').trans sc).trans sd
  have n01 : r0 ≠ r1 := ne_of_none (upd_same (H := H) (a := r0) (o := .lst [])) h1
  have nd0 := ne_of_none (sc _ _ (sb' _ _ (upd_same (H := H) (a := r0) (o := .lst [])))) hd
  have nd1 := ne_of_none (sc _ _ (upd_same (H := upd H r0 (.lst [])) (a := r1) (o := .lst []))) hd
  have eA' := upd_same (H := upd (upd H r0 (.lst [])) r1 (.lst [])) (a := Ap) (o := .lst [.ref r0, .ref r1])
  have h1' := sa.free h1
  have hA' := (sa.trans sb').free hA
  have hd' := ((sa.trans sb').trans sc).free hd
  generalize upd (upd (upd (upd H r0 (.lst [])) r1 (.lst [])) Ap (.lst [.ref r0, .ref r1])) d (.dT []) = G at e0 e1 eA ed s0 ⊢
  obtain ⟨r, er0, er1⟩ : ∃ r : Nat → Addr, r 0 = r0 ∧ r 1 = r1 := ⟨fun h => if h = 0 then r0 else r1, rfl, rfl⟩
  subst er0
  subst er1
  have nAd : Ap ≠ d := ne_of_none eA' hd
  have nd_ : ∀ h, h < 2 → r h ≠ d := fun h hh => by
    obtain rfl | rfl : h = 0 ∨ h = 1 := by omega
    · exact nd0
    · exact nd1
  have hS : ∀ b ∈ [r 0, r 1, d], H b = none := fun b m => by
    rcases List.mem_cons.mp m with rfl | m
    · exact h0
    rcases List.mem_cons.mp m with rfl | m
    · exact h1'
    obtain rfl := List.mem_singleton.mp m
    exact hd'
  have nA : Ap ∉ [r 0, r 1, d] := fun m => by
    rcases List.mem_cons.mp m with z | m
    · rw [z, e0] at eA; cases eA
    rcases List.mem_cons.mp m with z | m
    · rw [z, e1] at eA; cases eA
    exact nAd (List.mem_singleton.mp m)
  have tl := text_len W
  refine ⟨_, rfl, ⟨_, rfl⟩, _, _, rfl, rfl, by decide +kernel, Nat.le_trans (show _ ≤ 60000 by omega) (by decide), fun p hp => ?_⟩
  rw [show Txt.split (textS T) "\n" = (rws T).map (rowS ∘ Rw.ws) by rw [split_rows W, ← rws_rows, List.map_map]]
  have sp := same_new hp (.lst (((rws T).map (rowS ∘ Rw.ws)).map V.str))
  have ep := upd_same (H := G) (a := p) (o := .lst (((rws T).map (rowS ∘ Rw.ws)).map V.str))
  have np : p ∉ [r 0, r 1, d] := fun m => by
    rcases List.mem_cons.mp m with z | m
    · rw [z, e0] at hp; cases hp
    rcases List.mem_cons.mp m with z | m
    · rw [z, e1] at hp; cases hp
    rw [List.mem_singleton.mp m, ed] at hp; cases hp
  have R0 : RSt (upd G p (.lst (((rws T).map (rowS ∘ Rw.ws)).map V.str))) (upd G p (.lst (((rws T).map (rowS ∘ Rw.ws)).map V.str))) d r (alOf []) (boOf []) := ⟨ButL.refl _ _, fun h hh => ⟨[], by
      obtain rfl | rfl : h = 0 ∨ h = 1 := by omega
      · exact sp _ _ e0
      · exact sp _ _ e1, .nil⟩, [], sp _ _ ed, .nil⟩
  have eAG := sp _ _ eA
  have s01 := s0.trans sp
  generalize upd G p (.lst (((rws T).map (rowS ∘ Rw.ws)).map V.str)) = G1 at R0 eAG ep s01 ⊢
  refine ⟨p, rfl, ⟨_, SqL.of ep⟩, for_list (xs := ((rws T).map (rowS ∘ Rw.ws)).map V.str) (fun i σ H' => ∃ v3 v4, σ = [some (.str (textS T)), some (.ref Ap), some (.ref d), v3, v4] ∧ RSt G1 H' d r (alOf ((rws T).take i)) (boOf ((rws T).take i))) ⟨none, none, rfl, R0⟩ (fun i σ H' _ ⟨_, _, _, R⟩ => SqL.of (R.but _ _ np ep)) ?_ ?_⟩
  · rintro i x σ H' hx ⟨v3, v4, rfl, R⟩
    rw [List.getElem?_map, List.getElem?_map, Option.map_map] at hx
    obtain ⟨y, hy, rfl⟩ := Option.map_eq_some_iff.mp hx
    obtain ⟨wne, okw, okl⟩ := rowsW_ok W y.ws (by rw [← rws_rows]; exact List.mem_map_of_mem (List.mem_of_getElem? hy))
    have rl := row_len okw
    have eA' := R.but _ _ nA eAG
    refine ⟨_, rfl, ⟨_, rfl⟩, rowS y.ws, _, rfl, rfl, by decide +kernel, Nat.le_trans (show _ ≤ 1000 by omega) (by decide), fun wp hwp => ?_⟩
    rw [split_words wne okw, take_get hy]
    have sw := same_new hwp (.lst (y.ws.map V.str))
    have ew := upd_same (H := H') (a := wp) (o := .lst (y.ws.map V.str))
    have R1 := R.same sw
    have eA1 := sw _ _ eA'
    generalize upd H' wp (.lst (y.ws.map V.str)) = H2 at sw ew R1 eA1 ⊢
    have many : (rws T).length ≤ 100 := by rw [rws_len]; exact (rowsW_len W).2
    have hi := (List.getElem?_eq_some_iff.mp hy).1
    have tk : ((rws T).take i).length ≤ 100 := by rw [List.length_take]; omega
    rcases rws_ok W (List.mem_of_getElem? hy) with ⟨h, a, o, rfl, hh, ha, ho⟩ | ⟨e, rfl, he⟩
    · have oo := W.row h hh o ho
      refine ⟨_, rfl, wp, _, _, .str "alone", rfl, rfl, SqL.of ew, (by show atI _ ((0 : Nat) : Int) = _; exact atI_nat rfl), rfl, true, congrArg V.bl (decide_eq_true rfl), iteT ?_⟩
      refine ⟨_, rfl, _, rfl, _, rfl, wp, _, rfl, SqL.of ew, fun p3 hp3 => ?_⟩
      have ec : cutV ((Rw.al h a o).ws.map V.str) (some 1) none = (numS (h : Int) :: numS (a : Int) :: o.map numS).map V.str := by
        rw [show (1 : Int) = ((1 : Nat) : Int) from rfl, cut_drop (by unfold Rw.ws rowAW; simp)]
        rfl
      rw [ec]
      have s3 := same_new hp3 (.lst ((numS (h : Int) :: numS (a : Int) :: o.map numS).map V.str))
      have e3 := upd_same (H := H2) (a := p3) (o := .lst ((numS (h : Int) :: numS (a : Int) :: o.map numS).map V.str))
      have R3 := R1.same s3
      have eA3 := s3 _ _ eA1
      generalize upd H2 p3 (.lst ((numS (h : Int) :: numS (a : Int) :: o.map numS).map V.str)) = H3 at s3 e3 R3 eA3 ⊢
      obtain ⟨xs, hx3, ax⟩ := R3.ro h hh
      have lx := ax.len
      have := fm_len (isAl h) ((rws T).take i)
      have ex : ([.ref (r 0), .ref (r 1)] : List V)[h]? = some (.ref (r h)) := by
        obtain rfl | rfl : h = 0 ∨ h = 1 := by omega
        · rfl
        · rfl
      refine ⟨Ap, p3, _, _, h, a, o, r h, xs, rfl, SqL.of eA3, SqL.of e3, hh, ha, oo.2.2.2, by have := oo.2.1; omega, ex, hx3, by rw [lx]; exact Nat.le_trans this tk, fun l H4 s4 hl hl2 => ?_⟩
      refine ⟨_, _, rfl, ?_⟩
      have R4 := R3.putA n01 nd_ hh hx3 s4 hl hl2
      exact R4.ofEq (fun k hk => (alOf_snoc_al _ h a o k).symm) (boOf_snoc_al _ h a o).symm
    · have oo := W.lets e he
      have rg := W.rng e he
      have n0 := (W.n0 0 (by decide)).2
      have n1 := (W.n0 1 (by decide)).2
      refine ⟨_, rfl, wp, _, _, .str "both", rfl, rfl, SqL.of ew, (by show atI _ ((0 : Nat) : Int) = _; exact atI_nat rfl), rfl, false, congrArg V.bl (decide_eq_false (fun c => absurd (V.str.inj c) (by decide +kernel))), iteF ?_⟩
      refine ⟨_, rfl, wp, _, _, .str "both", rfl, rfl, SqL.of ew, (by show atI _ ((0 : Nat) : Int) = _; exact atI_nat rfl), rfl, true, congrArg V.bl (decide_eq_true rfl), iteT ?_⟩
      refine ⟨_, rfl, _, rfl, _, rfl, wp, _, rfl, SqL.of ew, fun p3 hp3 => ?_⟩
      have ec : cutV ((Rw.bo e).ws.map V.str) (some 1) none = (numS (e.1.1 : Int) :: numS (e.1.2 : Int) :: e.2.map dashS).map V.str := by
        rw [show (1 : Int) = ((1 : Nat) : Int) from rfl, cut_drop (by unfold Rw.ws rowBW; simp)]
        rfl
      rw [ec]
      have s3 := same_new hp3 (.lst ((numS (e.1.1 : Int) :: numS (e.1.2 : Int) :: e.2.map dashS).map V.str))
      have e3 := upd_same (H := H2) (a := p3) (o := .lst ((numS (e.1.1 : Int) :: numS (e.1.2 : Int) :: e.2.map dashS).map V.str))
      have R3 := R1.same s3
      generalize upd H2 p3 (.lst ((numS (e.1.1 : Int) :: numS (e.1.2 : Int) :: e.2.map dashS).map V.str)) = H3 at s3 e3 R3 ⊢
      obtain ⟨kvs, hk3, ak⟩ := R3.bo
      have lk := ak.len
      have := fm_len isBo ((rws T).take i)
      refine ⟨d, p3, kvs, e, rfl, hk3, by rw [lk]; exact Nat.le_trans this tk, SqL.of e3, by omega, by omega, oo.2.2.2, by have := oo.2.1; omega, fun l H4 s4 hl hl2 => ?_⟩
      refine ⟨_, _, rfl, ?_⟩
      have R4 := R3.putB nd_ hk3 (bo_new W hy) s4 hl hl2
      exact R4.ofEq (fun k hk => (alOf_snoc_bo _ e k).symm) (boOf_snoc_bo _ e).symm
  · rintro σ H' ⟨v3, v4, rfl, R⟩
    rw [List.length_map, List.length_map, List.take_length] at R
    have R := R.ofEq (fun h hh => alOf_rws T hh) (boOf_rws T)
    have eA' := R.but _ _ nA eAG
    refine ⟨_, rfl, _, rfl, (by show 2 ≤ sizeLine; decide), fun t ht => ?_⟩
    have st := same_new ht (.tup [.ref Ap, .ref d])
    exact q t Ap d _ ((R.but.same s01 hS).trans st) upd_same ((R.al_at eA').mono (.same st)) (R.bo_at.mono st)
end
end TA

set_option Elab.async false
set_option maxRecDepth 100000
set_option maxHeartbeats 4000000
namespace TA
open PySem L2 PyProof.Rows StX
set_option linter.unusedVariables false
structure KDef (P : Program) (w : World) (K : PySem.W.Frag) (mg : Str → Option Value) (base : Heap) (C : Addr) (x : Str) (ps : List Str) (k : Nat) (sp : Sp) (f : Addr) (fd : FuncData) : Prop where
  G : FnOk P w K mg base CX0 k f fd ps sp
  b : Binds K fd ps []
  M : Mk K C f
  m : mg x = some (.ref C)
/-- the task as it is read -/
def sorted (T : TD) : TD := ⟨T.al, sb T⟩
/-- a task's text that is read -/
def spRT (K : PySem.W.Frag) (C : Addr) : Sp := fun vs H Q _ => ∃ T : TD, vs = [.str (textS T)] ∧ WF T ∧ ∀ (p : Addr) (H' : Hp), Same H H' → H p = none → NewAt C H H' p (sorted T) → Q (.ref p) H'
theorem WF.sort {T : TD} (W : WF T) : WF (sorted T) where
  n0 := W.n0
  row := W.row
  srt := sb_srt W
  rng := fun e he => W.rng e (sb_mem.mp he)
  lets := fun e he => W.lets e (sb_mem.mp he)
  com0 := fun a ha => by
    obtain ⟨e, he, h⟩ := W.com0 a ha
    exact ⟨e, sb_mem.mpr he, h⟩
  com1 := fun a ha => by
    obtain ⟨e, he, h⟩ := W.com1 a ha
    exact ⟨e, sb_mem.mpr he, h⟩
  many := by
    show (sb T).length ≤ 60
    rw [(sb_perm T).length_eq]
    exact W.many
theorem sb_sort (T : TD) : sb (sorted T) = sb T := List.mergeSort_of_pairwise (sb_sorted T)
theorem text_sort (T : TD) : textS (sorted T) = textS T := by
  unfold textS rowsW
  rw [sb_sort]
  rfl
theorem same_of_but {H0 H H' : Hp} {p : Addr} (s : Same H0 H) (n : H0 p = none) (b : But p H H') : Same H0 H' := fun a o h => b a o (ne_of_none h n) (s _ _ h)
theorem NewAt.up {C : Addr} {H0 H H' : Hp} {p : Addr} {T : TD} (s : Same H0 H) {o : HO} (e : H p = some o) (h : NewAt C H H' p T) : NewAt C H0 H' p T := by
  obtain ⟨dx, a, d, kvs, h1, h2, h3, h4, h5⟩ := h
  have k := kp_nwx_in (D := p) (H2 := H') s e
  exact ⟨dx, a, d, kvs, h1, h2.mono k, none_of_same s h3, h4, h5.imp fun _ _ q => q.mono k (.same (Same.refl _))⟩
theorem NewAt.on {C : Addr} {H H' H2 : Hp} {p : Addr} {T : TD} (s : Same H' H2) (h : NewAt C H H' p T) : NewAt C H H2 p T := by
  obtain ⟨dx, a, d, kvs, h1, h2, h3, h4, h5⟩ := h
  have k : Kp (nwx H p H') (nwx H p H2) := kp_nwx_but fun b o _ e => s b o e
  exact ⟨dx, a, d, kvs, s _ _ h1, h2.mono k, h3, s _ _ h4, h5.imp fun _ _ q => q.mono k (.same s)⟩
section
variable {P : Program} {w : World} {K : PySem.W.Frag} {mg : Str → Option Value} {base : Heap}
abbrev nRT : List Str := ["text", "alone", "both", "task"]
theorem sc_rt : FnScope nRT ["text"] (defScope s_read_task) := ⟨rfl, rfl, rfl, by decide +kernel, rfl, by decide +kernel, by decide +kernel⟩
theorem ok_rt {f g1 g2 g3 C : Addr} {fd d1 d2 d3 : FuncData} (F : Fun K "read_task" "read_task" s_read_task f fd) (T : Txt K mg) (Ts : mg "str" = none) (RR : Def P w K mg base "read_rows" ["text"] 4 (spRR K) g1 d1) (TT : Def P w K mg base "task_text" ["task"] 5 (spTT K C) g2 d2)
    (Tk : KDef P w K mg base C "Task" ["self", "alone", "both"] 7 (spInit K C) g3 d3) : FnOk P w K mg base CX0 9 f fd ["text"] (spRT K C) := by
  refine F.ok sc_rt (fun vs H Q E h => ?_) (fun cdv A outer s H vs Q E hr h => ?_)
  · obtain ⟨T, rfl, _⟩ := h
    rfl
  obtain ⟨D, rfl, W, q⟩ := h
  have nd := sc_rt.nd
  refine ⟨_, (pss_cons (ps_if (pt_not (pt_val (pe_callB call_isi (by rfl) T.isi boot_isinstance (pa_cons (pv 0) (pa_cons (pe_bltn (v := .ty "str") (by rfl) Ts PyProof.Rows.boot_str rfl) pa_nil)))))
      pss_never
      pss_nil)
    (pss_cons (ps_asg (pe_call RR.G (hr.mono (by decide)) rfl RR.m RR.k RR.b .nil pass0 (pa_cons (pv 0) pa_nil)) (pg_tup (by rfl) (pgs_cons (pg_name (i := 1) nd rfl (Or.inl rfl)) (pgs_cons (pg_name (i := 2) nd rfl (Or.inl rfl)) pgs_nil))))
    (pss_cons (ps_try_thru0 (pss_one (ps_set (i := 3) nd rfl (Or.inl rfl) (pe_make Tk.M Tk.G (hr.mono (by decide)) (by rfl) Tk.m Tk.b .nil pass0 (pa_cons (pv 1) (pa_cons (pv 2) pa_nil))))))
    (pss_cons (ps_if (pt_cmpR op_ne (pe_call TT.G (hr.mono (by decide)) rfl TT.m TT.k TT.b .nil pass0 (pa_cons (pv 3) pa_nil)) (pv 0) (nomark _))
      pss_never
      pss_nil)
    (pss_one (ps_ret (pv 3))))))), ?_⟩
  refine ⟨_, rfl, _, .ty "str", _, _, true, rfl, .ty "str", dp_ty (K := K) (H := H) (.str (textS D)), rfl, _, rfl, iteF ?_⟩
  refine ⟨_, rfl, D, rfl, W, fun r Ap d H1 s1 hr1 hA hB => ?_⟩
  refine ⟨r, _, rfl, SqT.of hr1, rfl, _, _, rfl, _, _, rfl, rfl, ?_⟩
  refine ⟨_, rfl, _, rfl, fun x dx hx hdx ne => ?_⟩
  have sx : Same H1 (upd (upd H1 dx (.own x)) x (.ins C dx [])) := (same_new hdx _).trans (same_new (by rw [upd_ne (Ne.symm ne)]; exact hx) _)
  have ex := upd_same (H := upd H1 dx (.own x)) (a := x) (o := .ins C dx [])
  have hx0 := none_of_same s1 hx
  generalize upd (upd H1 dx (.own x)) x (.ins C dx []) = H2 at sx ex ⊢
  refine ⟨x, dx, Ap, d, sorted D, rfl, ex, hA.mono (.same sx), hB.mono sx, W.sort, fun H3 b3 n3 => ⟨rfl, ?_⟩⟩
  have s3 : Same H H3 := same_of_but (s1.trans sx) hx0 b3
  refine ⟨_, rfl, x, sorted D, rfl, n3.task, W.sort, fun H4 s4 => ?_⟩
  rw [text_sort]
  refine ⟨_, rfl, rfl, false, congrArg V.bl (show (!decide (V.str (textS D) = V.str (textS D))) = false by rw [decide_eq_true rfl]; rfl), iteF ⟨_, rfl, ?_⟩⟩
  exact q x H4 (s3.trans s4) hx0 ((n3.up (s1.trans sx) ex).on s4)
end
end TA

set_option Elab.async false
set_option maxRecDepth 100000
set_option maxHeartbeats 4000000
namespace TB
open PySem L2 PyProof.Rows
set_option linter.unusedVariables false
def top (i : Nat) : Stmt := PySem.Challenge.pw_twoalone_k35_whole_protocols_of_exchange.main.body.getD i (.Pass ⟨0, 0, 0, 0⟩)
abbrev sWhole : Stmt := top 2
abbrev sWithin : Stmt := top 3
abbrev sHand : Stmt := top 4
abbrev s_is_rising : Stmt := top 5
abbrev s_AloneError : Stmt := top 7
abbrev s_NoTask : Stmt := top 8
abbrev s_NoHand : Stmt := top 9
abbrev s_NoRounds : Stmt := top 10
abbrev s_NoInputs : Stmt := top 11
abbrev s_NoWeaving : Stmt := top 12
abbrev s_NoKnown : Stmt := top 13
abbrev s_NoProtocol : Stmt := top 14
abbrev s_NoText : Stmt := top 15
abbrev sInputs : Stmt := top 19
abbrev sWeaving : Stmt := top 20
abbrev sPut : Stmt := top 21
abbrev sKnown : Stmt := top 22
abbrev s_rounds_behind : Stmt := top 25
abbrev s_agrees : Stmt := top 26
abbrev s_met : Stmt := top 27
abbrev s_standing : Stmt := top 28
abbrev sPlace : Stmt := top 29
abbrev s_is_output : Stmt := top 32
abbrev s_is_outputs : Stmt := top 33
abbrev s_is_rows : Stmt := top 34
abbrev s_is_alone : Stmt := top 35
abbrev s_is_output_pair : Stmt := top 36
abbrev s_is_let : Stmt := top 37
abbrev s_is_input_pair : Stmt := top 38
abbrev s_each_comes : Stmt := top 39
abbrev s_is_both : Stmt := top 40
abbrev s_Task : Stmt := top 41
abbrev s_is_pair : Stmt := top 42
abbrev s_swapped : Stmt := top 43
abbrev s_is_row : Stmt := top 45
abbrev s_is_chosen : Stmt := top 46
abbrev s_is_walks : Stmt := top 47
abbrev s_is_protocol : Stmt := top 48
abbrev s_output_of : Stmt := top 49
abbrev s_tell : Stmt := top 50
abbrev s_alone_fault : Stmt := top 51
abbrev s_outputs_at : Stmt := top 52
abbrev s_walk_fault : Stmt := top 53
abbrev s_protocol_fault : Stmt := top 54
abbrev s_alone_row : Stmt := top 58
abbrev s_both_row : Stmt := top 59
abbrev s_task_text : Stmt := top 60
abbrev s_number : Stmt := top 61
abbrev s_numbers : Stmt := top 62
abbrev s_read_alone : Stmt := top 63
abbrev s_read_both : Stmt := top 64
abbrev s_read_rows : Stmt := top 65
abbrev s_read_task : Stmt := top 66
abbrev sCell : Stmt := top 68
abbrev s__law_digit : Stmt := top 69
abbrev s__law_of : Stmt := top 70
abbrev s__law_rising : Stmt := top 71
abbrev s__law_outs : Stmt := top 72
abbrev s__law_parts : Stmt := top 73
abbrev s__law_walk : Stmt := top 74
abbrev s__law_scheme : Stmt := top 75
abbrev sLawWeav : Stmt := top 76
abbrev s__law_spots : Stmt := top 77
abbrev s__law_turned : Stmt := top 78
abbrev s__law_words : Stmt := top 79
abbrev sLaw : Stmt := top 80

structure Txt (K : PySem.W.Frag) (mg : Str → Option Value) : Prop where
  isi : mg "isinstance" = none
  int : mg "int" = none
  bool : mg "bool" = none
  len : mg "len" = none
  range : mg "range" = none
  list : mg "list" = none
  tuple : mg "tuple" = none
  all : mg "all" = none
  sum : mg "sum" = none
  min : mg "min" = none
theorem same_new {H : Hp} {p : Addr} (h : H p = none) (o : HO) : Same H (upd H p o) := fun b u q => by rw [upd_ne (ne_of_none q h)]; exact q

/-! the small promises -/
def spWhole : Sp := fun vs H Q _ => ∃ n : Int, vs = [.int n] ∧ Q (.bl true) H
def spWithin : Sp := fun vs H Q _ => ∃ a b c : Int, vs = [.int a, .int b, .int c] ∧ Q (.bl (decide (b ≤ a ∧ a ≤ c))) H
section
variable {P : Program} {w : World} {K : PySem.W.Frag} {mg : Str → Option Value} {base : Heap}

theorem scWhole : FnScope ["thing"] ["thing"] (defScope sWhole) := ⟨rfl, rfl, rfl, by decide +kernel, rfl, by decide +kernel, by decide +kernel⟩
theorem ok_whole {f : Addr} {fd : FuncData} (F : Fun K "is_whole" "is_whole" sWhole f fd) (T : Txt K mg) : FnOk P w K mg base CX0 1 f fd ["thing"] spWhole := by
  refine F.ok scWhole (fun vs H Q E h => ?_) (fun cdv A outer s H vs Q E hr h => ?_)
  · obtain ⟨n, rfl, _⟩ := h
    rfl
  obtain ⟨n, rfl, q⟩ := h
  refine ⟨_, pss_one (ps_ret (pe_and (pe_callB call_isi (by rfl) T.isi boot_isinstance (pa_cons (pv 0) (pa_cons (pe_bltn (v := .ty "int") (by rfl) T.int boot_int rfl) pa_nil)))
    (pe_one (pe_not (pe_callB call_isi (by rfl) T.isi boot_isinstance (pa_cons (pv 0) (pa_cons (pe_bltn (v := .ty "bool") (by rfl) T.bool boot_bool rfl) pa_nil))))))), ?_⟩
  refine ⟨_, rfl, V.int n, V.ty "int", _, _, true, rfl, .ty "int", .base (.int n), kit_ty (by decide +kernel), true, rfl, iteT ?_⟩
  exact ⟨_, rfl, V.int n, V.ty "bool", _, _, false, rfl, .ty "bool", .base (.int n), kit_ty (by decide +kernel), false, rfl, q⟩

theorem scWithin : FnScope ["thing", "least", "most"] ["thing", "least", "most"] (defScope sWithin) := ⟨rfl, rfl, rfl, by decide +kernel, rfl, by decide +kernel, by decide +kernel⟩
theorem ok_within {f g : Addr} {fd gd : FuncData} (F : Fun K "is_whole_within" "is_whole_within" sWithin f fd) (G : FnOk P w K mg base CX0 1 g gd ["thing"] spWhole) (bG : Binds K gd ["thing"] []) (kG : PySem.W.keepIn K (.ref g) = true) (mG : mg "is_whole" = some (.ref g)) :
    FnOk P w K mg base CX0 2 f fd ["thing", "least", "most"] spWithin := by
  refine F.ok scWithin (fun vs H Q E h => ?_) (fun cdv A outer s H vs Q E hr h => ?_)
  · obtain ⟨a, b, c, rfl, _⟩ := h
    rfl
  obtain ⟨a, b, c, rfl, q⟩ := h
  refine ⟨_, pss_one (ps_ret (pe_and (pe_call G hr rfl mG kG bG .nil pass0 (pa_cons (pv 0) pa_nil)) (pe_one (pe_chain op_le op_le (pv 1) (pv 0) (pv 2))))), ?_⟩
  refine ⟨_, rfl, a, rfl, true, rfl, iteT ?_⟩
  refine ⟨_, rfl, _, rfl, _, _, rfl, rfl, _, rfl, ?_⟩
  by_cases h1 : b ≤ a
  · rw [decide_eq_true h1]
    refine iteT ?_
    refine ⟨_, rfl, _, _, rfl, rfl, ?_⟩
    have e : decide (b ≤ a ∧ a ≤ c) = decide (a ≤ c) := by simp [h1]
    rw [e] at q
    exact q
  · rw [decide_eq_false h1]
    refine iteF ?_
    have e : decide (b ≤ a ∧ a ≤ c) = false := by simp [h1]
    rw [e] at q
    exact q

end
end TB

set_option Elab.async false
set_option maxRecDepth 100000
set_option maxHeartbeats 4000000
namespace TB
open PySem L2 PyProof.Rows
set_option linter.unusedVariables false
/-! what a hand knows, on the heap: ints, None, tuples of two -/
inductive Kn (H : Hp) : V → PyData → Prop
  | int (i : Int) : Kn H (.int i) (.int i)
  | non : Kn H .non .none
  | tup {a : Addr} {x y : V} {d e : PyData} : H a = some (.tup [x, y]) → Kn H x d → Kn H y e → Kn H (.ref a) (.tuple [d, e])
/-- all tuples stand as they stood -/
def Tups (H H' : Hp) : Prop := ∀ a xs, H a = some (.tup xs) → H' a = some (.tup xs)
theorem Kn.mono {H H' : Hp} (s : Tups H H') : ∀ {v d}, Kn H v d → Kn H' v d
  | _, _, .int i => .int i
  | _, _, .non => .non
  | _, _, .tup h a b => .tup (s _ _ h) (a.mono s) (b.mono s)
theorem Kn.dp {K : PySem.W.Frag} {H : Hp} : ∀ {v d}, Kn H v d → Dp K H v d
  | _, _, .int i => .int i
  | _, _, .non => .non
  | _, _, .tup h a b => .tup (SqT.of h) (.cons a.dp (.cons b.dp .nil))
theorem Tups.same {H H' : Hp} (s : Same H H') : Tups H H' := fun a xs h => s _ _ h
theorem Tups.updL {H : Hp} {p : Addr} {xs : List V} {o : HO} (h : H p = some (.lst xs)) : Tups H (upd H p o) := fun a ys e => by
  rw [upd_ne (ne_of e h (fun q => by cases q))]
  exact e
theorem Tups.updD {H : Hp} {p : Addr} {kvs : List (List Key × V)} {o : HO} (h : H p = some (.dT kvs)) : Tups H (upd H p o) := fun a ys e => by
  rw [upd_ne (ne_of e h (fun q => by cases q))]
  exact e
theorem Tups.trans {H H1 H2 : Hp} (a : Tups H H1) (b : Tups H1 H2) : Tups H H2 := fun x xs h => b _ _ (a _ _ h)
inductive KnAll (H : Hp) : List V → List PyData → Prop
  | nil : KnAll H [] []
  | cons {v vs d ds} : Kn H v d → KnAll H vs ds → KnAll H (v :: vs) (d :: ds)
theorem KnAll.mono {H H' : Hp} (s : Tups H H') : ∀ {vs ds}, KnAll H vs ds → KnAll H' vs ds
  | _, _, .nil => .nil
  | _, _, .cons a b => .cons (a.mono s) (b.mono s)
theorem KnAll.len {H : Hp} : ∀ {vs ds}, KnAll H vs ds → vs.length = ds.length
  | _, _, .nil => rfl
  | _, _, .cons _ b => congrArg (· + 1) b.len
theorem KnAll.snoc {H : Hp} {v d} (k : Kn H v d) : ∀ {vs ds}, KnAll H vs ds → KnAll H (vs ++ [v]) (ds ++ [d])
  | _, _, .nil => .cons k .nil
  | _, _, .cons a b => .cons a (b.snoc k)
theorem KnAll.getD {H : Hp} : ∀ {vs ds} (t : Nat), KnAll H vs ds → Kn H (vs.getD t .non) (ds.getD t .none)
  | _, _, _, .nil => by simp; exact .non
  | _, _, 0, .cons a b => by simpa using a
  | _, _, t + 1, .cons a b => by simpa using b.getD t

/-! the mirror -/
def upf {α : Type} (f : Nat → α) (h : Nat) (x : α) : Nat → α := fun i => if i = h then x else f i
theorem upf_same {α : Type} {f : Nat → α} {h : Nat} {x : α} : upf f h x h = x := by unfold upf; rw [if_pos rfl]
theorem upf_ne {α : Type} {f : Nat → α} {h i : Nat} {x : α} (e : i ≠ h) : upf f h x i = f i := by unfold upf; rw [if_neg e]
theorem two_get {α : Type} (f : Nat → α) {h : Nat} (hh : h < 2) : [f 0, f 1][h]? = some (f h) := by
  rcases h with _ | _ | h
  · rfl
  · rfl
  · omega
theorem two_set {α : Type} (f : Nat → α) {h : Nat} (hh : h < 2) (x : α) : [f 0, f 1].set h x = [upf f h x 0, upf f h x 1] := by
  rcases h with _ | _ | h
  · rfl
  · rfl
  · omega
structure M where
  k : Nat → PyData
  c : Nat → List PyData
  l : Nat → Nat
def M.step (m : M) (h : Nat) : M :=
  if m.l h < (m.c h).length then { k := upf m.k h (.tuple [m.k h, (m.c (1 - h)).getD (m.l h) .none]), c := m.c, l := upf m.l h (m.l h + 1) }
  else { k := m.k, c := upf m.c h (m.c h ++ [m.k h]), l := m.l }
def M.run (m : M) (hs : List Nat) : M := hs.foldl M.step m
def M.done (m : M) (h : Nat) : Nat := m.l h + (m.c h).length
def M0 (a b : Int) : M := { k := fun h => if h = 0 then .int a else .int b, c := fun _ => [], l := fun _ => 0 }
def M.wf (m : M) : Prop := ∀ h < 2, (m.c h).length = m.l h ∨ (m.c h).length = m.l h + 1
theorem M.wf0 (a b : Int) : (M0 a b).wf := fun h _ => .inl rfl
theorem M.wf_step {m : M} (w : m.wf) {h : Nat} (hh : h < 2) : (m.step h).wf := fun i hi => by
  unfold M.step
  have wi := w i hi
  have wh := w h hh
  by_cases c : m.l h < (m.c h).length
  · rw [if_pos c]
    show (m.c i).length = upf m.l h (m.l h + 1) i ∨ (m.c i).length = upf m.l h (m.l h + 1) i + 1
    by_cases e : i = h
    · subst e; rw [upf_same]; omega
    · rw [upf_ne e]; exact wi
  · rw [if_neg c]
    show (upf m.c h (m.c h ++ [m.k h]) i).length = m.l i ∨ (upf m.c h (m.c h ++ [m.k h]) i).length = m.l i + 1
    by_cases e : i = h
    · subst e; rw [upf_same, List.length_append]; show _ + 1 = _ ∨ _ + 1 = _; omega
    · rw [upf_ne e]; exact wi
theorem M.done_step (m : M) (h i : Nat) : (m.step h).done i = m.done i + (if i = h then 1 else 0) := by
  unfold M.step M.done
  by_cases c : m.l h < (m.c h).length
  · rw [if_pos c]
    show upf m.l h (m.l h + 1) i + (m.c i).length = _
    by_cases e : i = h
    · subst e; rw [upf_same, if_pos rfl]; omega
    · rw [upf_ne e, if_neg e]; rfl
  · rw [if_neg c]
    show m.l i + (upf m.c h (m.c h ++ [m.k h]) i).length = _
    by_cases e : i = h
    · subst e; rw [upf_same, if_pos rfl, List.length_append]; show _ + (_ + 1) = _; omega
    · rw [upf_ne e, if_neg e]; rfl
theorem M.run_snoc (m : M) (hs : List Nat) (h : Nat) : m.run (hs ++ [h]) = (m.run hs).step h := by
  unfold M.run
  rw [List.foldl_append]
  rfl
theorem M.done_run (m : M) (i : Nat) : ∀ hs : List Nat, (m.run hs).done i = m.done i + hs.count i := by
  intro hs
  induction hs generalizing m with
  | nil => rfl
  | cons h r ih =>
    show ((m.step h).run r).done i = _
    rw [ih, M.done_step, List.count_cons]
    by_cases e : i = h
    · subst e; simp; omega
    · have e2 : ¬ h = i := fun q => e q.symm
      simp [e, e2]
theorem M.wf_run {m : M} (w : m.wf) : ∀ {hs : List Nat}, (∀ h ∈ hs, h < 2) → (m.run hs).wf := by
  intro hs
  induction hs generalizing m with
  | nil => intro _; exact w
  | cons h r ih => intro q; exact ih (M.wf_step w (q h List.mem_cons_self)) (fun x hx => q x (List.mem_cons_of_mem _ hx))
/-- data as they may be compared -/
def Ok (n : Nat) (d : PyData) : Prop := d.canLay0 = true ∧ d.depth ≤ n
theorem Ok.up {n m : Nat} {d : PyData} (h : Ok n d) (e : n ≤ m) : Ok m d := ⟨h.1, Nat.le_trans h.2 e⟩
theorem Ok.pair {n : Nat} {d e : PyData} (h : Ok n d) (g : Ok n e) : Ok (n + 1) (.tuple [d, e]) := by
  refine ⟨?_, ?_⟩
  · simp [PyData.canLay0, PyData.canLayAll0, h.1, g.1]
  · have h2 := h.2
    have g2 := g.2
    simp only [PyData.depth, PyData.depthAll]
    omega
theorem Ok.lst {n : Nat} {d e : PyData} (h : Ok n d) (g : Ok n e) : Ok (n + 1) (.list [d, e]) := by
  refine ⟨?_, ?_⟩
  · simp [PyData.canLay0, PyData.canLayAll0, h.1, g.1]
  · have h2 := h.2
    have g2 := g.2
    simp only [PyData.depth, PyData.depthAll]
    omega
theorem Ok.shaped {d : PyData} (h : Ok 64 d) : SeqAt.shaped d = true := by
  unfold SeqAt.shaped
  rw [h.1, decide_eq_true h.2]
  rfl
end TB

set_option Elab.async false
set_option maxRecDepth 100000
set_option maxHeartbeats 4000000
namespace TB
open PySem L2 PyProof.Rows
set_option linter.unusedVariables false
def M.ok (n : Nat) (m : M) : Prop := ∀ h < 2, Ok n (m.k h) ∧ ∀ d ∈ m.c h, Ok n d
theorem ok_int {n : Nat} (i : Int) (h : 0 < n) : Ok n (.int i) := ⟨rfl, by show PyData.depth (.int i) ≤ n; simp only [PyData.depth]; omega⟩
theorem ok_none {n : Nat} (h : 0 < n) : Ok n .none := ⟨rfl, by show PyData.depth .none ≤ n; simp only [PyData.depth]; omega⟩
theorem M.ok0 (a b : Int) : (M0 a b).ok 1 := fun h _ => ⟨by
  show Ok 1 (if h = 0 then .int a else .int b)
  split
  · exact ok_int a (by decide)
  · exact ok_int b (by decide), fun d hd => by cases hd⟩
theorem M.ok_step {n : Nat} {m : M} (o : m.ok n) (h0 : 0 < n) {h : Nat} (hh : h < 2) : (m.step h).ok (n + 1) := fun i hi => by
  unfold M.step
  by_cases c : m.l h < (m.c h).length
  · rw [if_pos c]
    refine ⟨?_, fun d hd => ((o i hi).2 d hd).up (by omega)⟩
    show Ok (n + 1) (upf m.k h _ i)
    by_cases e : i = h
    · subst e
      rw [upf_same]
      refine Ok.pair (o i hi).1 ?_
      cases g : (m.c (1 - i))[m.l i]? with
      | none => rw [List.getD_eq_getElem?_getD, g]; exact ok_none h0
      | some d => rw [List.getD_eq_getElem?_getD, g]; exact (o (1 - i) (by omega)).2 d (List.mem_of_getElem? g)
    · rw [upf_ne e]; exact (o i hi).1.up (by omega)
  · rw [if_neg c]
    refine ⟨(o i hi).1.up (by omega), fun d hd => ?_⟩
    have hd' : d ∈ upf m.c h (m.c h ++ [m.k h]) i := hd
    by_cases e : i = h
    · subst e
      rw [upf_same] at hd'
      rcases List.mem_append.mp hd' with q | q
      · exact ((o i hi).2 d q).up (by omega)
      · have : d = m.k i := by simpa using q
        rw [this]
        exact (o i hi).1.up (by omega)
    · rw [upf_ne e] at hd'; exact ((o i hi).2 d hd').up (by omega)
theorem M.ok_run {hs : List Nat} : ∀ {n : Nat} {m : M}, m.ok n → 0 < n → (∀ h ∈ hs, h < 2) → (m.run hs).ok (n + hs.length) := by
  induction hs with
  | nil => intro n m o _ _; exact o
  | cons h r ih =>
    intro n m o h0 q
    have := ih (M.ok_step o h0 (q h List.mem_cons_self)) (by omega) (fun x hx => q x (List.mem_cons_of_mem _ hx))
    rw [show n + 1 + r.length = n + (h :: r).length by rw [List.length_cons]; omega] at this
    exact this
def M.res (m : M) (deep : Nat) (h : Nat) : PyData := if m.done h = 2 * deep then m.k h else .none
theorem M.res_ok {n : Nat} {m : M} (o : m.ok n) (h0 : 0 < n) (deep : Nat) {h : Nat} (hh : h < 2) : Ok n (m.res deep h) := by
  unfold M.res
  split
  · exact (o h hh).1
  · exact ok_none h0
theorem M.stopped {m : M} (w : m.wf) {deep h : Nat} (hh : h < 2) (hd : m.done h ≤ 2 * deep) : m.l h = deep ↔ m.done h = 2 * deep := by
  have wh := w h hh
  unfold M.done at hd ⊢
  omega
/-- what is told: two places -/
def told (a b : Int) (hs : List Nat) (deep : Nat) : PyData := .list [((M0 a b).run hs).res deep 0, ((M0 a b).run hs).res deep 1]
theorem told_shaped (a b : Int) {hs : List Nat} (q : ∀ h ∈ hs, h < 2) (hz : hs.length ≤ 40) (deep : Nat) : SeqAt.shaped (told a b hs deep) = true := by
  have o := M.ok_run (M.ok0 a b) (by decide) q
  exact ((M.res_ok o (by omega) deep (h := 0) (by decide)).lst (M.res_ok o (by omega) deep (h := 1) (by decide))).up (by omega) |>.shaped
theorem eqv_self {d : PyData} (h : SeqAt.shaped d = true) : PyData.eqv d d = true := SeqAt.eqv_refl d (SeqAt.canLay_of_shaped h)

/-! a walk of n turns, whatever is walked: the word Pv is kept from turn to turn -/
theorem turns {J : It} (n : Nat) {H0 : Hp} {Qd : Hp → Prop} {B : (Hp → Prop) → V → Hp → Prop} (Pv : Nat → Hp → Prop) (start : Pv 0 H0) (last : ∀ H, Pv n H → J.stop n H ∧ Qd H)
    (turn : ∀ i H, i < n → Pv i H → J.go i H ∧ ∀ x H', J.yld i H x H' → B (Pv (i + 1)) x H') :
    ∃ W : Nat → Nat → Hp → Prop, (∃ m, W 0 m H0) ∧ ∀ i m H, W i m H →
      (J.stop i H ∧ Qd H) ∨ (J.go i H ∧ ∃ Nx : Hp → Prop, (∀ H', Nx H' → ∃ m', m' < m ∧ W (i + 1) m' H') ∧ ∀ x H', J.yld i H x H' → B Nx x H') := by
  refine ⟨fun i m H => i + m = n ∧ Pv i H, ⟨n, by omega, start⟩, fun i m H h => ?_⟩
  obtain ⟨hm, word⟩ := h
  cases m with
  | zero =>
    have hin : i = n := by omega
    rw [hin] at word ⊢
    exact Or.inl (last H word)
  | succ m =>
    obtain ⟨go, step⟩ := turn i H (by omega) word
    exact Or.inr ⟨go, Pv (i + 1), fun H' w' => ⟨m, by omega, by omega, w'⟩, step⟩
theorem list_turns {K : PySem.W.Frag} {a : Addr} {xs : List V} {H0 : Hp} {Qd : Hp → Prop} {B : (Hp → Prop) → V → Hp → Prop} (Pv : Nat → Hp → Prop) (start : Pv 0 H0) (still : ∀ i H, i ≤ xs.length → Pv i H → SqL K H a xs)
    (turn : ∀ i x H, xs[i]? = some x → Pv i H → B (Pv (i + 1)) x H) (last : ∀ H, Pv xs.length H → Qd H) :
    ∃ W : Nat → Nat → Hp → Prop, (∃ m, W 0 m H0) ∧ ∀ i m H, W i m H →
      ((Itl K a).stop i H ∧ Qd H) ∨ ((Itl K a).go i H ∧ ∃ Nx : Hp → Prop, (∀ H', Nx H' → ∃ m', m' < m ∧ W (i + 1) m' H') ∧ ∀ x H', (Itl K a).yld i H x H' → B Nx x H') :=
  turns xs.length Pv start (fun H w => ⟨⟨xs, still _ H (Nat.le_refl _) w, Nat.le_refl _⟩, last H w⟩) fun i H hi w =>
    have there := still i H (Nat.le_of_lt hi) w
    ⟨⟨xs, xs[i], there, List.getElem?_eq_getElem hi⟩, fun x H' ⟨same, given⟩ => by rw [same]; exact turn i x H (given xs there) w⟩
theorem tup_turns {K : PySem.W.Frag} {a : Addr} {xs : List V} {H0 : Hp} {Qd : Hp → Prop} {B : (Hp → Prop) → V → Hp → Prop} (Pv : Nat → Hp → Prop) (start : Pv 0 H0) (still : ∀ i H, i ≤ xs.length → Pv i H → SqT K H a xs)
    (turn : ∀ i x H, xs[i]? = some x → Pv i H → B (Pv (i + 1)) x H) (last : ∀ H, Pv xs.length H → Qd H) :
    ∃ W : Nat → Nat → Hp → Prop, (∃ m, W 0 m H0) ∧ ∀ i m H, W i m H →
      ((Itt K a).stop i H ∧ Qd H) ∨ ((Itt K a).go i H ∧ ∃ Nx : Hp → Prop, (∀ H', Nx H' → ∃ m', m' < m ∧ W (i + 1) m' H') ∧ ∀ x H', (Itt K a).yld i H x H' → B Nx x H') :=
  turns xs.length Pv start (fun H w => ⟨⟨xs, still _ H (Nat.le_refl _) w, Nat.le_refl _⟩, last H w⟩) fun i H hi w =>
    have there := still i H (Nat.le_of_lt hi) w
    ⟨⟨xs, xs[i], there, List.getElem?_eq_getElem hi⟩, fun x H' ⟨same, given⟩ => by rw [same]; exact turn i x H (given xs there) w⟩
theorem range_turns {lo : Int} {n : Nat} {H0 : Hp} {Qd : Hp → Prop} {B : (Hp → Prop) → V → Hp → Prop} (Pv : Nat → Hp → Prop) (start : Pv 0 H0)
    (turn : ∀ i H, i < n → Pv i H → B (Pv (i + 1)) (.int (lo + i)) H) (last : ∀ H, Pv n H → Qd H) :
    ∃ W : Nat → Nat → Hp → Prop, (∃ m, W 0 m H0) ∧ ∀ i m H, W i m H →
      ((Itr lo n).stop i H ∧ Qd H) ∨ ((Itr lo n).go i H ∧ ∃ Nx : Hp → Prop, (∀ H', Nx H' → ∃ m', m' < m ∧ W (i + 1) m' H') ∧ ∀ x H', (Itr lo n).yld i H x H' → B Nx x H') :=
  turns n Pv start (fun H w => ⟨Nat.le_refl _, last H w⟩) fun i H hi w => ⟨hi, fun x H' ⟨same, given⟩ => by rw [same, given]; exact turn i H hi w⟩
theorem small13 {n : Nat} (h : n ≤ 100000) : n ≤ sizeLine := Nat.le_trans h (by decide)

/-- xs[i] as an augmented assignment reads it, 0 ≤ i -/
theorem get_list {X : Cx} : PGet X (fun o i H Q => ∃ (p : Addr) (xs : List V) (k : Nat) (v : V), o = .ref p ∧ i = .int (k : Int) ∧ SqL X.K H p xs ∧ xs[k]? = some v ∧ Q v H) := by
  intro pins s σ H o i ov iv Q I ro ri h
  obtain ⟨p, xs, k, v, rfl, rfl, hq, he, q⟩ := h
  cases ro
  obtain ⟨t, rfl⟩ := ri
  obtain ⟨its, r, pl, hz⟩ := I.list hq
  obtain ⟨w, ew, rw'⟩ := r.get he
  have hl := r.length
  have hn := line63
  have hk : k < xs.length := (List.getElem?_eq_some_iff.mp he).1
  refine getItem_listL (l := its) pl.isList (by omega) ?_ (by simpa using ew) ⟨v, H, I, rw', q⟩
  omega
end TB

set_option Elab.async false
set_option maxRecDepth 100000
set_option maxHeartbeats 4000000
namespace TB
open PySem L2 PyProof.Rows
set_option linter.unusedVariables false
structure Txt2 (K : PySem.W.Frag) (mg : Str → Option Value) : Prop where
  two : ∃ t, mg "STEPS" = some (.int 2 t)
  five : ∃ t, mg "MOST_ROUNDS" = some (.int 5 t)
  hands : ∃ hA, mg "HANDS" = some (.ref hA) ∧ ∀ H, SqT K H hA [.int 0, .int 1]
structure Def (P : Program) (w : World) (K : PySem.W.Frag) (mg : Str → Option Value) (base : Heap) (x : Str) (ps : List Str) (k : Nat) (sp : Sp) (f : Addr) (fd : FuncData) : Prop where
  G : FnOk P w K mg base CX0 k f fd ps sp
  b : Binds K fd ps []
  k : PySem.W.keepIn K (.ref f) = true
  m : mg x = some (.ref f)
def spHand : Sp := fun vs H Q _ => ∃ a : Int, vs = [.int a] ∧ Q (.bl (decide (0 ≤ a ∧ a ≤ 1))) H
def spInputs : Sp := fun vs H Q _ => ∃ (t : Addr) (a b : Int), vs = [.ref t] ∧ H t = some (.tup [.int a, .int b]) ∧ 0 ≤ a ∧ 0 ≤ b ∧ ∀ H', Same H H' → Q (.bl true) H'
/-- the list of hands at p -/
def hl (hs : List Nat) : List V := hs.map fun h : Nat => V.int (h : Int)
def spWeaving (K : PySem.W.Frag) : Sp := fun vs H Q _ => ∃ (p : Addr) (hs : List Nat) (d : Nat), vs = [.ref p, .int (d : Int)] ∧ SqL K H p (hl hs) ∧ (∀ h ∈ hs, h < 2) ∧ (∀ h < 2, hs.count h ≤ 2 * d) ∧ hs.length ≤ 1000 ∧ ∀ H', Same H H' → Q (.bl true) H'
def spPut (K : PySem.W.Frag) : Sp := fun vs H Q _ => ∃ (c : Addr) (ws : List V) (t : Nat), vs = [.ref c, .int (t : Int)] ∧ SqL K H c ws ∧ Q (ws.getD t .non) H
theorem hl_ints (hs : List Nat) : hl hs = (hs.map fun h : Nat => (h : Int)).map V.int := by
  unfold hl
  rw [List.map_map]
  rfl
theorem hl_count (hs : List Nat) (h : Nat) : (hs.map fun h : Nat => (h : Int)).count (h : Int) = hs.count h := by
  induction hs with
  | nil => rfl
  | cons x r ih =>
    rw [List.map_cons, List.count_cons, List.count_cons, ih]
    by_cases e : x = h
    · subst e; simp
    · have : ¬ ((x : Int) = (h : Int)) := by omega
      simp [e, this]
theorem all_rep (n : Nat) : (List.replicate n true).all id = true := by
  induction n with
  | zero => rfl
  | succ n ih => rw [List.replicate_succ, List.all_cons, ih]; rfl
theorem rep_snoc (n : Nat) : ((List.replicate n true).map V.bl) ++ [V.bl true] = (List.replicate (n + 1) true).map V.bl := by
  rw [List.replicate_succ', List.map_append]
  rfl
section
variable {P : Program} {w : World} {K : PySem.W.Frag} {mg : Str → Option Value} {base : Heap}
theorem scHand : FnScope ["thing"] ["thing"] (defScope sHand) := ⟨rfl, rfl, rfl, by decide +kernel, rfl, by decide +kernel, by decide +kernel⟩
theorem ok_hand {f g : Addr} {fd gd : FuncData} (F : Fun K "is_hand" "is_hand" sHand f fd) (W : Def P w K mg base "is_whole_within" ["thing", "least", "most"] 2 spWithin g gd) : FnOk P w K mg base CX0 3 f fd ["thing"] spHand := by
  refine F.ok scHand (fun vs H Q E h => ?_) (fun cdv A outer s H vs Q E hr h => ?_)
  · obtain ⟨a, rfl, _⟩ := h
    rfl
  obtain ⟨a, rfl, q⟩ := h
  refine ⟨_, pss_one (ps_ret (pe_call W.G hr rfl W.m W.k W.b .nil pass0 (pa_cons (pv 0) (pa_cons pe_int (pa_cons pe_int pa_nil))))), ?_⟩
  exact ⟨_, rfl, a, 0, 1, rfl, q⟩
theorem scPut : FnScope ["cells", "at"] ["cells", "at"] (defScope sPut) := ⟨rfl, rfl, rfl, by decide +kernel, rfl, by decide +kernel, by decide +kernel⟩
theorem ok_put {f : Addr} {fd : FuncData} (F : Fun K "put_in" "put_in" sPut f fd) (T : Txt K mg) : FnOk P w K mg base CX0 1 f fd ["cells", "at"] (spPut K) := by
  refine F.ok scPut (fun vs H Q E h => ?_) (fun cdv A outer s H vs Q E hr h => ?_)
  · obtain ⟨c, ws, t, rfl, _⟩ := h
    rfl
  obtain ⟨c, ws, t, rfl, hS, q⟩ := h
  refine ⟨_, pss_one (ps_ret (pe_ifExp (pt_cmpR op_lt (pv 1) (pe_callB call_len_seq (by rfl) T.len PySem.boot_len (pa_cons (pv 0) pa_nil)) (nomark _)) (pe_ix ix_list (pv 0) (pv 1) (fun _ _ => rfl)) pe_non)), ?_⟩
  refine ⟨_, rfl, _, rfl, c, _, rfl, .inl hS, _, _, rfl, rfl, _, rfl, ?_⟩
  refine ite2 (fun c1 => ?_) (fun c1 => ?_)
  · have c2 : ((t : Nat) : Int) < ((ws.length : Nat) : Int) := of_decide_eq_true c1
    have ht : t < ws.length := by omega
    have e : ws.getD t .non = ws[t] := by rw [List.getD_eq_getElem?_getD, List.getElem?_eq_getElem ht]; rfl
    rw [e] at q
    exact ⟨_, rfl, _, rfl, c, _, _, _, rfl, rfl, hS, atI_nat (List.getElem?_eq_getElem ht), q⟩
  · have c2 : ¬ ((t : Nat) : Int) < ((ws.length : Nat) : Int) := of_decide_eq_false (Bool.eq_false_iff.mpr c1)
    have e : ws.getD t .non = .non := by rw [List.getD_eq_getElem?_getD, List.getElem?_eq_none (by omega)]; rfl
    rw [e] at q
    exact q
theorem scInputs : FnScope ["thing", "a"] ["thing"] (defScope sInputs) := ⟨rfl, rfl, rfl, by decide +kernel, rfl, by decide +kernel, by decide +kernel⟩
theorem ok_inputs {f g : Addr} {fd gd : FuncData} (F : Fun K "is_inputs" "is_inputs" sInputs f fd) (T : Txt K mg) (W : Def P w K mg base "is_whole" ["thing"] 1 spWhole g gd) : FnOk P w K mg base CX0 2 f fd ["thing"] spInputs := by
  refine F.ok scInputs (fun vs H Q E h => ?_) (fun cdv A outer s H vs Q E hr h => ?_)
  · obtain ⟨t, a, b, rfl, _⟩ := h
    rfl
  obtain ⟨t, a, b, rfl, ht, ha, hb, q⟩ := h
  have nd := scInputs.nd
  refine ⟨_, pss_one (ps_ret (pe_and (pe_callB call_isi (by rfl) T.isi boot_isinstance (pa_cons (pv 0) (pa_cons (pe_bltn (v := .ty "tuple") (by rfl) T.tuple boot_tuple rfl) pa_nil)))
    (pe_and (pe_cmpR op_eq (pe_callB call_len_seq (by rfl) T.len PySem.boot_len (pa_cons (pv 0) pa_nil)) pe_int (nomark _))
    (pe_one (pe_callB (cr_all rfl) (by rfl) T.all (by decide +kernel) (pa_cons
      (pe_lc (own := [("a", 1)]) (g := gName 1) (tt := tYes) (te := tAndV (tCall spWhole [] E0 (tCons (tVar 1) tNil)) (tOp (rI0 fun i j => .bl (decide (i ≥ j))) (tVar 1) (tC (.int 0)))) rfl nd (pi_tup (pv 0)) (blkOk_by (N := ["thing", "a"]) (sc := defScope sInputs) (by decide +kernel)) (fun _ _ _ _ _ => pg_name (i := 1) nd rfl (Or.inl rfl)) (fun _ _ _ _ _ => pts_nil)
        (fun _ _ _ _ _ => (by refine pe_and ?_ (pe_one ?_); (exact pe_call W.G hr rfl W.m W.k W.b .nil pass0 (pa_cons (pv 1) pa_nil)); (exact pe_cmpR op_ge (pv 1) pe_int (nomark _))))) pa_nil)))))), ?_⟩
  refine ⟨_, rfl, .ref t, .ty "tuple", _, _, true, rfl, .ty "tuple", .base (.tup ht), kit_ty (by decide +kernel), true, rfl, iteT ?_⟩
  refine ⟨_, rfl, t, _, rfl, .inr (SqT.of ht), rfl, true, rfl, iteT ?_⟩
  refine ⟨_, rfl, t, rfl, ⟨_, SqT.of ht⟩, fun D hD => ?_⟩
  have s0 := same_new hD (.lst [])
  refine tup_turns (xs := [V.int a, V.int b]) (fun i H' => Same H H' ∧ H' D = some (.lst ((List.replicate i true).map V.bl))) ⟨s0, upd_same⟩ (fun i H' _ h => SqT.of (h.1 _ _ ht)) ?_ ?_
  · rintro i x H' hx ⟨s1, h1⟩
    obtain ⟨z, rfl, hz⟩ : ∃ z : Int, x = .int z ∧ 0 ≤ z := by
      rcases i with _ | _ | i
      · exact ⟨a, by simpa using hx.symm, ha⟩
      · exact ⟨b, by simpa using hx.symm, hb⟩
      · simp at hx
    have hi : i < 2 := (List.getElem?_eq_some_iff.mp hx).1
    refine ⟨rfl, _, rfl, z, rfl, true, rfl, iteT ?_⟩
    refine ⟨_, rfl, _, _, rfl, rfl, _, h1, (by rw [List.length_map, List.length_replicate]; exact Nat.lt_of_lt_of_le hi (by decide)), fun b' o e => ?_, ?_⟩
    · rw [upd_ne (ne_of_none e hD)]
      exact s1 _ _ e
    · rw [upd_same]
      show some (HO.lst (_ ++ [V.bl (decide (z ≥ 0))])) = _
      rw [decide_eq_true (show z ≥ 0 from hz), rep_snoc]
  · rintro H' ⟨s1, h1⟩
    refine ⟨D, _, rfl, SqL.of h1, ?_⟩
    rw [all_rep]
    exact q _ s1
theorem scWeaving : FnScope ["thing", "rounds", "hand"] ["thing", "rounds"] (defScope sWeaving) := ⟨rfl, rfl, rfl, by decide +kernel, rfl, by decide +kernel, by decide +kernel⟩
theorem ok_weaving {f g : Addr} {fd gd : FuncData} (F : Fun K "is_weaving" "is_weaving" sWeaving f fd) (T : Txt K mg) (U : Txt2 K mg) (W : Def P w K mg base "is_hand" ["thing"] 3 spHand g gd) : FnOk P w K mg base CX0 4 f fd ["thing", "rounds"] (spWeaving K) := by
  refine F.ok scWeaving (fun vs H Q E h => ?_) (fun cdv A outer s H vs Q E hr h => ?_)
  · obtain ⟨p, hs, d, rfl, _⟩ := h
    rfl
  obtain ⟨p, hs, d, rfl, hS, hh, hc, hz, q⟩ := h
  obtain ⟨t2, m2⟩ := U.two
  obtain ⟨hA, mH, hH⟩ := U.hands
  have nd := scWeaving.nd
  have ty : TyX K H (.ref p) (.type "list") := by
    rcases hS with h | ⟨o, its, n, h1, h2, _⟩
    · rcases h with h | ⟨o, h⟩
      · exact .base (.lst h)
      · exact .base (.frz h)
    · exact .kList h1 h2
  refine ⟨_, pss_one (ps_ret (pe_and (pe_callB call_isi (by rfl) T.isi boot_isinstance (pa_cons (pv 0) (pa_cons (pe_bltn (v := .ty "list") (by rfl) T.list boot_list rfl) pa_nil)))
    (pe_and (pe_callB (cr_all rfl) (by rfl) T.all (by decide +kernel) (pa_cons
      (pe_lc (own := [("hand", 2)]) (g := gName 2) (tt := tYes) (te := tCall spHand [] E0 (tCons (tVar 2) tNil)) rfl nd (pi_list (pv 0)) (blkOk_by (N := ["thing", "rounds", "hand"]) (sc := defScope sWeaving) (by decide +kernel)) (fun _ _ _ _ _ => pg_name (i := 2) nd rfl (Or.inl rfl)) (fun _ _ _ _ _ => pts_nil)
        (fun _ _ _ _ _ => (by exact pe_call W.G hr rfl W.m W.k W.b .nil pass0 (pa_cons (pv 2) pa_nil)))) pa_nil))
    (pe_one (pe_callB (cr_all rfl) (by rfl) T.all (by decide +kernel) (pa_cons
      (pe_lc (own := [("hand", 2)]) (g := gName 2) (tt := tYes) (te := tOp (rI0 fun i j => .bl (decide (i ≤ j))) (tBM K "list" (rCntI K) (tVar 0) (tCons (tVar 2) tNil)) (tOp (rI CMul fun i j => .int (i * j)) (tC (.int 2)) (tVar 1))) rfl nd (pi_tup (pe_glob (v := .ref hA) rfl mH rfl)) (blkOk_by (N := ["thing", "rounds", "hand"]) (sc := defScope sWeaving) (by decide +kernel)) (fun _ _ _ _ _ => pg_name (i := 2) nd rfl (Or.inl rfl)) (fun _ _ _ _ _ => pts_nil)
        (fun _ _ _ _ _ => (by refine pe_cmpR op_le ?_ (pe_op op_mul ?_ (pv 1)) (nomark _); (exact pe_bm PySem.F.plainAttrs_list PySem.F.slot_list_count PySem.F.type_list_count mt_lcount (pv 0) (pa_cons (pv 2) pa_nil)); (exact pe_glob (v := .int 2) rfl m2 ⟨_, rfl⟩)))) pa_nil)))))), ?_⟩
  refine ⟨_, rfl, .ref p, .ty "list", _, _, true, rfl, .ty "list", ty, kit_ty (by decide +kernel), true, rfl, iteT ?_⟩
  refine ⟨_, rfl, p, rfl, ⟨_, hS⟩, fun D hD => ?_⟩
  have lenH : (hl hs).length = hs.length := List.length_map _
  refine list_turns (xs := hl hs) (fun i H' => Same H H' ∧ H' D = some (.lst ((List.replicate i true).map V.bl))) ⟨same_new hD _, upd_same⟩ (fun i H' _ h => h.1.seq hS) ?_ ?_
  · rintro i x H' hx ⟨s1, h1⟩
    have hi : i < (hl hs).length := (List.getElem?_eq_some_iff.mp hx).1
    obtain ⟨z, rfl, hz2⟩ : ∃ z : Nat, x = .int (z : Int) ∧ z < 2 := by
      unfold hl at hx
      rw [List.getElem?_map] at hx
      obtain ⟨z, e1, e2⟩ := Option.map_eq_some_iff.mp hx
      exact ⟨z, e2.symm, hh z (List.mem_of_getElem? e1)⟩
    have e1 : decide ((0 : Int) ≤ (z : Int) ∧ (z : Int) ≤ 1) = true := decide_eq_true (by omega)
    refine ⟨rfl, _, rfl, (z : Int), rfl, _, h1, (by rw [List.length_map, List.length_replicate]; exact Nat.lt_of_lt_of_le hi (by rw [lenH]; exact Nat.le_trans hz (by decide))), fun b' o e => ?_, ?_⟩
    · rw [upd_ne (ne_of_none e hD)]
      exact s1 _ _ e
    · rw [upd_same, e1, rep_snoc]
  · rintro H1 ⟨s1, h1⟩
    refine ⟨D, _, rfl, SqL.of h1, ?_⟩
    rw [all_rep]
    refine ⟨true, rfl, iteT ?_⟩
    refine ⟨hA, rfl, ⟨_, hH _⟩, fun D2 hD2 => ?_⟩
    refine tup_turns (xs := [V.int 0, V.int 1]) (fun i H' => Same H1 H' ∧ H' D2 = some (.lst ((List.replicate i true).map V.bl))) ⟨same_new hD2 _, upd_same⟩ (fun i H' _ h => hH _) ?_ ?_
    · rintro i x H' hx ⟨s2, h2⟩
      have hi : i < 2 := (List.getElem?_eq_some_iff.mp hx).1
      obtain ⟨z, rfl, hz2⟩ : ∃ z : Nat, x = .int (z : Int) ∧ z < 2 := by
        rcases i with _ | _ | i
        · exact ⟨0, by simpa using hx.symm, by decide⟩
        · exact ⟨1, by simpa using hx.symm, by decide⟩
        · simp at hx
      have hS2 := s2.seq (s1.seq hS)
      have cz := hc z hz2
      rw [← hl_count, ] at cz
      refine ⟨rfl, _, rfl, ?_, _, rfl, p, hs.map fun h : Nat => (h : Int), (z : Int), rfl, rfl, by rw [← hl_ints]; exact hS2, _, rfl, _, _, rfl, rfl, .inl ⟨by decide, by decide⟩, _, _, rfl, rfl, _, h2, (by rw [List.length_map, List.length_replicate]; exact Nat.lt_of_lt_of_le hi (by decide)), fun b' o e => ?_, ?_⟩
      · exact .inl ⟨rfl, _, hS2⟩
      · rw [upd_ne (ne_of_none e hD2)]
        exact s2 _ _ e
      · rw [upd_same]
        show some (HO.lst (_ ++ [V.bl (decide ((((hs.map fun h : Nat => (h : Int)).count (z : Int) : Nat) : Int) ≤ 2 * (d : Int)))])) = _
        rw [decide_eq_true (by omega), rep_snoc]
    · rintro H2 ⟨s2, h2⟩
      refine ⟨D2, _, rfl, SqL.of h2, ?_⟩
      rw [all_rep]
      exact q _ (s1.trans s2)
end
end TB

set_option Elab.async false
set_option maxRecDepth 100000
set_option maxHeartbeats 4000000
namespace TB
open PySem L2 PyProof.Rows
set_option linter.unusedVariables false
theorem ixN_two {h : Nat} (hh : h < 2) : ixN 2 (h : Int) = some h := by
  rcases h with _ | _ | h
  · rfl
  · rfl
  · omega
theorem at_two {α : Type} (f : Nat → α) {h : Nat} (hh : h < 2) : atI [f 0, f 1] (h : Int) = some (f h) := atI_nat (two_get f hh)
theorem same_upd {H0 H : Hp} {p : Addr} {o : HO} (s : Same H0 H) (f : H0 p = none) : Same H0 (upd H p o) := fun b u e => by
  rw [upd_ne (ne_of_none e f)]
  exact s _ _ e
structure KS (H0 H : Hp) (kn ce lo : Addr) (cs : Nat → Addr) (m : M) : Prop where
  same : Same H0 H
  f1 : H0 kn = none
  f2 : H0 ce = none
  f3 : H0 lo = none
  f4 : ∀ h < 2, H0 (cs h) = none
  n1 : kn ≠ ce
  n2 : kn ≠ lo
  n3 : ∀ h < 2, kn ≠ cs h
  n4 : ce ≠ lo
  n5 : ∀ h < 2, ce ≠ cs h
  n6 : ∀ h < 2, lo ≠ cs h
  n7 : cs 0 ≠ cs 1
  hk : ∃ v : Nat → V, H kn = some (.lst [v 0, v 1]) ∧ ∀ h < 2, Kn H (v h) (m.k h)
  he : H ce = some (.lst [.ref (cs 0), .ref (cs 1)])
  ho : H lo = some (.lst [.int (m.l 0 : Nat), .int (m.l 1 : Nat)])
  hc : ∀ h < 2, ∃ ws, H (cs h) = some (.lst ws) ∧ KnAll H ws (m.c h)
theorem cs_ne {cs : Nat → Addr} (n : cs 0 ≠ cs 1) {i h : Nat} (hi : i < 2) (hh : h < 2) (e : i ≠ h) : cs i ≠ cs h := by
  rcases i with _ | _ | i
  · rcases h with _ | _ | h
    · exact absurd rfl e
    · exact n
    · omega
  · rcases h with _ | _ | h
    · exact n.symm
    · exact absurd rfl e
    · omega
  · omega
theorem KS.put {H0 H : Hp} {kn ce lo : Addr} {cs : Nat → Addr} {m : M} (S : KS H0 H kn ce lo cs m) {h : Nat} (hh : h < 2) (c : ¬ m.l h < (m.c h).length) {ws : List V} {v : V} (hw : H (cs h) = some (.lst ws)) (ha : KnAll H ws (m.c h)) (hv : Kn H v (m.k h)) :
    KS H0 (upd H (cs h) (.lst (ws ++ [v]))) kn ce lo cs (m.step h) := by
  have es : m.step h = { k := m.k, c := upf m.c h (m.c h ++ [m.k h]), l := m.l } := by unfold M.step; rw [if_neg c]
  rw [es]
  have tu : Tups H (upd H (cs h) (.lst (ws ++ [v]))) := Tups.updL hw
  obtain ⟨vs, hk, hkn⟩ := S.hk
  refine { S with same := same_upd S.same (S.f4 h hh), hk := ⟨vs, ?_, fun i hi => (hkn i hi).mono tu⟩, he := ?_, ho := ?_, hc := fun i hi => ?_ }
  · rw [upd_ne (S.n3 h hh)]; exact hk
  · rw [upd_ne (S.n5 h hh)]; exact S.he
  · rw [upd_ne (S.n6 h hh)]; exact S.ho
  · by_cases e : i = h
    · subst e
      refine ⟨_, upd_same, ?_⟩
      show KnAll _ _ (upf m.c i (m.c i ++ [m.k i]) i)
      rw [upf_same]
      exact (ha.mono tu).snoc (hv.mono tu)
    · obtain ⟨ws2, h1, h2⟩ := S.hc i hi
      refine ⟨ws2, by rw [upd_ne (cs_ne S.n7 hi hh e)]; exact h1, ?_⟩
      show KnAll _ _ (upf m.c h (m.c h ++ [m.k h]) i)
      rw [upf_ne e]
      exact h2.mono tu
theorem KS.look {H0 H : Hp} {kn ce lo : Addr} {cs : Nat → Addr} {m : M} (S : KS H0 H kn ce lo cs m) {h : Nat} (hh : h < 2) (c : m.l h < (m.c h).length) {v : Nat → V} {w : V} {q : Addr} (hk : H kn = some (.lst [v 0, v 1])) (hkn : ∀ h < 2, Kn H (v h) (m.k h)) (hw : Kn H w ((m.c (1 - h)).getD (m.l h) .none)) (hq : H q = none) :
    KS H0 (upd (upd (upd H q (.tup [v h, w])) kn (.lst [upf v h (.ref q) 0, upf v h (.ref q) 1])) lo (.lst [.int (upf m.l h (m.l h + 1) 0 : Nat), .int (upf m.l h (m.l h + 1) 1 : Nat)])) kn ce lo cs (m.step h) := by
  have es : m.step h = { k := upf m.k h (.tuple [m.k h, (m.c (1 - h)).getD (m.l h) .none]), c := m.c, l := upf m.l h (m.l h + 1) } := by unfold M.step; rw [if_pos c]
  rw [es]
  have qk : kn ≠ q := ne_of_none hk hq
  have qe : ce ≠ q := ne_of_none S.he hq
  have ql : lo ≠ q := ne_of_none S.ho hq
  have t1 : Tups H (upd H q (.tup [v h, w])) := Tups.same (same_new hq _)
  have t2 : Tups H (upd (upd H q (.tup [v h, w])) kn (.lst [upf v h (.ref q) 0, upf v h (.ref q) 1])) := t1.trans (Tups.updL (by rw [upd_ne qk]; exact hk))
  have t3 : Tups H (upd (upd (upd H q (.tup [v h, w])) kn (.lst [upf v h (.ref q) 0, upf v h (.ref q) 1])) lo (.lst [.int (upf m.l h (m.l h + 1) 0 : Nat), .int (upf m.l h (m.l h + 1) 1 : Nat)])) := t2.trans (Tups.updL (by rw [upd_ne S.n2.symm, upd_ne ql]; exact S.ho))
  have hq3 : (upd (upd (upd H q (.tup [v h, w])) kn (.lst [upf v h (.ref q) 0, upf v h (.ref q) 1])) lo (.lst [.int (upf m.l h (m.l h + 1) 0 : Nat), .int (upf m.l h (m.l h + 1) 1 : Nat)])) q = some (.tup [v h, w]) := by
    rw [upd_ne ql.symm, upd_ne qk.symm, upd_same]
  refine { S with same := same_upd (same_upd (S.same.trans (same_new hq _)) S.f1) S.f3, hk := ⟨upf v h (.ref q), ?_, fun i hi => ?_⟩, he := ?_, ho := upd_same, hc := fun i hi => ?_ }
  · rw [upd_ne S.n2, upd_same]
  · show Kn _ (upf v h (.ref q) i) (upf m.k h (.tuple [m.k h, (m.c (1 - h)).getD (m.l h) .none]) i)
    by_cases e : i = h
    · subst e
      rw [upf_same, upf_same]
      exact .tup hq3 ((hkn i hi).mono t3) (hw.mono t3)
    · rw [upf_ne e, upf_ne e]
      exact (hkn i hi).mono t3
  · rw [upd_ne S.n4, upd_ne S.n1.symm, upd_ne qe]; exact S.he
  · obtain ⟨ws2, h1, h2⟩ := S.hc i hi
    exact ⟨ws2, by rw [upd_ne (S.n6 i hi).symm, upd_ne (S.n3 i hi).symm, upd_ne (ne_of_none h1 hq)]; exact h1, h2.mono t3⟩
/-- the answer of known (and of _law_behind) -/
def spTold (vs0 : List V → Hp → Addr → List Nat → Nat → Int → Int → Prop) : Sp := fun vs H Q _ => ∃ (p : Addr) (hs : List Nat) (d : Nat) (a b : Int), vs0 vs H p hs d a b ∧ (∀ h ∈ hs, h < 2) ∧ (∀ h < 2, hs.count h ≤ 2 * d) ∧ hs.length ≤ 40 ∧ d ≤ 5 ∧ 0 ≤ a ∧ 0 ≤ b ∧
  ∀ (o : Addr) (v : Nat → V) (H' : Hp), Same H H' → H o = none → H' o = some (.lst [v 0, v 1]) → (∀ h < 2, Kn H' (v h) (((M0 a b).run hs).res d h)) → Q (.ref o) H'
def spKnown (K : PySem.W.Frag) : Sp := spTold fun vs H p hs d a b => ∃ t, vs = [.ref t, .ref p, .int (d : Int)] ∧ H t = some (.tup [.int a, .int b]) ∧ SqL K H p (hl hs)
theorem nat_two {x : V} {i : Nat} (hx : ([V.int 0, V.int 1] : List V)[i]? = some x) : x = .int ((i : Nat) : Int) ∧ i < 2 := by
  rcases i with _ | _ | i
  · exact ⟨by simpa using hx.symm, by decide⟩
  · exact ⟨by simpa using hx.symm, by decide⟩
  · simp at hx
theorem hl_at {hs : List Nat} {i : Nat} {x : V} (hx : (hl hs)[i]? = some x) : ∃ z : Nat, x = .int (z : Int) ∧ hs[i]? = some z := by
  unfold hl at hx
  rw [List.getElem?_map] at hx
  obtain ⟨z, e1, e2⟩ := Option.map_eq_some_iff.mp hx
  exact ⟨z, e2.symm, e1⟩
end TB

set_option Elab.async false
set_option maxRecDepth 100000
set_option maxHeartbeats 4000000
namespace TB
open PySem L2 PyProof.Rows
set_option linter.unusedVariables false
theorem upf_map {α β : Type} (f : α → β) (g : Nat → α) (h : Nat) (x : α) (i : Nat) : upf (fun j => f (g j)) h (f x) i = f (upf g h x i) := by
  unfold upf
  by_cases e : i = h
  · rw [if_pos e, if_pos e]
  · rw [if_neg e, if_neg e]
theorem ints_set (l : Nat → Nat) {h : Nat} (hh : h < 2) (n : Nat) : ([.int (l 0 : Nat), .int (l 1 : Nat)] : List V).set h (.int (n : Int)) = [.int (upf l h n 0 : Nat), .int (upf l h n 1 : Nat)] := by
  have := two_set (fun j => V.int (l j : Nat)) hh (V.int (n : Int))
  rw [upf_map (fun n : Nat => V.int (n : Int)) l h n 0, upf_map (fun n : Nat => V.int (n : Int)) l h n 1] at this
  exact this
def outs (m : M) (d : Nat) (v : Nat → V) (h : Nat) : V := if m.l h = d then v h else .non
theorem int_eq {a b : Nat} : (V.int (a : Int) = V.int (b : Int)) ↔ a = b := ⟨fun e => by injection e with e; omega, fun e => by rw [e]⟩
section
variable {P : Program} {w : World} {K : PySem.W.Frag} {mg : Str → Option Value} {base : Heap}
abbrev nKnown : List Str := ["inputs", "weaving", "rounds", "knows", "cells", "looks", "hand"]
theorem scKnown : FnScope nKnown ["inputs", "weaving", "rounds"] (defScope sKnown) := ⟨rfl, rfl, rfl, by decide +kernel, rfl, by decide +kernel, by decide +kernel⟩
theorem ok_known {f g1 g2 g3 g4 : Addr} {fd d1 d2 d3 d4 : FuncData} (F : Fun K "known" "known" sKnown f fd) (T : Txt K mg) (U : Txt2 K mg) (W1 : Def P w K mg base "is_whole_within" ["thing", "least", "most"] 2 spWithin g1 d1)
    (W2 : Def P w K mg base "is_inputs" ["thing"] 2 spInputs g2 d2) (W3 : Def P w K mg base "is_weaving" ["thing", "rounds"] 4 (spWeaving K) g3 d3) (W4 : Def P w K mg base "put_in" ["cells", "at"] 1 (spPut K) g4 d4) :
    FnOk P w K mg base CX0 5 f fd ["inputs", "weaving", "rounds"] (spKnown K) := by
  refine F.ok scKnown (fun vs H Q E h => ?_) (fun cdv A outer s H vs Q E hr h => ?_)
  · obtain ⟨p, hs, d, a, b, ⟨t, rfl, _⟩, _⟩ := h
    rfl
  obtain ⟨p, hs, d, a, b, ⟨t, rfl, ht, hS⟩, hh, hc, hz, hd, ha, hb, q⟩ := h
  obtain ⟨t5, m5⟩ := U.five
  obtain ⟨hA, mH, hH⟩ := U.hands
  have nd := scKnown.nd
  refine ⟨_, pss_cons (ps_if (pt_not (pt_val (pe_call W1.G (hr.mono (by decide)) rfl W1.m W1.k W1.b .nil pass0 (pa_cons (pv 2) (pa_cons pe_int (pa_cons (pe_glob (v := .int 5) rfl m5 ⟨_, rfl⟩) pa_nil)))))) pss_never pss_nil)
    (pss_cons (ps_if (pt_not (pt_val (pe_call W2.G (hr.mono (by decide)) rfl W2.m W2.k W2.b .nil pass0 (pa_cons (pv 0) pa_nil)))) pss_never pss_nil)
    (pss_cons (ps_if (pt_not (pt_val (pe_call W3.G (hr.mono (by decide)) rfl W3.m W3.k W3.b .nil pass0 (pa_cons (pv 1) (pa_cons (pv 2) pa_nil))))) pss_never pss_nil)
    (pss_cons (ps_set (i := 3) nd rfl (Or.inr rfl) (pe_callTy call_list_of (by rfl) T.list boot_list (pa_cons (pv 0) pa_nil)))
    (pss_cons (ps_set (i := 4) nd rfl (Or.inl rfl) (pe_lst (pa_cons (pe_lst pa_nil) (pa_cons (pe_lst pa_nil) pa_nil))))
    (pss_cons (ps_set (i := 5) nd rfl (Or.inr rfl) (pe_lst (pa_cons pe_int (pa_cons pe_int pa_nil))))
    (pss_cons (ps_for PassesOwn.never rfl (pi_list (pv 1)) (pg_name (i := 6) nd rfl (Or.inl rfl))
      (pss_one (ps_if (pt_cmpR op_gt (pe_callB call_len_seq (by rfl) T.len PySem.boot_len (pa_cons (pe_ix ix_list (pv 4) (pv 6) (fun _ _ => rfl)) pa_nil)) (pe_ix ix_list (pv 5) (pv 6) (fun _ _ => rfl)) (nomark _))
        (pss_cons (ps_asg (pe_tup (pa_cons (pe_ix ix_list (pv 3) (pv 6) (fun _ _ => rfl)) (pa_cons (pe_call W4.G (hr.mono (by decide)) rfl W4.m W4.k W4.b .nil pass0 (pa_cons (pe_ix ix_list (pv 4) (pe_op op_sub pe_int (pv 6)) (fun _ _ => rfl)) (pa_cons (pe_ix ix_list (pv 5) (pv 6) (fun _ _ => rfl)) pa_nil))) pa_nil))) (pg_sub (pv 3) (pv 6) set_list))
          (pss_one (ps_augS (pv 5) (pv 6) get_list pe_int ip_add set_list)))
        (pss_one (ps_expr (pe_bm PySem.F.plainAttrs_list PySem.F.slot_list_append PySem.F.type_list_append mt_append (pe_ix ix_list (pv 4) (pv 6) (fun _ _ => rfl)) (pa_cons (pe_ix ix_list (pv 3) (pv 6) (fun _ _ => rfl)) pa_nil)))))))
    (pss_one (ps_ret (pe_lc (own := [("hand", 6)]) (g := gName 6) (tt := tYes) (te := tIf (tTest (tOp rEq (tOp (rIxL K) (tVar 5) (tVar 6)) (tVar 2))) (tOp (rIxL K) (tVar 3) (tVar 6)) (tC .non)) rfl nd (pi_tup (pe_glob (v := .ref hA) rfl mH rfl)) (blkOk_by (N := nKnown) (sc := defScope sKnown) (by decide +kernel)) (fun _ _ _ _ _ => pg_name (i := 6) nd rfl (Or.inl rfl)) (fun _ _ _ _ _ => pts_nil)
      (fun _ _ _ _ _ => (by refine pe_ifExp ?_ ?_ pe_non; (refine pt_cmpR op_eq ?_ (pv 2) (nomark _); exact pe_ix ix_list (pv 5) (pv 6) (fun _ _ => rfl)); (exact pe_ix ix_list (pv 3) (pv 6) (fun _ _ => rfl))))))))))))), ?_⟩
  have e5 : decide ((0 : Int) ≤ (d : Int) ∧ (d : Int) ≤ 5) = true := decide_eq_true (by omega)
  refine ⟨_, rfl, (d : Int), 0, 5, rfl, true, congrArg V.bl e5, iteF ?_⟩
  refine ⟨_, rfl, t, a, b, rfl, ht, ha, hb, fun H1 s1 => ⟨true, rfl, iteF ?_⟩⟩
  refine ⟨_, rfl, _, rfl, p, hs, d, rfl, s1.seq hS, hh, hc, by omega, fun H2 s2 => ⟨true, rfl, iteF ?_⟩⟩
  have s12 := s1.trans s2
  refine ⟨_, rfl, t, _, rfl, .inr (SqT.of (s12 _ _ ht)), fun kn hkn => ?_⟩
  refine ⟨Nat.zero_le _, fun c0 hc0 => ⟨Nat.zero_le _, fun c1 hc1 => ⟨(by show 2 ≤ sizeLine; decide), fun ce hce => ?_⟩⟩⟩
  refine ⟨(by show 2 ≤ sizeLine; decide), fun lo hlo => ?_⟩
  have sa := same_new hkn (.lst [V.int a, V.int b])
  have sb := sa.trans (same_new hc0 (.lst []))
  have sc := sb.trans (same_new hc1 (.lst []))
  have sd := sc.trans (same_new hce (.lst [V.ref c0, V.ref c1]))
  have se := sd.trans (same_new hlo (.lst [V.int 0, V.int 0]))
  have K0 : KS H2 (upd (upd (upd (upd (upd H2 kn (.lst [V.int a, V.int b])) c0 (.lst [])) c1 (.lst [])) ce (.lst [V.ref c0, V.ref c1])) lo (.lst [V.int 0, V.int 0])) kn ce lo (fun i => if i = 0 then c0 else c1) (M0 a b) := by
    have q1 := upd_same (H := H2) (a := kn) (o := .lst [V.int a, V.int b])
    have q2 := upd_same (H := upd H2 kn (.lst [V.int a, V.int b])) (a := c0) (o := .lst [])
    have q3 := upd_same (H := upd (upd H2 kn (.lst [V.int a, V.int b])) c0 (.lst [])) (a := c1) (o := .lst [])
    have q4 := upd_same (H := upd (upd (upd H2 kn (.lst [V.int a, V.int b])) c0 (.lst [])) c1 (.lst [])) (a := ce) (o := .lst [V.ref c0, V.ref c1])
    have b2 := same_new hc0 (.lst [])
    have b3 := same_new hc1 (.lst [])
    have b4 := same_new hce (.lst [V.ref c0, V.ref c1])
    have b5 := same_new hlo (.lst [V.int 0, V.int 0])
    have two : ∀ {R : Addr → Prop}, R c0 → R c1 → ∀ h < 2, R ((fun i : Nat => if i = 0 then c0 else c1) h) := fun r0 r1 h hh => by
      rcases h with _ | _ | h
      · exact r0
      · exact r1
      · omega
    refine { same := se, f1 := hkn, f2 := sc.free hce, f3 := sd.free hlo, f4 := two (R := fun c => H2 c = none) (sa.free hc0) (sb.free hc1), n1 := ne_of_none (b3 _ _ (b2 _ _ q1)) hce, n2 := ne_of_none (b4 _ _ (b3 _ _ (b2 _ _ q1))) hlo, n3 := two (R := fun c => kn ≠ c) (ne_of_none q1 hc0) (ne_of_none (b2 _ _ q1) hc1), n4 := ne_of_none q4 hlo, n5 := two (R := fun c => ce ≠ c) (ne_of_none (b3 _ _ q2) hce).symm (ne_of_none q3 hce).symm, n6 := two (R := fun c => lo ≠ c) (ne_of_none (b4 _ _ (b3 _ _ q2)) hlo).symm (ne_of_none (b4 _ _ q3) hlo).symm, n7 := ne_of_none q2 hc1, hk := ⟨fun i => if i = 0 then .int a else .int b, b5 _ _ (b4 _ _ (b3 _ _ (b2 _ _ q1))), fun h hh => ?_⟩, he := b5 _ _ q4, ho := upd_same, hc := ?_ }
    · rcases h with _ | _ | h
      · exact .int a
      · exact .int b
      · omega
    · intro h hh
      rcases h with _ | _ | h
      · exact ⟨[], b5 _ _ (b4 _ _ (b3 _ _ q2)), .nil⟩
      · exact ⟨[], b5 _ _ (b4 _ _ q3), .nil⟩
      · omega
  generalize (fun i : Nat => if i = 0 then c0 else c1) = cs at K0
  have lenH : (hl hs).length = hs.length := List.length_map _
  refine ⟨_, rfl, p, rfl, ⟨_, (s12.trans se).seq hS⟩, for_list (K := K) (a := p) (xs := hl hs) (fun i σ Hc => ∃ g, σ = [some (.ref t), some (.ref p), some (.int (d : Int)), some (.ref kn), some (.ref ce), some (.ref lo), g] ∧ KS H2 Hc kn ce lo cs ((M0 a b).run (hs.take i))) ⟨none, rfl, K0⟩ ?_ ?_ ?_⟩
  · rintro i σ Hc _ ⟨g, _, S⟩
    exact (s12.trans S.same).seq hS
  · rintro i x σ Hc hx ⟨g, rfl, S⟩
    obtain ⟨z, rfl, hz1⟩ := hl_at hx
    have hz2 : z < 2 := hh z (List.mem_of_getElem? hz1)
    have er : (M0 a b).run (hs.take (i + 1)) = ((M0 a b).run (hs.take i)).step z := by
      rw [List.take_add_one, hz1]
      exact M.run_snoc _ _ _
    rw [er]
    have hdn : ((M0 a b).run (hs.take i)).done z ≤ 40 := by
      rw [M.done_run]
      have h1 := List.count_le_length (a := z) (l := hs.take i)
      rw [List.length_take] at h1
      show 0 + 0 + _ ≤ 40
      omega
    generalize (M0 a b).run (hs.take i) = m at S hdn ⊢
    obtain ⟨v, hk, hkn'⟩ := S.hk
    obtain ⟨ws, hw, hwa⟩ := S.hc z hz2
    have hwl := hwa.len
    have he2 := at_two (fun i => V.ref (cs i)) hz2
    have ho2 := at_two (fun i => V.int ((m.l i : Nat) : Int)) hz2
    refine ⟨_, rfl, _, rfl, ce, _, _, _, rfl, rfl, SqL.of S.he, he2, cs z, ws, rfl, .inl (SqL.of hw), _, rfl, _, rfl, lo, _, _, _, rfl, rfl, SqL.of S.ho, ho2, _, _, rfl, rfl, _, rfl, ?_⟩
    refine ite2 (fun c1 => ?_) (fun c1 => ?_)
    · have c2 : ((m.l z : Nat) : Int) < ((ws.length : Nat) : Int) := of_decide_eq_true c1
      have c3 : m.l z < (m.c z).length := by omega
      obtain ⟨ws2, hw2, hwa2⟩ := S.hc (1 - z) (by omega)
      have he3 : atI [V.ref (cs 0), V.ref (cs 1)] ((1 : Int) - (z : Int)) = some (.ref (cs (1 - z))) := by
        rw [show (1 : Int) - (z : Int) = ((1 - z : Nat) : Int) by omega]
        exact at_two (fun i => V.ref (cs i)) (by omega)
      refine ⟨_, rfl, _, rfl, kn, _, _, _, rfl, rfl, SqL.of hk, at_two v hz2, _, rfl, _, rfl, _, _, rfl, rfl, ce, _, _, _, rfl, rfl, SqL.of S.he, he3, _, rfl, _, rfl, lo, _, _, _, rfl, rfl, SqL.of S.ho, ho2, cs (1 - z), ws2, m.l z, rfl, SqL.of hw2, (by show 2 ≤ sizeLine; decide), fun q0 hq0 => ?_⟩
      have n1 := ne_of_none hk hq0
      have n2 := ne_of_none S.ho hq0
      refine ⟨_, rfl, _, rfl, kn, [v 0, v 1], _, z, rfl, rfl, by rw [upd_ne n1]; exact hk, ixN_two hz2, ?_⟩
      have ho3 : (upd (upd Hc q0 (.tup [v z, ws2.getD (m.l z) .non])) kn (.lst ([v 0, v 1].set z (.ref q0)))) lo = some (.lst [.int (m.l 0 : Nat), .int (m.l 1 : Nat)]) := by
        rw [upd_ne S.n2.symm, upd_ne n2]
        exact S.ho
      refine ⟨_, rfl, _, rfl, lo, _, z, _, rfl, rfl, SqL.of ho3, two_get (fun i => V.int ((m.l i : Nat) : Int)) hz2, _, _, rfl, rfl, lo, [.int (m.l 0 : Nat), .int (m.l 1 : Nat)], _, z, rfl, rfl, ho3, ixN_two hz2, ?_⟩
      refine ⟨_, rfl, ?_⟩
      have r := S.look hz2 c3 hk hkn' (hwa2.getD (m.l z)) hq0
      rw [← two_set v hz2, ← ints_set m.l hz2] at r
      exact r
    · have c2 : ¬ ((m.l z : Nat) : Int) < ((ws.length : Nat) : Int) := of_decide_eq_false (Bool.eq_false_iff.mpr c1)
      have c3 : ¬ m.l z < (m.c z).length := by omega
      have hsz : ws.length < sizeLine := by
        unfold M.done at hdn
        exact Nat.lt_of_le_of_lt (show ws.length ≤ 40 by omega) (by decide)
      refine ⟨_, rfl, _, rfl, ce, _, _, _, rfl, rfl, SqL.of S.he, he2, .inl ⟨rfl, _, SqL.of hw⟩, _, rfl, _, rfl, kn, _, _, _, rfl, rfl, SqL.of hk, at_two v hz2, cs z, ws, _, rfl, rfl, hw, hsz, ?_⟩
      exact ⟨_, rfl, S.put hz2 c3 hw hwa (hkn' z hz2)⟩
  · rintro σ Hc ⟨g, rfl, S⟩
    rw [lenH, List.take_length] at S
    have wf := M.wf_run (M.wf0 a b) hh
    have dn : ∀ h < 2, ((M0 a b).run hs).done h ≤ 2 * d := fun h h2 => by
      rw [M.done_run]
      have := hc h h2
      show 0 + 0 + _ ≤ _
      omega
    generalize (M0 a b).run hs = m at S wf dn q ⊢
    obtain ⟨v, hk, hkn'⟩ := S.hk
    refine ⟨hA, rfl, ⟨_, hH _⟩, fun D hD => ?_⟩
    refine tup_turns (xs := [V.int 0, V.int 1]) (fun i H' => Same Hc H' ∧ H' D = some (.lst ([outs m d v 0, outs m d v 1].take i))) ⟨same_new hD _, upd_same⟩ (fun i H' _ h => hH _) ?_ ?_
    · rintro i x H' hx ⟨s3, h3⟩
      obtain ⟨rfl, hi⟩ := nat_two hx
      have fin : ∀ H'', Same H' H'' → ∃ acc, H'' D = some (.lst acc) ∧ acc.length < sizeLine ∧ (Same Hc (upd H'' D (.lst (acc ++ [outs m d v i]))) ∧ (upd H'' D (.lst (acc ++ [outs m d v i]))) D = some (.lst ([outs m d v 0, outs m d v 1].take (i + 1)))) := fun H'' s4 => by
        refine ⟨_, s4 _ _ h3, Nat.lt_of_le_of_lt (List.length_take_le i _) (Nat.lt_of_lt_of_le hi (by decide)), same_upd (s3.trans s4) hD, ?_⟩
        rw [upd_same, List.take_add_one, two_get (outs m d v) hi]
        all_goals rfl
      refine ⟨rfl, _, rfl, _, rfl, lo, _, _, _, rfl, rfl, SqL.of (s3 _ _ S.ho), at_two (fun i => V.int ((m.l i : Nat) : Int)) hi, _, rfl, rfl, _, rfl, ?_⟩
      refine ite2 (fun c1 => ?_) (fun c1 => ?_)
      · have c2 : m.l i = d := int_eq.mp (of_decide_eq_true c1)
        have r := fin H' (Same.refl _)
        rw [show outs m d v i = v i by unfold outs; rw [if_pos c2]] at r
        exact ⟨_, rfl, _, rfl, kn, _, _, _, rfl, rfl, SqL.of (s3 _ _ hk), at_two v hi, r⟩
      · have c2 : ¬ m.l i = d := fun e => c1 (decide_eq_true (int_eq.mpr e))
        have r := fin H' (Same.refl _)
        rw [show outs m d v i = .non by unfold outs; rw [if_neg c2]] at r
        exact r
    · rintro H' ⟨s3, h3⟩
      have sH := s12.trans (S.same.trans s3)
      refine q D (outs m d v) H' sH (s12.free (S.same.free hD)) h3 fun h h2 => ?_
      have st := M.stopped wf h2 (dn h h2)
      unfold outs M.res
      by_cases c : m.l h = d
      · rw [if_pos c, if_pos (st.mp c)]
        exact (hkn' h h2).mono (Tups.same s3)
      · rw [if_neg c, if_neg (fun e => c (st.mpr e))]
        exact .non
end
end TB

set_option Elab.async false
set_option maxRecDepth 100000
set_option maxHeartbeats 4000000
namespace TB
open PySem L2 PyProof.Rows
set_option linter.unusedVariables false
/-- all but what stands at a is as it was -/
def But (a : Addr) (H H' : Hp) : Prop := ∀ b o, b ≠ a → H b = some o → H' b = some o
def WellAt (H : Hp) (a : Addr) (n : Int) : Prop := ∃ x y z : Int, H a = some (.lst [.int x, .int y, .int z]) ∧ 0 ≤ x ∧ 0 ≤ y ∧ y < 2147483629 ∧ 0 ≤ z ∧ z ≤ n
theorem But.trans {a : Addr} {H H1 H2 : Hp} (h : But a H H1) (g : But a H1 H2) : But a H H2 := fun b o e q => g b o e (h b o e q)
theorem But.same {a : Addr} {H H' : Hp} (s : Same H H') : But a H H' := fun b o _ q => s b o q
theorem WellAt.same {H H' : Hp} {a : Addr} {n : Int} (s : Same H H') (w : WellAt H a n) : WellAt H' a n := by
  obtain ⟨x, y, z, h, r⟩ := w
  exact ⟨x, y, z, s _ _ h, r⟩
theorem WellAt.up {H : Hp} {a : Addr} {n m : Int} (w : WellAt H a n) (h : n ≤ m) : WellAt H a m := by
  obtain ⟨x, y, z, e, r1, r2, r3, r4, r5⟩ := w
  exact ⟨x, y, z, e, r1, r2, r3, r4, by omega⟩
theorem But.free {a : Addr} {H H' : Hp} {m : Int} (b : But a H H') (w : WellAt H' a m) {q : Addr} (h : H' q = none) : H q = none := by
  obtain ⟨x, y, z, e, _⟩ := w
  have nq : q ≠ a := fun c => by rw [c, e] at h; cases h
  cases g : H q with
  | none => rfl
  | some o => rw [b q o nq g] at h; cases h
theorem weak {P : Program} {w : World} {K : PySem.W.Frag} {mg : Str → Option Value} {base : Heap} {k : Nat} {f : Addr} {fd : FuncData} {ps : List Str} {sp sp' : Sp} (F : FnOk P w K mg base CX0 k f fd ps sp) (i : ∀ vs H Q E, sp' vs H Q E → sp vs H Q E) : FnOk P w K mg base CX0 k f fd ps sp' :=
  ⟨fun vs H Q E h => F.len vs H Q E (i _ _ _ _ h), fun A outer s H args us vs Q E a b c d h => F.run A outer s H args us vs Q E a b c d (i _ _ _ _ h)⟩
def spLW : Sp := fun vs H Q _ => ∃ (a : Addr) (n : Int) (d : Nat) (st : Bool), vs = [.ref a, .int (d : Int), .bl st] ∧ WellAt H a n ∧ n ≤ 900000 ∧ d ≤ 5 ∧
  ∀ (o : Addr) (hs : List Nat) (H' : Hp), But a H H' → WellAt H' a (n + 100) → H o = none → H' o = some (.lst (hl hs)) → (∀ h ∈ hs, h < 2) → (∀ h < 2, hs.count h ≤ 2 * d) → (st = false → ∀ h < 2, hs.count h = 2 * d) → Q (.ref o) H'
def avail (l : Nat → Nat) (i : Nat) : List Nat := (([0, 1] : List Nat).take i).filter fun h => decide (0 < l h)
theorem avail_mem {l : Nat → Nat} {i h : Nat} (m : h ∈ avail l i) : h < 2 ∧ 0 < l h := by
  unfold avail at m
  obtain ⟨m1, m2⟩ := List.mem_filter.mp m
  have m3 := List.mem_of_mem_take m1
  have : h = 0 ∨ h = 1 := by simpa using m3
  exact ⟨by omega, of_decide_eq_true m2⟩
theorem avail_step {l : Nat → Nat} {i : Nat} (hi : i < 2) : avail l (i + 1) = if 0 < l i then avail l i ++ [i] else avail l i := by
  unfold avail
  have e : ([0, 1] : List Nat)[i]? = some i := two_get (fun i => i) hi
  rw [List.take_add_one, e, List.filter_append]
  by_cases c : 0 < l i
  · rw [if_pos c]; simp [c]
  · rw [if_neg c]; simp [c]
theorem avail_len (l : Nat → Nat) (i : Nat) : (avail l i).length ≤ 2 := by
  unfold avail
  refine Nat.le_trans (List.length_filter_le _ _) ?_
  rw [List.length_take]
  exact Nat.min_le_right _ _
theorem avail_pos {l : Nat → Nat} (h : 0 < l 0 + l 1) : 0 < (avail l 2).length := by
  rw [avail_step (by decide), avail_step (by decide)]
  by_cases c : 0 < l 1
  · rw [if_pos c, List.length_append]; show 0 < _ + 1; omega
  · rw [if_neg c, if_pos (show 0 < l 0 by omega), List.length_append]; show 0 < _ + 1; omega
theorem hl_snoc (hs : List Nat) (z : Nat) : hl hs ++ [V.int (z : Int)] = hl (hs ++ [z]) := by
  unfold hl
  rw [List.map_append]
  rfl
theorem join {b : Bool} {X : Prop} {R : Hp → Prop} {H : Hp} (Iv : Hp → Prop) (h0 : Iv H) (k : ∀ Hc, Iv Hc → R Hc) (h1 : b = true → (∀ Hc, Iv Hc → R Hc) → X) : if b = true then X else R H := by
  cases b with
  | false => exact iteF (k H h0)
  | true => exact iteT (h1 rfl k)
def LWI (H : Hp) (a mn lf fo : Addr) (n : Int) (d : Nat) (st : Bool) (m : Nat) (σ : L2.St) (Hc : Hp) : Prop := ∃ (l : Nat → Nat) (hs : List Nat) (g1 g2 : Option V), m = l 0 + l 1 ∧
  σ = [some (.ref a), some (.int (d : Int)), some (.bl st), some (.ref mn), some (.ref lf), some (.ref fo), g1, g2] ∧ But a H Hc ∧ WellAt Hc a (n + 2 + 3 * (20 - ((l 0 + l 1 : Nat) : Int))) ∧
  Hc lf = some (.lst [.int (l 0 : Nat), .int (l 1 : Nat)]) ∧ Hc fo = some (.lst (hl hs)) ∧ (∀ h ∈ hs, h < 2) ∧ (∀ h < 2, hs.count h + l h ≤ 2 * d) ∧ (st = false → ∀ h < 2, hs.count h + l h = 2 * d)
theorem len_counts : ∀ hs : List Nat, (∀ h ∈ hs, h < 2) → hs.length = hs.count 0 + hs.count 1
  | [], _ => rfl
  | h :: r, q => by
    have ih := len_counts r (fun x hx => q x (List.mem_cons_of_mem _ hx))
    have h2 := q h List.mem_cons_self
    rw [List.length_cons, List.count_cons, List.count_cons, ih]
    rcases h with _ | _ | h
    · simp; omega
    · simp; omega
    · omega
theorem But.upd {a p : Addr} {H H' : Hp} {o : HO} (b : But a H H') (f : H p = none) : But a H (L2.upd H' p o) := fun c u nc e => by
  rw [upd_ne (ne_of_none e f)]
  exact b _ _ nc e
theorem WellAt.upd {a p : Addr} {H : Hp} {o : HO} {n : Int} (w : WellAt H a n) (f : a ≠ p) : WellAt (L2.upd H p o) a n := by
  obtain ⟨x, y, z, e, r⟩ := w
  exact ⟨x, y, z, by rw [upd_ne f]; exact e, r⟩
end TB

set_option Elab.async false
set_option maxRecDepth 100000
set_option maxHeartbeats 4000000
namespace TB
open PySem L2 PyProof.Rows
set_option linter.unusedVariables false
/-! places, in plain mathematics -/
abbrev Stands := Int × Option Int × Option Int
def agr : Option Int → Option Int → Bool
  | some a, some b => decide (a = b)
  | _, _ => true
def fst2 : Option Int → Option Int → Option Int
  | none, b => b
  | some a, _ => some a
def metD (u v : Stands) : Option Stands :=
  if (v.1 - u.1).natAbs = 1 ∧ agr u.2.1 v.2.1 = true ∧ agr u.2.2 v.2.2 = true then some (3 * u.1 + 2 * (v.1 - u.1), fst2 u.2.1 v.2.1, fst2 u.2.2 v.2.2) else none
def isN : PyData → Bool
  | .none => true
  | _ => false
def stand1 (u : Option Stands) (y : PyData) (v : Option Stands) : Option Stands := u.bind fun u => if isN y = true then some (3 * u.1, u.2.1, u.2.2) else v.bind (metD u)
def stand : Nat → PyData → Nat → Option Stands
  | 0, .int i, h => if 0 ≤ i then some (if h = 0 then (0, some i, none) else (1, none, some i)) else none
  | r + 1, .tuple [x, y], h => stand1 (stand r x h) y (stand r y (1 - h))
  | _, _, _ => none
/-- how deep, at most n -/
def rb : Nat → PyData → Nat
  | n + 1, .tuple [x, _] => rb n x + 1
  | _, _ => 0
def placeD (d : PyData) (h : Nat) : Option Int := (stand (rb 5 d) d h).map (·.1)
theorem stand0 {d : PyData} {h : Nat} {u : Stands} (e : stand 0 d h = some u) : ∃ i : Int, d = .int i ∧ 0 ≤ i ∧ u = (if h = 0 then (0, some i, none) else (1, none, some i)) := by
  cases d with
  | int i =>
    simp only [stand] at e
    split at e
    · cases e; exact ⟨i, rfl, by assumption, rfl⟩
    · cases e
  | _ => simp [stand] at e
theorem standS {r : Nat} {d : PyData} {h : Nat} {u : Stands} (e : stand (r + 1) d h = some u) : ∃ x y u0, d = .tuple [x, y] ∧ stand r x h = some u0 ∧ ((isN y = true ∧ u = (3 * u0.1, u0.2.1, u0.2.2)) ∨ (isN y = false ∧ ∃ v, stand r y (1 - h) = some v ∧ metD u0 v = some u)) := by
  match d, e with
  | .tuple [x, y], e =>
    simp only [stand, stand1] at e
    cases e1 : stand r x h with
    | none => rw [e1] at e; cases e
    | some u0 =>
      rw [e1] at e
      refine ⟨x, y, u0, rfl, e1, ?_⟩
      by_cases c : isN y = true
      · rw [Option.bind_some, if_pos c] at e
        exact .inl ⟨c, by cases e; rfl⟩
      · rw [Option.bind_some, if_neg c] at e
        cases e2 : stand r y (1 - h) with
        | none => rw [e2] at e; cases e
        | some v =>
          rw [e2] at e
          exact .inr ⟨Bool.eq_false_iff.mpr c, v, rfl, e⟩
  | .none, e => simp [stand] at e
  | .bool _, e => simp [stand] at e
  | .int _, e => simp [stand] at e
  | .str _, e => simp [stand] at e
  | .list _, e => simp [stand] at e
  | .dict _, e => simp [stand] at e
  | .tuple [], e => simp [stand] at e
  | .tuple [_], e => simp [stand] at e
  | .tuple (_ :: _ :: _ :: _), e => simp [stand] at e
theorem stand_rb : ∀ {r : Nat} {d : PyData} {h : Nat} {u : Stands}, stand r d h = some u → ∀ n, rb n d = min n r
  | 0, d, h, u, e, n => by
    obtain ⟨i, rfl, _⟩ := stand0 e
    cases n <;> simp [rb]
  | r + 1, d, h, u, e, n => by
    obtain ⟨x, y, u0, rfl, e0, _⟩ := standS e
    cases n with
    | zero => simp [rb]
    | succ n => simp only [rb]; rw [stand_rb e0 n]; omega
theorem stand_isN {r : Nat} {d : PyData} {h : Nat} {u : Stands} (e : stand r d h = some u) : isN d = false := by
  cases r with
  | zero => obtain ⟨i, rfl, _⟩ := stand0 e; rfl
  | succ r => obtain ⟨x, y, u0, rfl, _⟩ := standS e; rfl
theorem stand_uniq {r r' : Nat} {d : PyData} {h h' : Nat} {u u' : Stands} (e : stand r d h = some u) (e' : stand r' d h' = some u') : r = r' := by
  have a := stand_rb e (r + r')
  have b := stand_rb e' (r + r')
  omega
theorem metD_some {u v w : Stands} (e : metD u v = some w) : (v.1 - u.1).natAbs = 1 ∧ agr u.2.1 v.2.1 = true ∧ agr u.2.2 v.2.2 = true ∧ w = (3 * u.1 + 2 * (v.1 - u.1), fst2 u.2.1 v.2.1, fst2 u.2.2 v.2.2) := by
  unfold metD at e
  split at e
  · rename_i c
    cases e
    exact ⟨c.1, c.2.1, c.2.2, rfl⟩
  · cases e
/-- a hand's own input is known, also where the thing is taken for the other hand's -/
theorem stand_own : ∀ {r : Nat} {d : PyData}, ∃ a : Int, (∀ u, stand r d 0 = some u → u.2.1 = some a ∧ (u.2.2 = none → u.1 = 0)) ∧ (∀ v, stand r d 1 = some v → v.2.2 = some a ∧ (v.2.1 = none → v.1 = 3 ^ r)) ∧ (∀ u v, stand r d 0 = some u → stand r d 1 = some v → u.2.2 = none ∨ v.2.1 = none → u.1 = 0 ∧ v.1 = 3 ^ r)
  | 0, d => by
    by_cases q : ∃ i, d = .int i
    · obtain ⟨i, rfl⟩ := q
      refine ⟨i, fun u e => ?_, fun v e => ?_, fun u v e f _ => ?_⟩
      · obtain ⟨j, ej, _, rfl⟩ := stand0 e
        cases ej
        exact ⟨rfl, fun _ => rfl⟩
      · obtain ⟨j, ej, _, rfl⟩ := stand0 e
        cases ej
        exact ⟨rfl, fun _ => rfl⟩
      · obtain ⟨j, ej, _, rfl⟩ := stand0 e
        obtain ⟨j2, ej2, _, rfl⟩ := stand0 f
        exact ⟨rfl, rfl⟩
    · have no : ∀ h u, stand 0 d h ≠ some u := fun h u e => by
        obtain ⟨i, ei, _⟩ := stand0 e
        exact q ⟨i, ei⟩
      exact ⟨0, fun u e => absurd e (no _ _), fun u e => absurd e (no _ _), fun u v e => absurd e (no _ _)⟩
  | r + 1, d => by
    by_cases q : ∃ x y, d = .tuple [x, y]
    · obtain ⟨x, y, rfl⟩ := q
      obtain ⟨a, h0, h1, h2⟩ := stand_own (r := r) (d := x)
      obtain ⟨b, k0, k1, k2⟩ := stand_own (r := r) (d := y)
      have p3 : (3 : Int) ^ (r + 1) = 3 * 3 ^ r := by rw [Int.pow_succ]; omega
      refine ⟨a, fun u e => ?_, fun v e => ?_, fun u v e f g => ?_⟩
      · obtain ⟨x', y', u0, ed, e0, e1⟩ := standS e
        cases ed
        obtain ⟨g1, g2⟩ := h0 _ e0
        rcases e1 with ⟨_, rfl⟩ | ⟨_, v, ev, em⟩
        · exact ⟨g1, fun z => by have := g2 z; show 3 * u0.1 = 0; omega⟩
        · obtain ⟨_, _, _, rfl⟩ := metD_some em
          obtain ⟨g3, _⟩ := k1 _ ev
          refine ⟨by show fst2 u0.2.1 v.2.1 = _; rw [g1]; rfl, fun z => ?_⟩
          have z' : fst2 u0.2.2 v.2.2 = none := z
          rw [g3] at z'
          cases e9 : u0.2.2 <;> rw [e9] at z' <;> cases z'
      · obtain ⟨x', y', u0, ed, e0, e1⟩ := standS e
        cases ed
        obtain ⟨g1, g2⟩ := h1 _ e0
        rcases e1 with ⟨_, rfl⟩ | ⟨_, v', ev, em⟩
        · exact ⟨g1, fun z => by have := g2 z; show 3 * u0.1 = _; omega⟩
        · obtain ⟨_, _, _, rfl⟩ := metD_some em
          obtain ⟨g3, _⟩ := k0 _ ev
          refine ⟨by show fst2 u0.2.2 v'.2.2 = _; rw [g1]; rfl, fun z => ?_⟩
          have z' : fst2 u0.2.1 v'.2.1 = none := z
          rw [g3] at z'
          cases e9 : u0.2.1 <;> rw [e9] at z' <;> cases z'
      · obtain ⟨x', y', u0, ed, e0, e1⟩ := standS e
        cases ed
        obtain ⟨x', y', v0, ed, f0, f1⟩ := standS f
        cases ed
        rcases e1 with ⟨_, rfl⟩ | ⟨c, v', ev, em⟩
        · rcases f1 with ⟨_, rfl⟩ | ⟨c, v', ev, em⟩
          · obtain ⟨z1, z2⟩ := h2 _ _ e0 f0 g
            exact ⟨by show 3 * u0.1 = 0; omega, by show 3 * v0.1 = _; omega⟩
          · rename_i c'
            rw [c] at c'; cases c'
        · rcases f1 with ⟨c', _⟩ | ⟨_, w, fw, fm⟩
          · rw [c] at c'; cases c'
          · obtain ⟨_, _, _, rfl⟩ := metD_some em
            obtain ⟨_, _, _, rfl⟩ := metD_some fm
            obtain ⟨g3, _⟩ := k1 _ ev
            obtain ⟨g4, _⟩ := k0 _ fw
            rcases g with g | g
            · have z' : fst2 u0.2.2 v'.2.2 = none := g
              rw [g3] at z'
              cases e9 : u0.2.2 <;> rw [e9] at z' <;> cases z'
            · have z' : fst2 v0.2.1 w.2.1 = none := g
              rw [g4] at z'
              cases e9 : v0.2.1 <;> rw [e9] at z' <;> cases z'
    · have no : ∀ h u, stand (r + 1) d h ≠ some u := fun h u e => by
        obtain ⟨x, y, _, ei, _⟩ := standS e
        exact q ⟨x, y, ei⟩
      exact ⟨0, fun u e => absurd e (no _ _), fun u e => absurd e (no _ _), fun u v e => absurd e (no _ _)⟩
/-- the inputs that stand in what hand h knows, of inputs a, b -/
def inp (a b : Int) (h : Nat) (u : Stands) : Prop := (u.2.1 = some a ∨ (h = 1 ∧ u.2.1 = none)) ∧ (u.2.2 = some b ∨ (h = 0 ∧ u.2.2 = none))
def At (a b : Int) (r : Nat) (d : PyData) (h : Nat) (j : Int) : Prop := ∃ u, stand r d h = some u ∧ u.1 = j ∧ inp a b h u
theorem At.int {a b : Int} (ha : 0 ≤ a) (hb : 0 ≤ b) {h : Nat} (hh : h < 2) : At a b 0 (if h = 0 then .int a else .int b) h (if h = 0 then 0 else 1) := by
  obtain rfl | rfl : h = 0 ∨ h = 1 := by omega
  · exact ⟨(0, some a, none), by simp [stand, ha], rfl, .inl rfl, .inr ⟨rfl, rfl⟩⟩
  · exact ⟨(1, none, some b), by simp [stand, hb], rfl, .inr ⟨rfl, rfl⟩, .inl rfl⟩
theorem At.alone {a b : Int} {r : Nat} {d : PyData} {h : Nat} {j : Int} (k : At a b r d h j) : At a b (r + 1) (.tuple [d, .none]) h (3 * j) := by
  obtain ⟨u, e, rfl, i⟩ := k
  exact ⟨(3 * u.1, u.2.1, u.2.2), by simp [stand, stand1, e, isN], rfl, i⟩
theorem inp_agr {a b : Int} {h h' : Nat} {u v : Stands} (i : inp a b h u) (k : inp a b h' v) : agr u.2.1 v.2.1 = true ∧ agr u.2.2 v.2.2 = true := by
  obtain ⟨i1, i2⟩ := i
  obtain ⟨k1, k2⟩ := k
  constructor
  · rcases i1 with e | ⟨_, e⟩ <;> rcases k1 with f | ⟨_, f⟩ <;> rw [e, f] <;> simp [agr]
  · rcases i2 with e | ⟨_, e⟩ <;> rcases k2 with f | ⟨_, f⟩ <;> rw [e, f] <;> simp [agr]
theorem At.met {a b : Int} {r : Nat} {d e : PyData} {h : Nat} {i j : Int} (hh : h < 2) (k : At a b r d h j) (l : At a b r e (1 - h) i) (n : (i - j).natAbs = 1) : At a b (r + 1) (.tuple [d, e]) h (3 * j + 2 * (i - j)) := by
  obtain ⟨u, e1, rfl, i1⟩ := k
  obtain ⟨v, e2, rfl, i2⟩ := l
  obtain ⟨g1, g2⟩ := inp_agr i1 i2
  refine ⟨(3 * u.1 + 2 * (v.1 - u.1), fst2 u.2.1 v.2.1, fst2 u.2.2 v.2.2), ?_, rfl, ?_, ?_⟩
  · have en := stand_isN e2
    show stand1 _ _ _ = _
    rw [e1, e2]
    unfold stand1 metD
    rw [Option.bind_some, if_neg (by rw [en]; decide), Option.bind_some, if_pos ⟨n, g1, g2⟩]
  · rcases i1.1 with z | ⟨y, z⟩
    · left; show fst2 u.2.1 v.2.1 = _; rw [z]; rfl
    · rcases i2.1 with z2 | ⟨y2, z2⟩
      · left; show fst2 u.2.1 v.2.1 = _; rw [z, z2]; rfl
      · omega
  · rcases i1.2 with z | ⟨y, z⟩
    · left; show fst2 u.2.2 v.2.2 = _; rw [z]; rfl
    · rcases i2.2 with z2 | ⟨y2, z2⟩
      · left; show fst2 u.2.2 v.2.2 = _; rw [z, z2]; rfl
      · omega
/-! the mirror of the places -/
structure Pm where
  q : Nat → Nat → Int
  l : Nat → Nat
  n : Nat → Nat
def Pm.nxt (p : Pm) (h : Nat) : Int := if p.l h < p.n (1 - h) then 3 * p.q h (p.l h) + 2 * (p.q (1 - h) (p.l h) - p.q h (p.l h)) else 3 * p.q h (p.l h)
def Pm.step (p : Pm) (h : Nat) : Pm :=
  if p.l h < p.n h then { q := upf p.q h (upf (p.q h) (p.l h + 1) (p.nxt h)), l := upf p.l h (p.l h + 1), n := p.n }
  else { q := p.q, l := p.l, n := upf p.n h (p.n h + 1) }
def P0 : Pm := { q := fun h _ => if h = 0 then 0 else 1, l := fun _ => 0, n := fun _ => 0 }
def Pm.run (p : Pm) (hs : List Nat) : Pm := hs.foldl Pm.step p
theorem Pm.run_snoc (p : Pm) (hs : List Nat) (h : Nat) : p.run (hs ++ [h]) = (p.run hs).step h := by
  unfold Pm.run
  rw [List.foldl_append]
  rfl
structure Nb (p : Pm) : Prop where
  n1 : ∀ h < 2, p.n h = p.l h ∨ p.n h = p.l h + 1
  n3 : ∀ t, t ≤ p.l 0 → t ≤ p.l 1 → (p.q 1 t - p.q 0 t).natAbs = 1
  n4 : ∀ h < 2, ∀ t, t < p.l h → p.q h (t + 1) = 3 * p.q h t ∨ (t < p.n (1 - h) ∧ p.q h (t + 1) = p.q h t + 2 * p.q (1 - h) t)
  n5 : ∀ h < 2, ∀ t, t ≤ p.l h → p.q h t % 2 = (h : Int) ∧ 0 ≤ p.q h t ∧ p.q h t ≤ 3 ^ t
theorem Nb.zero : Nb P0 where
  n1 := fun h _ => .inl rfl
  n3 := fun t _ _ => rfl
  n4 := fun h _ t ht => absurd ht (Nat.not_lt_zero _)
  n5 := fun h hh t ht => by
    obtain rfl : t = 0 := Nat.le_zero.mp ht
    obtain rfl | rfl : h = 0 ∨ h = 1 := by omega
    · exact ⟨rfl, by decide, by decide⟩
    · exact ⟨rfl, by decide, by decide⟩
theorem Nb.near {p : Pm} (N : Nb p) {h : Nat} (hh : h < 2) {t : Nat} (h1 : t ≤ p.l h) (h2 : t ≤ p.l (1 - h)) : (p.q (1 - h) t - p.q h t).natAbs = 1 := by
  obtain rfl | rfl : h = 0 ∨ h = 1 := by omega
  · exact N.n3 t h1 h2
  · have := N.n3 t h2 h1
    show (p.q 0 t - p.q 1 t).natAbs = 1
    omega
theorem Nb.step {p : Pm} (N : Nb p) {h : Nat} (hh : h < 2) : Nb (p.step h) := by
  have ho : 1 - h < 2 := by omega
  have hne : 1 - h ≠ h := by omega
  have a1 := N.n1 h hh
  have a2 := N.n1 (1 - h) ho
  unfold Pm.step
  by_cases c : p.l h < p.n h
  · rw [if_pos c]
    have lh : upf p.l h (p.l h + 1) h = p.l h + 1 := upf_same
    have lo : ∀ i, i ≠ h → upf p.l h (p.l h + 1) i = p.l i := fun i e => upf_ne e
    have qo : ∀ i, i ≠ h → upf p.q h (upf (p.q h) (p.l h + 1) (p.nxt h)) i = p.q i := fun i e => upf_ne e
    have qh : upf p.q h (upf (p.q h) (p.l h + 1) (p.nxt h)) h = upf (p.q h) (p.l h + 1) (p.nxt h) := upf_same
    have qt : ∀ t, t ≠ p.l h + 1 → upf (p.q h) (p.l h + 1) (p.nxt h) t = p.q h t := fun t e => upf_ne e
    have qn : upf (p.q h) (p.l h + 1) (p.nxt h) (p.l h + 1) = p.nxt h := upf_same
    have near' : ∀ t, t ≤ p.l h + 1 → t ≤ p.l (1 - h) → (p.q (1 - h) t - upf (p.q h) (p.l h + 1) (p.nxt h) t).natAbs = 1 := fun t t1 t2 => by
      by_cases e : t = p.l h + 1
      · subst e
        rw [qn]
        unfold Pm.nxt
        rw [if_pos (by omega)]
        have nr := N.near hh (Nat.le_refl _) (show p.l h ≤ p.l (1 - h) by omega)
        have m4 := N.n4 (1 - h) ho (p.l h) (by omega)
        rw [show 1 - (1 - h) = h by omega] at m4
        rcases m4 with m4 | ⟨_, m4⟩
        · omega
        · omega
      · rw [qt t e]
        exact N.near hh (by omega) t2
    refine { n1 := fun i hi => ?_, n3 := fun t t0 t1 => ?_, n4 := fun i hi t ht => ?_, n5 := fun i hi t ht => ?_ }
    · show p.n i = upf p.l h (p.l h + 1) i ∨ p.n i = upf p.l h (p.l h + 1) i + 1
      by_cases e : i = h
      · subst e; rw [lh]; omega
      · rw [lo i e]; exact N.n1 i hi
    · show (upf p.q h (upf (p.q h) (p.l h + 1) (p.nxt h)) 1 t - upf p.q h (upf (p.q h) (p.l h + 1) (p.nxt h)) 0 t).natAbs = 1
      have t0' : t ≤ upf p.l h (p.l h + 1) 0 := t0
      have t1' : t ≤ upf p.l h (p.l h + 1) 1 := t1
      obtain rfl | rfl : h = 0 ∨ h = 1 := by omega
      · rw [lh] at t0'
        rw [lo 1 (by decide)] at t1'
        rw [qh, qo 1 (by decide)]
        exact near' t t0' t1'
      · rw [lh] at t1'
        rw [lo 0 (by decide)] at t0'
        rw [qh, qo 0 (by decide)]
        have := near' t t1' t0'
        show (upf (p.q 1) (p.l 1 + 1) (p.nxt 1) t - p.q 0 t).natAbs = 1
        have z : (p.q 0 t - upf (p.q 1) (p.l 1 + 1) (p.nxt 1) t).natAbs = 1 := this
        omega
    · have ht' : t < upf p.l h (p.l h + 1) i := ht
      show upf p.q h (upf (p.q h) (p.l h + 1) (p.nxt h)) i (t + 1) = 3 * upf p.q h (upf (p.q h) (p.l h + 1) (p.nxt h)) i t ∨ (t < p.n (1 - i) ∧ upf p.q h (upf (p.q h) (p.l h + 1) (p.nxt h)) i (t + 1) = upf p.q h (upf (p.q h) (p.l h + 1) (p.nxt h)) i t + 2 * upf p.q h (upf (p.q h) (p.l h + 1) (p.nxt h)) (1 - i) t)
      by_cases e : i = h
      · subst e
        rw [lh] at ht'
        rw [qh, qo (1 - i) hne, qt t (by omega)]
        by_cases et : t = p.l i
        · subst et
          rw [qn]
          unfold Pm.nxt
          by_cases c2 : p.l i < p.n (1 - i)
          · rw [if_pos c2]; right; exact ⟨c2, by omega⟩
          · rw [if_neg c2]; left; rfl
        · rw [qt (t + 1) (by omega)]
          exact N.n4 i hi t (by omega)
      · rw [lo i e] at ht'
        have e1 : 1 - i = h := by omega
        rw [qo i e, e1, qh]
        have m4 := N.n4 i hi t ht'
        rw [e1] at m4
        rcases m4 with m4 | ⟨m5, m4⟩
        · exact .inl m4
        · right
          refine ⟨m5, ?_⟩
          rw [qt t (by omega)]
          exact m4
    · have ht' : t ≤ upf p.l h (p.l h + 1) i := ht
      show upf p.q h (upf (p.q h) (p.l h + 1) (p.nxt h)) i t % 2 = (i : Int) ∧ 0 ≤ upf p.q h (upf (p.q h) (p.l h + 1) (p.nxt h)) i t ∧ upf p.q h (upf (p.q h) (p.l h + 1) (p.nxt h)) i t ≤ 3 ^ t
      by_cases e : i = h
      · subst e
        rw [lh] at ht'
        rw [qh]
        by_cases et : t = p.l i + 1
        · subst et
          rw [qn]
          obtain ⟨b1, b2, b3⟩ := N.n5 i hi (p.l i) (Nat.le_refl _)
          have p3 : (3 : Int) ^ (p.l i + 1) = 3 * 3 ^ p.l i := by rw [Int.pow_succ]; omega
          unfold Pm.nxt
          by_cases c2 : p.l i < p.n (1 - i)
          · rw [if_pos c2]
            obtain ⟨d1, d2, d3⟩ := N.n5 (1 - i) ho (p.l i) (by omega)
            refine ⟨by omega, by omega, by omega⟩
          · rw [if_neg c2]
            refine ⟨by omega, by omega, by omega⟩
        · rw [qt t et]
          exact N.n5 i hi t (by omega)
      · rw [lo i e] at ht'
        rw [qo i e]
        exact N.n5 i hi t ht'
  · rw [if_neg c]
    refine { n1 := fun i hi => ?_, n3 := N.n3, n4 := fun i hi t ht => ?_, n5 := N.n5 }
    · show upf p.n h (p.n h + 1) i = p.l i ∨ upf p.n h (p.n h + 1) i = p.l i + 1
      by_cases e : i = h
      · subst e; rw [upf_same]; omega
      · rw [upf_ne e]; exact N.n1 i hi
    · show p.q i (t + 1) = 3 * p.q i t ∨ (t < upf p.n h (p.n h + 1) (1 - i) ∧ p.q i (t + 1) = p.q i t + 2 * p.q (1 - i) t)
      rcases N.n4 i hi t ht with m | ⟨m1, m2⟩
      · exact .inl m
      · right
        refine ⟨?_, m2⟩
        by_cases e : 1 - i = h
        · rw [e] at m1 ⊢; rw [upf_same]; omega
        · rw [upf_ne e]; exact m1
/-- what is known and where it stands -/
structure Rel (a b : Int) (m : M) (p : Pm) : Prop where
  l : ∀ h < 2, m.l h = p.l h
  n : ∀ h < 2, (m.c h).length = p.n h
  c : ∀ h < 2, ∀ t, t < p.n h → At a b t ((m.c h).getD t .none) h (p.q h t)
  k : ∀ h < 2, At a b (p.l h) (m.k h) h (p.q h (p.l h))
theorem Rel.zero {a b : Int} (ha : 0 ≤ a) (hb : 0 ≤ b) : Rel a b (M0 a b) P0 where
  l := fun h _ => rfl
  n := fun h _ => rfl
  c := fun h _ t ht => absurd ht (Nat.not_lt_zero _)
  k := fun h hh => At.int ha hb hh
theorem Rel.step {a b : Int} {m : M} {p : Pm} (R : Rel a b m p) (N : Nb p) {h : Nat} (hh : h < 2) : Rel a b (m.step h) (p.step h) := by
  have ho : 1 - h < 2 := by omega
  have hne : 1 - h ≠ h := by omega
  have a1 := N.n1 h hh
  have a2 := N.n1 (1 - h) ho
  have rl := R.l h hh
  have rn := R.n h hh
  have rno := R.n (1 - h) ho
  unfold Pm.step M.step
  by_cases c : p.l h < p.n h
  · rw [if_pos c, if_pos (show m.l h < (m.c h).length by omega)]
    have qo : ∀ i, i ≠ h → upf p.q h (upf (p.q h) (p.l h + 1) (p.nxt h)) i = p.q i := fun i e => upf_ne e
    have qh : upf p.q h (upf (p.q h) (p.l h + 1) (p.nxt h)) h = upf (p.q h) (p.l h + 1) (p.nxt h) := upf_same
    have qt : ∀ t, t ≠ p.l h + 1 → upf (p.q h) (p.l h + 1) (p.nxt h) t = p.q h t := fun t e => upf_ne e
    have qn : upf (p.q h) (p.l h + 1) (p.nxt h) (p.l h + 1) = p.nxt h := upf_same
    refine { l := fun i hi => ?_, n := R.n, c := fun i hi t ht => ?_, k := fun i hi => ?_ }
    · show upf m.l h (m.l h + 1) i = upf p.l h (p.l h + 1) i
      by_cases e : i = h
      · subst e; rw [upf_same, upf_same]; omega
      · rw [upf_ne e, upf_ne e]; exact R.l i hi
    · show At a b t ((m.c i).getD t .none) i (upf p.q h (upf (p.q h) (p.l h + 1) (p.nxt h)) i t)
      have old := R.c i hi t ht
      by_cases e : i = h
      · subst e
        have ht' : t < p.n i := ht
        rw [qh, qt t (by omega)]
        exact old
      · rw [qo i e]; exact old
    · show At a b (upf p.l h (p.l h + 1) i) (upf m.k h _ i) i (upf p.q h (upf (p.q h) (p.l h + 1) (p.nxt h)) i (upf p.l h (p.l h + 1) i))
      by_cases e : i = h
      · subst e
        rw [upf_same, upf_same, qh, qn, rl]
        unfold Pm.nxt
        have mine := R.k i hi
        by_cases c2 : p.l i < p.n (1 - i)
        · rw [if_pos c2]
          exact At.met hi mine (R.c (1 - i) ho (p.l i) c2) (N.near hi (Nat.le_refl _) (by omega))
        · rw [if_neg c2, List.getD_eq_getElem?_getD, List.getElem?_eq_none (by omega)]
          exact mine.alone
      · rw [upf_ne e, upf_ne e, qo i e]
        exact R.k i hi
  · rw [if_neg c, if_neg (show ¬ m.l h < (m.c h).length by omega)]
    refine { l := R.l, n := fun i hi => ?_, c := fun i hi t ht => ?_, k := R.k }
    · show (upf m.c h (m.c h ++ [m.k h]) i).length = upf p.n h (p.n h + 1) i
      by_cases e : i = h
      · subst e; rw [upf_same, upf_same, List.length_append, rn]; rfl
      · rw [upf_ne e, upf_ne e]; exact R.n i hi
    · show At a b t ((upf m.c h (m.c h ++ [m.k h]) i).getD t .none) i (p.q i t)
      have ht' : t < upf p.n h (p.n h + 1) i := ht
      by_cases e : i = h
      · subst e
        rw [upf_same] at ht' ⊢
        by_cases et : t < p.n i
        · rw [List.getD_eq_getElem?_getD, List.getElem?_append_left (by omega), ← List.getD_eq_getElem?_getD]
          exact R.c i hi t et
        · have eq1 : t = p.l i := by omega
          rw [List.getD_eq_getElem?_getD, List.getElem?_append_right (by omega), rn, show t - p.n i = 0 by omega]
          rw [eq1]
          exact R.k i hi
      · rw [upf_ne e] at ht' ⊢
        exact R.c i hi t ht'
theorem run_both {a b : Int} (ha : 0 ≤ a) (hb : 0 ≤ b) : ∀ {hs : List Nat} {m : M} {p : Pm}, (∀ h ∈ hs, h < 2) → Rel a b m p → Nb p → Rel a b (m.run hs) (p.run hs) ∧ Nb (p.run hs)
  | [], m, p, _, R, N => ⟨R, N⟩
  | h :: r, m, p, q, R, N => run_both ha hb (hs := r) (m := m.step h) (p := p.step h) (fun x hx => q x (List.mem_cons_of_mem _ hx)) (R.step N (q h List.mem_cons_self)) (N.step (q h List.mem_cons_self))
def Pm.done (p : Pm) (h : Nat) : Nat := p.l h + p.n h
end TB

set_option Elab.async false
set_option maxRecDepth 100000
set_option maxHeartbeats 4000000
namespace TB
open PySem L2 PyProof.Rows
set_option linter.unusedVariables false
def isI : PyData → Bool
  | .int _ => true
  | _ => false
def isT : PyData → Bool
  | .tuple _ => true
  | _ => false
def ov : Option Int → V
  | none => .non
  | some i => .int i
def stV (u : Stands) : List V := [.int u.1, ov u.2.1, ov u.2.2]
def spWholeK : Sp := fun vs H Q _ => ∃ (v : V) (d : PyData), vs = [v] ∧ Kn H v d ∧ Q (.bl (isI d)) H
def spRb : Sp := fun vs H Q _ => ∃ (v : V) (d : PyData), vs = [v] ∧ Kn H v d ∧ Q (.int (rb 5 d : Nat)) H
def spAgr : Sp := fun vs H Q _ => ∃ a b : Option Int, vs = [ov a, ov b] ∧ Q (.bl (agr a b)) H
def spMet : Sp := fun vs H Q _ => ∃ (p q : Addr) (u v : Stands), vs = [.ref p, .ref q] ∧ H p = some (.tup (stV u)) ∧ H q = some (.tup (stV v)) ∧ (metD u v = none → Q .non H) ∧ ∀ w, metD u v = some w → ∀ (o : Addr) (H' : Hp), Same H H' → H' o = some (.tup (stV w)) → Q (.ref o) H'
def spStand (r : Nat) : Sp := fun vs H Q _ => ∃ (v : V) (d : PyData) (h : Nat), vs = [v, .int (h : Int), .int (r : Int)] ∧ Kn H v d ∧ h < 2 ∧ (stand r d h = none → ∀ H', Same H H' → Q .non H') ∧ ∀ u, stand r d h = some u → ∀ (o : Addr) (H' : Hp), Same H H' → H' o = some (.tup (stV u)) → Q (.ref o) H'
theorem Kn.ty {K : PySem.W.Frag} {H : Hp} {v : V} {d : PyData} (h : Kn H v d) : (∃ i, v = .int i ∧ d = .int i) ∨ (v = .non ∧ d = .none) ∨ ∃ a x y e f, v = .ref a ∧ d = .tuple [e, f] ∧ H a = some (.tup [x, y]) ∧ Kn H x e ∧ Kn H y f := by
  cases h with
  | int i => exact .inl ⟨i, rfl, rfl⟩
  | non => exact .inr (.inl ⟨rfl, rfl⟩)
  | tup h a b => exact .inr (.inr ⟨_, _, _, _, _, rfl, rfl, h, a, b⟩)
section
variable {P : Program} {w : World} {K : PySem.W.Frag} {mg : Str → Option Value} {base : Heap}
theorem ok_wholeK {f : Addr} {fd : FuncData} (F : Fun K "is_whole" "is_whole" sWhole f fd) (T : Txt K mg) : FnOk P w K mg base CX0 1 f fd ["thing"] spWholeK := by
  refine F.ok scWhole (fun vs H Q E h => ?_) (fun cdv A outer s H vs Q E hr h => ?_)
  · obtain ⟨v, d, rfl, _⟩ := h
    rfl
  obtain ⟨v, d, rfl, hk, q⟩ := h
  refine ⟨_, pss_one (ps_ret (pe_and (pe_callB call_isi (by rfl) T.isi boot_isinstance (pa_cons (pv 0) (pa_cons (pe_bltn (v := .ty "int") (by rfl) T.int boot_int rfl) pa_nil)))
    (pe_one (pe_not (pe_callB call_isi (by rfl) T.isi boot_isinstance (pa_cons (pv 0) (pa_cons (pe_bltn (v := .ty "bool") (by rfl) T.bool boot_bool rfl) pa_nil))))))), ?_⟩
  rcases hk.ty (K := K) with ⟨i, rfl, rfl⟩ | ⟨rfl, rfl⟩ | ⟨a, x, y, e, g, rfl, rfl, ha, _, _⟩
  · refine ⟨_, rfl, V.int i, V.ty "int", _, _, true, rfl, .ty "int", .base (.int i), kit_ty (by decide +kernel), true, rfl, iteT ?_⟩
    exact ⟨_, rfl, V.int i, V.ty "bool", _, _, false, rfl, .ty "bool", .base (.int i), kit_ty (by decide +kernel), false, rfl, q⟩
  · exact ⟨_, rfl, V.non, V.ty "int", _, _, false, rfl, .ty "int", .base .non, kit_ty (by decide +kernel), false, rfl, iteF q⟩
  · exact ⟨_, rfl, V.ref a, V.ty "int", _, _, false, rfl, .ty "int", .base (.tup ha), kit_ty (by decide +kernel), false, rfl, iteF q⟩
theorem scRb : FnScope ["thing", "rounds"] ["thing"] (defScope s_rounds_behind) := ⟨rfl, rfl, rfl, by decide +kernel, rfl, by decide +kernel, by decide +kernel⟩
theorem ok_rb {f : Addr} {fd : FuncData} (F : Fun K "rounds_behind" "rounds_behind" s_rounds_behind f fd) (T : Txt K mg) (U : Txt2 K mg) : FnOk P w K mg base CX0 1 f fd ["thing"] spRb := by
  refine F.ok scRb (fun vs H Q E h => ?_) (fun cdv A outer s H vs Q E hr h => ?_)
  · obtain ⟨v, d, rfl, _⟩ := h
    rfl
  obtain ⟨v, d, rfl, hk, q⟩ := h
  obtain ⟨t5, m5⟩ := U.five
  have nd := scRb.nd
  refine ⟨_, pss_cons (ps_set (i := 1) nd rfl (Or.inl rfl) pe_int)
    (pss_cons (ps_while PassesOwn.never (PW.pt (pw_and (pt_cmpR op_lt (pv 1) (pe_glob (v := .int 5) rfl m5 ⟨_, rfl⟩) (nomark _)) (pw_and (pt_val (pe_callB call_isi (by rfl) T.isi boot_isinstance (pa_cons (pv 0) (pa_cons (pe_bltn (v := .ty "tuple") (by rfl) T.tuple boot_tuple rfl) pa_nil)))) (pw_and1 (pt_cmpR op_eq (pe_callB call_len_seq (by rfl) T.len PySem.boot_len (pa_cons (pv 0) pa_nil)) pe_int (nomark _))))))
      (pss_cons (ps_set (i := 0) nd rfl (Or.inl rfl) (pe_ix ix_tup (pv 0) pe_int (fun _ _ => rfl)))
      (pss_one (ps_aug (i := 1) nd rfl (Or.inl rfl) pe_int ip_add))))
    (pss_one (ps_ret (pv 1)))), ?_⟩
  refine ⟨fun m σ H' => ∃ (k : Nat) (v' : V) (d' : PyData), σ = [some v', some (.int (k : Int))] ∧ H' = H ∧ Kn H v' d' ∧ m + k = 5 ∧ rb 5 d = k + rb m d', ⟨5, 0, v, d, rfl, rfl, hk, rfl, (Nat.zero_add _).symm⟩, ?_⟩
  rintro m σ H' ⟨k, v', d', rfl, rfl, hk', hm, he⟩
  refine ⟨_, rfl, _, _, rfl, rfl, _, rfl, ?_⟩
  by_cases c : k < 5
  · rw [decide_eq_true (show ((k : Nat) : Int) < 5 by omega)]
    refine iteT ?_
    obtain ⟨m', rfl⟩ : ∃ m', m = m' + 1 := ⟨m - 1, by omega⟩
    rcases hk'.ty (K := K) with ⟨i, rfl, rfl⟩ | ⟨rfl, rfl⟩ | ⟨a, x, y, e, g, rfl, rfl, ha, hx, hy⟩
    · refine ⟨_, rfl, V.int i, V.ty "tuple", _, _, false, rfl, .ty "tuple", .base (.int i), kit_ty (by decide +kernel), false, rfl, iteF (iteF ?_)⟩
      refine ⟨_, rfl, ?_⟩
      rw [show rb 5 d = k from by rw [he]; simp [rb]] at q
      exact q
    · refine ⟨_, rfl, V.non, V.ty "tuple", _, _, false, rfl, .ty "tuple", .base .non, kit_ty (by decide +kernel), false, rfl, iteF (iteF ?_)⟩
      refine ⟨_, rfl, ?_⟩
      rw [show rb 5 d = k from by rw [he]; simp [rb]] at q
      exact q
    · refine ⟨_, rfl, V.ref a, V.ty "tuple", _, _, true, rfl, .ty "tuple", .base (.tup ha), kit_ty (by decide +kernel), true, rfl, iteT ?_⟩
      refine ⟨_, rfl, a, _, rfl, .inr (SqT.of ha), rfl, _, rfl, iteT ?_⟩
      refine ⟨fun σ' H'' => ∃ m'' < m' + 1, ∃ (k : Nat) (v' : V) (d' : PyData), σ' = [some v', some (.int (k : Int))] ∧ H'' = H' ∧ Kn H' v' d' ∧ m'' + k = 5 ∧ rb 5 d = k + rb m'' d', fun σ' H'' h => h, ?_⟩
      refine ⟨_, rfl, a, _, _, _, rfl, rfl, SqT.of ha, (by rfl), ?_⟩
      refine ⟨_, rfl, _, _, rfl, rfl, m', Nat.lt_succ_self _, k + 1, x, e, rfl, rfl, hx, by omega, ?_⟩
      rw [he]
      simp only [rb]
      omega
  · rw [decide_eq_false (show ¬ ((k : Nat) : Int) < 5 by omega)]
    refine iteF (iteF ?_)
    refine ⟨_, rfl, ?_⟩
    obtain rfl : m = 0 := by omega
    rw [show rb 5 d = k from by rw [he]; simp [rb]] at q
    exact q
theorem scAgr : FnScope ["one", "other"] ["one", "other"] (defScope s_agrees) := ⟨rfl, rfl, rfl, by decide +kernel, rfl, by decide +kernel, by decide +kernel⟩
theorem ok_agr {f : Addr} {fd : FuncData} (F : Fun K "agrees" "agrees" s_agrees f fd) : FnOk P w K mg base CX0 1 f fd ["one", "other"] spAgr := by
  refine F.ok scAgr (fun vs H Q E h => ?_) (fun cdv A outer s H vs Q E hr h => ?_)
  · obtain ⟨a, b, rfl, _⟩ := h
    rfl
  obtain ⟨a, b, rfl, q⟩ := h
  refine ⟨_, pss_one (ps_ret (pe_or (pe_cmpR op_isN (pv 0) pe_non (nomark _)) (pe_or (pe_cmpR op_isN (pv 1) pe_non (nomark _)) (pe_one (pe_cmpR op_eq (pv 0) (pv 1) (nomark _)))))), ?_⟩
  refine ⟨_, rfl, rfl, _, rfl, ?_⟩
  cases a with
  | none => exact iteT q
  | some i =>
    refine iteF ⟨_, rfl, rfl, _, rfl, ?_⟩
    cases b with
    | none => exact iteT q
    | some j =>
      refine iteF ⟨_, rfl, _, rfl, rfl, ?_⟩
      have e : decide (V.int i = V.int j) = agr (some i) (some j) := by
        show decide (V.int i = V.int j) = decide (i = j)
        by_cases c : i = j
        · subst c; simp
        · rw [decide_eq_false (show ¬ i = j from c), decide_eq_false (fun z => c (by injection z))]
      show Q (.bl (decide (V.int i = V.int j))) H
      rw [e]
      exact q
end
end TB

set_option Elab.async false
set_option maxRecDepth 100000
set_option maxHeartbeats 4000000
namespace TB
open PySem L2 PyProof.Rows
set_option linter.unusedVariables false
structure RaiseC (K : PySem.W.Frag) (mg : Str → Option Value) (n : Str) (C : Addr) : Prop where
  m : mg n = some (.ref C)
  x : PySem.W.excIn K C [.type "ValueError", .type "Exception", .type "BaseException", .type "object"] "ValueError.__new__" = true
  k : PySem.W.keepIn K (.ref C) = true
  b : PySem.W.subIn K (.ref C) (.type "BaseException") = some true
  t : PySem.W.typeIn K (.ref C) = some (.type "type")
/-- a hand that is one: what it knows, its place, or the refusal -/
def spPlace (cN : Addr) : Sp := fun vs H Q E => ∃ (v : V) (d : PyData) (h : Nat), vs = [v, .int (h : Int)] ∧ Kn H v d ∧ h < 2 ∧ (placeD d h = none → ∀ H', Same H H' → E (.ref cN) none H') ∧ ∀ j, placeD d h = some j → ∀ H', Same H H' → Q (.int j) H'
theorem fst2_ov (a b : Option Int) : ov (fst2 a b) = if a = none then ov b else ov a := by
  cases a <;> rfl
section
variable {P : Program} {w : World} {K : PySem.W.Frag} {mg : Str → Option Value} {base : Heap}
theorem stV_at0 (u : Stands) : atI (stV u) 0 = some (.int u.1) := rfl
theorem stV_at1 (u : Stands) : atI (stV u) 1 = some (ov u.2.1) := rfl
theorem stV_at2 (u : Stands) : atI (stV u) 2 = some (ov u.2.2) := rfl
abbrev nMet : List Str := ["own", "other", "at", "own0", "own1", "seen_at", "other0", "other1"]
theorem scMet : FnScope nMet ["own", "other"] (defScope s_met) := ⟨rfl, rfl, rfl, by decide +kernel, rfl, by decide +kernel, by decide +kernel⟩
theorem ok_met {f g : Addr} {fd gd : FuncData} (F : Fun K "met" "met" s_met f fd) (mA : mg "abs" = none) (A1 : Def P w K mg base "agrees" ["one", "other"] 1 spAgr g gd) : FnOk P w K mg base CX0 2 f fd ["own", "other"] spMet := by
  refine F.ok scMet (fun vs H Q E h => ?_) (fun cdv A outer s H vs Q E hr h => ?_)
  · obtain ⟨p, q, u, v, rfl, _⟩ := h
    rfl
  obtain ⟨p, q, u, v, rfl, hp, hq, q0, q1⟩ := h
  have nd := scMet.nd
  refine ⟨_, pss_cons (ps_asg (pv 0) (pg_tup (by rfl) (pgs_cons (pg_name (i := 2) nd rfl (Or.inl rfl)) (pgs_cons (pg_name (i := 3) nd rfl (Or.inl rfl)) (pgs_cons (pg_name (i := 4) nd rfl (Or.inl rfl)) pgs_nil)))))
    (pss_cons (ps_asg (pv 1) (pg_tup (by rfl) (pgs_cons (pg_name (i := 5) nd rfl (Or.inl rfl)) (pgs_cons (pg_name (i := 6) nd rfl (Or.inl rfl)) (pgs_cons (pg_name (i := 7) nd rfl (Or.inl rfl)) pgs_nil)))))
    (pss_cons (ps_if (PW.pt (pw_or (pt_cmpR op_ne (pe_callB call_abs (by rfl) mA (by decide +kernel) (pa_cons (pe_op op_sub (pv 2) (pv 5)) pa_nil)) pe_int (nomark _)) (pw_or (pt_not (pt_val (pe_call A1.G hr rfl A1.m A1.k A1.b .nil pass0 (pa_cons (pv 3) (pa_cons (pv 6) pa_nil))))) (pw_or1 (pt_not (pt_val (pe_call A1.G hr rfl A1.m A1.k A1.b .nil pass0 (pa_cons (pv 4) (pa_cons (pv 7) pa_nil)))))))) ) (pss_one (ps_ret pe_non)) pss_nil)
    (pss_one (ps_ret (pe_tup (pa_cons (pe_op op_add (pe_op op_mul pe_int (pv 2)) (pe_op op_mul pe_int (pe_op op_sub (pv 5) (pv 2)))) (pa_cons (pe_ifExp (pt_cmpR op_isN (pv 3) pe_non (nomark _)) (pv 6) (pv 3)) (pa_cons (pe_ifExp (pt_cmpR op_isN (pv 4) pe_non (nomark _)) (pv 7) (pv 4)) pa_nil)))))))), ?_⟩
  refine ⟨_, rfl, p, _, rfl, SqT.of hp, rfl, _, _, rfl, _, _, rfl, _, _, rfl, rfl, ?_⟩
  refine ⟨_, rfl, q, _, rfl, SqT.of hq, rfl, _, _, rfl, _, _, rfl, _, _, rfl, rfl, ?_⟩
  refine ⟨_, rfl, _, rfl, _, _, rfl, rfl, _, rfl, rfl, _, rfl, ?_⟩
  have habs : (if u.1 - v.1 < 0 then -(u.1 - v.1) else u.1 - v.1) = (((v.1 - u.1).natAbs : Nat) : Int) := by split <;> omega
  rw [habs]
  by_cases c1 : (v.1 - u.1).natAbs = 1
  case neg =>
    have e1 : (!decide (V.int (((v.1 - u.1).natAbs : Nat) : Int) = V.int 1)) = true := by
      rw [decide_eq_false (fun e => c1 (by injection e with e; omega))]; rfl
    rw [e1]
    refine iteT (iteT ?_)
    exact q0 (by unfold metD; rw [if_neg (fun z => c1 z.1)])
  have e1 : (!decide (V.int (((v.1 - u.1).natAbs : Nat) : Int) = V.int 1)) = false := by
    rw [decide_eq_true (by rw [c1]; rfl)]; rfl
  rw [e1]
  refine iteF ?_
  refine ⟨_, rfl, _, rfl, u.2.1, v.2.1, rfl, agr u.2.1 v.2.1, rfl, ?_⟩
  by_cases c2 : agr u.2.1 v.2.1 = true
  case neg =>
    rw [Bool.eq_false_iff.mpr c2]
    refine iteT (iteT ?_)
    exact q0 (by unfold metD; rw [if_neg (fun z => c2 z.2.1)])
  rw [c2]
  refine iteF ?_
  refine ⟨_, rfl, _, rfl, u.2.2, v.2.2, rfl, agr u.2.2 v.2.2, rfl, ?_⟩
  by_cases c3 : agr u.2.2 v.2.2 = true
  case neg =>
    rw [Bool.eq_false_iff.mpr c3]
    refine iteT ?_
    exact q0 (by unfold metD; rw [if_neg (fun z => c3 z.2.2)])
  rw [c3]
  refine iteF ?_
  refine ⟨_, rfl, _, _, rfl, rfl, .inl ⟨by decide, by decide⟩, _, rfl, _, rfl, _, _, rfl, rfl, _, _, rfl, rfl, .inl ⟨by decide, by decide⟩, _, _, rfl, rfl, ?_⟩
  have fin : ∀ x y : V, x = ov (fst2 u.2.1 v.2.1) → y = ov (fst2 u.2.2 v.2.2) → 3 ≤ sizeLine ∧ ∀ t, H t = none → Q (.ref t) (upd H t (.tup [.int (3 * u.1 + 2 * (v.1 - u.1)), x, y])) := fun x y ex ey =>
    ⟨by decide, fun t ht => q1 _ (by unfold metD; rw [if_pos ⟨c1, c2, c3⟩]) t _ (same_new ht _) (by rw [upd_same, ex, ey]; rfl)⟩
  refine ⟨_, rfl, rfl, _, rfl, ?_⟩
  cases o1 : u.2.1 with
  | none =>
    refine iteT ⟨_, rfl, ?_⟩
    refine ⟨_, rfl, rfl, _, rfl, ?_⟩
    cases o2 : u.2.2 with
    | none => exact iteT ⟨_, rfl, fin _ _ (by rw [o1]; rfl) (by rw [o2]; rfl)⟩
    | some i => exact iteF ⟨_, rfl, fin _ _ (by rw [o1]; rfl) (by rw [o2]; rfl)⟩
  | some i =>
    refine iteF ⟨_, rfl, ?_⟩
    refine ⟨_, rfl, rfl, _, rfl, ?_⟩
    cases o2 : u.2.2 with
    | none => exact iteT ⟨_, rfl, fin _ _ (by rw [o1]; rfl) (by rw [o2]; rfl)⟩
    | some i => exact iteF ⟨_, rfl, fin _ _ (by rw [o1]; rfl) (by rw [o2]; rfl)⟩
abbrev nStand : List Str := ["thing", "hand", "rounds", "own", "other"]
theorem scStand : FnScope nStand ["thing", "hand", "rounds"] (defScope s_standing) := ⟨rfl, rfl, rfl, by decide +kernel, rfl, by decide +kernel, by decide +kernel⟩
theorem ok_stand {f g1 g2 : Addr} {fd d1 d2 : FuncData} (F : Fun K "standing" "standing" s_standing f fd) (T : Txt K mg) (W : Def P w K mg base "is_whole" ["thing"] 1 spWholeK g1 d1) (M1 : Def P w K mg base "met" ["own", "other"] 2 spMet g2 d2) (bF : Binds K fd ["thing", "hand", "rounds"] []) (kF : PySem.W.keepIn K (.ref f) = true) (mF : mg "standing" = some (.ref f)) :
    ∀ r, FnOk P w K mg base CX0 (3 + r) f fd ["thing", "hand", "rounds"] (spStand r)
  | 0 => by
    refine F.ok scStand (fun vs H Q E h => ?_) (fun cdv A outer s H vs Q E hr h => ?_)
    · obtain ⟨v, d, h, rfl, _⟩ := h
      rfl
    obtain ⟨v, d, h, rfl, hk, hh, q0, q1⟩ := h
    have nd := scStand.nd
    refine ⟨_, pss_cons (ps_if (pt_cmpR op_eq (pv 2) pe_int (nomark _))
        (pss_cons (ps_if (PW.pt (pw_or (pt_not (pt_val (pe_call W.G (hr.mono (by decide)) rfl W.m W.k W.b .nil pass0 (pa_cons (pv 0) pa_nil)))) (pw_or1 (pt_cmpR op_lt (pv 0) pe_int (nomark _))))) (pss_one (ps_ret pe_non)) pss_nil)
        (pss_one (ps_ret (pe_ifExp (pt_cmpR op_eq (pv 1) pe_int (nomark _)) (pe_tup (pa_cons pe_int (pa_cons (pv 0) (pa_cons pe_non pa_nil)))) (pe_tup (pa_cons pe_int (pa_cons pe_non (pa_cons (pv 0) pa_nil)))))))) pss_nil)
      pss_never, ?_⟩
    refine ⟨_, rfl, rfl, _, rfl, ?_⟩
    refine iteT ?_
    refine ⟨_, rfl, v, d, rfl, hk, isI d, rfl, ?_⟩
    rcases hk.ty (K := K) with ⟨i, rfl, rfl⟩ | ⟨rfl, rfl⟩ | ⟨a, x, y, e, g, rfl, rfl, ha, hx, hy⟩
    · refine iteF ⟨_, rfl, _, _, rfl, rfl, _, rfl, ?_⟩
      refine ite2 (fun c => ?_) (fun c => ?_)
      · have c' : i < 0 := of_decide_eq_true c
        exact q0 (by simp [stand]; omega) _ (Same.refl H)
      · have c' : ¬ i < 0 := of_decide_eq_false (Bool.eq_false_iff.mpr c)
        have e0 : stand 0 (.int i) h = some (if h = 0 then (0, some i, none) else (1, none, some i)) := by simp [stand]; omega
        refine ⟨_, rfl, rfl, _, rfl, ?_⟩
        obtain rfl | rfl : h = 0 ∨ h = 1 := by omega
        · refine iteT ⟨_, rfl, (by show 3 ≤ sizeLine; decide), fun t ht => q1 _ e0 t _ (same_new ht _) (by rw [upd_same]; rfl)⟩
        · refine iteF ⟨_, rfl, (by show 3 ≤ sizeLine; decide), fun t ht => q1 _ e0 t _ (same_new ht _) (by rw [upd_same]; rfl)⟩
    · exact iteT (iteT (q0 rfl _ (Same.refl H)))
    · exact iteT (iteT (q0 rfl _ (Same.refl H)))
  | r + 1 => by
    have ih := ok_stand F T W M1 bF kF mF r
    refine F.ok (k := 3 + r) scStand (fun vs H Q E h => ?_) (fun cdv A outer s H vs Q E hr h => ?_)
    · obtain ⟨v, d, h, rfl, _⟩ := h
      rfl
    obtain ⟨v, d, h, rfl, hk, hh, q0, q1⟩ := h
    have nd := scStand.nd
    refine ⟨_, pss_cons (ps_if (pt_cmpR op_eq (pv 2) pe_int (nomark _)) pss_never pss_nil)
      (pss_cons (ps_if (PW.pt (pw_or (pt_not (pt_val (pe_callB call_isi (by rfl) T.isi boot_isinstance (pa_cons (pv 0) (pa_cons (pe_bltn (v := .ty "tuple") (by rfl) T.tuple boot_tuple rfl) pa_nil))))) (pw_or1 (pt_cmpR op_ne (pe_callB call_len_seq (by rfl) T.len PySem.boot_len (pa_cons (pv 0) pa_nil)) pe_int (nomark _))))) (pss_one (ps_ret pe_non)) pss_nil)
      (pss_cons (ps_set (i := 3) nd rfl (Or.inl rfl) (pe_call ih hr rfl mF kF bF .nil pass0 (pa_cons (pe_ix ix_tup (pv 0) pe_int (fun _ _ => rfl)) (pa_cons (pv 1) (pa_cons (pe_op op_sub (pv 2) pe_int) pa_nil)))))
      (pss_cons (ps_if (pt_cmpR op_isN (pv 3) pe_non (nomark _)) (pss_one (ps_ret pe_non)) pss_nil)
      (pss_cons (ps_if (pt_cmpR op_isN (pe_ix ix_tup (pv 0) pe_int (fun _ _ => rfl)) pe_non (nomark _)) (pss_one (ps_ret (pe_tup (pa_cons (pe_op op_mul pe_int (pe_ix ix_tup (pv 3) pe_int (fun _ _ => rfl))) (pa_cons (pe_ix ix_tup (pv 3) pe_int (fun _ _ => rfl)) (pa_cons (pe_ix ix_tup (pv 3) pe_int (fun _ _ => rfl)) pa_nil)))))) pss_nil)
      (pss_cons (ps_set (i := 4) nd rfl (Or.inl rfl) (pe_call ih hr rfl mF kF bF .nil pass0 (pa_cons (pe_ix ix_tup (pv 0) pe_int (fun _ _ => rfl)) (pa_cons (pe_op op_sub pe_int (pv 1)) (pa_cons (pe_op op_sub (pv 2) pe_int) pa_nil)))))
      (pss_one (ps_ret (pe_ifExp (pt_cmpR op_isN (pv 4) pe_non (nomark _)) pe_non (pe_call M1.G (hr.mono (by omega)) rfl M1.m M1.k M1.b .nil pass0 (pa_cons (pv 3) (pa_cons (pv 4) pa_nil)))))))))))
, ?_⟩
    refine ⟨_, rfl, rfl, _, rfl, ?_⟩
    have e0 : decide (V.int ((r + 1 : Nat) : Int) = V.int 0) = false := decide_eq_false (fun e => by injection e with e; omega)
    rw [e0]
    refine iteF ?_
    rcases hk.ty (K := K) with ⟨i, rfl, rfl⟩ | ⟨rfl, rfl⟩ | ⟨a, x, y, e, g, rfl, rfl, ha, hx, hy⟩
    · refine ⟨_, rfl, V.int i, V.ty "tuple", _, _, false, rfl, .ty "tuple", .base (.int i), kit_ty (by decide +kernel), false, rfl, iteT (iteT ?_)⟩
      exact q0 rfl _ (Same.refl H)
    · refine ⟨_, rfl, V.non, V.ty "tuple", _, _, false, rfl, .ty "tuple", .base .non, kit_ty (by decide +kernel), false, rfl, iteT (iteT ?_)⟩
      exact q0 rfl _ (Same.refl H)
    · refine ⟨_, rfl, V.ref a, V.ty "tuple", _, _, true, rfl, .ty "tuple", .base (.tup ha), kit_ty (by decide +kernel), true, rfl, iteF ?_⟩
      refine ⟨_, rfl, a, _, rfl, .inr (SqT.of ha), rfl, _, rfl, iteF ?_⟩
      have er : ((r + 1 : Nat) : Int) - 1 = (r : Int) := by omega
      refine ⟨_, rfl, a, _, _, _, rfl, rfl, SqT.of ha, (by rfl), _, rfl, _, rfl, _, _, rfl, rfl, ?_⟩
      refine ⟨x, e, h, (by show [x, V.int (h : Int), V.int (((r + 1 : Nat) : Int) - 1)] = _; rw [er]), hx, hh, fun n1 H1 s1 => ?_, fun u n1 p H1 s1 hp => ?_⟩
      · refine ⟨_, rfl, rfl, _, rfl, iteT ?_⟩
        exact q0 (by show stand1 _ _ _ = none; rw [n1]; rfl) _ s1
      · refine ⟨_, rfl, rfl, _, rfl, iteF ?_⟩
        have ha1 := s1 _ _ ha
        refine ⟨_, rfl, a, _, _, _, rfl, rfl, SqT.of ha1, (by rfl), rfl, _, rfl, ?_⟩
        have hyN : decide (y = V.non) = isN g := by
          cases hy <;> rfl
        rw [hyN]
        cases cN : isN g with
        | true =>
          refine iteT ⟨_, rfl, p, _, _, _, rfl, rfl, SqT.of hp, (by rfl), _, _, rfl, rfl, .inl ⟨by decide, by decide⟩, _, rfl, p, _, _, _, rfl, rfl, SqT.of hp, (by rfl), _, rfl, p, _, _, _, rfl, rfl, SqT.of hp, (by rfl), (by show 3 ≤ sizeLine; decide), fun t ht => ?_⟩
          exact q1 (3 * u.1, u.2.1, u.2.2) (by show stand1 _ _ _ = _; rw [n1]; unfold stand1; rw [Option.bind_some, if_pos cN]) t _ (s1.trans (same_new ht _)) (by rw [upd_same]; rfl)
        | false =>
          refine iteF ⟨_, rfl, a, _, _, _, rfl, rfl, SqT.of ha1, (by rfl), _, rfl, _, _, rfl, rfl, _, rfl, _, _, rfl, rfl, ?_⟩
          have est : ∀ z, stand r g (1 - h) = z → stand (r + 1) (.tuple [e, g]) h = z.bind (metD u) := fun z hz => by
            show stand1 _ _ _ = _
            rw [n1, hz]
            unfold stand1
            rw [Option.bind_some, if_neg (by rw [cN]; decide)]
          refine ⟨y, g, 1 - h, (by show [y, V.int ((1 : Int) - (h : Int)), V.int (((r + 1 : Nat) : Int) - 1)] = _; rw [er, show (1 : Int) - (h : Int) = ((1 - h : Nat) : Int) by omega]), hy.mono (Tups.same s1), by omega, fun n2 H2 s2 => ?_, fun u2 n2 p2 H2 s2 hp2 => ?_⟩
          · refine ⟨_, rfl, rfl, _, rfl, iteT ?_⟩
            exact q0 (by rw [est _ n2]; rfl) _ (s1.trans s2)
          · refine ⟨_, rfl, rfl, _, rfl, iteF ?_⟩
            refine ⟨_, rfl, _, rfl, p, p2, u, u2, rfl, s2 _ _ hp, hp2, fun n3 => ?_, fun w3 n3 o H3 s3 ho => ?_⟩
            · exact q0 (by rw [est _ n2]; exact n3) _ (s1.trans s2)
            · exact q1 w3 (by rw [est _ n2]; exact n3) o _ (s1.trans (s2.trans s3)) ho
theorem scPlace : FnScope ["known", "hand", "stands"] ["known", "hand"] (defScope sPlace) := ⟨rfl, rfl, rfl, by decide +kernel, rfl, by decide +kernel, by decide +kernel⟩
theorem ok_place {f g1 g2 g3 cN : Addr} {fd d1 d2 d3 : FuncData} (F : Fun K "place" "place" sPlace f fd) (R : RaiseC K mg "NoKnown" cN) (W1 : Def P w K mg base "is_hand" ["thing"] 3 spHand g1 d1) (W2 : Def P w K mg base "rounds_behind" ["thing"] 1 spRb g2 d2)
    (bS : Binds K d3 ["thing", "hand", "rounds"] []) (kS : PySem.W.keepIn K (.ref g3) = true) (mS : mg "standing" = some (.ref g3)) (S : ∀ r, r ≤ 5 → FnOk P w K mg base CX0 (3 + r) g3 d3 ["thing", "hand", "rounds"] (spStand r)) :
    FnOk P w K mg base (L2.CX P w) 9 f fd ["known", "hand"] (spPlace cN) := by
  refine F.okX scPlace (fun vs H Q E h => ?_) (fun cdv A outer s H vs Q E hr h => ?_)
  · obtain ⟨v, d, h, rfl, _⟩ := h
    rfl
  obtain ⟨v, d, h, rfl, hk, hh, q0, q1⟩ := h
  have nd := scPlace.nd
  have h5 : rb 5 d ≤ 5 := by
    have key : ∀ (n : Nat) (d : PyData), rb n d ≤ n := by
      intro n
      induction n with
      | zero => intro d; simp [rb]
      | succ n ih =>
        intro d
        match d with
        | .tuple [x, y] => simp only [rb]; have := ih x; omega
        | .tuple [] | .tuple [_] | .tuple (_ :: _ :: _ :: _) | .none | .bool _ | .int _ | .str _ | .list _ | .dict _ => simp [rb]
    exact key 5 d
  refine ⟨_, pss_cons (ps_if (pt_not (pt_val (pe_call W1.G (hr.mono (by decide)) rfl W1.m W1.k W1.b .nil pass0 (pa_cons (pv 1) pa_nil)))) pss_never pss_nil)
    (pss_cons (ps_set (i := 2) nd rfl (Or.inl rfl) (pe_call (S (rb 5 d) h5) (hr.mono (by omega)) rfl mS kS bS .nil pass0 (pa_cons (pv 0) (pa_cons (pv 1) (pa_cons (pe_call W2.G (hr.mono (by decide)) rfl W2.m W2.k W2.b .nil pass0 (pa_cons (pv 0) pa_nil)) pa_nil)))))
    (pss_cons (ps_if (pt_cmpR op_isN (pv 2) pe_non (nomark _)) (pss_one (ps_raise rfl (takes_of rfl rfl rfl rfl) (pmk_own PySem.F.excBase_ValueError R.x R.m R.k (raises_own R.b R.t) (by exact rfl)))) pss_nil)
    (PSs.nox (pss_one (ps_ret (pe_ix ix_tup (pv 2) pe_int (fun _ _ => rfl))))))), ?_⟩
  have e1 : decide ((0 : Int) ≤ (h : Int) ∧ (h : Int) ≤ 1) = true := decide_eq_true (by omega)
  refine ⟨_, rfl, (h : Int), rfl, true, congrArg V.bl e1, iteF ?_⟩
  refine ⟨_, rfl, _, rfl, _, rfl, v, d, rfl, hk, v, d, h, rfl, hk, hh, fun n1 H1 s1 => ?_, fun u n1 p H1 s1 hp => ?_⟩
  · refine ⟨_, rfl, rfl, _, rfl, iteT ?_⟩
    exact q0 (by unfold placeD; rw [n1]; rfl) _ s1
  · refine ⟨_, rfl, rfl, _, rfl, iteF ?_⟩
    exact ⟨_, rfl, p, _, _, _, rfl, rfl, SqT.of hp, (by rfl), q1 u.1 (by unfold placeD; rw [n1]; rfl) _ s1⟩
end
end TB

set_option Elab.async false
set_option maxRecDepth 100000
set_option maxHeartbeats 4000000
namespace TB
open PySem L2 PyProof.Rows
set_option linter.unusedVariables false
def ky (t h : Nat) : List Key := [Sum.inl (t : Int), Sum.inl (h : Int)]
theorem ky_inj {t h t' h' : Nat} : ky t' h' = ky t h ↔ t' = t ∧ h' = h := by
  unfold ky
  constructor
  · intro e
    injection e with e1 e2
    injection e2 with e2 _
    injection e1 with e1
    injection e2 with e2
    omega
  · rintro ⟨rfl, rfl⟩
    rfl
def Pm.cur (p : Pm) (h : Nat) : Int := p.q h (p.l h)
theorem Pm.done_step (p : Pm) (z i : Nat) : (p.step z).done i = upf p.done z (p.done z + 1) i := by
  unfold Pm.step
  by_cases c : p.l z < p.n z
  · rw [if_pos c]
    show upf p.l z (p.l z + 1) i + p.n i = _
    by_cases e : i = z
    · subst e; rw [upf_same, upf_same]; unfold Pm.done; omega
    · rw [upf_ne e, upf_ne e]; rfl
  · rw [if_neg c]
    show p.l i + upf p.n z (p.n z + 1) i = _
    by_cases e : i = z
    · subst e; rw [upf_same, upf_same]; unfold Pm.done; omega
    · rw [upf_ne e, upf_ne e]; rfl
theorem Pm.done_run (p : Pm) (i : Nat) : ∀ hs : List Nat, (p.run hs).done i = p.done i + hs.count i := by
  intro hs
  induction hs generalizing p with
  | nil => rfl
  | cons h r ih =>
    show ((p.step h).run r).done i = _
    rw [ih, Pm.done_step, List.count_cons]
    unfold upf
    by_cases e : i = h
    · subst e; simp; omega
    · have e2 : ¬ h = i := fun q => e q.symm
      simp [e, e2]
theorem Nb.half {p : Pm} (N : Nb p) {z : Nat} (hz : z < 2) : p.done z / 2 = p.l z ∧ (p.done z % 2 = 0 ↔ ¬ p.l z < p.n z) ∧ (¬ p.l z < p.n z → p.n z = p.l z) := by
  have := N.n1 z hz
  unfold Pm.done
  omega
structure PlS (H0 H : Hp) (sp dn cd : Addr) (p : Pm) : Prop where
  same : Same H0 H
  f1 : H0 sp = none
  f2 : H0 dn = none
  f3 : H0 cd = none
  n1 : sp ≠ dn
  n2 : sp ≠ cd
  n3 : dn ≠ cd
  hs : H sp = some (.lst [.int (p.cur 0), .int (p.cur 1)])
  hd : H dn = some (.lst [.int (p.done 0 : Nat), .int (p.done 1 : Nat)])
  hc : ∃ kvs, H cd = some (.dT kvs) ∧ kvs.length ≤ p.done 0 + p.done 1 ∧ ∀ h < 2, ∀ t : Nat, valV kvs (ky t h) = if t < p.n h then some (V.int (p.q h t)) else none
  nb : Nb p
theorem PlS.new {H0 H : Hp} {sp dn cd : Addr} {p : Pm} (S : PlS H0 H sp dn cd p) {q : Addr} (hq : H q = none) (o : HO) : PlS H0 (upd H q o) sp dn cd p := by
  have s := same_new hq o
  obtain ⟨kvs, h3, h4, h5⟩ := S.hc
  exact { S with same := S.same.trans s, hs := s _ _ S.hs, hd := s _ _ S.hd, hc := ⟨kvs, s _ _ h3, h4, h5⟩ }
theorem Pm.sum_step (p : Pm) {z : Nat} (hz : z < 2) : (p.step z).done 0 + (p.step z).done 1 = p.done 0 + p.done 1 + 1 := by
  rw [Pm.done_step, Pm.done_step]
  obtain rfl | rfl : z = 0 ∨ z = 1 := by omega
  · show p.done 0 + 1 + p.done 1 = _; omega
  · show p.done 0 + (p.done 1 + 1) = _; omega
theorem PlS.put {H0 H : Hp} {sp dn cd : Addr} {p : Pm} (S : PlS H0 H sp dn cd p) {z : Nat} (hz : z < 2) (c : ¬ p.l z < p.n z) {kvs : List (List Key × V)} (hcd : H cd = some (.dT kvs)) :
    PlS H0 (upd (upd H cd (.dT (putK kvs (ky (p.l z) z) (.int (p.cur z))))) dn (.lst [.int ((p.step z).done 0 : Nat), .int ((p.step z).done 1 : Nat)])) sp dn cd (p.step z) := by
  have es : p.step z = { q := p.q, l := p.l, n := upf p.n z (p.n z + 1) } := by unfold Pm.step; rw [if_neg c]
  have hl := (S.nb.half hz).2.2 c
  obtain ⟨kvs', h3, h4, h5⟩ := S.hc
  rw [hcd] at h3
  cases h3
  refine { S with same := same_upd (same_upd S.same S.f3) S.f2, hs := ?_, hd := upd_same, hc := ⟨_, by rw [upd_ne S.n3.symm, upd_same], ?_, fun h hh t => ?_⟩, nb := S.nb.step hz }
  · rw [upd_ne S.n1, upd_ne S.n2, es]; exact S.hs
  · have g1 := length_putK kvs (ky (p.l z) z) (.int (p.cur z))
    rw [Pm.sum_step p hz]
    generalize (putK kvs (ky (p.l z) z) (.int (p.cur z))).length = n at g1 ⊢
    omega
  · rw [valV_put, es]
    show (if ky t h = ky (p.l z) z then _ else _) = if t < upf p.n z (p.n z + 1) h then some (V.int (p.q h t)) else none
    by_cases e : h = z
    · subst e
      rw [upf_same]
      by_cases et : t = p.l h
      · subst et
        rw [if_pos rfl, if_pos (by omega)]
        rfl
      · rw [if_neg (fun q => et (ky_inj.mp q).1), h5 h hh t]
        by_cases ct : t < p.n h
        · rw [if_pos ct, if_pos (by omega)]
        · rw [if_neg ct, if_neg (by omega)]
    · rw [upf_ne e, if_neg (fun q => e (ky_inj.mp q).2)]
      exact h5 h hh t
theorem cur_look (p : Pm) {z : Nat} (c : p.l z < p.n z) (i : Nat) : (p.step z).cur i = upf p.cur z (p.nxt z) i := by
  unfold Pm.step
  rw [if_pos c]
  show upf p.q z (upf (p.q z) (p.l z + 1) (p.nxt z)) i (upf p.l z (p.l z + 1) i) = _
  by_cases e : i = z
  · subst e; rw [upf_same, upf_same, upf_same, upf_same]
  · rw [upf_ne e, upf_ne e, upf_ne e]; rfl
theorem PlS.look {H0 H : Hp} {sp dn cd : Addr} {p : Pm} (S : PlS H0 H sp dn cd p) {z : Nat} (hz : z < 2) (c : p.l z < p.n z) :
    PlS H0 (upd (upd H sp (.lst [.int ((p.step z).cur 0), .int ((p.step z).cur 1)])) dn (.lst [.int ((p.step z).done 0 : Nat), .int ((p.step z).done 1 : Nat)])) sp dn cd (p.step z) := by
  have es : p.step z = { q := upf p.q z (upf (p.q z) (p.l z + 1) (p.nxt z)), l := upf p.l z (p.l z + 1), n := p.n } := by unfold Pm.step; rw [if_pos c]
  obtain ⟨kvs, h3, h4, h5⟩ := S.hc
  refine { S with same := same_upd (same_upd S.same S.f1) S.f2, hs := by rw [upd_ne S.n1, upd_same], hd := upd_same, hc := ⟨kvs, by rw [upd_ne S.n3.symm, upd_ne S.n2.symm]; exact h3, by rw [Pm.sum_step p hz]; omega, fun h hh t => ?_⟩, nb := S.nb.step hz }
  rw [h5 h hh t, es]
  show _ = if t < p.n h then some (V.int (upf p.q z (upf (p.q z) (p.l z + 1) (p.nxt z)) h t)) else none
  by_cases e : h = z
  · subst e
    rw [upf_same]
    by_cases ct : t < p.n h
    · have := S.nb.n1 h hh
      rw [if_pos ct, if_pos ct, upf_ne (show t ≠ p.l h + 1 by omega)]
    · rw [if_neg ct, if_neg ct]
  · rw [upf_ne e]
theorem doneP_set (p : Pm) {z : Nat} (hz : z < 2) : ([.int (p.done 0 : Nat), .int (p.done 1 : Nat)] : List V).set z (.int (((p.done z : Nat) : Int) + 1)) = [.int ((p.step z).done 0 : Nat), .int ((p.step z).done 1 : Nat)] := by
  rw [Pm.done_step, Pm.done_step]
  exact ints_set p.done hz (p.done z + 1)
theorem curP_set (p : Pm) {z : Nat} (hz : z < 2) (c : p.l z < p.n z) : ([.int (p.cur 0), .int (p.cur 1)] : List V).set z (.int (p.nxt z)) = [.int ((p.step z).cur 0), .int ((p.step z).cur 1)] := by
  rw [cur_look p c, cur_look p c]
  have := two_set (fun j => V.int (p.cur j)) hz (V.int (p.nxt z))
  rw [upf_map (fun n : Int => V.int n) p.cur z (p.nxt z) 0, upf_map (fun n : Int => V.int n) p.cur z (p.nxt z) 1] at this
  exact this
/-- the place where a hand stands behind all its steps -/
def plv (p : Pm) (d : Nat) (h : Nat) : V := if p.done h = 2 * d then .int (p.cur h) else .non
end TB

set_option Elab.async false
set_option maxRecDepth 100000
set_option maxHeartbeats 4000000
namespace TB
open PySem L2 PyProof.Rows
set_option linter.unusedVariables false
theorem At.place {a b : Int} {r : Nat} {d : PyData} {h : Nat} {j : Int} (k : At a b r d h j) (hr : r ≤ 5) : placeD d h = some j := by
  obtain ⟨u, e, rfl, _⟩ := k
  unfold placeD
  rw [stand_rb e 5, show min 5 r = r by omega, e]
  rfl
/-- behind a weaving: what is known, and where it stands -/
theorem behind {a b : Int} (ha : 0 ≤ a) (hb : 0 ≤ b) {hs : List Nat} (hh : ∀ h ∈ hs, h < 2) {d h : Nat} (h2 : h < 2) (hc : hs.count h = 2 * d) :
    ((M0 a b).run hs).res d h = ((M0 a b).run hs).k h ∧ At a b d (((M0 a b).run hs).k h) h ((P0.run hs).cur h) ∧ plv (P0.run hs) d h = .int ((P0.run hs).cur h) ∧ (P0.run hs).l h = d := by
  obtain ⟨R, N⟩ := run_both ha hb hh (Rel.zero ha hb) Nb.zero
  have d1 : ((M0 a b).run hs).done h = 2 * d := by rw [M.done_run, hc]; show 0 + 0 + _ = _; omega
  have d2 : (P0.run hs).done h = 2 * d := by rw [Pm.done_run, hc]; show 0 + 0 + _ = _; omega
  have n1 := N.n1 h h2
  have hl : (P0.run hs).l h = d := by unfold Pm.done at d2; omega
  refine ⟨by unfold M.res; rw [if_pos d1], ?_, by unfold plv; rw [if_pos d2], hl⟩
  have := R.k h h2
  rw [hl] at this
  unfold Pm.cur
  rw [hl]
  exact this
theorem stopped_res {a b : Int} {hs : List Nat} {d h : Nat} (hc : hs.count h ≠ 2 * d) : ((M0 a b).run hs).res d h = .none ∧ plv (P0.run hs) d h = .non := by
  have d1 : ¬ ((M0 a b).run hs).done h = 2 * d := by rw [M.done_run]; show ¬ 0 + 0 + _ = _; omega
  have d2 : ¬ (P0.run hs).done h = 2 * d := by rw [Pm.done_run]; show ¬ 0 + 0 + _ = _; omega
  exact ⟨by unfold M.res; rw [if_neg d1], by unfold plv; rw [if_neg d2]⟩
theorem cur_facts {a b : Int} (ha : 0 ≤ a) (hb : 0 ≤ b) {hs : List Nat} (hh : ∀ h ∈ hs, h < 2) {d h : Nat} (h2 : h < 2) (hc : hs.count h = 2 * d) : (P0.run hs).cur h % 2 = (h : Int) ∧ 0 ≤ (P0.run hs).cur h ∧ (P0.run hs).cur h ≤ 3 ^ d := by
  obtain ⟨R, N⟩ := run_both ha hb hh (Rel.zero ha hb) Nb.zero
  have hl := (behind ha hb hh h2 hc).2.2.2
  have := N.n5 h h2 ((P0.run hs).l h) (Nat.le_refl _)
  rw [hl] at this
  unfold Pm.cur
  rw [hl]
  exact this
theorem cur_near {a b : Int} (ha : 0 ≤ a) (hb : 0 ≤ b) {hs : List Nat} (hh : ∀ h ∈ hs, h < 2) {d : Nat} (c0 : hs.count 0 = 2 * d) (c1 : hs.count 1 = 2 * d) : ((P0.run hs).cur 1 - (P0.run hs).cur 0).natAbs = 1 := by
  obtain ⟨R, N⟩ := run_both ha hb hh (Rel.zero ha hb) Nb.zero
  have l0 := (behind ha hb hh (h := 0) (by decide) c0).2.2.2
  have l1 := (behind ha hb hh (h := 1) (by decide) c1).2.2.2
  have := N.n3 d (by omega) (by omega)
  unfold Pm.cur
  rw [l0, l1]
  exact this
def tD : Option Int → PyData
  | some j => .int j
  | none => .str "known"
def tV : Option Int → V
  | some j => .int j
  | none => .str "known"
theorem tV_dp {K : PySem.W.Frag} {H : Hp} (o : Option Int) : Dp K H (tV o) (tD o) := by
  cases o with
  | none => exact .str _
  | some j => exact .int j
theorem tD_shaped (o : Option Int) : SeqAt.shaped (tD o) = true := by
  cases o with
  | none => decide +kernel
  | some j => rfl
section
variable {a b : Int} {d h : Nat} {mine its : PyData} {spot other : Int}
theorem deep5 (k : At a b 5 mine h spot) (y : PyData) : placeD (.tuple [mine, y]) h = none := by
  obtain ⟨u, e, _⟩ := k
  unfold placeD
  have : rb 5 (.tuple [mine, y]) = 5 := by
    show rb 4 mine + 1 = 5
    rw [stand_rb e 4]
    rfl
  rw [this]
  show (stand1 (stand 4 mine h) y (stand 4 y (1 - h))).map _ = none
  cases e4 : stand 4 mine h with
  | none => rfl
  | some v => exact absurd (stand_uniq e e4) (by decide)
theorem rb_tuple (k : At a b d mine h spot) (hd : d < 5) (y : PyData) : rb 5 (.tuple [mine, y]) = d + 1 := by
  obtain ⟨u, e, _⟩ := k
  show rb 4 mine + 1 = d + 1
  rw [stand_rb e 4, show min 4 d = d by omega]
theorem mixed_place (hh : h < 2) (k : At a b d mine h spot) (l : At a b d its (1 - h) other) (hd : d ≤ 5) : placeD (.tuple [mine, its]) h = if (other - spot).natAbs = 1 ∧ d < 5 then some (3 * spot + 2 * (other - spot)) else none := by
  by_cases h5 : d < 5
  · by_cases n : (other - spot).natAbs = 1
    · rw [if_pos ⟨n, h5⟩]
      exact (At.met hh k l n).place (by omega)
    · rw [if_neg (fun z => n z.1)]
      unfold placeD
      rw [rb_tuple k h5]
      obtain ⟨u, e, rfl, _⟩ := k
      obtain ⟨v, e2, rfl, _⟩ := l
      show (stand1 _ _ _).map _ = none
      rw [e, e2]
      unfold stand1 metD
      rw [Option.bind_some, if_neg (by rw [stand_isN e2]; decide), Option.bind_some, if_neg (fun z => n z.1)]
      rfl
  · obtain rfl : d = 5 := by omega
    rw [if_neg (fun z => h5 z.2)]
    exact deep5 k its
theorem none_place (k : At a b d mine h spot) (hd : d ≤ 5) : placeD (.tuple [mine, .none]) h = if d < 5 then some (3 * spot) else none := by
  by_cases h5 : d < 5
  · rw [if_pos h5]
    exact k.alone.place (by omega)
  · obtain rfl : d = 5 := by omega
    rw [if_neg h5]
    exact deep5 k .none
theorem pow3_ge {d : Nat} (hd : 1 ≤ d) : (3 : Int) ≤ 3 ^ d := by
  obtain ⟨e, rfl⟩ : ∃ e, d = e + 1 := ⟨d - 1, by omega⟩
  have : (1 : Int) ≤ 3 ^ e := by
    have := Int.pow_pos (n := 3) (m := e) (by decide)
    omega
  rw [Int.pow_succ]
  omega
theorem same_place (hh : h < 2) (k : At a b d mine h spot) (hd1 : 1 ≤ d) (hd : d ≤ 5) (ne : a ≠ b) : placeD (.tuple [mine, mine]) h = none := by
  by_cases h5 : d < 5
  · unfold placeD
    rw [rb_tuple k h5]
    obtain ⟨u, e, rfl, i1, i2⟩ := k
    show (stand1 _ _ _).map _ = none
    rw [e]
    unfold stand1
    rw [Option.bind_some, if_neg (by rw [stand_isN e]; decide)]
    cases e2 : stand d mine (1 - h) with
    | none => rfl
    | some v =>
      rw [Option.bind_some]
      unfold metD
      have p3 := pow3_ge hd1
      rw [if_neg]
      · rfl
      rintro ⟨z1, z2, z3⟩
      obtain ⟨x, s0, s1, s2⟩ := stand_own (r := d) (d := mine)
      obtain rfl | rfl : h = 0 ∨ h = 1 := by omega
      · have f1 := (s0 _ e).1
        have f2 := (s1 _ e2).1
        have ea : u.2.1 = some a := by
          rcases i1 with q | ⟨q, _⟩
          · exact q
          · cases q
        rcases i2 with q | ⟨_, q⟩
        · rw [q, f2] at z3
          have : b = x := of_decide_eq_true z3
          rw [f1] at ea
          cases ea
          exact ne this.symm
        · have := s2 _ _ e e2 (.inl q)
          omega
      · have f1 := (s1 _ e).1
        have f2 := (s0 _ e2).1
        have eb : u.2.2 = some b := by
          rcases i2 with q | ⟨q, _⟩
          · exact q
          · cases q
        rcases i1 with q | ⟨_, q⟩
        · rw [q, f2] at z2
          have : a = x := of_decide_eq_true z2
          rw [f1] at eb
          cases eb
          exact ne this
        · have := s2 _ _ e2 e (.inr q)
          omega
  · obtain rfl : d = 5 := by omega
    exact deep5 k mine
end
/-- known(inputs, weaving, rounds = deep): how the arguments bind -/
abbrev KnB (K : PySem.W.Frag) (fd : FuncData) : Prop := KBn K fd ["inputs", "weaving", "rounds"] 2 ["rounds"] (fun us ws => us ++ ws) (fun vs zs => vs ++ zs)
structure KDef (P : Program) (w : World) (K : PySem.W.Frag) (mg : Str → Option Value) (base : Heap) (f : Addr) (fd : FuncData) : Prop where
  G : FnOk P w K mg base CX0 5 f fd ["inputs", "weaving", "rounds"] (spKnown K)
  b : KnB K fd
  k : PySem.W.keepIn K (.ref f) = true
  m : mg "known" = some (.ref f)
theorem kn_binds {K : PySem.W.Frag} {f : Addr} {fd : FuncData} (F : Fun K "known" "known" sKnown f fd) : KnB K fd := by
  obtain ⟨oc, od, kV, doc, pm, an, cdv, ct, osl, rfl, lk, hcd⟩ := F.ex
  refine ⟨fun s us ws _ h1 h2 => ?_, fun r q => r.append q⟩
  match us, ws, h1, h2 with
  | [_, _], [_], _, _ => exact .of_eq rfl
theorem But.tups {a : Addr} {H H' : Hp} {n : Int} (b : But a H H') (w : WellAt H a n) : Tups H H' := fun c xs e => by
  obtain ⟨x, y, z, ea, _⟩ := w
  exact b _ _ (ne_of e ea (fun q => by cases q)) e
theorem iteT' {c : Bool} {A B : Prop} (e : c = true) (a : A) : if c = true then A else B := by rw [if_pos e]; exact a
theorem iteF' {c : Bool} {A B : Prop} (e : c = false) (b : B) : if c = true then A else B := by rw [e]; exact b
structure PDef (P : Program) (w : World) (K : PySem.W.Frag) (mg : Str → Option Value) (base : Heap) (cN : Addr) (f : Addr) (fd : FuncData) : Prop where
  G : FnOk P w K mg base (L2.CX P w) 9 f fd ["known", "hand"] (spPlace cN)
  b : Binds K fd ["known", "hand"] []
  k : PySem.W.keepIn K (.ref f) = true
  m : mg "place" = some (.ref f)
theorem passN {X : Cx} (σ : L2.St) : PassesAt (L2.CX X.prog X.w) X σ (fun _ _ _ => False) := fun _ _ _ _ _ _ c => by
  obtain ⟨_, _, _, _, _, _, _, _, _, _, _, _, z⟩ := c
  exact z.elim
theorem Kn.isNon {H : Hp} {v : V} {d : PyData} (k : Kn H v d) : decide (v = .non) = isN d := by
  cases k <;> rfl
theorem join2 {b : Bool} {X : Prop} {R : L2.St → Hp → Prop} {σ : L2.St} {H : Hp} (Iv : L2.St → Hp → Prop) (h0 : Iv σ H) (k : ∀ σ Hc, Iv σ Hc → R σ Hc) (h1 : b = true → (∀ σ Hc, Iv σ Hc → R σ Hc) → X) : if b = true then X else R σ H := by
  cases b with
  | false => exact iteF (k σ H h0)
  | true => exact iteT (h1 rfl k)
theorem But.wells {a p : Addr} {H H' : Hp} {n : Int} {o : HO} (b : But a H H') (w : WellAt H a n) (hp : H p = some o) (ne : ∀ x y z : Int, o ≠ .lst [.int x, .int y, .int z]) : H' p = some o := by
  obtain ⟨x, y, z, ea, _⟩ := w
  exact b _ _ (ne_of hp ea (ne x y z)) hp
def spRight : Sp := fun vs H Q _ => ∃ a : Addr, vs = [.ref a] ∧ WellAt H a 0 ∧ ∀ H', But a H H' → Q (.bl true) H'
end TB

set_option Elab.async false
set_option maxRecDepth 100000
set_option maxHeartbeats 4000000
namespace TA
open PySem L2 PyProof.Rows
set_option linter.unusedVariables false
/-! data that may be compared -/
def Ok (n : Nat) (d : PyData) : Prop := d.canLay0 = true ∧ d.depth ≤ n
theorem Ok.shaped {n : Nat} {d : PyData} (h : Ok n d) (e : n ≤ 64) : SeqAt.shaped d = true := by
  unfold SeqAt.shaped
  rw [h.1, decide_eq_true (Nat.le_trans h.2 e)]
  rfl
theorem ok_int {n : Nat} (i : Int) : Ok (n + 1) (.int i) := ⟨by simp [PyData.canLay0], by simp [PyData.depth]⟩
theorem ok_non {n : Nat} : Ok (n + 1) .none := ⟨by simp [PyData.canLay0], by simp [PyData.depth]⟩
theorem ok_all {n : Nat} : ∀ {ds : List PyData}, (∀ d ∈ ds, Ok n d) → PyData.canLayAll0 ds = true ∧ PyData.depthAll ds ≤ n
  | [], _ => ⟨rfl, by simp [PyData.depthAll]⟩
  | d :: ds, q => by
    obtain ⟨a, b⟩ := ok_all (ds := ds) (fun x hx => q x (List.mem_cons_of_mem _ hx))
    obtain ⟨c, e⟩ := q d List.mem_cons_self
    refine ⟨by simp [PyData.canLayAll0, a, c], ?_⟩
    simp only [PyData.depthAll]
    omega
theorem ok_list {n : Nat} {ds : List PyData} (q : ∀ d ∈ ds, Ok n d) : Ok (n + 1) (.list ds) := by
  obtain ⟨a, b⟩ := ok_all q
  refine ⟨by simpa [PyData.canLay0] using a, ?_⟩
  simp only [PyData.depth]
  omega
theorem ok_tuple {n : Nat} {ds : List PyData} (q : ∀ d ∈ ds, Ok n d) : Ok (n + 1) (.tuple ds) := by
  obtain ⟨a, b⟩ := ok_all q
  refine ⟨by simpa [PyData.canLay0] using a, ?_⟩
  simp only [PyData.depth]
  omega
theorem okD_pair (p : Int × Int) : Ok 2 (pairD p) := ok_tuple fun d hd => by
  rcases List.mem_cons.mp hd with rfl | hd
  · exact ok_int _
  · obtain rfl := List.mem_singleton.mp hd
    exact ok_int _
theorem okD_pairs (l : List (Int × Int)) : Ok 3 (.list (l.map pairD)) := ok_list fun d hd => by
  obtain ⟨p, _, rfl⟩ := List.mem_map.mp hd
  exact okD_pair p
theorem eqv_pair (p q : Int × Int) : PyData.eqv (pairD p) (pairD q) = decide (p = q) := by
  show ((p.1 == q.1) && ((p.2 == q.2) && true)) = decide (p = q)
  rw [Bool.and_true]
  by_cases h : p = q
  · subst h
    simp
  · rw [decide_eq_false h]
    by_cases h1 : p.1 = q.1
    · have : ¬ p.2 = q.2 := fun h2 => h (Prod.ext h1 h2)
      simp [this]
    · simp [h1]
theorem any_pair (l : List (Int × Int)) (p : Int × Int) : ((l.map pairD).any fun z => PyData.eqv z (pairD p)) = decide (p ∈ l) := by
  rw [List.any_map]
  by_cases h : p ∈ l
  · rw [decide_eq_true h, List.any_eq_true]
    exact ⟨p, h, by show PyData.eqv (pairD p) (pairD p) = true; rw [eqv_pair, decide_eq_true rfl]⟩
  · rw [decide_eq_false h, List.any_eq_false]
    intro q hq c
    have c : PyData.eqv (pairD q) (pairD p) = true := c
    rw [eqv_pair] at c
    exact h (of_decide_eq_true c ▸ hq)
/-- a task at p whose dict is not the one at d -/
def TaskX (C : Addr) (H : Hp) (p : Addr) (T : TD) (d : Addr) : Prop := ∃ dx a d', H p = some (.ins C dx (flds a d')) ∧ AlAt H (.ref a) T.al ∧ BoR H d' T.bo ∧ d' ≠ d
theorem TaskX.task {C : Addr} {H : Hp} {p : Addr} {T : TD} {d : Addr} (h : TaskX C H p T d) : TaskR C H p T := by
  obtain ⟨dx, a, d', h1, h2, h3, _⟩ := h
  exact ⟨dx, a, d', h1, h2, h3⟩
theorem TaskX.mono {C : Addr} {H H' : Hp} (s : Same H H') {p : Addr} {T : TD} {d : Addr} (h : TaskX C H p T d) : TaskX C H' p T d := by
  obtain ⟨dx, a, d', h1, h2, h3, h4⟩ := h
  exact ⟨dx, a, d', s _ _ h1, h2.mono (.same s), h3.mono s, h4⟩
theorem TaskX.new {C : Addr} {H H' : Hp} (s : Same H H') {p : Addr} {T : TD} {d : Addr} (h : TaskR C H p T) (n : H d = none) : TaskX C H' p T d := by
  obtain ⟨dx, a, d', h1, h2, h3⟩ := h
  refine ⟨dx, a, d', s _ _ h1, h2.mono (.same s), h3.mono s, fun c => ?_⟩
  subst c
  obtain ⟨kvs, h3, _⟩ := h3
  exact rd_some h3 n
theorem TaskX.but {C : Addr} {H H' : Hp} {d : Addr} {k : List (List Key × V)} (e : H d = some (.dT k)) (s : But d H H') {p : Addr} {T : TD} (h : TaskX C H p T d) : TaskR C H' p T := by
  obtain ⟨dx, a, d', h1, h2, ⟨kvs, h3, h5⟩, h4⟩ := h
  have kp := s.kp e nf_dT
  exact ⟨dx, a, d', s _ _ (ne_of h1 e (fun z => by cases z)) h1, h2.mono kp, kvs, h3.imp (s _ _ h4) (fun ⟨o, z⟩ => ⟨o, s _ _ h4 z⟩), h5.imp fun _ _ r => r.mono kp⟩
theorem row_yes {c : List Int} {n : Nat} (h : c.length = n) (o : ∀ x ∈ c, okOut x) : rowB (rowD c) n = true := by
  show (decide ((c.map PyData.int).length = n) && ((c.map PyData.int).map outB).all id) = true
  rw [List.length_map, decide_eq_true h, Bool.true_and, List.all_eq_true]
  intro b hb
  obtain ⟨d, hd, rfl⟩ := List.mem_map.mp hb
  obtain ⟨x, hx, rfl⟩ := List.mem_map.mp hd
  exact out_yes (o x hx)
/-- a for over the keys of a locked dict -/
theorem forT_turns {d : Addr} {o : Obj} {kvs : List (List Key × V)} {g : TG} {tb : TS} {D : Ends} {σ0 : L2.St} {H0 : Hp} (Pv : Nat → L2.St → Hp → Prop) (start : Pv 0 σ0 H0) (still : ∀ i σ H, Pv i σ H → H d = some (.frz o (.dT kvs)))
    (turn : ∀ i k v q σ H, kvs[i]? = some (k, v) → H q = some (.tup (k.map kV)) → Pv i σ H → g (.ref q) σ H fun σ2 H2 => tb { D with nx := Pv (i + 1), ct := Pv (i + 1), bk := D.nx } σ2 H2) (last : ∀ σ H, Pv kvs.length σ H → D.nx σ H) :
    ∃ W : Nat → Nat → L2.St → Hp → Prop, (∃ m, W 0 m σ0 H0) ∧ ∀ i m σ H, W i m σ H →
      ((Itkt d o kvs).stop i H ∧ D.nx σ H) ∨ ((Itkt d o kvs).go i H ∧ ∃ N : L2.St → Hp → Prop, (∀ σ' H', N σ' H' → ∃ m', m' < m ∧ W (i + 1) m' σ' H') ∧ ∀ x H', (Itkt d o kvs).yld i H x H' → g x σ H' fun σ2 H2 => tb { D with nx := N, ct := N, bk := D.nx } σ2 H2) := by
  refine ⟨fun i m σ H => i + m = kvs.length ∧ Pv i σ H, ⟨kvs.length, by omega, start⟩, fun i m σ H h => ?_⟩
  obtain ⟨hm, word⟩ := h
  cases m with
  | zero =>
    have hin : i = kvs.length := by omega
    rw [hin] at word ⊢
    exact Or.inl ⟨⟨still _ _ _ word, Nat.le_refl _⟩, last σ H word⟩
  | succ m =>
    refine Or.inr ⟨⟨still _ _ _ word, by omega⟩, Pv (i + 1), fun σ' H' w' => ⟨m, by omega, by omega, w'⟩, fun x H' y => ?_⟩
    obtain ⟨e, k, v, q, e1, e2, e3⟩ := y
    rw [e, e2]
    exact turn i k v q σ H e1 e3 word

/-! protocols -/
structure TxtP (K : PySem.W.Frag) (mg : Str → Option Value) : Prop where
  last : ∃ a, mg "LAST_PLACES" = some (.ref a) ∧ ∀ H, SqT K H a [.int 1, .int 3, .int 9, .int 27, .int 81, .int 243]
  five : ∃ t, mg "MOST_ROUNDS" = some (.int 5 t)
theorem last_at {r : Nat} (h : r ≤ 5) : ([V.int 1, .int 3, .int 9, .int 27, .int 81, .int 243] : List V)[r]? = some (.int (((3 ^ r : Nat) : Int))) := by
  obtain rfl | rfl | rfl | rfl | rfl | rfl : r = 0 ∨ r = 1 ∨ r = 2 ∨ r = 3 ∨ r = 4 ∨ r = 5 := by omega
  all_goals rfl
theorem pow_le {r : Nat} (h : r ≤ 5) : 3 ^ r ≤ 243 := by
  obtain rfl | rfl | rfl | rfl | rfl | rfl : r = 0 ∨ r = 1 ∨ r = 2 ∨ r = 3 ∨ r = 4 ∨ r = 5 := by omega
  all_goals decide
def WkAt (H : Hp) (wk : EB → List Int) (kv : List Key × V) (e : EB) : Prop := kv.1 = kI e.1 ∧ RowAt H kv.2 (wk e)
theorem WkAt.mono {H H' : Hp} (s : Kp H H') {wk kv e} (h : WkAt H wk kv e) : WkAt H' wk kv e := ⟨h.1, h.2.mono s⟩
structure PrF (C : Addr) (H : Hp) (p t : Addr) (T : TD) (r : Nat) (ch : Nat → List Int) (wk : EB → List Int) (al wd : Addr) (kvs : List (List Key × V)) : Prop where
  ht : H t = some (.tup [.int (r : Int), .ref al, .ref wd])
  hal : RowsAt H (.ref al) [ch 0, ch 1]
  hwd : H wd = some (.dT kvs)
  hwk : ∃ bo', bo'.Perm T.bo ∧ A2 (WkAt H wk) kvs bo'
  x : TaskX C H p T wd
  rr : r ≤ 5
  len : ∀ h, h < 2 → (ch h).length = (T.al h).length
  outc : ∀ h, h < 2 → ∀ x ∈ ch h, okOut x
  wlen : ∀ e ∈ T.bo, (wk e).length = 3 ^ r + 1
  wout : ∀ e ∈ T.bo, ∀ x ∈ wk e, okOut x
theorem PrF.mono {C : Addr} {H H' : Hp} (s : Same H H') {p t : Addr} {T : TD} {r ch wk al wd kvs} (b : PrF C H p t T r ch wk al wd kvs) : PrF C H' p t T r ch wk al wd kvs :=
  ⟨s _ _ b.ht, b.hal.mono (.same s), s _ _ b.hwd, (b.hwk.imp fun _ ⟨x, y⟩ => ⟨x, y.imp fun _ _ z => z.mono (.same s)⟩), b.x.mono s, b.rr, b.len, b.outc, b.wlen, b.wout⟩
def spIsWalks (K : PySem.W.Frag) (C : Addr) : Sp := fun vs H Q _ => ∃ (p wd : Addr) (m : Nat) (T : TD) (wk : EB → List Int) (kvs : List (List Key × V)), vs = [.ref p, .ref wd, .int (m : Int)] ∧ TaskX C H p T wd ∧ WF T ∧ H wd = some (.dT kvs) ∧ (∃ bo', bo'.Perm T.bo ∧ A2 (WkAt H wk) kvs bo') ∧ m ≤ 900 ∧ (∀ e ∈ T.bo, (wk e).length = m) ∧ (∀ e ∈ T.bo, ∀ x ∈ wk e, okOut x) ∧ ∀ H', Same H H' → Q (.bl true) H'
def spIsPr (K : PySem.W.Frag) (C : Addr) : Sp := fun vs H Q _ => ∃ (p t : Addr) (T : TD) (r : Nat) (ch : Nat → List Int) (wk : EB → List Int) (al wd : Addr) (kvs : List (List Key × V)), vs = [.ref p, .ref t] ∧ WF T ∧ PrF C H p t T r ch wk al wd kvs ∧ ∀ H', Same H H' → Q (.bl true) H'
section
variable {P : Program} {w : World} {K : PySem.W.Frag} {mg : Str → Option Value} {base : Heap}
abbrev nIsWalks : List Str := ["task", "thing", "many", "pair", "row"]
theorem sc_iswalks : FnScope nIsWalks ["task", "thing", "many"] (defScope s_is_walks) := ⟨rfl, rfl, rfl, by decide +kernel, rfl, by decide +kernel, by decide +kernel⟩
theorem ok_iswalks {f g1 g2 C : Addr} {fd d1 d2 : FuncData} (F : Fun K "is_walks" "is_walks" s_is_walks f fd) (T : Txt K mg) (T2 : Txt2 K mg) (Z : TxtC K mg C) (WP : Def P w K mg base "is_pair" ["task", "thing"] 4 (spPair K C) g1 d1)
    (WR : Def P w K mg base "is_row" ["thing", "many"] 4 (spRow K) g2 d2) : FnOk P w K mg base CX0 5 f fd ["task", "thing", "many"] (spIsWalks K C) := by
  refine F.ok sc_iswalks (fun vs H Q E h => ?_) (fun cdv A outer s H vs Q E hr h => ?_)
  · obtain ⟨p, d, m, D, wk, kvs, rfl, _⟩ := h
    rfl
  obtain ⟨p, d, m, D, wk, kw, rfl, hX, hW, hd, ⟨bo', hpm, hwk⟩, hm9, hwl, hwo, q⟩ := h
  have nd := sc_iswalks.nd
  refine ⟨_, (pss_one (ps_ret (pe_and (pe_callB call_isi (by rfl) T.isi boot_isinstance (pa_cons (pv 1) (pa_cons (pe_bltn (v := .ty "dict") (by rfl) T2.dict boot_dict rfl) pa_nil))) (pe_and (pe_cmpR op_eq (pe_callB call_len_dT (by rfl) T.len PySem.boot_len (pa_cons (pv 1) pa_nil)) (pe_callB len_dTR (by rfl) T.len PySem.boot_len (pa_cons (pe_fld (pv 0) rfl) pa_nil)) (nomark _)) (pe_one (pe_callB (cr_all rfl) (by rfl) T.all (by decide +kernel) (pa_cons (pe_lock (pe_lc (own := [("pair", 3), ("row", 4)]) (g := (gTup K 2 (gCons (gName 3) (gCons (gName 4) gNil)))) (tt := tYes) (te := (tAndV (tCall (spPair K C) [] E0 (tCons (tVar 0) (tCons (tVar 3) tNil))) (tCall (spRow K) [] E0 (tCons (tVar 4) (tCons (tVar 2) tNil))))) rfl nd (pi_itemsT (pv 1)) (blkOk_by (N := nIsWalks) (sc := defScope s_is_walks) (by decide +kernel)) (fun _ _ _ _ _ => (by exact (pg_tup (by rfl) (pgs_cons (pg_name (i := 3) nd rfl (Or.inl rfl)) (pgs_cons (pg_name (i := 4) nd rfl (Or.inl rfl)) pgs_nil))))) (fun _ _ _ _ _ => pts_nil) (fun _ _ _ _ _ => (by exact (pe_and (pe_call WP.G (hr.mono (by decide)) rfl WP.m WP.k WP.b .nil pass0 (pa_cons (pv 0) (pa_cons (pv 3) pa_nil))) (pe_one (pe_call WR.G (hr.mono (by decide)) rfl WR.m WR.k WR.b .nil pass0 (pa_cons (pv 4) (pa_cons (pv 2) pa_nil))))))))) pa_nil))))))), ?_⟩
  obtain ⟨dx, a, d', hp, hA, ⟨kvs, hd', ha⟩, hne⟩ := id hX
  refine ⟨_, rfl, V.ref d, .ty "dict", .type "dict", .type "dict", true, rfl, .ty "dict", .base (.dT hd), kit_ty (by decide +kernel), _, rfl, iteT ?_⟩
  refine ⟨_, rfl, d, _, rfl, hd, _, rfl, p, C, dx, _, _, rfl, hp, Z.cl, Z.nB, flds_both _ _, d', kvs, rfl, hd', rfl, _, rfl, ?_⟩
  refine iteT' (by rw [dec_nat]; exact decide_eq_true (by rw [hwk.len, ha.len, hpm.length_eq])) ?_
  refine ⟨d, _, hd, trivial, fun od => ?_⟩
  have hd1 : (upd H d (.frz od (.dT kw))) d = some (.frz od (.dT kw)) := upd_same
  refine ⟨_, rfl, d, od, _, rfl, hd1, fun L hL => ?_⟩
  have nL : d ≠ L := ne_of_none hd1 hL
  have hLn : H L = none := none_of_but But.at (Ne.symm nL) hL
  refine itemT_turns (fun i H' => But d H H' ∧ H' d = some (.frz od (.dT kw)) ∧ H' L = some (.lst ((List.replicate i true).map V.bl))) ⟨But.at.trans (.same (same_new hL _)), by rw [upd_ne nL]; exact hd1, upd_same⟩ (fun i H' h => h.2.1) ?_ ?_
  · rintro i k x qa Tt H' hi hq hTn ⟨b1, e1, e2⟩
    obtain ⟨eb, hbi, ek, hrow⟩ := hwk.get hi
    dsimp only at ek hrow
    subst ek
    have hm := hpm.mem_iff.mp (List.mem_of_getElem? hbi)
    have s1 := same_new hTn (.tup [V.ref qa, x])
    have hi2 : i < D.bo.length := by rw [← hpm.length_eq]; exact (List.getElem?_eq_some_iff.mp hbi).1
    refine ⟨Tt, _, rfl, SqT.of upd_same, rfl, _, _, rfl, _, _, rfl, rfl, rfl, _, rfl, _, rfl, p, _, D, iI eb.1, rfl, hX.but hd (b1.trans (.same s1)), hW, kI_tp (s1 _ _ hq), fun H2 s2 => ?_⟩
    rw [hasK_yes hm]
    have s13 := s1.trans s2
    have hrow2 := hrow.mono (b1.kp hd nf_dT |>.trans (.same s13))
    refine ⟨_, rfl, iteT ⟨_, rfl, _, rfl, _, _, m, rfl, hrow2.dp, ?_, fun H3 s3 => ?_⟩⟩
    · intro ds e
      cases e
      rw [List.length_map, hwl eb hm]
      omega
    rw [row_yes (hwl eb hm) (hwo eb hm)]
    have s14 := s13.trans s3
    refine ⟨_, s14 _ _ e2, ?_, (b1.trans (.same s14)).new hLn, by rw [upd_ne nL]; exact s14 _ _ e1, by rw [upd_same, rep_snoc]⟩
    rw [List.length_map, List.length_replicate]
    have := hW.many
    exact Nat.lt_of_lt_of_le (show i < 100 by omega) (by decide)
  · rintro H1 ⟨b1, e1, e2⟩
    have s1 : Same H (upd H1 d (.dT kw)) := b1.unlock hd
    refine ⟨e1, L, _, rfl, SqL.of (by rw [upd_ne (Ne.symm nL)]; exact e2), ?_⟩
    rw [all_true]
    exact q _ s1
abbrev nIsPr : List Str := ["task", "thing"]
theorem sc_ispr : FnScope nIsPr ["task", "thing"] (defScope s_is_protocol) := ⟨rfl, rfl, rfl, by decide +kernel, rfl, by decide +kernel, by decide +kernel⟩
theorem PrF.chosen {C : Addr} {H : Hp} {p t : Addr} {T : TD} {r ch wk al wd kvs} (b : PrF C H p t T r ch wk al wd kvs) : chosenB (rowsD [ch 0, ch 1]) (T.al 0).length (T.al 1).length = true := by
  show (rowB (rowD (ch 0)) _ && rowB (rowD (ch 1)) _) = true
  rw [row_yes (b.len 0 (by decide)) (b.outc 0 (by decide)), row_yes (b.len 1 (by decide)) (b.outc 1 (by decide))]
  rfl
theorem ok_ispr {f g1 g2 g3 C : Addr} {fd d1 d2 d3 : FuncData} (F : Fun K "is_protocol" "is_protocol" s_is_protocol f fd) (T : Txt K mg) (U : TxtP K mg) (Z : TxtC K mg C) (WW : Def P w K mg base "is_whole_within" ["thing", "least", "most"] 2 (spWithinG K) g1 d1)
    (WC : Def P w K mg base "is_chosen" ["task", "thing"] 5 (spChosen K C) g2 d2) (WWk : Def P w K mg base "is_walks" ["task", "thing", "many"] 5 (spIsWalks K C) g3 d3) : FnOk P w K mg base CX0 6 f fd ["task", "thing"] (spIsPr K C) := by
  refine F.ok sc_ispr (fun vs H Q E h => ?_) (fun cdv A outer s H vs Q E hr h => ?_)
  · obtain ⟨p, t, D, r, ch, wk, al, wd, kvs, rfl, _⟩ := h
    rfl
  obtain ⟨p, t, D, r, ch, wk, al, wd, kvs, rfl, hW, B, q⟩ := h
  have nd := sc_ispr.nd
  obtain ⟨lpT, mLP, hLP⟩ := U.last
  obtain ⟨t5, m5⟩ := U.five
  refine ⟨_, (pss_one (ps_ret (pe_and (pe_callB call_isi (by rfl) T.isi boot_isinstance (pa_cons (pv 1) (pa_cons (pe_bltn (v := .ty "tuple") (by rfl) T.tuple boot_tuple rfl) pa_nil))) (pe_and (pe_cmpR op_eq (pe_callB call_len_seq (by rfl) T.len PySem.boot_len (pa_cons (pv 1) pa_nil)) pe_int (nomark _)) (pe_and (pe_call WW.G (hr.mono (by decide)) rfl WW.m WW.k WW.b .nil pass0 (pa_cons (pe_ix ix_tup (pv 1) pe_int (fun _ _ => rfl)) (pa_cons pe_int (pa_cons (pe_glob (v := .int 5) rfl m5 ⟨_, rfl⟩) pa_nil)))) (pe_and (pe_call WC.G (hr.mono (by decide)) rfl WC.m WC.k WC.b .nil pass0 (pa_cons (pv 0) (pa_cons (pe_ix ix_tup (pv 1) pe_int (fun _ _ => rfl)) pa_nil))) (pe_one (pe_call WWk.G (hr.mono (by decide)) rfl WWk.m WWk.k WWk.b .nil pass0 (pa_cons (pv 0) (pa_cons (pe_ix ix_tup (pv 1) pe_int (fun _ _ => rfl)) (pa_cons (pe_op op_add (pe_ix ix_tup (pe_glob (v := .ref lpT) rfl mLP rfl) (pe_ix ix_tup (pv 1) pe_int (fun _ _ => rfl)) (fun _ _ => rfl)) pe_int) pa_nil))))))))))), ?_⟩
  refine ⟨_, rfl, V.ref t, .ty "tuple", .type "tuple", .type "tuple", true, rfl, .ty "tuple", .base (.tup B.ht), kit_ty (by decide +kernel), _, rfl, iteT ?_⟩
  refine ⟨_, rfl, t, _, rfl, .inr (SqT.of B.ht), rfl, _, rfl, iteT ?_⟩
  refine ⟨_, rfl, t, _, _, _, rfl, rfl, SqT.of B.ht, (by rfl), _, _, 0, 5, rfl, .int _, _, rfl, ?_⟩
  have hrr := B.rr
  have hwi : within (.int (r : Int)) 0 5 = true := decide_eq_true (by omega)
  refine iteT' hwi ?_
  refine ⟨_, rfl, _, rfl, t, _, _, _, rfl, rfl, SqT.of B.ht, (by rfl), p, _, _, D, rfl, B.x.task, B.hal.dp, ?_, fun H1 s1 => ?_⟩
  · rintro ds e z hz
    cases e
    rcases List.mem_cons.mp hz with rfl | hz
    · intro es e
      cases e
      rw [List.length_map, B.len 0 (by decide)]
      have := hW.n0 0 (by decide); omega
    · obtain rfl := List.mem_singleton.mp hz
      intro es e
      cases e
      rw [List.length_map, B.len 1 (by decide)]
      have := hW.n0 1 (by decide); omega
  rw [B.chosen]
  have B1 := B.mono s1
  refine ⟨_, rfl, iteT ?_⟩
  refine ⟨_, rfl, _, rfl, t, _, _, _, rfl, rfl, SqT.of B1.ht, (by rfl), _, rfl, t, _, _, _, rfl, rfl, SqT.of B1.ht, (by rfl), lpT, _, _, _, rfl, rfl, hLP _, atI_nat (last_at B.rr), _, _, rfl, rfl, ?_⟩
  have hp := pow_le B.rr
  refine ⟨p, wd, 3 ^ r + 1, D, wk, kvs, ?_, B1.x, hW, B1.hwd, B1.hwk, by omega, B.wlen, B.wout, fun H2 s2 => q _ (s1.trans s2)⟩
  rfl
end
end TA

set_option Elab.async false
set_option maxRecDepth 100000
set_option maxHeartbeats 4000000
namespace TA
open PySem L2 PyProof.Rows
set_option linter.unusedVariables false
theorem iI_at {h : Nat} (hh : h < 2) (p : IP) : ([V.int (iI p).1, V.int (iI p).2] : List V)[h]? = some (.int ((sel h p : Nat) : Int)) := by
  obtain rfl | rfl : h = 0 ∨ h = 1 := by omega
  · rfl
  · rfl
def oI : Option Int → V
  | none => .non
  | some i => .int i
/-- what a hand tells alone, what it tells at a place, behind a weaving -/
def chO (ch : Nat → List Int) (h : Nat) (p : IP) : Int := (ch h).getD (sel h p) 0
def outAt (ch : Nat → List Int) (wk : EB → List Int) (r : Nat) (e : EB) (h : Nat) (j : Int) : Int := if j = 0 ∨ j = ((3 ^ r : Nat) : Int) then chO ch h e.1 else (wk e).getD j.toNat 0
def tellP (r : Nat) (ch : Nat → List Int) (wk : EB → List Int) (e : EB) (hs : List Nat) (h : Nat) : Option Int := if hs.count h = 2 * r then some (outAt ch wk r e h ((TB.P0.run hs).cur h)) else none
theorem PrF.row {C : Addr} {H : Hp} {p t : Addr} {T : TD} {r ch wk al wd kvs} (B : PrF C H p t T r ch wk al wd kvs) (hW : WF T) {e : EB} (he : e ∈ T.bo) {h : Nat} (hh : h < 2) : ∃ xs rr, H al = some (.lst xs) ∧ xs[h]? = some (.ref rr) ∧ H rr = some (.lst ((ch h).map .int)) ∧ ((ch h).map V.int)[sel h e.1]? = some (.int (chO ch h e.1)) := by
  obtain ⟨ta, xs, ea, hta, ar⟩ := B.hal
  obtain rfl : al = ta := by injection ea
  obtain ⟨x, hx, rr, rfl, hrow⟩ := ar.at (i := h) (y := ch h) (by
    obtain rfl | rfl : h = 0 ∨ h = 1 := by omega
    · rfl
    · rfl)
  obtain ⟨rg0, rg1⟩ := hW.rng e he
  have hsl : sel h e.1 < (ch h).length := by
    rw [B.len h hh]
    obtain rfl | rfl : h = 0 ∨ h = 1 := by omega
    · exact rg0
    · exact rg1
  refine ⟨xs, rr, hta, hx, hrow, ?_⟩
  unfold chO
  rw [List.getElem?_map, List.getD_eq_getElem?_getD, List.getElem?_eq_getElem hsl]
  rfl
theorem wk_at {H : Hp} {wk : EB → List Int} : ∀ {kvs : List (List Key × V)} {bo : BD}, A2 (WkAt H wk) kvs bo → (bo.map (·.1)).Pairwise (· ≠ ·) → ∀ e ∈ bo, ∃ v, valV kvs (kI e.1) = some v ∧ RowAt H v (wk e)
  | _, _, .nil, _, e, m => by cases m
  | (k, v) :: kvs, b :: bo, .cons a r, s, e, m => by
    obtain ⟨ek, hl⟩ := a
    dsimp only at ek hl
    subst ek
    rw [List.map_cons, List.pairwise_cons] at s
    rcases List.mem_cons.mp m with rfl | m
    · exact ⟨v, valV_pos rfl, hl⟩
    · rw [valV_neg (fun h => s.1 _ (List.mem_map.mpr ⟨e, m, rfl⟩) (kI_inj h))]
      exact wk_at r s.2 e m
theorem wkp_at {H : Hp} {wk : EB → List Int} {kvs : List (List Key × V)} {bo : BD} (h : ∃ bo', bo'.Perm bo ∧ A2 (WkAt H wk) kvs bo') (s : (bo.map (·.1)).Pairwise (· ≠ ·)) : ∀ e ∈ bo, ∃ v, valV kvs (kI e.1) = some v ∧ RowAt H v (wk e) := fun e he => by
  obtain ⟨bo', hp, a⟩ := h
  exact wk_at a ((List.Perm.pairwise_iff (fun h c => h c.symm) (hp.map _)).mpr s) e (hp.mem_iff.mpr he)
def spOutOf (C : Addr) : Sp := fun vs H Q _ => ∃ (p t : Addr) (T : TD) (r : Nat) (ch : Nat → List Int) (wk : EB → List Int) (al wd : Addr) (kvs : List (List Key × V)) (tt : Addr) (h : Nat) (v : V) (d : PyData) (e : EB) (o : Option Int), vs = [.ref t, .ref tt, .int (h : Int), v] ∧ WF T ∧ PrF C H p t T r ch wk al wd kvs ∧ e ∈ T.bo ∧ TpAt H (.ref tt) (iI e.1) ∧ h < 2 ∧ TB.Kn H v d ∧
  ((o = none ∧ d = .none) ∨ ∃ j : Int, o = some j ∧ TB.isN d = false ∧ TB.placeD d h = some j ∧ 0 ≤ j ∧ j ≤ ((3 ^ r : Nat) : Int)) ∧ ∀ H', Same H H' → Q (oI (o.map (outAt ch wk r e h))) H'
def spTell (K : PySem.W.Frag) (C : Addr) : Sp := fun vs H Q _ => ∃ (p t : Addr) (T : TD) (r : Nat) (ch : Nat → List Int) (wk : EB → List Int) (al wd : Addr) (kvs : List (List Key × V)) (tt lw : Addr) (hs : List Nat) (e : EB), vs = [.ref p, .ref t, .ref tt, .ref lw] ∧ WF T ∧ PrF C H p t T r ch wk al wd kvs ∧ e ∈ T.bo ∧ TpAt H (.ref tt) (iI e.1) ∧
  SqL K H lw (TB.hl hs) ∧ (∀ h ∈ hs, h < 2) ∧ (∀ h < 2, hs.count h ≤ 2 * r) ∧ hs.length ≤ 40 ∧ ∀ (u : Addr) (H' : Hp), Same H H' → H' u = some (.tup [oI (tellP r ch wk e hs 0), oI (tellP r ch wk e hs 1)]) → Q (.ref u) H'
section
variable {P : Program} {w : World} {K : PySem.W.Frag} {mg : Str → Option Value} {base : Heap}
abbrev nOut : List Str := ["protocol", "inputs", "hand", "thing", "rounds", "alone", "walks", "at"]
theorem sc_out : FnScope nOut ["protocol", "inputs", "hand", "thing"] (defScope s_output_of) := ⟨rfl, rfl, rfl, by decide +kernel, rfl, by decide +kernel, by decide +kernel⟩
theorem ok_outof {f g C cN : Addr} {fd gd : FuncData} (F : Fun K "output_of" "output_of" s_output_of f fd) (U : TxtP K mg) (PD : TB.PDef P w K mg base cN g gd) : FnOk P w K mg base CX0 10 f fd ["protocol", "inputs", "hand", "thing"] (spOutOf C) := by
  refine F.ok sc_out (fun vs H Q E h => ?_) (fun cdv A outer s H vs Q E hr h => ?_)
  · obtain ⟨p, t, D, r, ch, wk, al, wd, kvs, tt, h, v, d, e, o, rfl, _⟩ := h
    rfl
  obtain ⟨p, t, D, r, ch, wk, al, wd, kvs, tt, h, v, d, e, o, rfl, hW, B, he, htt, hh, hk, ho, q⟩ := h
  have nd := sc_out.nd
  have hu := hu_of hr
  obtain ⟨lpT, mLP, hLP⟩ := U.last
  refine ⟨_, (pss_cons (ps_if (pt_cmpR op_isN (pv 3) pe_non (nomark _))
      (pss_one (ps_ret pe_non))
      pss_nil)
    (pss_cons (ps_asg (pv 0) (pg_tup (by rfl) (pgs_cons (pg_name (i := 4) nd rfl (Or.inl rfl)) (pgs_cons (pg_name (i := 5) nd rfl (Or.inl rfl)) (pgs_cons (pg_name (i := 6) nd rfl (Or.inl rfl)) pgs_nil)))))
    (pss_cons (ps_set (i := 7) nd rfl (Or.inl rfl) (pe_callS PD.G (hr.mono (by decide)) rfl PD.m PD.k PD.b TB.passN (pa_cons (pv 3) (pa_cons (pv 2) pa_nil))))
    (pss_cons (ps_if (PW.pt (pw_or (pt_cmpR op_eq (pv 7) pe_int (nomark _)) (pw_or1 (pt_cmpR op_eq (pv 7) (pe_ix ix_tup (pe_glob (v := .ref lpT) rfl mLP rfl) (pv 4) (fun _ _ => rfl)) (nomark _)))))
      (pss_one (ps_ret (pe_ix ix_list (pe_ix ix_list (pv 5) (pv 2) (fun _ _ => rfl)) (pe_ix ix_tup (pv 1) (pv 2) (fun _ _ => rfl)) (fun _ _ => rfl))))
      pss_nil)
    (pss_one (ps_ret (pe_ix ix_list (pe_dget hu (pv 6) (pv 1) (fun _ _ => rfl)) (pv 7) (fun _ _ => rfl)))))))), ?_⟩
  refine ⟨_, rfl, rfl, _, rfl, ?_⟩
  rw [hk.isNon]
  rcases ho with ⟨rfl, rfl⟩ | ⟨j, rfl, hn, hj, hj0, hj1⟩
  · exact iteT (q _ (Same.refl H))
  rw [hn]
  refine iteF ?_
  refine ⟨_, rfl, t, _, rfl, SqT.of B.ht, rfl, _, _, rfl, _, _, rfl, _, _, rfl, rfl, ?_⟩
  refine ⟨_, rfl, _, rfl, v, d, h, rfl, hk, hh, (fun c => by rw [hj] at c; cases c), fun j' ej H1 s1 => ?_⟩
  obtain rfl : j = j' := by rw [hj] at ej; exact Option.some.inj ej
  have B1 := B.mono s1
  obtain ⟨xs, rr, h1, h2, h3, h4⟩ := B1.row hW he hh
  obtain ⟨ttt, ett, htt'⟩ := htt.mono (.same s1)
  obtain rfl : tt = ttt := by injection ett
  have q := q H1 s1
  have low : (j = 0 ∨ j = ((3 ^ r : Nat) : Int)) → oI ((some j).map (outAt ch wk r e h)) = .int (chO ch h e.1) := fun c => by
    show V.int (outAt ch wk r e h j) = _
    unfold outAt
    rw [if_pos c]
  refine ⟨_, rfl, rfl, _, rfl, ?_⟩
  by_cases c0 : j = 0
  · subst c0
    refine iteT' (by decide +kernel) ?_
    rw [low (.inl rfl)] at q
    refine iteT ?_
    exact ⟨_, rfl, _, rfl, al, _, _, _, rfl, rfl, SqL.of h1, atI_nat h2, _, rfl, _, rfl, tt, _, _, _, rfl, rfl, SqT.of htt', atI_nat (iI_at hh e.1), rr, _, _, _, rfl, rfl, SqL.of h3, atI_nat h4, q⟩
  refine iteF' (decide_eq_false (by simp [c0])) ?_
  refine ⟨_, rfl, _, rfl, lpT, _, _, _, rfl, rfl, hLP _, atI_nat (last_at B.rr), rfl, _, rfl, ?_⟩
  by_cases c1 : j = ((3 ^ r : Nat) : Int)
  · refine iteT' (decide_eq_true (by rw [c1])) ?_
    rw [low (.inr c1)] at q
    exact ⟨_, rfl, _, rfl, al, _, _, _, rfl, rfl, SqL.of h1, atI_nat h2, _, rfl, _, rfl, tt, _, _, _, rfl, rfl, SqT.of htt', atI_nat (iI_at hh e.1), rr, _, _, _, rfl, rfl, SqL.of h3, atI_nat h4, q⟩
  refine iteF' (decide_eq_false (fun z => c1 (by injection z))) ?_
  obtain ⟨v2, hv2, rw2, rfl, hrow⟩ := wkp_at B1.hwk hW.srt e he
  have hjn : j = ((j.toNat : Nat) : Int) := by omega
  have hjl : j.toNat < (wk e).length := by rw [B.wlen e he]; omega
  have gj : ((wk e).map V.int)[j.toNat]? = some (.int ((wk e).getD j.toNat 0)) := by
    rw [List.getElem?_map, List.getD_eq_getElem?_getD, List.getElem?_eq_getElem hjl]
    rfl
  have e3 : outAt ch wk r e h j = (wk e).getD j.toNat 0 := if_neg (fun z => z.elim c0 c1)
  have q : Q (.int ((wk e).getD j.toNat 0)) H1 := by
    rw [← e3]
    exact q
  refine ⟨_, rfl, _, rfl, wd, _, rfl, hv2 ▸ DGet.t (k := kI e.1) B1.hwd htt', _, rfl, rw2, _, _, _, rfl, rfl, SqL.of hrow, ?_, q⟩
  rw [hjn]
  exact atI_nat gj
abbrev nTell : List Str := ["task", "protocol", "inputs", "weaving", "knows", "hand"]
theorem sc_tell : FnScope nTell ["task", "protocol", "inputs", "weaving"] (defScope s_tell) := ⟨rfl, rfl, rfl, by decide +kernel, rfl, by decide +kernel, by decide +kernel⟩
theorem ok_tell {f g1 g2 g3 g4 C : Addr} {fd d1 d2 d3 d4 : FuncData} (F : Fun K "tell" "tell" s_tell f fd) (T : Txt K mg) (U : TxtH K mg) (WPr : Def P w K mg base "is_protocol" ["task", "thing"] 6 (spIsPr K C) g1 d1) (WP : Def P w K mg base "is_pair" ["task", "thing"] 4 (spPair K C) g2 d2)
    (KD : TB.KDef P w K mg base g3 d3) (OO : Def P w K mg base "output_of" ["protocol", "inputs", "hand", "thing"] 10 (spOutOf C) g4 d4) : FnOk P w K mg base CX0 11 f fd ["task", "protocol", "inputs", "weaving"] (spTell K C) := by
  refine F.ok sc_tell (fun vs H Q E h => ?_) (fun cdv A outer s H vs Q E hr h => ?_)
  · obtain ⟨p, t, D, r, ch, wk, al, wd, kvs, tt, lw, hs, e, rfl, _⟩ := h
    rfl
  obtain ⟨p, t, D, r, ch, wk, al, wd, kvs, tt, lw, hs, e, rfl, hW, B, he, htt, hlw, h2, hc, hl, q⟩ := h
  have nd := sc_tell.nd
  obtain ⟨hT, mH, hH⟩ := U.hands
  refine ⟨_, (pss_cons (ps_if (pt_not (pt_val (pe_call WPr.G (hr.mono (by decide)) rfl WPr.m WPr.k WPr.b .nil pass0 (pa_cons (pv 0) (pa_cons (pv 1) pa_nil)))))
      pss_never
      pss_nil)
    (pss_cons (ps_if (pt_not (pt_val (pe_call WP.G (hr.mono (by decide)) rfl WP.m WP.k WP.b .nil pass0 (pa_cons (pv 0) (pa_cons (pv 2) pa_nil)))))
      pss_never
      pss_nil)
    (pss_cons (ps_set (i := 4) nd rfl (Or.inr rfl) (pe_callN KD.G (hr.mono (by decide)) rfl KD.m KD.k KD.b pass0 (pa_cons (pv 2) (pa_cons (pv 3) pa_nil)) (pk_cons (pe_ix ix_tup (pv 1) pe_int (fun _ _ => rfl)) pk_nil)))
    (pss_one (ps_ret (pe_callTy call_tuple_of (by rfl) T.tuple boot_tuple (pa_cons (pe_lc (own := [("hand", 5)]) (g := (gName 5)) (tt := tYes) (te := (tCall (spOutOf C) [] E0 (tCons (tVar 1) (tCons (tVar 2) (tCons (tVar 5) (tCons (tOp (rIxL K) (tVar 4) (tVar 5)) tNil)))))) rfl nd (pi_tup (pe_glob (v := .ref hT) rfl mH rfl)) (blkOk_by (N := nTell) (sc := defScope s_tell) (by decide +kernel)) (fun _ _ _ _ _ => (by exact (pg_name (i := 5) nd rfl (Or.inl rfl)))) (fun _ _ _ _ _ => pts_nil) (fun _ _ _ _ _ => (by exact (pe_call OO.G (hr.mono (by decide)) rfl OO.m OO.k OO.b .nil pass0 (pa_cons (pv 1) (pa_cons (pv 2) (pa_cons (pv 5) (pa_cons (pe_ix ix_list (pv 4) (pv 5) (fun _ _ => rfl)) pa_nil)))))))) pa_nil))))))), ?_⟩
  refine ⟨_, rfl, _, rfl, p, t, D, r, ch, wk, al, wd, kvs, rfl, hW, B, fun H1 s1 => ⟨true, rfl, iteF ?_⟩⟩
  have B1 := B.mono s1
  refine ⟨_, rfl, _, rfl, p, _, D, iI e.1, rfl, B1.x.task, hW, htt.mono (.same s1), fun H2 s2 => ?_⟩
  rw [hasK_yes he]
  have s12 := s1.trans s2
  have B2 := B.mono s12
  refine ⟨true, rfl, iteF ?_⟩
  obtain ⟨ttt, ett, htt'⟩ := htt.mono (.same s12)
  obtain rfl : tt = ttt := by injection ett
  have n0 : (0 : Int) ≤ (e.1.1 : Int) := by omega
  have n1 : (0 : Int) ≤ (e.1.2 : Int) := by omega
  refine ⟨_, rfl, _, rfl, _, rfl, t, _, _, _, rfl, rfl, SqT.of B2.ht, (by rfl), rfl, rfl, lw, hs, r, (e.1.1 : Int), (e.1.2 : Int), ⟨tt, rfl, htt', s12.seq hlw⟩, h2, hc, hl, B.rr, n0, n1, fun o v H3 s3 hon ho hk => ?_⟩
  have s13 := s12.trans s3
  refine ⟨hT, rfl, ⟨_, hH _⟩, fun L hL => ?_⟩
  have sL := same_new hL (.lst [])
  let tv : Nat → V := fun h => oI (tellP r ch wk e hs h)
  refine tup_turns (xs := [V.int 0, V.int 1]) (fun i H' => Same H3 H' ∧ H' L = some (.lst (([tv 0, tv 1] : List V).take i))) ⟨sL, upd_same⟩ (fun i H' _ _ => hH H') ?_ ?_
  · rintro i z H' hz ⟨s4, h4⟩
    obtain ⟨hi, rfl⟩ := hand_at hz
    have s14 := s13.trans s4
    have B4 := B.mono s14
    have hv : ([v 0, v 1] : List V)[i]? = some (v i) := by
      obtain rfl | rfl : i = 0 ∨ i = 1 := by omega
      · rfl
      · rfl
    refine ⟨rfl, _, rfl, _, rfl, _, rfl, _, rfl, _, rfl, o, _, _, _, rfl, rfl, SqL.of (s4 _ _ ho), atI_nat hv, p, t, D, r, ch, wk, al, wd, kvs, tt, i, v i, _, e, if hs.count i = 2 * r then some ((TB.P0.run hs).cur i) else none, rfl, hW, B4, he, htt.mono (.same s14), hi, (hk i hi).mono (TB.Tups.same s4), ?_, fun H5 s5 => ?_⟩
    · by_cases c : hs.count i = 2 * r
      · obtain ⟨z1, z2, z3, z4⟩ := TB.behind n0 n1 h2 hi c
        obtain ⟨z5, z6, z7⟩ := TB.cur_facts n0 n1 h2 hi c
        rw [if_pos c, z1]
        refine .inr ⟨_, rfl, ?_, z2.place B.rr, z6, ?_⟩
        · obtain ⟨u, eu, _⟩ := z2
          exact TB.stand_isN eu
        · rw [Int.natCast_pow]
          exact z7
      · rw [if_neg c]
        exact .inl ⟨rfl, (TB.stopped_res c).1⟩
    · have etv : oI ((if hs.count i = 2 * r then some ((TB.P0.run hs).cur i) else none).map (outAt ch wk r e i)) = tv i := by
        show _ = oI (tellP r ch wk e hs i)
        unfold tellP
        by_cases c : hs.count i = 2 * r
        · rw [if_pos c, if_pos c]
          rfl
        · rw [if_neg c, if_neg c]
          rfl
      rw [etv]
      refine ⟨_, s5 _ _ h4, ?_, same_upd (s4.trans s5) hL, ?_⟩
      · obtain rfl | rfl : i = 0 ∨ i = 1 := by omega
        · exact (by show 0 < sizeLine; decide)
        · exact (by show 1 < sizeLine; decide)
      · rw [upd_same]
        obtain rfl | rfl : i = 0 ∨ i = 1 := by omega
        · rfl
        · rfl
  · rintro H4 ⟨s4, h4⟩
    refine ⟨L, _, rfl, .inl ⟨SqL.of h4, fun u hu' => ?_⟩⟩
    exact q u _ ((s13.trans s4).trans (same_new hu' _)) upd_same
end
end TA

set_option Elab.async false
set_option maxRecDepth 100000
set_option maxHeartbeats 4000000
namespace TA
open PySem L2 PyProof.Rows
set_option linter.unusedVariables false
/-- both outputs of a step of a walk, hand 0's first -/
def stp (w : List Int) (i : Nat) : Int × Int := if i % 2 = 0 then (w.getD i 0, w.getD (i + 1) 0) else (w.getD (i + 1) 0, w.getD i 0)
theorem let_ks {H : Hp} : ∀ {xs : List V} {l : List (Int × Int)}, A2 (TpAt H) xs l → ∃ ks : List (Addr × List Int), xs = ks.map (fun p => V.ref p.1) ∧ ks.map (·.2) = l.map (fun p => [p.1, p.2]) ∧ ∀ p ∈ ks, H p.1 = some (.tup (p.2.map V.int))
  | _, _, .nil => ⟨[], rfl, rfl, fun p hp => nomatch hp⟩
  | _, _, .cons (y := y) a b => by
    obtain ⟨ks, h1, h2, h3⟩ := let_ks b
    obtain ⟨t, rfl, ht⟩ := a
    refine ⟨(t, [y.1, y.2]) :: ks, by rw [h1]; rfl, by rw [List.map_cons, List.map_cons, h2], fun p hp => ?_⟩
    rcases List.mem_cons.mp hp with rfl | hp
    · exact ht
    · exact h3 p hp
theorem mem_two {l : List (Int × Int)} {p : Int × Int} : [p.1, p.2] ∈ l.map (fun q => [q.1, q.2]) ↔ p ∈ l := by
  constructor
  · intro h
    obtain ⟨q, hq, e⟩ := List.mem_map.mp h
    injection e with e1 e2
    injection e2 with e2 _
    have : q = p := Prod.ext e1 e2
    exact this ▸ hq
  · exact fun h => List.mem_map.mpr ⟨p, h, rfl⟩
theorem atI_last {xs : List V} {v : V} (h : xs[xs.length - 1]? = some v) : atI xs (-1) = some v := by
  have hl : 0 < xs.length := by have := (List.getElem?_eq_some_iff.mp h).1; omega
  unfold atI ixN
  rw [if_neg (by decide), if_pos (by omega)]
  show xs[((-1 : Int) + (xs.length : Int)).toNat]? = _
  rw [show ((-1 : Int) + (xs.length : Int)).toNat = xs.length - 1 by omega]
  exact h
/-- both ends of a walk are what alone has -/
def endsP (ch : Nat → List Int) (e : EB) (w : List Int) (n : Nat) : Prop := w.getD 0 0 = chO ch 0 e.1 ∧ w.getD n 0 = chO ch 1 e.1
def StepRes (ch : Nat → List Int) (e : EB) (w : List Int) (n : Nat) (tt : Addr) (fv : V) (H' : Hp) : Prop := (fv = .non ∧ endsP ch e w n ∧ ∀ i, i < n → stp w i ∈ e.2) ∨ (∃ u, fv = .ref u ∧ H' u = some (.tup [.str "ends", .ref tt]) ∧ ¬ endsP ch e w n) ∨
  ∃ u i, fv = .ref u ∧ H' u = some (.tup [.str "step", .ref tt, .int ((i : Nat) : Int)]) ∧ endsP ch e w n ∧ i < n ∧ ¬ stp w i ∈ e.2 ∧ ∀ j, j < i → stp w j ∈ e.2
def spOutsAt (K : PySem.W.Frag) : Sp := fun vs H Q _ => ∃ (rw : Addr) (w : List Int) (i : Nat), vs = [.ref rw, .int (i : Int)] ∧ H rw = some (.lst (w.map .int)) ∧ i + 1 < w.length ∧ ∀ u, H u = none → Q (.ref u) (upd H u (.tup [.int (stp w i).1, .int (stp w i).2]))
def spWalkF (K : PySem.W.Frag) (C : Addr) : Sp := fun vs H Q _ => ∃ (p tt rw : Addr) (v : V) (T : TD) (ch : Nat → List Int) (e : EB) (w : List Int) (n : Nat), vs = [.ref p, v, .ref tt, .ref rw] ∧ WF T ∧ TaskR C H p T ∧ RowsAt H v [ch 0, ch 1] ∧ (∀ h, h < 2 → (ch h).length = (T.al h).length) ∧ e ∈ T.bo ∧ TpAt H (.ref tt) (iI e.1) ∧
  H rw = some (.lst (w.map .int)) ∧ w.length = n + 1 ∧ n ≤ 900 ∧ ∀ fv H', Same H H' → StepRes ch e w n tt fv H' → Q fv H'
/-- a walk without fault -/
def walkP (r : Nat) (ch : Nat → List Int) (wk : EB → List Int) (e : EB) : Prop := endsP ch e (wk e) (3 ^ r) ∧ ∀ i, i < 3 ^ r → stp (wk e) i ∈ e.2
/-- the first fault of a protocol of the right form, as data -/
def FRes (T : TD) (r : Nat) (ch : Nat → List Int) (wk : EB → List Int) (fv : V) (H' : Hp) : Prop := (fv = .non ∧ (∀ h a, h < 2 → a < (T.al h).length → okA T ch h a) ∧ ∀ e ∈ T.bo, walkP r ch wk e) ∨
  (∃ u h a, fv = .ref u ∧ H' u = some (.tup [.str "alone", .int ((h : Nat) : Int), .int ((a : Nat) : Int)]) ∧ h < 2 ∧ a < (T.al h).length ∧ ¬ okA T ch h a ∧ ∀ h' a', h' < 2 → a' < (T.al h').length → (h' < h ∨ (h' = h ∧ a' < a)) → okA T ch h' a') ∨
  (∃ u e tt k, fv = .ref u ∧ H' u = some (.tup [.str "ends", .ref tt]) ∧ TpAt H' (.ref tt) (iI e.1) ∧ (∀ h a, h < 2 → a < (T.al h).length → okA T ch h a) ∧ (sb T)[k]? = some e ∧ (∀ e' ∈ (sb T).take k, walkP r ch wk e') ∧ ¬ endsP ch e (wk e) (3 ^ r)) ∨
  ∃ u e tt k i, fv = .ref u ∧ H' u = some (.tup [.str "step", .ref tt, .int ((i : Nat) : Int)]) ∧ TpAt H' (.ref tt) (iI e.1) ∧ (∀ h a, h < 2 → a < (T.al h).length → okA T ch h a) ∧ (sb T)[k]? = some e ∧ (∀ e' ∈ (sb T).take k, walkP r ch wk e') ∧ endsP ch e (wk e) (3 ^ r) ∧ i < 3 ^ r ∧ ¬ stp (wk e) i ∈ e.2 ∧ ∀ j, j < i → stp (wk e) j ∈ e.2
def spPrFG (K : PySem.W.Frag) (C : Addr) : Sp := fun vs H Q _ => ∃ (p t : Addr) (T : TD) (r : Nat) (ch : Nat → List Int) (wk : EB → List Int) (al wd : Addr) (kvs : List (List Key × V)), vs = [.ref p, .ref t] ∧ WF T ∧ TaskAt C H p T ∧ PrF C H p t T r ch wk al wd kvs ∧ ∀ fv H', Same H H' → FRes T r ch wk fv H' → Q fv H'
/-- what is told, as data -/
inductive FD (T : TD) (r : Nat) (ch : Nat → List Int) (wk : EB → List Int) : PyData → Prop
  | non : (∀ h a, h < 2 → a < (T.al h).length → okA T ch h a) → (∀ e ∈ T.bo, walkP r ch wk e) → FD T r ch wk .none
  | alone {h a : Nat} : h < 2 → a < (T.al h).length → ¬ okA T ch h a → (∀ h' a', h' < 2 → a' < (T.al h').length → (h' < h ∨ (h' = h ∧ a' < a)) → okA T ch h' a') → FD T r ch wk (.tuple [.str "alone", .int (h : Int), .int (a : Int)])
  | ends {e : EB} {k : Nat} : (∀ h a, h < 2 → a < (T.al h).length → okA T ch h a) → (sb T)[k]? = some e → (∀ e' ∈ (sb T).take k, walkP r ch wk e') → ¬ endsP ch e (wk e) (3 ^ r) → FD T r ch wk (.tuple [.str "ends", .tuple [.int (iI e.1).1, .int (iI e.1).2]])
  | step {e : EB} {k i : Nat} : (∀ h a, h < 2 → a < (T.al h).length → okA T ch h a) → (sb T)[k]? = some e → (∀ e' ∈ (sb T).take k, walkP r ch wk e') → endsP ch e (wk e) (3 ^ r) → i < 3 ^ r → ¬ stp (wk e) i ∈ e.2 → (∀ j, j < i → stp (wk e) j ∈ e.2) → FD T r ch wk (.tuple [.str "step", .tuple [.int (iI e.1).1, .int (iI e.1).2], .int (i : Int)])
theorem fres_fd {K : PySem.W.Frag} {T : TD} {r : Nat} {ch : Nat → List Int} {wk : EB → List Int} {fv : V} {H : Hp} (h : FRes T r ch wk fv H) : ∃ d, FD T r ch wk d ∧ Dp K H fv d := by
  rcases h with ⟨rfl, a, b⟩ | ⟨u, h, a, rfl, e, h1, h2, h3, h4⟩ | ⟨u, e, tt, k, rfl, eu, ht, h1, h2, h3, h4⟩ | ⟨u, e, tt, k, i, rfl, eu, ht, h1, h2, h3, h4, h5, h6, h7⟩
  · exact ⟨_, .non a b, .non⟩
  · exact ⟨_, .alone h1 h2 h3 h4, .tup (SqT.of e) (.cons (.str _) (.cons (.int _) (.cons (.int _) .nil)))⟩
  · obtain ⟨t2, e2, ht⟩ := ht
    cases e2
    exact ⟨_, .ends h1 h2 h3 h4, .tup (SqT.of eu) (.cons (.str _) (.cons (.tup (SqT.of ht) (.cons (.int _) (.cons (.int _) .nil))) .nil))⟩
  · obtain ⟨t2, e2, ht⟩ := ht
    cases e2
    exact ⟨_, .step h1 h2 h3 h4 h5 h6 h7, .tup (SqT.of eu) (.cons (.str _) (.cons (.tup (SqT.of ht) (.cons (.int _) (.cons (.int _) .nil))) (.cons (.int _) .nil)))⟩
theorem first_one {α : Type} {l : List α} {k k' : Nat} {e e' : α} {P : α → Prop} (h : l[k]? = some e) (a : ∀ x ∈ l.take k, P x) (b : ¬ P e) (h' : l[k']? = some e') (a' : ∀ x ∈ l.take k', P x) (b' : ¬ P e') : e = e' := by
  have mem : ∀ {i j : Nat} {x : α}, l[i]? = some x → i < j → x ∈ l.take j := fun {i j x} hx hl => by
    refine List.mem_of_getElem? (i := i) ?_
    rw [List.getElem?_take, if_pos hl]
    exact hx
  rcases Nat.lt_trichotomy k k' with c | c | c
  · exact absurd (a' e (mem h c)) b
  · subst c
    rw [h] at h'
    exact Option.some.inj h'
  · exact absurd (a e' (mem h' c)) b'
theorem fd_one {T : TD} {r : Nat} {ch : Nat → List Int} {wk : EB → List Int} {d d' : PyData} (x : FD T r ch wk d) (y : FD T r ch wk d') : d = d' := by
  have inb : ∀ {k : Nat} {e : EB}, (sb T)[k]? = some e → e ∈ T.bo := fun h => sb_mem.mp (List.mem_of_getElem? h)
  cases x with
  | non a b =>
    cases y with
    | non => rfl
    | alone h1 h2 h3 h4 => exact absurd (a _ _ h1 h2) h3
    | ends h1 h2 h3 h4 => exact absurd (b _ (inb h2)).1 h4
    | step h1 h2 h3 h4 h5 h6 h7 => exact absurd ((b _ (inb h2)).2 _ h5) h6
  | @alone h a g1 g2 g3 g4 =>
    cases y with
    | non a' b => exact absurd (a' _ _ g1 g2) g3
    | @alone h' a' h1 h2 h3 h4 =>
      rcases Nat.lt_trichotomy h h' with c | c | c
      · exact absurd (h4 _ _ g1 g2 (.inl c)) g3
      · subst c
        rcases Nat.lt_trichotomy a a' with c | c | c
        · exact absurd (h4 _ _ g1 g2 (.inr ⟨rfl, c⟩)) g3
        · subst c; rfl
        · exact absurd (g4 _ _ h1 h2 (.inr ⟨rfl, c⟩)) h3
      · exact absurd (g4 _ _ h1 h2 (.inl c)) h3
    | ends h1 h2 h3 h4 => exact absurd (h1 _ _ g1 g2) g3
    | step h1 h2 h3 h4 h5 h6 h7 => exact absurd (h1 _ _ g1 g2) g3
  | ends g1 g2 g3 g4 =>
    cases y with
    | non a b => exact absurd (b _ (inb g2)).1 g4
    | alone h1 h2 h3 h4 => exact absurd (g1 _ _ h1 h2) h3
    | ends h1 h2 h3 h4 =>
      have e := first_one (P := walkP r ch wk) g2 g3 (fun z => g4 z.1) h2 h3 (fun z => h4 z.1)
      subst e
      rfl
    | step h1 h2 h3 h4 h5 h6 h7 =>
      have e := first_one (P := walkP r ch wk) g2 g3 (fun z => g4 z.1) h2 h3 (fun z => h6 (z.2 _ h5))
      subst e
      exact absurd h4 g4
  | @step e0 k i g1 g2 g3 g4 g5 g6 g7 =>
    cases y with
    | non a b => exact absurd ((b _ (inb g2)).2 _ g5) g6
    | alone h1 h2 h3 h4 => exact absurd (g1 _ _ h1 h2) h3
    | ends h1 h2 h3 h4 =>
      have e := first_one (P := walkP r ch wk) g2 g3 (fun z => g6 (z.2 _ g5)) h2 h3 (fun z => h4 z.1)
      subst e
      exact absurd g4 h4
    | @step e1 k' i' h1 h2 h3 h4 h5 h6 h7 =>
      have e := first_one (P := walkP r ch wk) g2 g3 (fun z => g6 (z.2 _ g5)) h2 h3 (fun z => h6 (z.2 _ h5))
      subst e
      rcases Nat.lt_trichotomy i i' with c | c | c
      · exact absurd (h7 _ c) g6
      · subst c; rfl
      · exact absurd (g7 _ c) h6
section
variable {P : Program} {w : World} {K : PySem.W.Frag} {mg : Str → Option Value} {base : Heap}
abbrev nOA : List Str := ["row", "at"]
theorem sc_oa : FnScope nOA nOA (defScope s_outputs_at) := ⟨rfl, rfl, rfl, by decide +kernel, rfl, by decide +kernel, by decide +kernel⟩
theorem ok_oa {f : Addr} {fd : FuncData} (F : Fun K "outputs_at" "outputs_at" s_outputs_at f fd) : FnOk P w K mg base CX0 1 f fd nOA (spOutsAt K) := by
  refine F.ok sc_oa (fun vs H Q E h => ?_) (fun cdv A outer s H vs Q E hr h => ?_)
  · obtain ⟨rw_, w, i, rfl, _⟩ := h
    rfl
  obtain ⟨rw_, w, i, rfl, hrw, hi, q⟩ := h
  have nd := sc_oa.nd
  refine ⟨_, (pss_one (ps_ret (pe_ifExp (pt_cmpR op_eq (pe_op op_mod (pv 1) pe_int) pe_int (nomark _)) (pe_tup (pa_cons (pe_ix ix_list (pv 0) (pv 1) (fun _ _ => rfl)) (pa_cons (pe_ix ix_list (pv 0) (pe_op op_add (pv 1) pe_int) (fun _ _ => rfl)) pa_nil))) (pe_tup (pa_cons (pe_ix ix_list (pv 0) (pe_op op_add (pv 1) pe_int) (fun _ _ => rfl)) (pa_cons (pe_ix ix_list (pv 0) (pv 1) (fun _ _ => rfl)) pa_nil)))))), ?_⟩
  have g : ∀ j, j < w.length → (w.map V.int)[j]? = some (.int (w.getD j 0)) := fun j hj => by
    rw [List.getElem?_map, List.getD_eq_getElem?_getD, List.getElem?_eq_getElem hj]
    rfl
  have g0 := g i (by omega)
  have g1 := g (i + 1) hi
  have e1 : (i : Int) + 1 = ((i + 1 : Nat) : Int) := rfl
  refine ⟨_, rfl, _, _, rfl, rfl, (by show (0 : Int) < 2; decide), rfl, _, rfl, ?_⟩
  by_cases c : i % 2 = 0
  · refine iteT' (decide_eq_true (congrArg V.int (show (i : Int) % 2 = 0 by omega))) ?_
    have es : stp w i = (w.getD i 0, w.getD (i + 1) 0) := if_pos c
    rw [es] at q
    refine ⟨_, rfl, _, rfl, rw_, _, _, _, rfl, rfl, SqL.of hrw, atI_nat g0, _, rfl, _, rfl, _, _, rfl, rfl, rw_, _, _, _, rfl, rfl, SqL.of hrw, (by rw [e1]; exact atI_nat g1), (by show 2 ≤ sizeLine; decide), fun u hu' => q u hu'⟩
  · refine iteF' (decide_eq_false (fun z => c (by injection z with z; omega))) ?_
    have es : stp w i = (w.getD (i + 1) 0, w.getD i 0) := if_neg c
    rw [es] at q
    refine ⟨_, rfl, _, rfl, _, _, rfl, rfl, rw_, _, _, _, rfl, rfl, SqL.of hrw, (by rw [e1]; exact atI_nat g1), _, rfl, _, rfl, rw_, _, _, _, rfl, rfl, SqL.of hrw, atI_nat g0, (by show 2 ≤ sizeLine; decide), fun u hu' => q u hu'⟩
abbrev nWF : List Str := ["task", "alone", "pair", "row", "let", "at"]
theorem sc_wf : FnScope nWF ["task", "alone", "pair", "row"] (defScope s_walk_fault) := ⟨rfl, rfl, rfl, by decide +kernel, rfl, by decide +kernel, by decide +kernel⟩
theorem hu64_of {A : Around} {k : Nat} (hr : Room k A) : A.units + 64 < cLine := by have := hr.un; omega
theorem ok_wf {f g C : Addr} {fd gd : FuncData} (F : Fun K "walk_fault" "walk_fault" s_walk_fault f fd) (T : Txt K mg) (T2 : Txt2 K mg) (Z : TxtC K mg C) (OA : Def P w K mg base "outputs_at" nOA 1 (spOutsAt K) g gd) : FnOk P w K mg base CX0 2 f fd ["task", "alone", "pair", "row"] (spWalkF K C) := by
  refine F.ok sc_wf (fun vs H Q E h => ?_) (fun cdv A outer s H vs Q E hr h => ?_)
  · obtain ⟨p, tt, rw_, v, D, ch, e, wl, n, rfl, _⟩ := h
    rfl
  obtain ⟨p, tt, rw_, v, D, ch, e, wl, n, rfl, hW, hT, hR, hlen, he, htt, hrw, hwl, hn9, q⟩ := h
  have nd := sc_wf.nd
  have hu := hu_of hr
  have hu64 := hu64_of hr
  refine ⟨_, (pss_cons (ps_if (PW.pt (pw_or (pt_cmpR op_ne (pe_ix ix_list (pv 3) pe_int (fun _ _ => rfl)) (pe_ix ix_list (pe_ix ix_list (pv 1) pe_int (fun _ _ => rfl)) (pe_ix ix_tup (pv 2) pe_int (fun _ _ => rfl)) (fun _ _ => rfl)) (nomark _)) (pw_or1 (pt_cmpR op_ne (pe_ix ix_list (pv 3) (pe_un un_neg pe_int) (fun _ _ => rfl)) (pe_ix ix_list (pe_ix ix_list (pv 1) pe_int (fun _ _ => rfl)) (pe_ix ix_tup (pv 2) pe_int (fun _ _ => rfl)) (fun _ _ => rfl)) (nomark _)))))
      (pss_one (ps_ret (pe_tup (pa_cons pe_str (pa_cons (pv 2) pa_nil)))))
      pss_nil)
    (pss_cons (ps_set (i := 4) nd rfl (Or.inl rfl) (pe_callTy (cr_setOfT rfl hu64) (by rfl) T2.set (by decide +kernel) (pa_cons (pe_dget hu (pe_fld (pv 0) rfl) (pv 2) (fun _ _ => rfl)) pa_nil)))
    (pss_cons (ps_for PassesOwn.never (by rfl) (pi_range1 (by rfl) T.range (pa_cons (pe_op op_sub (pe_callB call_len_seq (by rfl) T.len PySem.boot_len (pa_cons (pv 3) pa_nil)) pe_int) pa_nil)) (pg_name (i := 5) nd rfl (Or.inl rfl))
      (pss_one (ps_if (pt_cmpR (op_notInSetT hu64) (pe_call OA.G (hr.mono (by decide)) rfl OA.m OA.k OA.b .nil pass0 (pa_cons (pv 3) (pa_cons (pv 5) pa_nil))) (pv 4) (by rfl))
      (pss_one (ps_ret (pe_tup (pa_cons pe_str (pa_cons (pv 2) (pa_cons (pv 5) pa_nil))))))
      pss_nil)))
    (pss_one (ps_ret pe_non))))), ?_⟩
  obtain ⟨ta, xs, rfl, hta, ar⟩ := hR
  obtain ⟨tq, etq, htt'⟩ := id htt
  obtain rfl : tt = tq := by injection etq
  obtain ⟨rg0, rg1⟩ := hW.rng e he
  have rowAt : ∀ h, h < 2 → ∃ rr, xs[h]? = some (.ref rr) ∧ H rr = some (.lst ((ch h).map .int)) ∧ ((ch h).map V.int)[sel h e.1]? = some (.int (chO ch h e.1)) := fun h hh => by
    obtain ⟨x, hx, rr, rfl, hrow⟩ := ar.at (i := h) (y := ch h) (by
      obtain rfl | rfl : h = 0 ∨ h = 1 := by omega
      · rfl
      · rfl)
    refine ⟨rr, hx, hrow, ?_⟩
    have hsl : sel h e.1 < (ch h).length := by
      rw [hlen h hh]
      obtain rfl | rfl : h = 0 ∨ h = 1 := by omega
      · exact rg0
      · exact rg1
    unfold chO
    rw [List.getElem?_map, List.getD_eq_getElem?_getD, List.getElem?_eq_getElem hsl]
    rfl
  obtain ⟨r0, a0, b0, c0⟩ := rowAt 0 (by decide)
  obtain ⟨r1, a1, b1, c1⟩ := rowAt 1 (by decide)
  have g : ∀ j, j < wl.length → (wl.map V.int)[j]? = some (.int (wl.getD j 0)) := fun j hj => by
    rw [List.getElem?_map, List.getD_eq_getElem?_getD, List.getElem?_eq_getElem hj]
    rfl
  have g0 := g 0 (by omega)
  have g1 : (wl.map V.int)[(wl.map V.int).length - 1]? = some (.int (wl.getD n 0)) := by
    rw [List.length_map, hwl]
    exact g n (by omega)
  have ends : ∀ (H2 : Hp), Same H H2 → ¬ endsP ch e wl n → ∀ u, H2 u = none → Q (.ref u) (upd H2 u (.tup [.str "ends", .ref tt])) := fun H2 s hno u hu => q _ _ (s.trans (same_new hu _)) (.inr (.inl ⟨u, rfl, upd_same, hno⟩))
  refine ⟨_, rfl, rw_, _, _, _, rfl, rfl, SqL.of hrw, atI_nat (j := 0) g0, _, rfl, ta, _, _, _, rfl, rfl, SqL.of hta, atI_nat (j := 0) a0, _, rfl, tt, _, _, _, rfl, rfl, SqT.of htt', (by rfl), r0, _, _, _, rfl, rfl, SqL.of b0, atI_nat c0, rfl, _, rfl, ?_⟩
  by_cases hw0 : wl.getD 0 0 = chO ch 0 e.1
  case neg =>
    refine iteT' (by rw [decide_eq_false (fun z => hw0 (by injection z))]; rfl) (iteT ⟨_, rfl, (by show 2 ≤ sizeLine; decide), fun u hu2 => ?_⟩)
    exact ends H (Same.refl H) (fun z => hw0 z.1) u hu2
  refine iteF' (by rw [hw0]; simp) ?_
  refine ⟨_, rfl, _, rfl, rw_, _, _, _, rfl, rfl, SqL.of hrw, atI_last g1, _, rfl, ta, _, _, _, rfl, rfl, SqL.of hta, atI_nat (j := 1) a1, _, rfl, tt, _, _, _, rfl, rfl, SqT.of htt', (by rfl), r1, _, _, _, rfl, rfl, SqL.of b1, atI_nat c1, rfl, _, rfl, ?_⟩
  by_cases hw1 : wl.getD n 0 = chO ch 1 e.1
  case neg =>
    refine iteT' (by rw [decide_eq_false (fun z => hw1 (by injection z))]; rfl) ⟨_, rfl, (by show 2 ≤ sizeLine; decide), fun u hu2 => ?_⟩
    exact ends H (Same.refl H) (fun z => hw1 z.2) u hu2
  refine iteF' (by rw [hw1]; simp) ?_
  have hends : endsP ch e wl n := ⟨hw0, hw1⟩
  obtain ⟨dx, aa, d, hp, hA, kvs, hd, ha⟩ := hT
  obtain ⟨lv, hlv, hlet⟩ := val_at ha hW.srt e he
  obtain ⟨lt, lxs, rfl, hlt, hlx⟩ := hlet
  obtain ⟨ks, hk1, hk2, hk3⟩ := let_ks hlx
  have okl := hW.lets e he
  have kl : ks.length = e.2.length := by
    have := congrArg List.length hk2
    rw [List.length_map, List.length_map] at this
    exact this
  refine ⟨_, rfl, p, C, dx, _, _, rfl, hp, Z.cl, Z.nB, flds_both _ _, _, rfl, d, _, rfl, hlv ▸ dget_rd (k := kI e.1) hd htt', lt, ks, rfl, (by rw [← hk1]; exact SqL.of hlt), (fun z hz => SqT.of (hk3 z hz)), (by rw [kl]; have := okl.2.1; omega), fun S Ls hS hsub hall => ?_⟩
  have s1 := same_new hS (SetTO P w S Ls)
  have hSS : (upd H S (SetTO P w S Ls)) S = some (SetTO P w S Ls) := upd_same
  have memL : ∀ z : Int × Int, [z.1, z.2] ∈ Ls.map (·.2) ↔ z ∈ e.2 := fun z => by
    rw [← mem_two, ← hk2]
    constructor
    · intro h
      obtain ⟨q', hq', eq'⟩ := List.mem_map.mp h
      exact List.mem_map.mpr ⟨q', hsub q' hq', eq'⟩
    · intro h
      obtain ⟨q', hq', eq'⟩ := List.mem_map.mp h
      rw [← eq']
      exact hall q' hq'
  refine ⟨_, rfl, rw_, _, rfl, .inl (SqL.of (s1 _ _ hrw)), _, _, rfl, rfl, ?_⟩
  rw [List.length_map, hwl]
  refine ⟨(n : Int), congrArg (fun z => [V.int z]) (by omega), by omega, by omega, for_range (n := n) (fun i σ H' => ∃ g5, σ = [some (.ref p), some (.ref ta), some (.ref tt), some (.ref rw_), some (.ref S), g5] ∧ Same (upd H S (SetTO P w S Ls)) H' ∧ ∀ j, j < i → stp wl j ∈ e.2) ⟨_, rfl, Same.refl _, fun j hj => absurd hj (Nat.not_lt_zero _)⟩ ?_ ?_⟩
  · rintro i σ H' hi ⟨g5, rfl, s2, hok⟩
    have ej : (0 : Int) + (i : Int) = (i : Int) := by omega
    rw [ej]
    have s12 := s1.trans s2
    refine ⟨_, rfl, _, rfl, rw_, wl, i, rfl, s12 _ _ hrw, by omega, fun u hu' => ?_⟩
    have s3 := same_new hu' (.tup [V.int (stp wl i).1, V.int (stp wl i).2])
    have s13 := s12.trans s3
    refine ⟨_, rfl, u, S, [(stp wl i).1, (stp wl i).2], Ls, rfl, rfl, SqT.of upd_same, s3 _ _ (s2 _ _ hSS), (fun z hz => SqT.of (s13 _ _ (hk3 z (hsub z hz)))), _, rfl, ?_⟩
    by_cases c : stp wl i ∈ e.2
    · refine iteF' (by
        rw [if_pos rfl, decide_eq_true ((memL _).mpr c)]
        rfl) ⟨_, rfl, s2.trans s3, fun j hj => ?_⟩
      rcases Nat.lt_succ_iff_lt_or_eq.mp hj with h | rfl
      · exact hok j h
      · exact c
    · refine iteT' (by
        rw [if_pos rfl, decide_eq_false (fun z => c ((memL _).mp z))]
        rfl) ⟨_, rfl, _, rfl, (by show 3 ≤ sizeLine; decide), fun u2 hu2 => ?_⟩
      exact q _ _ (s13.trans (same_new hu2 _)) (.inr (.inr ⟨u2, i, rfl, upd_same, hends, hi, c, hok⟩))
  · rintro σ H' ⟨g5, rfl, s2, hok⟩
    exact q _ _ (s1.trans s2) (.inl ⟨rfl, hends, hok⟩)
abbrev nPF : List Str := ["task", "thing", "fault", "pair"]
theorem sc_pf : FnScope nPF ["task", "thing"] (defScope s_protocol_fault) := ⟨rfl, rfl, rfl, by decide +kernel, rfl, by decide +kernel, by decide +kernel⟩
theorem ok_pf {f g1 g2 g3 g4 C : Addr} {fd d1 d2 d3 d4 : FuncData} (F : Fun K "protocol_fault" "protocol_fault" s_protocol_fault f fd) (Z : TxtC K mg C) (WPr : Def P w K mg base "is_protocol" ["task", "thing"] 6 (spIsPr K C) g1 d1) (AF : Def P w K mg base "alone_fault" ["task", "alone"] 5 (spAloneF K C) g2 d2)
    (WF_ : Def P w K mg base "walk_fault" ["task", "alone", "pair", "row"] 2 (spWalkF K C) g3 d3) (Prs : MDef P w K mg base C "pairs" nPairs 1 (spPairs K C) g4 d4) : FnOk P w K mg base CX0 7 f fd ["task", "thing"] (spPrFG K C) := by
  refine F.ok sc_pf (fun vs H Q E h => ?_) (fun cdv A outer s H vs Q E hr h => ?_)
  · obtain ⟨p, t, D, r, ch, wk, al, wd, kvs, rfl, _⟩ := h
    rfl
  have nd := sc_pf.nd
  have hu := hu_of hr
  refine ⟨_, (pss_cons (ps_if (pt_not (pt_val (pe_call WPr.G (hr.mono (by decide)) rfl WPr.m WPr.k WPr.b .nil pass0 (pa_cons (pv 0) (pa_cons (pv 1) pa_nil)))))
      (pss_one (ps_ret (pe_tup (pa_cons pe_str pa_nil))))
      pss_nil)
    (pss_cons (ps_set (i := 2) nd rfl (Or.inl rfl) (pe_call AF.G (hr.mono (by decide)) rfl AF.m AF.k AF.b .nil pass0 (pa_cons (pv 0) (pa_cons (pe_ix ix_tup (pv 1) pe_int (fun _ _ => rfl)) pa_nil))))
    (pss_cons (ps_if (pt_cmpR op_notN (pv 2) pe_non (nomark _))
      (pss_one (ps_ret (pv 2)))
      pss_nil)
    (pss_cons (ps_for PassesOwn.never (by rfl) (pi_list (pe_meth0 (pv 0) Z.cl Prs.M Prs.G (hr.mono (by decide)) Prs.b .nil pass0)) (pg_name (i := 3) nd rfl (Or.inl rfl))
      (pss_cons (ps_set (i := 2) nd rfl (Or.inl rfl) (pe_call WF_.G (hr.mono (by decide)) rfl WF_.m WF_.k WF_.b .nil pass0 (pa_cons (pv 0) (pa_cons (pe_ix ix_tup (pv 1) pe_int (fun _ _ => rfl)) (pa_cons (pv 3) (pa_cons (pe_dget hu (pe_ix ix_tup (pv 1) pe_int (fun _ _ => rfl)) (pv 3) (fun _ _ => rfl)) pa_nil))))))
    (pss_one (ps_if (pt_cmpR op_notN (pv 2) pe_non (nomark _))
      (pss_one (ps_ret (pv 2)))
      pss_nil))))
    (pss_one (ps_ret pe_non)))))), ?_⟩
  obtain ⟨p, t, D, r, ch, wk, al, wd, kvs, rfl, hW, hTk, B, q⟩ := h
  refine ⟨_, rfl, _, rfl, p, t, D, r, ch, wk, al, wd, kvs, rfl, hW, B, fun H1 s1 => ⟨true, rfl, iteF ?_⟩⟩
  have B1 := B.mono s1
  refine ⟨_, rfl, _, rfl, t, _, _, _, rfl, rfl, SqT.of B1.ht, (by rfl), p, _, D, ch, rfl, hTk.mono s1, hW, B1.hal, B.len, fun fv H2 s2 hres => ?_⟩
  have s12 := s1.trans s2
  rcases hres with ⟨rfl, hA⟩ | ⟨u, h, a, rfl, hu2, hh, ha, hno, hfst⟩
  case inr => exact ⟨_, rfl, rfl, _, rfl, iteT ⟨_, rfl, q _ _ s12 (.inr (.inl ⟨u, h, a, rfl, hu2, hh, ha, hno, hfst⟩))⟩⟩
  refine ⟨_, rfl, rfl, _, rfl, iteF ?_⟩
  have hT2 := hTk.mono s12
  obtain ⟨dx, aa, d, hp, hA', kvb, hd, hb⟩ := id hT2
  refine ⟨_, rfl, p, dx, _, rfl, hp, flds_no _ _ (by decide +kernel) (by decide +kernel), p, D, rfl, hT2, hW, fun rr xs hr0 hx => ?_⟩
  have s3 := same_new hr0 (.lst xs)
  have hr1 : (upd H2 rr (.lst xs)) rr = some (.lst xs) := upd_same
  refine ⟨rr, rfl, ⟨_, SqL.of hr1⟩, for_list (xs := xs) (fun i σ H' => ∃ g2 g3, σ = [some (.ref p), some (.ref t), g2, g3] ∧ Same (upd H2 rr (.lst xs)) H' ∧ ∀ e ∈ (sb D).take i, walkP r ch wk e) ⟨_, _, rfl, Same.refl _, fun e he => by cases he⟩ (fun i σ H' _ ⟨_, _, _, s, _⟩ => s.seq (SqL.of hr1)) ?_ ?_⟩
  · rintro i x σ H' hxi ⟨g2, g3, rfl, s4, hok⟩
    have s14 := (s12.trans s3).trans s4
    have B4 := B.mono s14
    obtain ⟨y, hy, tt, rfl, htt⟩ := (hx.imp fun _ _ r => r.mono (.same (s3.trans s4))).get hxi
    rw [List.getElem?_map] at hy
    obtain ⟨e, hbe, rfl⟩ := Option.map_eq_some_iff.mp hy
    have hem := sb_mem.mp (List.mem_of_getElem? hbe)
    obtain ⟨v2, hv2, rw2, rfl, hrow⟩ := wkp_at B4.hwk hW.srt e hem
    refine ⟨_, rfl, _, rfl, t, _, _, _, rfl, rfl, SqT.of B4.ht, (by rfl), _, rfl, _, rfl, t, _, _, _, rfl, rfl, SqT.of B4.ht, (by rfl), _, rfl, wd, _, rfl, hv2 ▸ DGet.t (k := kI e.1) B4.hwd htt, ?_⟩
    have hp9 := pow_le B.rr
    refine ⟨p, tt, rw2, _, D, ch, e, wk e, 3 ^ r, rfl, hW, (hTk.mono s14).r, B4.hal, B.len, hem, ⟨tt, rfl, htt⟩, hrow, B.wlen e hem, by omega, fun fv H5 s5 hres => ?_⟩
    rcases hres with ⟨rfl, hs⟩ | ⟨u, rfl, hu2, hno⟩ | ⟨u, i2, rfl, hu2, hen, hi2, hno, hfst⟩
    case inr.inl => exact ⟨_, rfl, rfl, _, rfl, iteT ⟨_, rfl, q _ _ (s14.trans s5) (.inr (.inr (.inl ⟨u, e, tt, i, rfl, hu2, ⟨tt, rfl, s5 _ _ htt⟩, hA, hbe, hok, hno⟩)))⟩⟩
    case inr.inr => exact ⟨_, rfl, rfl, _, rfl, iteT ⟨_, rfl, q _ _ (s14.trans s5) (.inr (.inr (.inr ⟨u, e, tt, i, i2, rfl, hu2, ⟨tt, rfl, s5 _ _ htt⟩, hA, hbe, hok, hen, hi2, hno, hfst⟩)))⟩⟩
    refine ⟨_, rfl, rfl, _, rfl, iteF ⟨_, _, rfl, s4.trans s5, fun e' he' => ?_⟩⟩
    rw [take_get hbe] at he'
    rcases List.mem_append.mp he' with h' | h'
    · exact hok e' h'
    · obtain rfl := List.mem_singleton.mp h'
      exact hs
  · rintro σ H' ⟨g2, g3, rfl, s4, hok⟩
    refine q _ _ ((s12.trans s3).trans s4) (.inl ⟨rfl, hA, fun e he => hok e ?_⟩)
    rw [hx.len, List.length_map, List.take_length]
    exact sb_mem.mpr he
end
end TA

set_option Elab.async false
set_option maxRecDepth 100000
set_option maxHeartbeats 4000000
namespace TA
open PySem L2 PyProof.Rows
set_option linter.unusedVariables false
def WellAt (H : Hp) (a : Addr) (n : Int) : Prop := ∃ x y z : Int, H a = some (.lst [.int x, .int y, .int z]) ∧ 0 ≤ x ∧ 0 ≤ y ∧ y < 2147483647 ∧ 0 ≤ z ∧ z ≤ n
theorem WellAt.same {H H' : Hp} {a : Addr} {n : Int} (s : Same H H') (w : WellAt H a n) : WellAt H' a n := by
  obtain ⟨x, y, z, h, r⟩ := w
  exact ⟨x, y, z, s _ _ h, r⟩
theorem join3 {b : Bool} {X : Prop} {R : L2.St → Hp → Prop} {σ : L2.St} {H : Hp} (Iv : L2.St → Hp → Prop) (h0 : b = false → Iv σ H) (k : ∀ σ Hc, Iv σ Hc → R σ Hc) (h1 : b = true → (∀ σ Hc, Iv σ Hc → R σ Hc) → X) : if b = true then X else R σ H := by
  cases b with
  | false => exact iteF (k σ H (h0 rfl))
  | true => exact iteT (h1 rfl k)
def spCell (K : PySem.W.Frag) : Sp := fun vs H Q _ => ∃ (a : Addr) (ns : List Int) (k : Int), vs = [.ref a, .int k] ∧ SqL K H a (ns.map V.int) ∧ ns.length ≤ 1000 ∧ 0 ≤ k ∧ ∀ c : Int, Q (.int c) H
def spDigit : Sp := fun vs H Q _ => ∃ (a : Addr) (n m : Int), vs = [.ref a, .int m] ∧ ((∃ x : Int, H a = some (.lst [.int x])) ∨ WellAt H a n) ∧ 0 ≤ n ∧ n < 999999 ∧ 0 < m ∧ m < 1000 ∧ ∀ (r : Int) (H' : Hp), 0 ≤ r → r < m → But a H H' → WellAt H' a (n + 1) → Q (.int r) H'
theorem WellAt.but {H H' : Hp} {a d : Addr} {n : Int} (w : WellAt H a n) (ne : a ≠ d) (s : But d H H') : WellAt H' a n := by
  obtain ⟨x, y, z, h, r⟩ := w
  exact ⟨x, y, z, s _ _ ne h, r⟩
theorem WellAt.up {H : Hp} {a : Addr} {n m : Int} (w : WellAt H a n) (h : n ≤ m) : WellAt H a m := by
  obtain ⟨x, y, z, h0, a1, a2, a3, a4, a5⟩ := w
  exact ⟨x, y, z, h0, a1, a2, a3, a4, by omega⟩
theorem WellAt.ne {H : Hp} {a b : Addr} {n : Int} (w : WellAt H a n) (h : H b = none) : a ≠ b := by
  obtain ⟨x, y, z, h0, _⟩ := w
  exact ne_of_none h0 h
/-- a well that is drawn from, or not yet -/
def Dr (H : Hp) (a : Addr) (n : Int) : Prop := (∃ x : Int, H a = some (.lst [.int x])) ∨ WellAt H a n

section
variable {P : Program} {w : World} {K : PySem.W.Frag} {mg : Str → Option Value} {base : Heap}
theorem scCell : FnScope ["_law_script", "_law_k"] ["_law_script", "_law_k"] (defScope sCell) := ⟨rfl, rfl, rfl, by decide +kernel, rfl, by decide +kernel, by decide +kernel⟩
theorem ok_cell {f : Addr} {fd : FuncData} (F : Fun K "_law_cell_at" "_law_cell_at" sCell f fd) (T : Txt K mg) : FnOk P w K mg base CX0 1 f fd ["_law_script", "_law_k"] (spCell K) := by
  refine F.ok scCell (fun vs H Q E h => ?_) (fun cdv A outer s H vs Q E hr h => ?_)
  · obtain ⟨a, ns, k, rfl, _⟩ := h
    rfl
  obtain ⟨a, ns, k, rfl, hS, hn, hk, q⟩ := h
  refine ⟨_, pss_cons (ps_if (pt_cmpR op_lt (pv 1) (pe_callB call_len_seq (by rfl) T.len PySem.boot_len (pa_cons (pv 0) pa_nil)) (nomark _)) (pss_one (ps_ret (pe_ix ix_list (pv 0) (pv 1) (fun _ _ => rfl)))) pss_nil)
    (pss_one (ps_ret pe_int)), ?_⟩
  refine ⟨_, rfl, _, rfl, a, _, rfl, .inl hS, _, _, rfl, rfl, _, rfl, ?_⟩
  refine ite2 (fun c => ?_) (fun c => ?_)
  · have c' : k < (((ns.map V.int).length : Nat) : Int) := of_decide_eq_true c
    rw [List.length_map] at c'
    have hk' : k.toNat < ns.length := by omega
    have ek : k = ((k.toNat : Nat) : Int) := by omega
    have g : atI (ns.map V.int) ((k.toNat : Nat) : Int) = some (.int ns[k.toNat]) := atI_nat (by rw [List.getElem?_map, List.getElem?_eq_getElem hk'] <;> rfl)
    rw [← ek] at g
    exact ⟨_, rfl, _, rfl, a, _, _, _, rfl, rfl, hS, g, q _⟩
  · exact q 0
theorem scDigit : FnScope ["_law_state", "_law_base", "_law_cell", "_law_found", "_law_mixed"] ["_law_state", "_law_base"] (defScope s__law_digit) := ⟨rfl, rfl, rfl, by decide +kernel, rfl, by decide +kernel, by decide +kernel⟩
theorem ok_digit {f : Addr} {fd : FuncData} (F : Fun K "_law_digit" "_law_digit" s__law_digit f fd) (T : Txt K mg) : FnOk P w K mg base CX0 1 f fd ["_law_state", "_law_base"] spDigit := by
  refine F.ok scDigit (fun vs H Q E h => ?_) (fun cdv A outer s H vs Q E hr h => ?_)
  · obtain ⟨a, n, m, rfl, _⟩ := h
    rfl
  obtain ⟨a, n, m, rfl, hst, hn0, hn, hm, hm2, q⟩ := h
  have nd := scDigit.nd
  have ix : ∀ {X : Cx} {e1 e2 : Expr} {t1 t2 : TE} {p : Pos}, PE X e1 t1 → PE X e2 t2 → PlainIx e2 → PE X (.Subscript e1 e2 p) (tOp (rIxL X.K) t1 t2) := fun h1 h2 h3 => pe_ix ix_list h1 h2 h3
  refine ⟨_, pss_cons (ps_if (pt_cmpR op_eq (pe_callB call_len_seq (by rfl) T.len PySem.boot_len (pa_cons (pv 0) pa_nil)) pe_int (nomark _))
      (pss_cons (ps_set (i := 2) nd rfl (Or.inl rfl) (pe_ix ix_list (pv 0) pe_int (fun _ _ => rfl)))
      (pss_cons (ps_asg (pe_ix ix_list (pe_lst (pa_cons pe_int (pa_cons (pv 2) pa_nil))) (pe_callTy call_int1 (by rfl) T.int boot_int (pa_cons (pe_cmpR op_ge (pv 2) (pe_op op_pow pe_int pe_int) (nomark _)) pa_nil)) (fun _ _ => rfl)) (pg_sub (pv 0) pe_int set_list))
      (pss_one (ps_expr (pe_bm PySem.F.plainAttrs_list PySem.F.slot_list_extend PySem.F.type_list_extend mt_extend (pv 0) (pa_cons (pe_lst (pa_cons (pe_op op_mod (pv 2) pe_int) (pa_cons pe_int pa_nil))) pa_nil)))))) pss_nil)
    (pss_cons (ps_if (pt_cmpR op_gt (pe_ix ix_list (pv 0) pe_int (fun _ _ => rfl)) pe_int (nomark _))
      (pss_cons (ps_set (i := 3) nd rfl (Or.inl rfl) (pe_op op_mod (pe_ix ix_list (pv 0) pe_int (fun _ _ => rfl)) (pv 1)))
      (pss_cons (ps_asg (pe_op op_fdiv (pe_ix ix_list (pv 0) pe_int (fun _ _ => rfl)) (pv 1)) (pg_sub (pv 0) pe_int set_list))
      (pss_one (ps_ret (pv 3))))) pss_nil)
    (pss_cons (ps_asg (pe_op op_add (pe_ix ix_list (pv 0) pe_int (fun _ _ => rfl)) pe_int) (pg_sub (pv 0) pe_int set_list))
    (pss_cons (ps_set (i := 4) nd rfl (Or.inl rfl) (pe_op op_mod (pe_op op_mul (pe_op op_add (pe_op op_add (pe_ix ix_list (pv 0) pe_int (fun _ _ => rfl)) (pe_op op_mul pe_int (pe_ix ix_list (pv 0) pe_int (fun _ _ => rfl)))) pe_int) pe_int) pe_int))
    (pss_cons (ps_set (i := 4) nd rfl (Or.inl rfl) (pe_op op_mod (pe_op op_mul (pv 4) (pe_op op_add (pe_op op_fdiv (pv 4) pe_int) pe_int)) pe_int))
    (pss_one (ps_ret (pe_op op_mod (pe_op op_mod (pe_op op_mul (pv 4) (pe_op op_add (pe_op op_fdiv (pv 4) pe_int) pe_int)) pe_int) (pv 1)))))))), ?_⟩
  obtain ⟨xs, hxs, hlen⟩ : ∃ xs, H a = some (.lst xs) ∧ ((xs.length = 1 ∧ ∃ x : Int, xs = [.int x]) ∨ (xs.length = 3 ∧ WellAt H a n)) := by
    rcases hst with ⟨x, h⟩ | ⟨x, y, z, h, r⟩
    · exact ⟨_, h, .inl ⟨rfl, x, rfl⟩⟩
    · exact ⟨_, h, .inr ⟨rfl, x, y, z, h, r⟩⟩
  refine ⟨_, rfl, a, xs, rfl, .inl (SqL.of hxs), rfl, _, rfl, ?_⟩
  refine join3 (fun σ Hc => ∃ g, σ = [some (.ref a), some (.int m), g, none, none] ∧ But a H Hc ∧ WellAt Hc a n) ?_ ?_ ?_
  · intro hb
    rcases hlen with ⟨h1, _⟩ | ⟨_, hw⟩
    · rw [h1] at hb
      cases hb
    · exact ⟨none, rfl, fun b o _ e => e, hw⟩
  · rintro σ Hc ⟨g, rfl, b, x, y, z, hL, hx, hy, hy2, hz, hz2⟩
    refine ⟨_, rfl, a, _, _, _, rfl, rfl, SqL.of hL, rfl, _, _, rfl, rfl, _, rfl, ?_⟩
    refine ite2 (fun c => ?_) (fun c => ?_)
    · refine ⟨_, rfl, a, _, _, _, rfl, rfl, SqL.of hL, rfl, _, rfl, _, _, rfl, rfl, hm, ?_⟩
      refine ⟨_, rfl, a, _, _, _, rfl, rfl, SqL.of hL, rfl, _, rfl, _, _, rfl, rfl, ⟨hm, by omega⟩, ?_⟩
      refine ⟨_, rfl, a, _, _, 0, rfl, rfl, hL, rfl, _, rfl, ?_⟩
      exact q _ _ (Int.emod_nonneg _ (by omega)) (Int.emod_lt_of_pos _ hm) (b.trans But.at) ⟨_, y, z, upd_same, Int.ediv_nonneg hx (by omega), hy, hy2, hz, by omega⟩
    · have hL2 : (upd Hc a (.lst [.int x, .int y, .int (z + 1)])) a = some (.lst [.int x, .int y, .int (z + 1)]) := upd_same
      refine ⟨_, rfl, a, _, _, _, rfl, rfl, SqL.of hL, rfl, _, _, rfl, rfl, ?_⟩
      refine ⟨_, rfl, a, _, _, 2, rfl, rfl, hL, rfl, ?_⟩
      refine ⟨_, rfl, a, _, _, _, rfl, rfl, SqL.of hL2, rfl, _, rfl, a, _, _, _, rfl, rfl, SqL.of hL2, rfl, _, _, rfl, rfl, .inl ⟨by decide, by decide⟩, _, _, rfl, rfl, _, _, rfl, rfl, _, _, rfl, rfl, .inr ⟨by decide, by decide⟩, _, _, rfl, rfl, (by show (0 : Int) < 2147483647; decide), ?_⟩
      have n0 := Int.emod_nonneg ((y + 7919 * (z + 1) + 1) * 48271) (show (2147483647 : Int) ≠ 0 by decide)
      have n1 := Int.emod_lt_of_pos ((y + 7919 * (z + 1) + 1) * 48271) (show (0 : Int) < 2147483647 by decide)
      generalize ((y + 7919 * (z + 1) + 1) * 48271) % 2147483647 = i at n0 n1 ⊢
      refine ⟨_, rfl, _, rfl, _, _, rfl, rfl, ⟨by decide, by decide⟩, _, _, rfl, rfl, _, _, rfl, rfl, .inl ⟨by omega, by omega⟩, _, _, rfl, rfl, (by show (0 : Int) < 2147483647; decide), ?_⟩
      have k0 := Int.emod_nonneg (i * (i / 1009 + 69621)) (show (2147483647 : Int) ≠ 0 by decide)
      have k1 := Int.emod_lt_of_pos (i * (i / 1009 + 69621)) (show (0 : Int) < 2147483647 by decide)
      generalize (i * (i / 1009 + 69621)) % 2147483647 = j at k0 k1 ⊢
      refine ⟨_, rfl, _, rfl, _, _, rfl, rfl, ⟨by decide, by decide⟩, _, _, rfl, rfl, _, _, rfl, rfl, .inl ⟨by omega, by omega⟩, _, _, rfl, rfl, (by show (0 : Int) < 2147483399; decide), _, rfl, _, _, rfl, rfl, hm, ?_⟩
      exact q _ _ (Int.emod_nonneg _ (by omega)) (Int.emod_lt_of_pos _ hm) (b.trans But.at) ⟨x, y, z + 1, upd_same, hx, hy, hy2, by omega, by omega⟩
  · intro hb k
    obtain ⟨x, rfl⟩ : ∃ x : Int, xs = [.int x] := by
      rcases hlen with ⟨_, h⟩ | ⟨h3, _⟩
      · exact h
      · rw [h3] at hb
        cases hb
    refine ⟨_, rfl, a, _, _, _, rfl, rfl, SqL.of hxs, rfl, ?_⟩
    refine ⟨_, rfl, (by show 2 ≤ sizeLine; decide), fun l hl => ?_⟩
    have s1 := same_new hl (.lst [V.int 0, V.int x])
    refine ⟨_, rfl, _, _, rfl, rfl, ⟨by decide, by decide, by decide⟩, _, _, rfl, rfl, .inr ⟨_, rfl, ?_⟩⟩
    obtain ⟨y, hy, y0⟩ : ∃ y : Int, atI [V.int 0, V.int x] (if decide (x ≥ 10 ^ (18 : Int).toNat) = true then 1 else 0) = some (.int y) ∧ 0 ≤ y := by
      by_cases c : x ≥ 10 ^ (18 : Int).toNat
      · rw [decide_eq_true c]
        have : (0 : Int) ≤ 10 ^ (18 : Int).toNat := by decide
        exact ⟨x, rfl, by omega⟩
      · rw [decide_eq_false c]
        exact ⟨0, rfl, Int.le_refl 0⟩
    refine ⟨l, _, _, _, rfl, rfl, SqL.of upd_same, hy, _, rfl, a, [.int x], _, 0, rfl, rfl, s1 _ _ hxs, rfl, ?_⟩
    have hL : (upd (upd H l (.lst [V.int 0, V.int x])) a (.lst ([V.int x].set 0 (.int y)))) a = some (.lst [.int y]) := upd_same
    refine ⟨_, rfl, .inl ⟨rfl, _, SqL.of hL⟩, _, rfl, _, _, rfl, rfl, (by show (0 : Int) < 2147483647; decide), (by show 2 ≤ sizeLine; decide), fun l2 hl2 => ?_⟩
    have nl : a ≠ l2 := ne_of_none hL hl2
    refine ⟨a, l2, [.int y], _, rfl, rfl, (by rw [upd_ne nl]; exact hL), upd_same, (by show 3 ≤ sizeLine; decide), ?_⟩
    refine k _ _ ⟨_, rfl, ?_, y, x % 2147483647, 0, upd_same, y0, Int.emod_nonneg _ (by decide), Int.emod_lt_of_pos _ (by decide), Int.le_refl 0, hn0⟩
    exact (((But.same s1).trans But.at).trans (But.same (same_new hl2 _))).trans But.at

end
theorem WellAt.lst {H : Hp} {a : Addr} {n : Int} (w : WellAt H a n) : ∃ zs, H a = some (.lst zs) := by
  obtain ⟨x, y, z, h, _⟩ := w
  exact ⟨_, h⟩
def spOf (K : PySem.W.Frag) : Sp := fun vs H Q _ => ∃ (a l : Addr) (n : Int) (xs : List V), vs = [.ref a, .ref l] ∧ Dr H a n ∧ 0 ≤ n ∧ n < 999000 ∧ H l = some (.lst xs) ∧ l ≠ a ∧ 0 < xs.length ∧ xs.length < 1000 ∧ ∀ (i : Nat) (x : V) (H' : Hp), xs[i]? = some x → But a H H' → WellAt H' a (n + 1) → Q x H'
/-- outputs that are drawn from -/
def okG (g : List Int) : Prop := 1 ≤ g.length ∧ g.length ≤ 10 ∧ ∀ x ∈ g, okOut x
def spRising (K : PySem.W.Frag) : Sp := fun vs H Q _ => ∃ (a l : Addr) (n m : Int) (g : List Int), vs = [.ref a, .ref l, .int m] ∧ Dr H a n ∧ 0 ≤ n ∧ n < 990000 ∧ H l = some (.lst (g.map .int)) ∧ l ≠ a ∧ okG g ∧ 0 < m ∧ m ≤ 6 ∧
  ∀ (p : Addr) (ns : List Int) (H' : Hp), But a H H' → H p = none → H' p = some (.lst (ns.map .int)) → WellAt H' a (n + 10) → okRow ns → ns.length ≤ 6 → Q (.ref p) H'
def spOutsL (K : PySem.W.Frag) : Sp := fun vs H Q _ => ∃ (a l : Addr) (n m : Int) (g : List Int), vs = [.ref a, .ref l, .int m] ∧ Dr H a n ∧ 0 ≤ n ∧ n < 990000 ∧ H l = some (.lst (g.map .int)) ∧ l ≠ a ∧ okG g ∧ 0 < m ∧ m ≤ 6 ∧
  ∀ (p : Addr) (xs : List V) (ls : List (Int × Int)) (H' : Hp), But a H H' → H p = none → H' p = some (.lst xs) → A2 (TpAt H') xs ls → WellAt H' a (n + 20) → okLet ls → ls.length ≤ 6 → Q (.ref p) H'
/-! pairs, read off the heap -/
def dec (H : Hp) : V → Int × Int
  | .ref t => match H t with
    | some (.tup [.int x, .int y]) => (x, y)
    | _ => (0, 0)
  | _ => (0, 0)
theorem dec_eq {H : Hp} {v : V} {p : Int × Int} (h : TpAt H v p) : dec H v = p := by
  obtain ⟨t, rfl, e⟩ := h
  show (match H t with
    | some (.tup [.int x, .int y]) => (x, y)
    | _ => (0, 0)) = p
  rw [e]
theorem dec_all {H : Hp} : ∀ {xs : List V} {l : List (Int × Int)}, A2 (TpAt H) xs l → l = xs.map (dec H)
  | _, _, .nil => rfl
  | _, _, .cons a b => by rw [List.map_cons, dec_eq a, ← dec_all b]
theorem dec_of {H : Hp} : ∀ {xs : List V}, (∀ v ∈ xs, TpAt H v (dec H v)) → A2 (TpAt H) xs (xs.map (dec H))
  | [], _ => .nil
  | v :: xs, h => .cons (h v List.mem_cons_self) (dec_of fun x hx => h x (List.mem_cons_of_mem _ hx))
theorem tp_perm {H : Hp} {xs ys : List V} {l : List (Int × Int)} (a : A2 (TpAt H) xs l) (p : ys.Perm xs) : A2 (TpAt H) ys (ys.map (dec H)) ∧ (ys.map (dec H)).Perm l := by
  refine ⟨dec_of fun v hv => ?_, ?_⟩
  · obtain ⟨y, _, hy⟩ := a.mem (p.mem_iff.mp hv)
    rw [dec_eq hy]
    exact hy
  · rw [dec_all a]
    exact p.map _
section
variable {P : Program} {w : World} {K : PySem.W.Frag} {mg : Str → Option Value} {base : Heap}
abbrev nOf : List Str := ["_law_state", "_law_some"]
theorem sc_of : FnScope nOf nOf (defScope s__law_of) := ⟨rfl, rfl, rfl, by decide +kernel, rfl, by decide +kernel, by decide +kernel⟩
theorem ok_of {f g : Addr} {fd gd : FuncData} (F : Fun K "_law_of" "_law_of" s__law_of f fd) (T : Txt K mg) (Dg : Def P w K mg base "_law_digit" ["_law_state", "_law_base"] 1 spDigit g gd) : FnOk P w K mg base CX0 2 f fd nOf (spOf K) := by
  refine F.ok sc_of (fun vs H Q E h => ?_) (fun cdv A outer s H vs Q E hr h => ?_)
  · obtain ⟨a, l, n, xs, rfl, _⟩ := h
    rfl
  obtain ⟨a, l, n, xs, rfl, hD, hn0, hn, hl, nla, h0, h1, q⟩ := h
  have nd := sc_of.nd
  refine ⟨_, (pss_one (ps_ret (pe_ix ix_list (pv 1) (pe_call Dg.G (hr.mono (by decide)) rfl Dg.m Dg.k Dg.b .nil pass0 (pa_cons (pv 0) (pa_cons (pe_callB call_len_seq (by rfl) T.len PySem.boot_len (pa_cons (pv 1) pa_nil)) pa_nil))) (fun _ _ => rfl)))), ?_⟩
  refine ⟨_, rfl, _, rfl, _, rfl, l, xs, rfl, .inl (SqL.of hl), a, n, (xs.length : Int), rfl, hD, hn0, by omega, by omega, by omega, fun r H1 r0 r1 b1 w1 => ?_⟩
  obtain ⟨m, rfl⟩ : ∃ m : Nat, r = (m : Int) := ⟨r.toNat, by omega⟩
  have hm : m < xs.length := by omega
  exact ⟨l, _, _, _, rfl, rfl, SqL.of (b1 _ _ nla hl), atI_nat (List.getElem?_eq_getElem hm), q m _ _ (List.getElem?_eq_getElem hm) b1 w1⟩
abbrev nRs : List Str := ["_law_state", "_law_some", "_law_most", "_law_found", "_law_turn", "_law_one"]
theorem sc_rs : FnScope nRs ["_law_state", "_law_some", "_law_most"] (defScope s__law_rising) := ⟨rfl, rfl, rfl, by decide +kernel, rfl, by decide +kernel, by decide +kernel⟩
theorem ok_rs {f g1 g2 : Addr} {fd d1 d2 : FuncData} (F : Fun K "_law_rising" "_law_rising" s__law_rising f fd) (T : Txt K mg) (T2 : Txt2 K mg) (Dg : Def P w K mg base "_law_digit" ["_law_state", "_law_base"] 1 spDigit g1 d1) (Of : Def P w K mg base "_law_of" nOf 2 (spOf K) g2 d2) : FnOk P w K mg base CX0 3 f fd ["_law_state", "_law_some", "_law_most"] (spRising K) := by
  refine F.ok sc_rs (fun vs H Q E h => ?_) (fun cdv A outer s H vs Q E hr h => ?_)
  · obtain ⟨a, l, n, m, g, rfl, _⟩ := h
    rfl
  obtain ⟨a, l, n, m, g, rfl, hD, hn0, hn, hl, nla, hg, hm0, hm, q⟩ := h
  have nd := sc_rs.nd
  obtain ⟨g1_, g2_, g3_⟩ := hg
  refine ⟨_, (pss_cons (ps_set (i := 3) nd rfl (Or.inl rfl) (pe_lst pa_nil))
    (pss_cons (ps_for PassesOwn.never (by rfl) (pi_range1 (by rfl) T.range (pa_cons (pe_op op_add pe_int (pe_call Dg.G (hr.mono (by decide)) rfl Dg.m Dg.k Dg.b .nil pass0 (pa_cons (pv 0) (pa_cons (pv 2) pa_nil)))) pa_nil)) (pg_name (i := 4) nd rfl (Or.inl rfl))
      (pss_cons (ps_set (i := 5) nd rfl (Or.inl rfl) (pe_call Of.G (hr.mono (by decide)) rfl Of.m Of.k Of.b .nil pass0 (pa_cons (pv 0) (pa_cons (pv 1) pa_nil))))
    (pss_one (ps_if (pt_cmpR op_notIn_seq (pv 5) (pv 3) (by rfl))
      (pss_one (ps_expr (pe_bm PySem.F.plainAttrs_list PySem.F.slot_list_append PySem.F.type_list_append mt_append (pv 3) (pa_cons (pv 5) pa_nil))))
      pss_nil))))
    (pss_one (ps_ret (pe_callB cr_sorted (by rfl) T2.sorted (by decide +kernel) (pa_cons (pv 3) pa_nil)))))), ?_⟩
  refine ⟨(by show 0 ≤ sizeLine; decide), fun L hL => ?_⟩
  have s1 := same_new hL (.lst [])
  have hD1 : Dr (upd H L (.lst [])) a n := by
    rcases hD with ⟨x, e⟩ | e
    · exact .inl ⟨x, s1 _ _ e⟩
    · exact .inr (e.same s1)
  have naL : a ≠ L := by
    rcases hD with ⟨x, e⟩ | ⟨x, y, z, e, _⟩
    · exact ne_of_none e hL
    · exact ne_of_none e hL
  refine ⟨_, rfl, _, rfl, a, n, m, rfl, hD1, hn0, by omega, hm0, by omega, fun r H1 r0 r1 b1 w1 => ?_⟩
  have b01 : But a H H1 := (But.same s1).trans b1
  have eL1 : H1 L = some (.lst []) := b1 _ _ (Ne.symm naL) upd_same
  refine ⟨_, _, rfl, rfl, 1 + r, rfl, by omega, by omega, for_range (n := (1 + r).toNat) (fun i σ H' => ∃ g4 g5, σ = [some (.ref a), some (.ref l), some (.int m), some (.ref L), g4, g5] ∧ But a H H' ∧ WellAt H' a (n + 1 + (i : Int)) ∧ ∃ ns : List Int, H' L = some (.lst (ns.map V.int)) ∧ ns.Nodup ∧ (∀ x ∈ ns, x ∈ g) ∧ ns.length ≤ i ∧ (0 < i → 0 < ns.length)) ⟨_, _, rfl, b01, by rw [show n + 1 + ((0 : Nat) : Int) = n + 1 by omega]; exact w1, [], eL1, .nil, (fun x hx => nomatch hx), Nat.zero_le _, fun c => absurd c (Nat.lt_irrefl _)⟩ ?_ ?_⟩
  · rintro i σ H' hi ⟨g4, g5, rfl, b2, w2, ns, hns, hnd, hin, hle, hpos⟩
    refine ⟨_, rfl, _, rfl, a, l, _, g.map V.int, rfl, .inr w2, by omega, by omega, b2 _ _ nla hl, nla, by rw [List.length_map]; omega, by rw [List.length_map]; omega, fun k x H3 hx b3 w3 => ?_⟩
    rw [List.getElem?_map] at hx
    obtain ⟨x, hx1, rfl⟩ := Option.map_eq_some_iff.mp hx
    have hxg := List.mem_of_getElem? hx1
    have hns3 := b3 _ _ (Ne.symm naL) hns
    have w4 : WellAt H3 a (n + 1 + ((i + 1 : Nat) : Int)) := by
      rw [show n + 1 + ((i + 1 : Nat) : Int) = n + 1 + (i : Int) + 1 by omega]
      exact w3
    refine ⟨_, rfl, _, rfl, L, _, rfl, .inl (SqL.of hns3), rfl, flat_ints _, _, rfl, ?_⟩
    rw [inV_int]
    by_cases c : x ∈ ns
    · refine iteF' (by rw [decide_eq_true c]; rfl) ⟨_, _, rfl, b2.trans b3, w4, ns, hns3, hnd, hin, by omega, fun _ => List.length_pos_of_mem c⟩
    · refine iteT' (by rw [decide_eq_false c]; rfl) ?_
      refine ⟨_, rfl, .inl ⟨rfl, _, SqL.of hns3⟩, _, rfl, L, _, _, rfl, rfl, hns3, ?_, ?_⟩
      · rw [List.length_map]
        exact Nat.lt_of_lt_of_le (show ns.length < 100 by omega) (by decide)
      · refine ⟨_, _, rfl, (b2.trans b3).new hL, w4.but naL But.at, ns ++ [x], by rw [upd_same, List.map_append]; rfl, ?_, ?_, by rw [List.length_append]; show ns.length + 1 ≤ i + 1; omega, fun _ => by rw [List.length_append]; show 0 < ns.length + 1; omega⟩
        · rw [List.nodup_append]
          exact ⟨hnd, by simp, fun y hy z hz e => by obtain rfl := List.mem_singleton.mp hz; subst e; exact c hy⟩
        · intro y hy
          rcases List.mem_append.mp hy with h | h
          · exact hin y h
          · obtain rfl := List.mem_singleton.mp h
            exact hxg
  · rintro σ H' ⟨g4, g5, rfl, b2, w2, ns, hns, hnd, hin, hle, hpos⟩
    have hl6 : ns.length ≤ 6 := by omega
    refine ⟨_, rfl, L, ns, rfl, SqL.of hns, by omega, fun ns' p pm pw hp => ?_⟩
    have s3 := same_new hp (.lst (ns'.map V.int))
    have hpn : H p = none := none_of_but b2 (Ne.symm (w2.ne hp)) hp
    refine q p ns' _ (b2.trans (.same s3)) hpn upd_same ((w2.same s3).up (by omega)) ⟨?_, ?_, ?_, fun x hx => g3_ x (hin x (pm.mem_iff.mp hx))⟩ (by rw [pm.length_eq]; exact hl6)
    · rw [pm.length_eq]
      exact hpos (by omega)
    · rw [pm.length_eq]
      omega
    · have nd' := pm.nodup_iff.mpr hnd
      exact List.Pairwise.imp₂ (fun a b (h1 : a ≤ b) (h2 : a ≠ b) => by omega) pw nd'
abbrev nOs : List Str := ["_law_state", "_law_some", "_law_most", "_law_found", "_law_turn", "_law_outs_here"]
theorem sc_os : FnScope nOs ["_law_state", "_law_some", "_law_most"] (defScope s__law_outs) := ⟨rfl, rfl, rfl, by decide +kernel, rfl, by decide +kernel, by decide +kernel⟩
theorem ok_os {f g1 g2 : Addr} {fd d1 d2 : FuncData} (F : Fun K "_law_outs" "_law_outs" s__law_outs f fd) (T : Txt K mg) (T2 : Txt2 K mg) (Dg : Def P w K mg base "_law_digit" ["_law_state", "_law_base"] 1 spDigit g1 d1) (Of : Def P w K mg base "_law_of" nOf 2 (spOf K) g2 d2) : FnOk P w K mg base CX0 3 f fd ["_law_state", "_law_some", "_law_most"] (spOutsL K) := by
  refine F.ok sc_os (fun vs H Q E h => ?_) (fun cdv A outer s H vs Q E hr h => ?_)
  · obtain ⟨a, l, n, m, g, rfl, _⟩ := h
    rfl
  obtain ⟨a, l, n, m, g, rfl, hD, hn0, hn, hl, nla, hg, hm0, hm, q⟩ := h
  have nd := sc_os.nd
  have hu65 := hu65_of hr
  obtain ⟨g1_, g2_, g3_⟩ := hg
  refine ⟨_, (pss_cons (ps_set (i := 3) nd rfl (Or.inl rfl) (pe_lst pa_nil))
    (pss_cons (ps_for PassesOwn.never (by rfl) (pi_range1 (by rfl) T.range (pa_cons (pe_op op_add pe_int (pe_call Dg.G (hr.mono (by decide)) rfl Dg.m Dg.k Dg.b .nil pass0 (pa_cons (pv 0) (pa_cons (pv 2) pa_nil)))) pa_nil)) (pg_name (i := 4) nd rfl (Or.inl rfl))
      (pss_cons (ps_set (i := 5) nd rfl (Or.inl rfl) (pe_tup (pa_cons (pe_call Of.G (hr.mono (by decide)) rfl Of.m Of.k Of.b .nil pass0 (pa_cons (pv 0) (pa_cons (pv 1) pa_nil))) (pa_cons (pe_call Of.G (hr.mono (by decide)) rfl Of.m Of.k Of.b .nil pass0 (pa_cons (pv 0) (pa_cons (pv 1) pa_nil))) pa_nil))))
    (pss_one (ps_if (pt_cmpR (op_notInD hu65) (pv 5) (pv 3) (by rfl))
      (pss_one (ps_expr (pe_bm PySem.F.plainAttrs_list PySem.F.slot_list_append PySem.F.type_list_append mt_append (pv 3) (pa_cons (pv 5) pa_nil))))
      pss_nil))))
    (pss_one (ps_ret (pe_callB (cr_sortT (d := 2) (B := 64) (by decide)) (by rfl) T2.sorted (by decide +kernel) (pa_cons (pv 3) pa_nil)))))), ?_⟩
  refine ⟨(by show 0 ≤ sizeLine; decide), fun L hL => ?_⟩
  have s1 := same_new hL (.lst [])
  have hD1 : Dr (upd H L (.lst [])) a n := by
    rcases hD with ⟨x, e⟩ | e
    · exact .inl ⟨x, s1 _ _ e⟩
    · exact .inr (e.same s1)
  have naL : a ≠ L := by
    rcases hD with ⟨x, e⟩ | ⟨x, y, z, e, _⟩
    · exact ne_of_none e hL
    · exact ne_of_none e hL
  refine ⟨_, rfl, _, rfl, a, n, m, rfl, hD1, hn0, by omega, hm0, by omega, fun r H1 r0 r1 b1 w1 => ?_⟩
  have b01 : But a H H1 := (But.same s1).trans b1
  have eL1 : H1 L = some (.lst []) := b1 _ _ (Ne.symm naL) upd_same
  have tpB : ∀ {H' H'' : Hp} {z : List V} {v : V} {p : Int × Int} {d : Addr}, H' d = some (.lst z) → But d H' H'' → TpAt H' v p → TpAt H'' v p := fun e b h => by
    obtain ⟨t, rfl, ht⟩ := h
    exact ⟨t, rfl, b _ _ (ne_of ht e (fun z => by cases z)) ht⟩
  refine ⟨_, _, rfl, rfl, 1 + r, rfl, by omega, by omega, for_range (n := (1 + r).toNat) (fun i σ H' => ∃ g4 g5, σ = [some (.ref a), some (.ref l), some (.int m), some (.ref L), g4, g5] ∧ But a H H' ∧ WellAt H' a (n + 1 + 2 * (i : Int)) ∧ ∃ (xs : List V) (ls : List (Int × Int)), H' L = some (.lst xs) ∧ A2 (TpAt H') xs ls ∧ ls.Nodup ∧ (∀ x ∈ ls, x.1 ∈ g ∧ x.2 ∈ g) ∧ ls.length ≤ i ∧ (0 < i → 0 < ls.length)) ⟨_, _, rfl, b01, by rw [show n + 1 + 2 * ((0 : Nat) : Int) = n + 1 by omega]; exact w1, [], [], eL1, .nil, .nil, (fun x hx => nomatch hx), Nat.zero_le _, fun c => absurd c (Nat.lt_irrefl _)⟩ ?_ ?_⟩
  · rintro i σ H' hi ⟨g4, g5, rfl, b2, w2, xs, ls, hxs, hA, hnd, hin, hle, hpos⟩
    obtain ⟨z2, ea2⟩ := w2.lst
    refine ⟨_, rfl, _, rfl, a, l, _, g.map V.int, rfl, .inr w2, by omega, by omega, b2 _ _ nla hl, nla, by rw [List.length_map]; omega, by rw [List.length_map]; omega, fun k x H3 hx b3 w3 => ?_⟩
    rw [List.getElem?_map] at hx
    obtain ⟨x, hx1, rfl⟩ := Option.map_eq_some_iff.mp hx
    have hxg := List.mem_of_getElem? hx1
    obtain ⟨z3, ea3⟩ := w3.lst
    refine ⟨_, rfl, _, rfl, a, l, _, g.map V.int, rfl, .inr w3, by omega, by omega, b3 _ _ nla (b2 _ _ nla hl), nla, by rw [List.length_map]; omega, by rw [List.length_map]; omega, fun k2 y H4 hy b4 w4 => ?_⟩
    rw [List.getElem?_map] at hy
    obtain ⟨y, hy1, rfl⟩ := Option.map_eq_some_iff.mp hy
    have hyg := List.mem_of_getElem? hy1
    obtain ⟨z4, ea4⟩ := w4.lst
    refine ⟨(by show 2 ≤ sizeLine; decide), fun t ht => ?_⟩
    have s5 := same_new ht (.tup [V.int x, V.int y])
    have hxs5 := s5 _ _ (b4 _ _ (Ne.symm naL) (b3 _ _ (Ne.symm naL) hxs))
    have hA5 : A2 (TpAt (upd H4 t (.tup [V.int x, V.int y]))) xs ls := hA.imp fun _ _ r => (tpB ea3 b4 (tpB ea2 b3 r)).mono (.same s5)
    have hB5 := ((b2.trans b3).trans b4).trans (.same s5)
    have w5 : WellAt (upd H4 t (.tup [V.int x, V.int y])) a (n + 1 + 2 * ((i + 1 : Nat) : Int)) := (w4.same s5).up (by omega)
    have htt : (upd H4 t (.tup [V.int x, V.int y])) t = some (.tup [V.int x, V.int y]) := upd_same
    generalize upd H4 t (.tup [V.int x, V.int y]) = H5 at s5 hxs5 hA5 hB5 w5 htt ⊢
    refine ⟨_, rfl, _, rfl, pairD (x, y), ls.map pairD, (TpAt.dp ⟨t, rfl, htt⟩), Dp.lst (SqL.of hxs5) (hA5.dp pairD fun _ _ r => r.dp), (okD_pair _).shaped (by decide), (okD_pairs _).shaped (by decide), _, rfl, ?_⟩
    rw [any_pair]
    by_cases c : (x, y) ∈ ls
    · refine iteF' (by rw [decide_eq_true c]; rfl) ⟨_, _, rfl, hB5, w5, xs, ls, hxs5, hA5, hnd, hin, by omega, fun _ => List.length_pos_of_mem c⟩
    · refine iteT' (by rw [decide_eq_false c]; rfl) ?_
      refine ⟨_, rfl, .inl ⟨rfl, _, SqL.of hxs5⟩, _, rfl, L, _, _, rfl, rfl, hxs5, ?_, ?_⟩
      · rw [hA5.len]
        exact Nat.lt_of_lt_of_le (show ls.length < 100 by omega) (by decide)
      · refine ⟨_, _, rfl, hB5.new hL, w5.but naL But.at, xs ++ [V.ref t], ls ++ [(x, y)], upd_same, A2.snoc (hA5.imp fun _ _ r => tpB hxs5 But.at r) (tpB hxs5 But.at ⟨t, rfl, htt⟩), ?_, ?_, by rw [List.length_append]; show ls.length + 1 ≤ i + 1; omega, fun _ => by rw [List.length_append]; show 0 < ls.length + 1; omega⟩
        · rw [List.nodup_append]
          exact ⟨hnd, by simp, fun y hy z hz e => by obtain rfl := List.mem_singleton.mp hz; subst e; exact c hy⟩
        · intro y hy
          rcases List.mem_append.mp hy with h | h
          · exact hin y h
          · obtain rfl := List.mem_singleton.mp h
            exact ⟨hxg, hyg⟩
  · rintro σ H' ⟨g4, g5, rfl, b2, w2, xs, ls, hxs, hA, hnd, hin, hle, hpos⟩
    have hl6 : ls.length ≤ 6 := by omega
    have out : ∀ p ∈ ls, okOut p.1 ∧ okOut p.2 := fun p hp => ⟨g3_ _ (hin p hp).1, g3_ _ (hin p hp).2⟩
    refine ⟨_, rfl, L, xs, rfl, SqL.of hxs, by rw [hA.len]; omega, fun x hx => ?_, fun ys p pm pw hp => ?_⟩
    · obtain ⟨y, hy, t, rfl, ht⟩ := hA.mem hx
      refine ⟨[y.1, y.2], ⟨t, rfl, SqT.of ht⟩, rfl, fun z hz => ?_⟩
      obtain ⟨o1, o2⟩ := out y hy
      rcases List.mem_cons.mp hz with rfl | hz
      · exact ⟨o1.1, by have := o1.2; omega⟩
      · obtain rfl := List.mem_singleton.mp hz
        exact ⟨o2.1, by have := o2.2; omega⟩
    have s3 := same_new hp (.lst ys)
    have hpn : H p = none := none_of_but b2 (Ne.symm (w2.ne hp)) hp
    obtain ⟨a1, a2⟩ := tp_perm hA pm
    have nd' := a2.nodup_iff.mpr hnd
    refine q p ys (ys.map (dec H')) _ (b2.trans (.same s3)) hpn upd_same (a1.imp fun _ _ r => r.mono (.same s3)) ((w2.same s3).up (by omega)) ⟨?_, ?_, ?_, fun x hx => out x (a2.mem_iff.mp hx)⟩ (by rw [a2.length_eq]; exact hl6)
    · rw [a2.length_eq]
      exact hpos (by omega)
    · rw [a2.length_eq]
      omega
    · rw [List.pairwise_map]
      have nd2 := List.pairwise_map.mp nd'
      refine List.Pairwise.imp_of_mem (fun {x y} hx hy h => ?_) (List.Pairwise.imp₂ (fun a b h1 h2 => And.intro h1 h2) pw nd2)
      obtain ⟨h1, h2⟩ := h
      obtain ⟨px, hpx, tx⟩ := hA.mem (pm.mem_iff.mp hx)
      obtain ⟨py, hpy, ty⟩ := hA.mem (pm.mem_iff.mp hy)
      rw [dec_eq tx, dec_eq ty] at h2 ⊢
      obtain ⟨ox1, ox2⟩ := out px hpx
      obtain ⟨oy1, oy2⟩ := out py hpy
      obtain ⟨t1, rfl, e1⟩ := tx
      obtain ⟨t2, rfl, e2⟩ := ty
      have hc := h1 [px.1, px.2] [py.1, py.2] ⟨t1, rfl, SqT.of e1⟩ ⟨t2, rfl, SqT.of e2⟩
      refine pair_lt hc (fun e => h2 ?_) ⟨ox1.1, by have := ox1.2; omega⟩ ⟨ox2.1, by have := ox2.2; omega⟩ ⟨oy1.1, by have := oy1.2; omega⟩ ⟨oy2.1, by have := oy2.2; omega⟩
      injection e with e1 e2
      injection e2 with e2 _
      exact Prod.ext e1 e2
end
end TA

set_option Elab.async false
set_option maxRecDepth 100000
set_option maxHeartbeats 4000000
namespace TA
open PySem L2 PyProof.Rows
set_option linter.unusedVariables false
theorem TpAt.but {H H' : Hp} {d : Addr} {zs : List V} (e : H d = some (.lst zs)) (s : But d H H') {v : V} {p : Int × Int} (h : TpAt H v p) : TpAt H' v p := by
  obtain ⟨t, rfl, h⟩ := h
  exact ⟨t, rfl, s _ _ (ne_of h e (fun z => by cases z)) h⟩
theorem cut_to (xs : List V) (n : Nat) : cutV xs none (some (n : Int)) = xs.take n := by
  unfold cutV
  have e1 : HT.sIx xs.length 0 none = 0 := rfl
  have e2 : HT.sIx xs.length xs.length (some (n : Int)) = min n xs.length := by
    simp only [HT.sIx]
    split <;> omega
  rw [e1, e2, List.drop_zero, Nat.sub_zero]
  by_cases c : n ≤ xs.length
  · rw [show min n xs.length = n by omega]
  · rw [show min n xs.length = xs.length by omega, List.take_length, List.take_of_length_le (by omega)]
theorem getD_left {l r : List Int} {k : Nat} (h : k < l.length) : (l ++ r).getD k 0 = l.getD k 0 := by
  rw [List.getD_eq_getElem?_getD, List.getD_eq_getElem?_getD, List.getElem?_append_left h]
theorem getD_mid {l : List Int} {x : Int} : (l ++ [x]).getD l.length 0 = x := by
  rw [List.getD_eq_getElem?_getD, List.getElem?_append_right (Nat.le_refl _), Nat.sub_self]
  rfl
theorem getD_some {α : Type} {l : List α} {k : Nat} {x d : α} (h : l[k]? = some x) : l.getD k d = x := by
  rw [List.getD_eq_getElem?_getD, h]
  rfl
theorem pair_at {p : Int × Int} {j : Int} (h : j = 0 ∨ j = 1) : ∃ u : Int, atI [V.int p.1, V.int p.2] j = some (.int u) ∧ (u = p.1 ∨ u = p.2) := by
  rcases h with rfl | rfl
  · exact ⟨p.1, rfl, .inl rfl⟩
  · exact ⟨p.2, rfl, .inr rfl⟩
def spWalk : Sp := fun vs H Q _ => ∃ (a l : Addr) (n x y : Int) (m : Nat) (xs : List V) (ls : List (Int × Int)), vs = [.ref a, .int x, .int y, .ref l, .int (m : Int)] ∧ WellAt H a n ∧ 0 ≤ n ∧ n < 900000 ∧ H l = some (.lst xs) ∧ l ≠ a ∧ A2 (TpAt H) xs ls ∧ okLet ls ∧ okOut x ∧ okOut y ∧ 1 ≤ m ∧ m ≤ 243 ∧
  ∀ (p : Addr) (w : List Int) (H' : Hp), But a H H' → H p = none → H' p = some (.lst (w.map .int)) → WellAt H' a (n + (m : Int)) → w.length = m + 1 → w.getD 0 0 = x → w.getD m 0 = y → (∀ z ∈ w, okOut z) → Q (.ref p) H'
section
variable {P : Program} {w : World} {K : PySem.W.Frag} {mg : Str → Option Value} {base : Heap}
abbrev nWk : List Str := ["_law_state", "_law_first", "_law_last", "_law_outs_here", "_law_many", "_law_found", "_law_i", "_law_some", "_law_pair"]
theorem sc_wk : FnScope nWk ["_law_state", "_law_first", "_law_last", "_law_outs_here", "_law_many"] (defScope s__law_walk) := ⟨rfl, rfl, rfl, by decide +kernel, rfl, by decide +kernel, by decide +kernel⟩
theorem ok_wk {f g2 : Addr} {fd d2 : FuncData} (F : Fun K "_law_walk" "_law_walk" s__law_walk f fd) (T : Txt K mg) (Of : Def P w K mg base "_law_of" nOf 2 (spOf K) g2 d2) : FnOk P w K mg base CX0 3 f fd ["_law_state", "_law_first", "_law_last", "_law_outs_here", "_law_many"] spWalk := by
  refine F.ok sc_wk (fun vs H Q E h => ?_) (fun cdv A outer s H vs Q E hr h => ?_)
  · obtain ⟨a, l, n, x, y, m, xs, ls, rfl, _⟩ := h
    rfl
  obtain ⟨a, l, n, x, y, m, xs, ls, rfl, hw, hn0, hn, hl, nla, hA, hok, hx, hy, hm1, hm, q⟩ := h
  have nd := sc_wk.nd
  obtain ⟨ok1, ok2, ok3, ok4⟩ := hok
  refine ⟨_, (pss_cons (ps_set (i := 5) nd rfl (Or.inr rfl) (pe_lst (pa_cons (pv 1) pa_nil)))
    (pss_cons (ps_for PassesOwn.never (by rfl) (pi_range2 (by rfl) T.range (pa_cons pe_int (pa_cons (pv 4) pa_nil))) (pg_name (i := 6) nd rfl (Or.inr rfl))
      (pss_cons (ps_setLc (i := 7) (own := [("_law_pair", 8)]) (g := (gName 8)) (tt := (tTest (tOp rEq (tOp (rIxT K) (tVar 8) (tOp (rI0 fun i j => .int (i - j)) (tC (.int 1)) (tOp (rI (fun _ j => 0 < j) fun i j => .int (i % j)) (tVar 6) (tC (.int 2))))) (tOp (rIxL K) (tVar 5) (tUn (rU fun i => .int (-i)) (tC (.int 1))))))) (te := (tOp (rIxT K) (tVar 8) (tOp (rI (fun _ j => 0 < j) fun i j => .int (i % j)) (tVar 6) (tC (.int 2))))) rfl nd rfl rfl (sw_true rfl rfl rfl (by decide +kernel)) (pi_list (pv 3)) (blkOk_by (N := nWk) (sc := defScope s__law_walk) (by decide +kernel)) (fun _ _ _ _ _ => (by exact (pg_name (i := 8) nd rfl (Or.inl rfl)))) (fun _ _ _ _ _ => pts_one (by exact (pt_cmpR op_eq (pe_ix ix_tup (pv 8) (pe_op op_sub pe_int (pe_op op_mod (pv 6) pe_int)) (fun _ _ => rfl)) (pe_ix ix_list (pv 5) (pe_un un_neg pe_int) (fun _ _ => rfl)) (nomark _)))) (fun _ _ _ _ _ => (by exact (pe_ix ix_tup (pv 8) (pe_op op_mod (pv 6) pe_int) (fun _ _ => rfl)))))
    (pss_one (ps_expr (pe_bm PySem.F.plainAttrs_list PySem.F.slot_list_append PySem.F.type_list_append mt_append (pv 5) (pa_cons (pe_call Of.G (hr.mono (by decide)) rfl Of.m Of.k Of.b .nil pass0 (pa_cons (pv 0) (pa_cons (pe_op op_cat (pv 7) (pe_lc (own := [("_law_pair", 8)]) (g := (gName 8)) (tt := tYes) (te := (tOp (rIxT K) (tVar 8) (tOp (rI (fun _ j => 0 < j) fun i j => .int (i % j)) (tVar 6) (tC (.int 2))))) rfl nd (pi_list (pe_slice sl_list (pv 3) po_none (po_some pe_int))) (blkOk_by (N := nWk) (sc := defScope s__law_walk) (by decide +kernel)) (fun _ _ _ _ _ => (by exact (pg_name (i := 8) nd rfl (Or.inl rfl)))) (fun _ _ _ _ _ => pts_nil) (fun _ _ _ _ _ => (by exact (pe_ix ix_tup (pv 8) (pe_op op_mod (pv 6) pe_int) (fun _ _ => rfl)))))) pa_nil))) pa_nil))))))
    (pss_one (ps_ret (pe_op op_cat (pv 5) (pe_lst (pa_cons (pv 2) pa_nil))))))), ?_⟩
  refine ⟨_, rfl, (by show 1 ≤ sizeLine; decide), fun L hL => ?_⟩
  have s1 := same_new hL (.lst [V.int x])
  have naL : a ≠ L := hw.ne hL
  have nlL : l ≠ L := ne_of_none hl hL
  obtain ⟨zw, ea⟩ := hw.lst
  refine ⟨_, rfl, 1, (m : Int), rfl, ⟨by decide, by decide, by omega, by omega⟩, for_range (n := ((m : Int) - 1).toNat) (fun i σ H' => ∃ g6 g7, σ = [some (.ref a), some (.int x), some (.int y), some (.ref l), some (.int (m : Int)), some (.ref L), g6, g7, none] ∧ But a H H' ∧ WellAt H' a (n + (i : Int)) ∧ ∃ ws : List Int, H' L = some (.lst (ws.map V.int)) ∧ ws.length = i + 1 ∧ ws.getD 0 0 = x ∧ ∀ z ∈ ws, okOut z) ⟨_, _, rfl, .same s1, (by rw [show n + ((0 : Nat) : Int) = n by omega]; exact hw.same s1), [x], upd_same, rfl, rfl, fun z hz => by obtain rfl := List.mem_singleton.mp hz; exact hx⟩ ?_ ?_⟩
  · rintro i σ H' hi ⟨g6, g7, rfl, b1, w1, ws, hws, hwl, hw0, hwo⟩
    have hl' := b1 _ _ nla hl
    have hA' := hA.imp fun _ _ r => r.but ea b1
    have bit : (1 + (i : Int)) % 2 = 0 ∨ (1 + (i : Int)) % 2 = 1 := by omega
    have bit' : 1 - (1 + (i : Int)) % 2 = 0 ∨ 1 - (1 + (i : Int)) % 2 = 1 := by omega
    have glast : (ws.map V.int)[(ws.map V.int).length - 1]? = some (.int (ws.getD i 0)) := by
      rw [List.length_map, hwl, List.getElem?_map, List.getD_eq_getElem?_getD, show i + 1 - 1 = i by omega, List.getElem?_eq_getElem (show i < ws.length by omega)]
      rfl
    refine ⟨_, rfl, l, rfl, ⟨_, SqL.of hl'⟩, fun D1 hD1 => ?_⟩
    have sD := same_new hD1 (.lst [])
    have outP : ∀ k v, xs[k]? = some v → ∃ p, TpAt H' v p ∧ okOut p.1 ∧ okOut p.2 := fun k v hv => by
      obtain ⟨p, hp, tp⟩ := hA'.get hv
      exact ⟨p, tp, ok4 p (List.mem_of_getElem? hp)⟩
    refine list_turns (xs := xs) (fun k H3 => Same H' H3 ∧ ∃ zs : List Int, H3 D1 = some (.lst (zs.map V.int)) ∧ zs.length ≤ k ∧ ∀ z ∈ zs, okOut z) ⟨sD, [], upd_same, Nat.le_refl _, fun z hz => nomatch hz⟩ (fun k H3 _ h => SqL.of (h.1 _ _ hl')) ?_ ?_
    · rintro k v H3 hv ⟨s3, zs, hzs, hzl, hzo⟩
      obtain ⟨p, ⟨t, rfl, ht⟩, o1, o2⟩ := outP k v hv
      have ht3 := s3 _ _ ht
      have kl : k < xs.length := (List.getElem?_eq_some_iff.mp hv).1
      have xl := hA.len
      obtain ⟨u1, e1, _⟩ := pair_at (p := p) bit'
      obtain ⟨u2, e2, e2'⟩ := pair_at (p := p) bit
      have ou : okOut u2 := by
        rcases e2' with rfl | rfl
        · exact o1
        · exact o2
      refine ⟨rfl, _, rfl, _, rfl, _, _, rfl, rfl, (by show (0 : Int) < 2; decide), _, _, rfl, rfl, t, _, _, _, rfl, rfl, SqT.of ht3, e1, _, rfl, _, rfl, L, _, _, _, rfl, rfl, SqL.of (s3 _ _ hws), atI_last glast, rfl, _, rfl, ?_⟩
      refine ite2 (fun _ => ?_) (fun _ => ?_)
      · refine ⟨_, rfl, _, rfl, _, _, rfl, rfl, (by show (0 : Int) < 2; decide), t, _, _, _, rfl, rfl, SqT.of ht3, e2, _, hzs, ?_, same_upd s3 hD1, zs ++ [u2], by rw [upd_same, List.map_append]; rfl, by rw [List.length_append]; show zs.length + 1 ≤ k + 1; omega, fun z hz => ?_⟩
        · rw [List.length_map]
          exact Nat.lt_of_le_of_lt (show zs.length ≤ 100 by omega) (by decide)
        · rcases List.mem_append.mp hz with h | h
          · exact hzo z h
          · obtain rfl := List.mem_singleton.mp h
            exact ou
      · exact ⟨s3, zs, hzs, by omega, hzo⟩
    · rintro H3 ⟨s3, zs, hzs, hzl, hzo⟩
      have xl := hA.len
      have hL3 := s3 _ _ hws
      have hl3 := s3 _ _ hl'
      refine ⟨_, rfl, .inl ⟨rfl, _, SqL.of hL3⟩, _, rfl, _, rfl, _, rfl, _, rfl, l, _, rfl, SqL.of hl3, fun C hC => ?_⟩
      have ec : cutV xs none (some 1) = xs.take 1 := cut_to xs 1
      rw [ec]
      have sC := same_new hC (.lst (xs.take 1))
      have hCC : (upd H3 C (.lst (xs.take 1))) C = some (.lst (xs.take 1)) := upd_same
      refine ⟨C, rfl, ⟨_, SqL.of hCC⟩, fun D2 hD2 => ?_⟩
      have sD2 := same_new hD2 (.lst [])
      refine list_turns (xs := xs.take 1) (fun k H4 => Same (upd H3 C (.lst (xs.take 1))) H4 ∧ ∃ ys : List Int, H4 D2 = some (.lst (ys.map V.int)) ∧ ys.length = k ∧ ∀ z ∈ ys, okOut z) ⟨sD2, [], upd_same, rfl, fun z hz => nomatch hz⟩ (fun k H4 _ h => SqL.of (h.1 _ _ hCC)) ?_ ?_
      · rintro k v H4 hv ⟨s4, ys, hys, hyl, hyo⟩
        have hv' : xs[k]? = some v := by
          have := (List.getElem?_eq_some_iff.mp hv).1
          rw [List.length_take] at this
          rw [List.getElem?_take_of_lt (by omega)] at hv
          exact hv
        obtain ⟨p, ⟨t, rfl, ht⟩, o1, o2⟩ := outP k v hv'
        have ht4 := s4 _ _ (sC _ _ (s3 _ _ ht))
        have kl : k < xs.length := (List.getElem?_eq_some_iff.mp hv').1
        obtain ⟨u2, e2, e2'⟩ := pair_at (p := p) bit
        have ou : okOut u2 := by
          rcases e2' with rfl | rfl
          · exact o1
          · exact o2
        refine ⟨rfl, _, rfl, _, rfl, _, _, rfl, rfl, (by show (0 : Int) < 2; decide), t, _, _, _, rfl, rfl, SqT.of ht4, e2, _, hys, ?_, same_upd s4 hD2, ys ++ [u2], by rw [upd_same, List.map_append]; rfl, by rw [List.length_append, hyl]; rfl, fun z hz => ?_⟩
        · rw [List.length_map]
          exact Nat.lt_of_le_of_lt (show ys.length ≤ 100 by omega) (by decide)
        · rcases List.mem_append.mp hz with h | h
          · exact hyo z h
          · obtain rfl := List.mem_singleton.mp h
            exact ou
      · rintro H4 ⟨s4, ys, hys, hyl, hyo⟩
        have s34 := sC.trans s4
        have hyl1 : ys.length = 1 := by
          rw [hyl, List.length_take]
          omega
        refine ⟨D1, D2, _, _, rfl, rfl, s34 _ _ hzs, hys, ?_, fun M hM => ?_⟩
        · rw [List.length_map, List.length_map]
          exact Nat.le_trans (show zs.length + ys.length ≤ 200 by omega) (by decide)
        have sM := same_new hM (.lst (zs.map V.int ++ ys.map V.int))
        have sAll := (s3.trans s34).trans sM
        have eM : (upd H4 M (.lst (zs.map V.int ++ ys.map V.int))) M = some (.lst ((zs ++ ys).map V.int)) := by rw [upd_same, List.map_append]
        have wM := w1.same sAll
        refine ⟨a, M, _, (zs ++ ys).map V.int, rfl, .inr wM, by omega, by omega, eM, (w1.same (s3.trans s34)).ne hM |>.symm, by rw [List.length_map, List.length_append]; omega, by rw [List.length_map, List.length_append]; omega, fun k z H5 hz b5 w5 => ?_⟩
        rw [List.getElem?_map] at hz
        obtain ⟨z, hz1, rfl⟩ := Option.map_eq_some_iff.mp hz
        have oz : okOut z := by
          rcases List.mem_append.mp (List.mem_of_getElem? hz1) with h | h
          · exact hzo z h
          · exact hyo z h
        have hL5 := b5 _ _ (Ne.symm naL) (sAll _ _ hws)
        refine ⟨L, _, _, rfl, rfl, hL5, ?_, ?_⟩
        · rw [List.length_map]
          exact Nat.lt_of_lt_of_le (show ws.length < 1000 by omega) (by decide)
        · refine ⟨_, _, rfl, ((b1.trans (.same sAll)).trans b5).new hL, ?_, ws ++ [z], by rw [upd_same, List.map_append]; rfl, by rw [List.length_append]; show ws.length + 1 = i + 1 + 1; omega, ?_, fun z' hz' => ?_⟩
          · rw [show n + ((i + 1 : Nat) : Int) = n + (i : Int) + 1 by omega]
            exact w5.but naL But.at
          · rw [getD_left (by omega)]
            exact hw0
          · rcases List.mem_append.mp hz' with h | h
            · exact hwo z' h
            · obtain rfl := List.mem_singleton.mp h
              exact oz
  · rintro σ H' ⟨g6, g7, rfl, b1, w1, ws, hws, hwl, hw0, hwo⟩
    have hwm : ws.length = m := by omega
    refine ⟨_, rfl, _, rfl, (by show 1 ≤ sizeLine; decide), fun t ht => ?_⟩
    have s2 := same_new ht (.lst [V.int y])
    refine ⟨L, t, _, _, rfl, rfl, s2 _ _ hws, upd_same, ?_, fun p hp => ?_⟩
    · rw [List.length_map]
      exact Nat.le_trans (show ws.length + 1 ≤ 1000 by omega) (by decide)
    have s3 := same_new hp (.lst (ws.map V.int ++ [V.int y]))
    have s23 := s2.trans s3
    have w3 := w1.same s23
    have hpn : H p = none := none_of_but b1 (Ne.symm ((w1.same s2).ne hp)) (none_of_same s2 hp)
    refine q p (ws ++ [y]) _ (b1.trans (.same s23)) hpn (by rw [upd_same, List.map_append]; rfl) (w3.up (by omega)) (by rw [List.length_append, hwm]; rfl) ?_ ?_ fun z hz => ?_
    · rw [getD_left (by omega)]
      exact hw0
    · rw [← hwm]
      exact getD_mid
    · rcases List.mem_append.mp hz with h | h
      · exact hwo z h
      · obtain rfl := List.mem_singleton.mp h
        exact hy
end
end TA

set_option Elab.async false
set_option maxRecDepth 100000
set_option maxHeartbeats 4000000
namespace TA
open PySem L2 PyProof.Rows
set_option linter.unusedVariables false
/-- a heap seen at some places alone -/
def vw (p : Addr → Bool) (H : Hp) : Hp := fun b => if p b = true then H b else none
theorem vw_some {p : Addr → Bool} {H : Hp} {b : Addr} {o : HO} (h : vw p H b = some o) : p b = true ∧ H b = some o := by
  unfold vw at h
  split at h
  · rename_i c; exact ⟨c, h⟩
  · cases h
theorem vw_put {p : Addr → Bool} {H : Hp} {b : Addr} {o : HO} (c : p b = true) (h : H b = some o) : vw p H b = some o := by
  unfold vw
  rw [if_pos c, h]
theorem vw_kp {p : Addr → Bool} {H : Hp} : Kp (vw p H) H := fun b o _ h => (vw_some h).2
theorem vw_mono {p q : Addr → Bool} {H H' : Hp} (s : ∀ b o, p b = true → flatO o → H b = some o → q b = true ∧ H' b = some o) : Kp (vw p H) (vw q H') := fun b o f h => by
  obtain ⟨h1, h2⟩ := vw_some h
  obtain ⟨h3, h4⟩ := s b o h1 f h2
  exact vw_put h3 h4
/-- all but a -/
def pA (a : Addr) : Addr → Bool := fun b => decide (b ≠ a)
theorem pA_ok {a b : Addr} : pA a b = true ↔ b ≠ a := decide_eq_true_iff
theorem vwA_but {a : Addr} {H H' : Hp} (s : But a H H') : Kp (vw (pA a) H) (vw (pA a) H') := vw_mono fun b o h _ e => ⟨h, s b o (pA_ok.mp h) e⟩
theorem vwA_put {a d : Addr} {H : Hp} {k : List (List Key × V)} {o : HO} (e : H d = some (.dT k)) : Kp (vw (pA a) H) (vw (pA a) (upd H d o)) := vw_mono fun b u h f g => ⟨h, Kp.put e nf_dT b u f g⟩
theorem two_ints {rs : List (List Int)} (h : rs.length = 2) : rs = [rs.getD 0 [], rs.getD 1 []] := by
  match rs, h with
  | [x, y], _ => rfl
def But2 (a c : Addr) (H H' : Hp) : Prop := ∀ b o, b ≠ a → b ≠ c → H b = some o → H' b = some o
theorem But2.trans {a c : Addr} {H H1 H2 : Hp} (h : But2 a c H H1) (g : But2 a c H1 H2) : But2 a c H H2 := fun b o n m e => g b o n m (h b o n m e)
theorem But2.l {a c : Addr} {H H' : Hp} (s : But a H H') : But2 a c H H' := fun b o n _ e => s b o n e
theorem But2.r {a c : Addr} {H H' : Hp} (s : But c H H') : But2 a c H H' := fun b o _ n e => s b o n e
theorem But2.s {a c : Addr} {H H' : Hp} (s : Same H H') : But2 a c H H' := fun b o _ _ e => s b o e
theorem A2.mapR {α β γ : Type} {R : α → β → Prop} {S : α → γ → Prop} (f : β → γ) : ∀ {xs : List α} {ys : List β}, A2 R xs ys → (∀ x y, y ∈ ys → R x y → S x (f y)) → A2 S xs (ys.map f)
  | _, _, .nil, _ => .nil
  | _, _, .cons a b, h => .cons (h _ _ List.mem_cons_self a) (b.mapR f fun x y m r => h x y (List.mem_cons_of_mem _ m) r)
theorem wk_of : ∀ (ps : List (EB × List Int)), (ps.map (·.1)).Nodup → ∃ wk : EB → List Int, ∀ p ∈ ps, wk p.1 = p.2
  | [], _ => ⟨fun _ => [], fun p h => nomatch h⟩
  | p :: ps, h => by
    rw [List.map_cons, List.nodup_cons] at h
    obtain ⟨wk, hw⟩ := wk_of ps h.2
    refine ⟨fun e => if e = p.1 then p.2 else wk e, fun q hq => ?_⟩
    rcases List.mem_cons.mp hq with rfl | hq
    · exact if_pos rfl
    · have : ¬ q.1 = p.1 := fun c => h.1 (c ▸ List.mem_map.mpr ⟨q, hq, rfl⟩)
      show (if q.1 = p.1 then p.2 else wk q.1) = q.2
      rw [if_neg this]
      exact hw q hq
theorem take_neP {bo : BD} (s : (bo.map (·.1)).Pairwise (· ≠ ·)) {j : Nat} {e : IP × List (Int × Int)} (hj : bo[j]? = some e) : ∀ x ∈ bo.take j, x.1 ≠ e.1 := by
  intro x hx
  obtain ⟨k, hk⟩ := List.getElem?_of_mem hx
  have hk1 : k < j ∧ k < bo.length := by
    have := (List.getElem?_eq_some_iff.mp hk).1
    rw [List.length_take] at this
    omega
  obtain ⟨hjl, rfl⟩ := List.getElem?_eq_some_iff.mp hj
  rw [List.getElem?_take_of_lt hk1.1, List.getElem?_eq_getElem hk1.2] at hk
  injection hk with hk
  subst hk
  have := List.pairwise_iff_getElem.mp s k j (by rw [List.length_map]; exact hk1.2) (by rw [List.length_map]; exact hjl) hk1.1
  rw [List.getElem_map, List.getElem_map] at this
  exact this
/-- parts of a task, as the law has them -/
structure PartsV (a : Addr) (H : Hp) (al d : Addr) (T : TD) : Prop where
  al : AlAt (vw (pA a) H) (.ref al) T.al
  bo : ∃ kvs, H d = some (.dT kvs) ∧ A2 (EnAt (vw (pA a) H)) kvs T.bo
/-- a scheme, as the law makes it -/
structure SchV (a : Addr) (H : Hp) (t : Addr) (T : TD) (r : Nat) (ch : Nat → List Int) (wk : EB → List Int) (al wd : Addr) (kvs : List (List Key × V)) : Prop where
  ht : H t = some (.tup [.int (r : Int), .ref al, .ref wd])
  hal : RowsAt (vw (pA a) H) (.ref al) [ch 0, ch 1]
  hwd : H wd = some (.dT kvs)
  hwk : A2 (WkAt (vw (pA a) H) wk) kvs T.bo
  len : ∀ h, h < 2 → (ch h).length = (T.al h).length
  outc : ∀ h, h < 2 → ∀ x ∈ ch h, okOut x
  wlen : ∀ e ∈ T.bo, (wk e).length = 3 ^ r + 1
  wout : ∀ e ∈ T.bo, ∀ x ∈ wk e, okOut x
  w0 : ∀ e ∈ T.bo, (wk e).getD 0 0 = (ch 0).getD e.1.1 0
  w1 : ∀ e ∈ T.bo, (wk e).getD (3 ^ r) 0 = (ch 1).getD e.1.2 0
def spScheme : Sp := fun vs H Q _ => ∃ (a al d : Addr) (n : Int) (T : TD) (r : Nat), vs = [.ref a, .ref al, .ref d, .int (r : Int)] ∧ WellAt H a n ∧ 0 ≤ n ∧ n < 800000 ∧ PartsV a H al d T ∧ WF T ∧ r ≤ 5 ∧
  ∀ (t cal wd : Addr) (ch : Nat → List Int) (wk : EB → List Int) (kvs : List (List Key × V)) (H' : Hp), But a H H' → H t = none → H cal = none → H wd = none → SchV a H' t T r ch wk cal wd kvs → WellAt H' a (n + 40000) → (∀ kv ∈ kvs, ∃ p, kv.2 = .ref p ∧ H p = none) → Q (.ref t) H'
section
variable {P : Program} {w : World} {K : PySem.W.Frag} {mg : Str → Option Value} {base : Heap}
abbrev nSc : List Str := ["_law_state", "_law_alone", "_law_both", "_law_rounds", "_law_chosen", "_law_walks", "_law_a", "_law_b", "_law_last", "_law_row", "_law_rows"]
theorem sc_sc : FnScope nSc ["_law_state", "_law_alone", "_law_both", "_law_rounds"] (defScope s__law_scheme) := ⟨rfl, rfl, rfl, by decide +kernel, rfl, by decide +kernel, by decide +kernel⟩
theorem ok_sc {f g2 g3 : Addr} {fd d2 d3 : FuncData} (F : Fun K "_law_scheme" "_law_scheme" s__law_scheme f fd) (T : Txt K mg) (Of : Def P w K mg base "_law_of" nOf 2 (spOf K) g2 d2) (Wk : Def P w K mg base "_law_walk" ["_law_state", "_law_first", "_law_last", "_law_outs_here", "_law_many"] 3 spWalk g3 d3) : FnOk P w K mg base CX0 4 f fd ["_law_state", "_law_alone", "_law_both", "_law_rounds"] spScheme := by
  refine F.ok sc_sc (fun vs H Q E h => ?_) (fun cdv A outer s H vs Q E hr h => ?_)
  · obtain ⟨a, al, d, n, D, r, rfl, _⟩ := h
    rfl
  obtain ⟨a, aa, d, n, D, r, rfl, hw, hn0, hn, ⟨hA, kvs0, hd, hE⟩, hW, hr5, q⟩ := h
  have nd := sc_sc.nd
  have hu := hu_of hr
  refine ⟨_, (pss_cons (ps_setLc (i := 4) (own := [("_law_rows", 10)]) (g := (gName 10)) (tt := tYes) (te := (tLc (iList K (tVar 10)) (gName 9) tYes (tCall (spOf K) [] E0 (tCons (tVar 0) (tCons (tVar 9) tNil))) [9])) rfl nd rfl rfl (sw_true rfl rfl rfl (by decide +kernel)) (pi_list (pv 1)) (blkOk_by (N := nSc) (sc := defScope s__law_scheme) (by decide +kernel)) (fun _ _ _ _ _ => (by exact (pg_name (i := 10) nd rfl (Or.inl rfl)))) (fun _ _ _ _ _ => pts_nil) (fun _ _ _ _ _ => (by exact (pe_lc (own := [("_law_row", 9)]) (g := (gName 9)) (tt := tYes) (te := (tCall (spOf K) [] E0 (tCons (tVar 0) (tCons (tVar 9) tNil)))) rfl nd (pi_list (pv 10)) (blkOk_by (N := nSc)  (by kernel_rfl)) (fun _ _ _ _ _ => (by exact (pg_name (i := 9) nd rfl (Or.inl rfl)))) (fun _ _ _ _ _ => pts_nil) (fun _ _ _ _ _ => (by exact (pe_call Of.G (hr.mono (by decide)) rfl Of.m Of.k Of.b .nil pass0 (pa_cons (pv 0) (pa_cons (pv 9) pa_nil)))))))))
    (pss_cons (ps_set (i := 5) nd rfl (Or.inl rfl) pe_dnewT)
    (pss_cons (ps_lock (ps_for PassesOwn.never (by rfl) (pi_keys (pv 2)) (pg_tup (by rfl) (pgs_cons (pg_name (i := 6) nd rfl (Or.inl rfl)) (pgs_cons (pg_name (i := 7) nd rfl (Or.inl rfl)) pgs_nil)))
      (pss_cons (ps_set (i := 8) nd rfl (Or.inl rfl) (pe_ix ix_tup (pe_tup (pa_cons pe_int (pa_cons pe_int (pa_cons pe_int (pa_cons pe_int (pa_cons pe_int (pa_cons pe_int pa_nil))))))) (pv 3) (fun _ _ => rfl)))
    (pss_one (ps_dput hu (pv 5) (pe_tup (pa_cons (pv 6) (pa_cons (pv 7) pa_nil))) (pe_call Wk.G (hr.mono (by decide)) rfl Wk.m Wk.k Wk.b .nil pass0 (pa_cons (pv 0) (pa_cons (pe_ix ix_list (pe_ix ix_list (pv 4) pe_int (fun _ _ => rfl)) (pv 6) (fun _ _ => rfl)) (pa_cons (pe_ix ix_list (pe_ix ix_list (pv 4) pe_int (fun _ _ => rfl)) (pv 7) (fun _ _ => rfl)) (pa_cons (pe_dget hu (pv 2) (pe_tup (pa_cons (pv 6) (pa_cons (pv 7) pa_nil))) (fun _ _ => rfl)) (pa_cons (pv 8) pa_nil)))))) rfl)))))
    (pss_one (ps_ret (pe_tup (pa_cons (pv 3) (pa_cons (pv 4) (pa_cons (pv 5) pa_nil))))))))), ?_⟩
  obtain ⟨zw, ea⟩ := hw.lst
  obtain ⟨t, x0, x1, et, ht, hx0, hx1⟩ := id hA
  obtain rfl : aa = t := by injection et
  obtain ⟨taa, htt⟩ := vw_some ht
  have naa : aa ≠ a := pA_ok.mp taa
  have nda : d ≠ a := ne_of hd ea (fun z => by cases z)
  refine ⟨_, rfl, aa, rfl, ⟨_, SqL.of htt⟩, fun D1 hD1 => ?_⟩
  have s1 := same_new hD1 (.lst [])
  have haD1 : a ≠ D1 := hw.ne hD1
  let p1 : Addr → Bool := fun b => decide (b ≠ a ∧ b ≠ D1)
  have p1_ok : ∀ b, p1 b = true ↔ (b ≠ a ∧ b ≠ D1) := fun b => decide_eq_true_iff
  have hRows : ∀ i v, ([x0, x1] : List V)[i]? = some v → i < 2 ∧ RowsAt (vw (pA a) H) v (D.al i) := by
    intro i v hv
    match i, hv with
    | 0, hv => cases hv; exact ⟨by decide, hx0⟩
    | 1, hv => cases hv; exact ⟨by decide, hx1⟩
  refine list_turns (xs := [x0, x1]) (fun i H' => But a H H' ∧ WellAt H' a (n + 21 * (i : Int)) ∧ ∃ ys rs, H' D1 = some (.lst ys) ∧ A2 (RowAt (vw p1 H')) ys rs ∧ rs.length = i ∧ ∀ k rr, rs[k]? = some rr → rr.length = (D.al k).length ∧ ∀ x ∈ rr, okOut x) ⟨.same s1, ?_, [], [], upd_same, .nil, rfl, fun k rr e => by simp at e⟩ (fun i H' _ h => SqL.of (h.1 _ _ naa htt)) ?_ ?_
  · rw [show n + 21 * ((0 : Nat) : Int) = n by omega]
    exact hw.same s1
  · rintro i v H' hv ⟨b1, w1, ys, rs, hy, ay, hrl, hrr⟩
    obtain ⟨hi, t2, us0, rfl, ht2, hrow⟩ := hRows i v hv
    obtain ⟨nt2, ht2'⟩ := vw_some ht2
    have nt2 := pA_ok.mp nt2
    have hln := hW.n0 i hi
    have hul : us0.length = (D.al i).length := hrow.len
    refine ⟨rfl, _, rfl, t2, rfl, ⟨_, SqL.of (b1 _ _ nt2 ht2')⟩, fun D2 hD2 => ?_⟩
    have s2 := same_new hD2 (.lst [])
    have haD2 : a ≠ D2 := w1.ne hD2
    have hD12 : D1 ≠ D2 := ne_of_none hy hD2
    refine list_turns (xs := us0) (fun j H6 => But a H' H6 ∧ WellAt H6 a (n + 21 * (i : Int) + (j : Int)) ∧ ∃ rr : List Int, H6 D2 = some (.lst (rr.map V.int)) ∧ rr.length = j ∧ ∀ x ∈ rr, okOut x) ⟨.same s2, ?_, [], upd_same, rfl, fun r hr => nomatch hr⟩ (fun j H6 _ h => SqL.of (h.1 _ _ nt2 (b1 _ _ nt2 ht2'))) ?_ ?_
    · rw [show n + 21 * (i : Int) + ((0 : Nat) : Int) = n + 21 * (i : Int) by omega]
      exact w1.same s2
    · rintro j x H6 hx ⟨b6, w6, rr, hu6, hrl6, hin⟩
      obtain ⟨row, hrw, t3, rfl, ht3⟩ := hrow.get hx
      obtain ⟨nt3, ht3'⟩ := vw_some ht3
      have nt3 := pA_ok.mp nt3
      have ht36 := b6 _ _ nt3 (b1 _ _ nt3 ht3')
      have okr := hW.row i hi row (List.mem_of_getElem? hrw)
      have hjl : j < (D.al i).length := (List.getElem?_eq_some_iff.mp hrw).1
      have l1 := okr.1
      have l2 := okr.2.1
      refine ⟨rfl, _, rfl, _, rfl, a, t3, n + 21 * (i : Int) + (j : Int), row.map V.int, rfl, .inr w6, by omega, by omega, ht36, nt3, by rw [List.length_map]; omega, by rw [List.length_map]; omega, fun m y H7 hy7 b7 w7 => ?_⟩
      rw [List.getElem?_map] at hy7
      obtain ⟨y, hy1, rfl⟩ := Option.map_eq_some_iff.mp hy7
      have oy := okr.2.2.2 y (List.mem_of_getElem? hy1)
      have hD27 := b7 _ _ (Ne.symm haD2) hu6
      refine ⟨_, hD27, ?_, (b6.trans b7).new hD2, ?_, rr ++ [y], ?_, by rw [List.length_append, hrl6]; rfl, fun z hz => ?_⟩
      · rw [List.length_map, hrl6]
        exact Nat.lt_of_lt_of_le (show j < 100 by omega) (by decide)
      · rw [show n + 21 * (i : Int) + ((j + 1 : Nat) : Int) = n + 21 * (i : Int) + (j : Int) + 1 by omega]
        exact w7.but haD2 But.at
      · rw [upd_same, List.map_append]
        rfl
      · rcases List.mem_append.mp hz with h | h
        · exact hin z h
        · obtain rfl := List.mem_singleton.mp h
          exact oy
    · rintro H6 ⟨b6, w6, rr, hu6, hrl6, hin⟩
      have hy6 := b6 _ _ (Ne.symm haD1) hy
      refine ⟨ys, hy6, ?_, (b1.trans b6).new hD1, ?_, _, rs ++ [rr], upd_same, ?_, by rw [List.length_append, hrl]; rfl, fun k' rr' e => ?_⟩
      · rw [ay.len, hrl]
        exact Nat.lt_of_lt_of_le hi (by decide)
      · refine WellAt.up (n := n + 21 * (i : Int) + (us0.length : Int)) (w6.but haD1 But.at) ?_
        rw [hul]
        omega
      · refine A2.snoc (ay.imp fun _ _ r => r.mono (vw_mono fun b o h f e => ⟨h, ?_⟩)) ⟨D2, rfl, vw_put ((p1_ok D2).mpr ⟨Ne.symm haD2, Ne.symm hD12⟩) (by rw [upd_ne (Ne.symm hD12)]; exact hu6)⟩
        obtain ⟨z1, z2⟩ := (p1_ok b).mp h
        rw [upd_ne z2]
        exact b6 _ _ z1 e
      · by_cases c : k' < rs.length
        · rw [List.getElem?_append_left c] at e
          exact hrr k' rr' e
        · have c2 : k' = rs.length := by
            have := (List.getElem?_eq_some_iff.mp e).1
            rw [List.length_append] at this
            have e1 : ([rr] : List (List Int)).length = 1 := rfl
            omega
          subst c2
          rw [List.getElem?_append_right (Nat.le_refl _), Nat.sub_self] at e
          obtain rfl : rr = rr' := by simpa using e
          rw [hrl]
          exact ⟨by rw [hrl6, hul], hin⟩
  rintro H5 ⟨b5, w5, ys, rs, hy, ay, hrl, hrr⟩
  replace hrl : rs.length = 2 := hrl
  let ch : Nat → List Int := fun h => rs.getD h []
  have hrs : rs = [ch 0, ch 1] := two_ints hrl
  rw [hrs] at ay
  have hch : ∀ h, h < 2 → (ch h).length = (D.al h).length ∧ ∀ x ∈ ch h, okOut x := fun h hh => by
    refine hrr h (ch h) ?_
    show rs[h]? = some (rs.getD h [])
    rw [List.getD_eq_getElem?_getD, List.getElem?_eq_getElem (show h < rs.length by omega)]
    rfl
  clear hrr
  have w5 : WellAt H5 a (n + 42) := w5.up (by show n + 21 * ((2 : Nat) : Int) ≤ n + 42; omega)
  have hCh5 : RowsAt (vw (pA a) H5) (.ref D1) [ch 0, ch 1] := ⟨D1, ys, rfl, vw_put (pA_ok.mpr (Ne.symm haD1)) hy, ay.imp fun _ _ r => r.mono (vw_mono fun b o h f e => ⟨pA_ok.mpr ((p1_ok b).mp h).1, e⟩)⟩
  have hD1n : H D1 = none := hD1
  intro wd hwd
  have t0 := same_new hwd (.dT [])
  have hwdn : H wd = none := none_of_but b5 (Ne.symm (w5.ne hwd)) hwd
  have nawd : a ≠ wd := w5.ne hwd
  have w6 := w5.same t0
  have b6 : But a H (upd H5 wd (.dT [])) := b5.trans (.same t0)
  have e6 : (upd H5 wd (.dT [])) wd = some (.dT []) := upd_same
  have hCh6 := hCh5.mono (vwA_but (.same t0))
  generalize upd H5 wd (.dT []) = H6 at w6 b6 e6 hCh6 ⊢
  clear t0 hwd hCh5 w5 ay hy b5
  have hd6 := b6 _ _ nda hd
  have hE6 := hE.imp fun _ _ r => EnAt.mono (vwA_but b6) r
  refine ⟨d, _, hd6, trivial, fun od => ?_⟩
  have ndw : d ≠ wd := fun c => by subst c; rw [hwdn] at hd; cases hd
  have hl : (upd H6 d (.frz od (.dT kvs0))) d = some (.frz od (.dT kvs0)) := upd_same
  have w7 := w6.but (Ne.symm nda) (But.at (a := d) (o := .frz od (.dT kvs0)))
  have e7 : (upd H6 d (.frz od (.dT kvs0))) wd = some (.dT []) := by rw [upd_ne (Ne.symm ndw)]; exact e6
  have hCh7 : RowsAt (vw (pA a) (upd H6 d (.frz od (.dT kvs0)))) (.ref D1) [ch 0, ch 1] := hCh6.mono (vwA_put hd6)
  have hE7 : A2 (EnAt (vw (pA a) (upd H6 d (.frz od (.dT kvs0))))) kvs0 D.bo := hE6.imp fun _ _ r => EnAt.mono (vwA_put hd6) r
  have b67 : But d H6 (upd H6 d (.frz od (.dT kvs0))) := But.at
  generalize upd H6 d (.frz od (.dT kvs0)) = H7 at hl w7 e7 hCh7 hE7 b67 ⊢
  have hmny := hW.many
  refine ⟨_, rfl, d, od, rfl, .inr ⟨kvs0, hl, ?_⟩⟩
  have p3 : 3 ^ r ≤ 243 := pow_le hr5
  have p3' : 1 ≤ 3 ^ r := Nat.one_le_pow _ _ (by decide)
  obtain ⟨tc, xc, etc, htc, arc⟩ := id hCh7
  obtain rfl : D1 = tc := by injection etc
  obtain ⟨_, htc'⟩ := vw_some htc
  have nD1w : D1 ≠ wd := ne_of htc' e7 (fun z => by cases z)
  refine forT_turns (kvs := kvs0) (fun i σ H' => ∃ g6 g7 g8, σ = [some (.ref a), some (.ref aa), some (.ref d), some (.int (r : Int)), some (.ref D1), some (.ref wd), g6, g7, g8, none, none] ∧ But2 a wd H7 H' ∧ WellAt H' a (n + 42 + 243 * (i : Int)) ∧ ∃ (kws : List (List Key × V)) (ps : List (EB × List Int)), H' wd = some (.dT kws) ∧ A2 (fun kv (p : EB × List Int) => kv.1 = kI p.1.1 ∧ RowAt (vw (pA a) H') kv.2 p.2) kws ps ∧ ps.map (·.1) = D.bo.take i ∧ (∀ p ∈ ps, p.2.length = 3 ^ r + 1 ∧ (∀ x ∈ p.2, okOut x) ∧ p.2.getD 0 0 = chO ch 0 p.1.1 ∧ p.2.getD (3 ^ r) 0 = chO ch 1 p.1.1) ∧ ∀ kv ∈ kws, ∃ p, kv.2 = .ref p ∧ H p = none) ⟨_, _, _, rfl, fun b o _ _ e => e, (by rw [show n + 42 + 243 * ((0 : Nat) : Int) = n + 42 by omega]; exact w7), [], [], e7, .nil, rfl, fun p hp => (nomatch hp), fun kv h => (nomatch h)⟩ (fun i σ H' ⟨_, _, _, _, b, _⟩ => b _ _ nda ndw hl) ?_ ?_
  · rintro i k v qa σ H' hi hq ⟨g6, g7, g8, rfl, b2, w8, kws, ps, hk, hps, hpm, hpp, hfr⟩
    obtain ⟨e, hbe, ek, hlet⟩ := hE7.get hi
    dsimp only at ek hlet
    subst ek
    have hem := List.mem_of_getElem? hbe
    have hil : i < D.bo.length := (List.getElem?_eq_some_iff.mp hbe).1
    obtain ⟨zw8, ea8⟩ := w8.lst
    have lst_w : ∀ {b : Addr} {zs : List V}, H7 b = some (.lst zs) → b ≠ wd := fun h c => by subst c; rw [e7] at h; cases h
    have kp2 : ∀ {b : Addr} {zs : List V}, b ≠ a → H7 b = some (.lst zs) → H' b = some (.lst zs) := fun n h => b2 _ _ n (lst_w h) h
    have rowsAt : ∀ h, h < 2 → ∃ rr, xc[h]? = some (.ref rr) ∧ H' rr = some (.lst ((ch h).map .int)) ∧ rr ≠ a ∧ ((ch h).map V.int)[sel h e.1]? = some (.int (chO ch h e.1)) ∧ okOut (chO ch h e.1) := fun h hh => by
      obtain ⟨x, hx, rr, rfl, hrow⟩ := arc.at (i := h) (y := ch h) (by
        obtain rfl | rfl : h = 0 ∨ h = 1 := by omega
        · rfl
        · rfl)
      obtain ⟨nr, hrow⟩ := vw_some hrow
      obtain ⟨rg0, rg1⟩ := hW.rng e hem
      have hsl : sel h e.1 < (ch h).length := by
        rw [(hch h hh).1]
        obtain rfl | rfl : h = 0 ∨ h = 1 := by omega
        · exact rg0
        · exact rg1
      have e1 : chO ch h e.1 = (ch h)[sel h e.1] := by
        unfold chO
        rw [List.getD_eq_getElem?_getD, List.getElem?_eq_getElem hsl]
        rfl
      refine ⟨rr, hx, kp2 (pA_ok.mp nr) hrow, pA_ok.mp nr, ?_, ?_⟩
      · rw [e1, List.getElem?_map, List.getElem?_eq_getElem hsl]
        rfl
      · rw [e1]
        exact (hch h hh).2 _ (List.getElem_mem hsl)
    obtain ⟨r0, a0, c0, _, f0, o0⟩ := rowsAt 0 (by decide)
    obtain ⟨r1, a1, c1, _, f1, o1⟩ := rowsAt 1 (by decide)
    have hD1' : H' D1 = some (.lst xc) := kp2 (Ne.symm haD1) htc'
    obtain ⟨v2, hvd, hlet⟩ := val_at hE7 hW.srt e hem
    obtain ⟨lt, lxs, rfl, hlt, hlx⟩ := hlet
    obtain ⟨nlt, hlt7⟩ := vw_some hlt
    have nlt := pA_ok.mp nlt
    have hlt' := kp2 nlt hlt7
    have tpk : ∀ {u p}, TpAt (vw (pA a) H7) u p → TpAt H' u p := fun h => by
      obtain ⟨t, rfl, ht⟩ := h
      obtain ⟨nt, ht⟩ := vw_some ht
      exact ⟨t, rfl, b2 _ _ (pA_ok.mp nt) (fun c => by subst c; rw [e7] at ht; cases ht) ht⟩
    have hlx' : A2 (TpAt H') lxs e.2 := hlx.imp fun _ _ r => tpk r
    have hq' : H' qa = some (.tup [V.int (e.1.1 : Int), V.int (e.1.2 : Int)]) := hq
    refine ⟨qa, _, rfl, SqT.of hq', rfl, _, _, rfl, _, _, rfl, rfl, ?_⟩
    refine ⟨(by show 6 ≤ sizeLine; decide), fun tt htt => ⟨_, rfl, tt, _, _, _, rfl, rfl, SqT.of upd_same, atI_nat (last_at hr5), ?_⟩⟩
    have st := same_new htt (.tup [V.int 1, .int 3, .int 9, .int 27, .int 81, .int 243])
    refine ⟨_, rfl, _, rfl, D1, _, _, _, rfl, rfl, SqL.of (st _ _ hD1'), atI_nat (j := 0) a0, _, rfl, r0, _, _, _, rfl, rfl, SqL.of (st _ _ c0), atI_nat f0, _, rfl, D1, _, _, _, rfl, rfl, SqL.of (st _ _ hD1'), atI_nat (j := 1) a1, _, rfl, r1, _, _, _, rfl, rfl, SqL.of (st _ _ c1), atI_nat f1, _, rfl, _, rfl, _, rfl, (by show 2 ≤ sizeLine; decide), fun t2 ht2 => ?_⟩
    have s2 := same_new ht2 (.tup [V.int (e.1.1 : Int), V.int (e.1.2 : Int)])
    have hd' := b2 _ _ nda ndw hl
    have st2 := st.trans s2
    refine ⟨d, .ref lt, rfl, hvd ▸ dget_rd (k := kI e.1) (.inr ⟨od, st2 _ _ hd'⟩) upd_same, _, rfl, ?_⟩
    refine ⟨a, lt, _, _, _, 3 ^ r, lxs, e.2, rfl, w8.same st2, by omega, by omega, st2 _ _ hlt', nlt, hlx'.imp fun _ _ r => r.mono (.same st2), hW.lets e hem, o0, o1, p3', p3, fun p ws H8 b8 hpn hp8 w9 wl wl0 wl1 wo => ?_⟩
    have hk2 := st2 _ _ hk
    have hk8 := b8 _ _ (Ne.symm nawd) hk2
    refine ⟨_, rfl, _, rfl, _, rfl, (by show 2 ≤ sizeLine; decide), fun t3 ht3 => ?_⟩
    have s3 := same_new ht3 (.tup [V.int (e.1.1 : Int), V.int (e.1.2 : Int)])
    have hvn : valV kws (kI e.1) = none := valV_noneP fun z hz c => by
      obtain ⟨y, hy1, hy2, _⟩ := hps.mem hz
      rw [hy2] at c
      have hm : y.1 ∈ D.bo.take i := by
        rw [← hpm]
        exact List.mem_map.mpr ⟨y, hy1, rfl⟩
      exact take_neP hW.srt hbe y.1 hm (kI_inj c)
    have hpl : ps.length = i := by
      have := congrArg List.length hpm
      rw [List.length_map, List.length_take] at this
      omega
    have hkl : kws.length ≤ 100 := by rw [hps.len, hpl]; omega
    refine ⟨wd, _, rfl, DPut.t (k := kI e.1) (s3 _ _ hk8) upd_same (Nat.lt_of_le_of_lt hkl (by decide)), ?_⟩
    rw [putK_new _ hvn]
    have npa : p ≠ a := ((w8.same st2).ne hpn).symm
    have npw : p ≠ wd := fun c => by subst c; rw [hk2] at hpn; cases hpn
    have hk9 := s3 _ _ hk8
    have bA : But a H' (upd H8 t3 (.tup [V.int (e.1.1 : Int), V.int (e.1.2 : Int)])) := ((But.same st2).trans b8).trans (.same s3)
    have hp9 := s3 _ _ hp8
    have w9' := w9.same s3
    generalize upd H8 t3 (.tup [V.int (e.1.1 : Int), V.int (e.1.2 : Int)]) = H9 at hk9 bA hp9 w9' ⊢
    have b9 : But2 a wd H' (upd H9 wd (.dT (kws ++ [(kI e.1, V.ref p)]))) := (But2.l bA).trans (.r But.at)
    refine ⟨_, _, _, rfl, b2.trans b9, (w9'.but nawd But.at).up (by omega), kws ++ [(kI e.1, V.ref p)], ps ++ [(e, ws)], upd_same, ?_, ?_, fun z hz => ?_, fun kv hkv => ?_⟩
    · refine A2.snoc (hps.imp fun _ _ r => ⟨r.1, r.2.mono ((vwA_but bA).trans (vwA_put hk9))⟩) ⟨rfl, p, rfl, vw_put (pA_ok.mpr npa) (by rw [upd_ne npw]; exact hp9)⟩
    · rw [List.map_append, hpm, take_get hbe]
      rfl
    · rcases List.mem_append.mp hz with h | h
      · exact hpp z h
      · obtain rfl := List.mem_singleton.mp h
        exact ⟨wl, wo, wl0, wl1⟩
    · rcases List.mem_append.mp hkv with h | h
      · exact hfr kv h
      · obtain rfl := List.mem_singleton.mp h
        refine ⟨p, rfl, ?_⟩
        cases zz : H p with
        | none => rfl
        | some o =>
          have npd : p ≠ d := fun c => by
            subst c
            rw [st2 _ _ hd'] at hpn
            cases hpn
          have := st2 _ _ (b2 _ _ npa npw (b67 _ _ npd (b6 _ _ npa zz)))
          rw [this] at hpn
          cases hpn
  · rintro σ H' ⟨g6, g7, g8, rfl, b2, w8, kws, ps, hk, hps, hpm, hpp, hfr⟩
    have hd' := b2 _ _ nda ndw hl
    rw [hE7.len, List.take_length] at hpm
    have hnd : (ps.map (·.1)).Nodup := by
      rw [hpm]
      exact List.Pairwise.of_map (·.1) (fun x y h c => h (by rw [c])) hW.srt
    obtain ⟨wk, hwk⟩ := wk_of ps hnd
    have bu : But d H' (upd H' d (.dT kvs0)) := But.at
    have eu : (upd H' d (.dT kvs0)) d = some (.dT kvs0) := upd_same
    refine ⟨hd', _, rfl, _, rfl, _, rfl, (by show 3 ≤ sizeLine; decide), fun t ht => ?_⟩
    have w9 := (w8.but (Ne.symm nda) bu)
    generalize upd H' d (.dT kvs0) = H9 at bu eu w9 ht ⊢
    have s3 := same_new ht (.tup [V.int (r : Int), V.ref D1, V.ref wd])
    have bAll : ∀ b o, b ≠ a → b ≠ wd → b ≠ d → H7 b = some o → (upd H9 t (.tup [V.int (r : Int), V.ref D1, V.ref wd])) b = some o := fun b o n1 n2 n3 e => s3 _ _ (bu _ _ n3 (b2 _ _ n1 n2 e))
    have bH : But a H (upd H9 t (.tup [V.int (r : Int), V.ref D1, V.ref wd])) := fun b o n e => by
      by_cases c : b = d
      · subst c
        rw [hd] at e
        injection e with e
        subst e
        exact s3 _ _ eu
      · have n2 : b ≠ wd := fun c => by subst c; rw [hwdn] at e; cases e
        exact bAll _ _ n n2 c (b67 _ _ c (b6 _ _ n e))
    have htn : H t = none := by
      cases z : H t with
      | none => rfl
      | some o =>
        have : t ≠ a := (w9.ne ht).symm
        by_cases c : t = d
        · subst c; rw [eu] at ht; cases ht
        · have n2 : t ≠ wd := fun c => by subst c; rw [hwdn] at z; cases z
          have := bu _ _ c (b2 _ _ this n2 (b67 _ _ c (b6 _ _ this z)))
          rw [this] at ht
          cases ht
    have kpF : Kp (vw (pA a) H7) (vw (pA a) (upd H9 t (.tup [V.int (r : Int), V.ref D1, V.ref wd]))) := vw_mono fun b o h f e => ⟨h, bAll _ _ (pA_ok.mp h) (fun c => by subst c; rw [e7] at e; injection e with e; subst e; exact nf_dT f) (fun c => by subst c; rw [hl] at e; injection e with e; subst e; exact nf_frz f) e⟩
    have hk9 := bu _ _ (Ne.symm ndw) hk
    refine q t D1 wd ch wk kws _ bH htn hD1n hwdn ⟨upd_same, hCh7.mono kpF, s3 _ _ hk9, ?_, fun h hh => (hch h hh).1, fun h hh => (hch h hh).2, fun e he => ?_, fun e he => ?_, fun e he => ?_, fun e he => ?_⟩ ((w9.same s3).up (by rw [hE7.len]; omega)) hfr
    · have kp9 : Kp (vw (pA a) H') (vw (pA a) (upd H9 t (.tup [V.int (r : Int), V.ref D1, V.ref wd]))) := vw_mono fun b o h f e => ⟨h, s3 _ _ (bu _ _ (fun c => by subst c; rw [hd'] at e; injection e with e; subst e; exact nf_frz f) e)⟩
      have := hps.mapR (S := WkAt (vw (pA a) (upd H9 t (.tup [V.int (r : Int), V.ref D1, V.ref wd]))) wk) (·.1) fun x y m r => ⟨r.1, by rw [hwk y m]; exact r.2.mono kp9⟩
      rw [hpm] at this
      exact this
    all_goals
      rw [← hpm] at he
      obtain ⟨p, hp, rfl⟩ := List.mem_map.mp he
      rw [hwk p hp]
      obtain ⟨z1, z2, z3, z4⟩ := hpp p hp
    · exact z1
    · exact z2
    · exact z3
    · exact z4
end
end TA

set_option Elab.async false
set_option maxRecDepth 100000
set_option maxHeartbeats 4000000
namespace TA
open PySem L2 PyProof.Rows
set_option linter.unusedVariables false
def putB (bo : BD) (p : IP) (l : List (Int × Int)) : BD := if (bo.any fun e => decide (e.1 = p)) = true then bo.map (fun e => if e.1 = p then (e.1, l) else e) else bo ++ [(p, l)]
theorem any_key {G : Hp} {p : IP} : ∀ {kvs : List (List Key × V)} {bo : BD}, A2 (EnAt G) kvs bo → (kvs.any fun kv => decide (kv.1 = kI p)) = (bo.any fun e => decide (e.1 = p))
  | _, _, .nil => rfl
  | kv :: kvs, e :: bo, .cons a r => by
    rw [List.any_cons, List.any_cons, any_key r]
    have : decide (kv.1 = kI p) = decide (e.1 = p) := by
      rw [a.1]
      by_cases c : e.1 = p
      · rw [c, decide_eq_true rfl, decide_eq_true rfl]
      · rw [decide_eq_false (fun z => c (kI_inj z)), decide_eq_false c]
    rw [this]
theorem map_key {G : Hp} {p : IP} {v : V} {l : List (Int × Int)} (h : LetAt G v l) : ∀ {kvs : List (List Key × V)} {bo : BD}, A2 (EnAt G) kvs bo → A2 (EnAt G) (kvs.map fun kv => if kv.1 = kI p then (kv.1, v) else kv) (bo.map fun e => if e.1 = p then (e.1, l) else e)
  | _, _, .nil => .nil
  | kv :: kvs, e :: bo, .cons a r => by
    refine .cons ?_ (map_key h r)
    show EnAt G (if kv.1 = kI p then (kv.1, v) else kv) (if e.1 = p then (e.1, l) else e)
    by_cases c : e.1 = p
    · rw [if_pos c, if_pos (by rw [a.1, c])]
      exact ⟨a.1, h⟩
    · rw [if_neg c, if_neg (fun z => c (kI_inj (a.1.symm.trans z)))]
      exact a
theorem en_put {G : Hp} {p : IP} {v : V} {l : List (Int × Int)} {kvs : List (List Key × V)} {bo : BD} (a : A2 (EnAt G) kvs bo) (h : LetAt G v l) : A2 (EnAt G) (putK kvs (kI p) v) (putB bo p l) := by
  unfold putK putB
  rw [any_key a]
  split
  · exact map_key h a
  · exact A2.snoc a ⟨rfl, h⟩
theorem putB_keys (bo : BD) (p : IP) (l : List (Int × Int)) : (putB bo p l).map (·.1) = if p ∈ bo.map (·.1) then bo.map (·.1) else bo.map (·.1) ++ [p] := by
  have e : (bo.any fun e => decide (e.1 = p)) = decide (p ∈ bo.map (·.1)) := by
    by_cases c : p ∈ bo.map (·.1)
    · rw [decide_eq_true c, List.any_eq_true]
      obtain ⟨e, he, e1⟩ := List.mem_map.mp c
      exact ⟨e, he, decide_eq_true e1⟩
    · rw [decide_eq_false c, List.any_eq_false]
      intro x hx z
      exact c (List.mem_map.mpr ⟨x, hx, of_decide_eq_true z⟩)
  unfold putB
  rw [e]
  by_cases c : p ∈ bo.map (·.1)
  · rw [if_pos (decide_eq_true c), if_pos c, List.map_map]
    refine List.map_congr_left fun x _ => ?_
    show (if x.1 = p then (x.1, l) else x).1 = x.1
    split <;> rfl
  · rw [if_neg (by rw [decide_eq_false c]; decide), if_neg c, List.map_append]
    rfl
theorem putB_lets {bo : BD} {p : IP} {l : List (Int × Int)} (h : ∀ e ∈ bo, okLet e.2) (hl : okLet l) : ∀ e ∈ putB bo p l, okLet e.2 := by
  intro e he
  unfold putB at he
  split at he
  · obtain ⟨x, hx, rfl⟩ := List.mem_map.mp he
    split
    · exact hl
    · exact h x hx
  · rcases List.mem_append.mp he with z | z
    · exact h e z
    · obtain rfl := List.mem_singleton.mp z
      exact hl
theorem putB_len {bo : BD} {p : IP} {l : List (Int × Int)} : (putB bo p l).length ≤ bo.length + 1 := by
  unfold putB
  split
  · rw [List.length_map]
    omega
  · rw [List.length_append]
    exact Nat.le_refl _
theorem two_list {rs : List (List (List Int))} (h : rs.length = 2) : rs = [rs.getD 0 [], rs.getD 1 []] := by
  match rs, h with
  | [x, y], _ => rfl
theorem Dr.same {H H' : Hp} {a : Addr} {n : Int} (s : Same H H') (h : Dr H a n) : Dr H' a n := by
  rcases h with ⟨x, e⟩ | e
  · exact .inl ⟨x, s _ _ e⟩
  · exact .inr (e.same s)
theorem Dr.ne {H : Hp} {a b : Addr} {n : Int} (h : Dr H a n) (e : H b = none) : a ≠ b := by
  rcases h with ⟨x, h⟩ | h
  · exact ne_of_none h e
  · exact h.ne e
def gs : List (List Int) := [[0, 1], [0, 1, 2], [0, 1, 2], [3, 9, 10, 63], [0, 1, 2, 3, 4, 5]]
theorem gs_ok : ∀ g ∈ gs, okG g := by
  intro g hg
  have : (1 ≤ g.length ∧ g.length ≤ 10) ∧ ∀ x ∈ g, 0 ≤ x ∧ x ≤ 63 := by
    revert g
    decide
  exact ⟨this.1.1, this.1.2, this.2⟩
/-- what the pairs of a task are made of: so many pairs, in range, all inputs come -/
structure PairsL (H : Hp) (Lp : Addr) (n0 n1 : Nat) (ips : List IP) : Prop where
  at_ : ∃ qs, H Lp = some (.lst qs) ∧ A2 (fun v p => TpAt H v (iI p)) qs ips
  rng : ∀ p ∈ ips, p.1 < n0 ∧ p.2 < n1
theorem PairsL.but {H H' : Hp} {Lp d n0 n1 ips} {zs : List V} (h : PairsL H Lp n0 n1 ips) (e : H d = some (.lst zs)) (n : Lp ≠ d) (b : But d H H') : PairsL H' Lp n0 n1 ips := by
  obtain ⟨⟨qs, h1, h2⟩, r⟩ := h
  exact ⟨⟨qs, b _ _ n h1, h2.imp fun _ _ z => z.but e b⟩, r⟩
theorem PairsL.same {H H' : Hp} {Lp n0 n1 ips} (h : PairsL H Lp n0 n1 ips) (b : Same H H') : PairsL H' Lp n0 n1 ips := by
  obtain ⟨⟨qs, h1, h2⟩, r⟩ := h
  exact ⟨⟨qs, b _ _ h1, h2.imp fun _ _ z => z.mono (.same b)⟩, r⟩
theorem PairsL.put {H : Hp} {Lp t n0 n1 ips} {qs : List V} {p : IP} (h : PairsL H Lp n0 n1 ips) (e : H Lp = some (.lst qs)) (ht : H t = some (.tup [.int (p.1 : Int), .int (p.2 : Int)])) (r0 : p.1 < n0) (r1 : p.2 < n1) : PairsL (upd H Lp (.lst (qs ++ [.ref t]))) Lp n0 n1 (ips ++ [p]) := by
  obtain ⟨⟨qs', h1, h2⟩, r⟩ := h
  obtain rfl : qs = qs' := by rw [e] at h1; injection h1 with h1; injection h1
  refine ⟨⟨_, upd_same, A2.snoc (h2.imp fun _ _ z => z.but e But.at) (TpAt.but e But.at ⟨t, rfl, ht⟩)⟩, fun q hq => ?_⟩
  rcases List.mem_append.mp hq with z | z
  · exact r q z
  · obtain rfl := List.mem_singleton.mp z
    exact ⟨r0, r1⟩
theorem PairsL.len {H : Hp} {Lp n0 n1 ips} {qs : List V} (h : PairsL H Lp n0 n1 ips) (e : H Lp = some (.lst qs)) : qs.length = ips.length := by
  obtain ⟨⟨qs', h1, h2⟩, r⟩ := h
  obtain rfl : qs = qs' := by rw [e] at h1; injection h1 with h1; injection h1
  exact h2.len
def spParts : Sp := fun vs H Q _ => ∃ (a : Addr) (n m : Int), vs = [.ref a, .int m] ∧ Dr H a n ∧ 0 ≤ n ∧ n < 700000 ∧ 0 < m ∧ m ≤ 4 ∧
  ∀ (u al d r0 r1 : Addr) (T : TD) (H' : Hp), But a H H' → H u = none → H al = none → H d = none → H' u = some (.tup [.ref al, .ref d]) → PartsV a H' al d T → WF T → H' al = some (.lst [.ref r0, .ref r1]) → r0 ≠ r1 → WellAt H' a (n + 1000) → Q (.ref u) H'
section
variable {P : Program} {w : World} {K : PySem.W.Frag} {mg : Str → Option Value} {base : Heap}
abbrev nPa : List Str := ["_law_state", "_law_most", "_law_some", "_law_alone", "_law_hand", "_law_many", "_law_pairs", "_law_k", "_law_turn", "_law_both", "_law_pair", "_law_one"]
theorem sc_pa : FnScope nPa ["_law_state", "_law_most"] (defScope s__law_parts) := ⟨rfl, rfl, rfl, by decide +kernel, rfl, by decide +kernel, by decide +kernel⟩
theorem ok_pa {f g1 g2 g3 g4 : Addr} {fd d1 d2 d3 d4 : FuncData} (F : Fun K "_law_parts" "_law_parts" s__law_parts f fd) (T : Txt K mg) (T2 : Txt2 K mg) (Dg : Def P w K mg base "_law_digit" ["_law_state", "_law_base"] 1 spDigit g1 d1) (Of : Def P w K mg base "_law_of" nOf 2 (spOf K) g2 d2)
    (Rs : Def P w K mg base "_law_rising" ["_law_state", "_law_some", "_law_most"] 3 (spRising K) g3 d3) (Os : Def P w K mg base "_law_outs" ["_law_state", "_law_some", "_law_most"] 3 (spOutsL K) g4 d4) : FnOk P w K mg base CX0 4 f fd ["_law_state", "_law_most"] spParts := by
  refine F.ok sc_pa (fun vs H Q E h => ?_) (fun cdv A outer s H vs Q E hr h => ?_)
  · obtain ⟨a, n, m, rfl, _⟩ := h
    rfl
  obtain ⟨a, n, m, rfl, hD, hn0, hn, hm0, hm, q⟩ := h
  have nd := sc_pa.nd
  have hu := hu_of hr
  refine ⟨_, (pss_cons (ps_set (i := 2) nd rfl (Or.inr rfl) (pe_call Of.G (hr.mono (by decide)) rfl Of.m Of.k Of.b .nil pass0 (pa_cons (pv 0) (pa_cons (pe_lst (pa_cons (pe_lst (pa_cons pe_int (pa_cons pe_int pa_nil))) (pa_cons (pe_lst (pa_cons pe_int (pa_cons pe_int (pa_cons pe_int pa_nil)))) (pa_cons (pe_lst (pa_cons pe_int (pa_cons pe_int (pa_cons pe_int pa_nil)))) (pa_cons (pe_lst (pa_cons pe_int (pa_cons pe_int (pa_cons pe_int (pa_cons pe_int pa_nil))))) (pa_cons (pe_lst (pa_cons pe_int (pa_cons pe_int (pa_cons pe_int (pa_cons pe_int (pa_cons pe_int (pa_cons pe_int pa_nil))))))) pa_nil)))))) pa_nil))))
    (pss_cons (ps_set (i := 3) nd rfl (Or.inl rfl) (pe_lst pa_nil))
    (pss_cons (ps_for PassesOwn.never (by rfl) (pi_tup (pe_tup (pa_cons pe_int (pa_cons pe_int pa_nil)))) (pg_name (i := 4) nd rfl (Or.inl rfl))
      (pss_one (ps_expr (pe_bm PySem.F.plainAttrs_list PySem.F.slot_list_append PySem.F.type_list_append mt_append (pv 3) (pa_cons (pe_lc (own := [("_law_one", 11)]) (g := (gName 11)) (tt := tYes) (te := (tCall (spRising K) [] E0 (tCons (tVar 0) (tCons (tVar 2) (tCons (tC (.int 3)) tNil))))) rfl nd (pi_range1 (by rfl) T.range (pa_cons (pe_op op_add pe_int (pe_call Dg.G (hr.mono (by decide)) rfl Dg.m Dg.k Dg.b .nil pass0 (pa_cons (pv 0) (pa_cons (pv 1) pa_nil)))) pa_nil)) (blkOk_by (N := nPa) (sc := defScope s__law_parts) (by decide +kernel)) (fun _ _ _ _ _ => (by exact (pg_name (i := 11) nd rfl (Or.inl rfl)))) (fun _ _ _ _ _ => pts_nil) (fun _ _ _ _ _ => (by exact (pe_call Rs.G (hr.mono (by decide)) rfl Rs.m Rs.k Rs.b .nil pass0 (pa_cons (pv 0) (pa_cons (pv 2) (pa_cons pe_int pa_nil))))))) pa_nil)))))
    (pss_cons (ps_set (i := 5) nd rfl (Or.inl rfl) (pe_lst (pa_cons (pe_callB call_len_seq (by rfl) T.len PySem.boot_len (pa_cons (pe_ix ix_list (pv 3) pe_int (fun _ _ => rfl)) pa_nil)) (pa_cons (pe_callB call_len_seq (by rfl) T.len PySem.boot_len (pa_cons (pe_ix ix_list (pv 3) pe_int (fun _ _ => rfl)) pa_nil)) pa_nil))))
    (pss_cons (ps_set (i := 6) nd rfl (Or.inl rfl) (pe_lst pa_nil))
    (pss_cons (ps_for PassesOwn.never (by rfl) (pi_range1 (by rfl) T.range (pa_cons (pe_callB (cr_max rfl) (by rfl) T2.max (by decide +kernel) (pa_cons (pv 5) pa_nil)) pa_nil)) (pg_name (i := 7) nd rfl (Or.inl rfl))
      (pss_one (ps_expr (pe_bm PySem.F.plainAttrs_list PySem.F.slot_list_append PySem.F.type_list_append mt_append (pv 6) (pa_cons (pe_tup (pa_cons (pe_op op_mod (pv 7) (pe_ix ix_list (pv 5) pe_int (fun _ _ => rfl))) (pa_cons (pe_op op_mod (pv 7) (pe_ix ix_list (pv 5) pe_int (fun _ _ => rfl))) pa_nil))) pa_nil)))))
    (pss_cons (ps_for PassesOwn.never (by rfl) (pi_range1 (by rfl) T.range (pa_cons (pe_call Dg.G (hr.mono (by decide)) rfl Dg.m Dg.k Dg.b .nil pass0 (pa_cons (pv 0) (pa_cons pe_int pa_nil))) pa_nil)) (pg_name (i := 8) nd rfl (Or.inl rfl))
      (pss_one (ps_expr (pe_bm PySem.F.plainAttrs_list PySem.F.slot_list_append PySem.F.type_list_append mt_append (pv 6) (pa_cons (pe_tup (pa_cons (pe_call Dg.G (hr.mono (by decide)) rfl Dg.m Dg.k Dg.b .nil pass0 (pa_cons (pv 0) (pa_cons (pe_ix ix_list (pv 5) pe_int (fun _ _ => rfl)) pa_nil))) (pa_cons (pe_call Dg.G (hr.mono (by decide)) rfl Dg.m Dg.k Dg.b .nil pass0 (pa_cons (pv 0) (pa_cons (pe_ix ix_list (pv 5) pe_int (fun _ _ => rfl)) pa_nil))) pa_nil))) pa_nil)))))
    (pss_cons (ps_set (i := 9) nd rfl (Or.inl rfl) pe_dnewT)
    (pss_cons (ps_for PassesOwn.never (by rfl) (pi_list (pv 6)) (pg_name (i := 10) nd rfl (Or.inl rfl))
      (pss_one (ps_dput hu (pv 9) (pv 10) (pe_call Os.G (hr.mono (by decide)) rfl Os.m Os.k Os.b .nil pass0 (pa_cons (pv 0) (pa_cons (pv 2) (pa_cons pe_int pa_nil)))) rfl)))
    (pss_one (ps_ret (pe_tup (pa_cons (pv 3) (pa_cons (pv 9) pa_nil)))))))))))))), ?_⟩
  refine ⟨_, rfl, (by show 2 ≤ sizeLine; decide), fun l0 h0 => ?_⟩
  refine ⟨(by show 3 ≤ sizeLine; decide), fun l1 h1 => ?_⟩
  refine ⟨(by show 3 ≤ sizeLine; decide), fun l2 h2 => ?_⟩
  refine ⟨(by show 4 ≤ sizeLine; decide), fun l3 h3 => ?_⟩
  refine ⟨(by show 6 ≤ sizeLine; decide), fun l4 h4 => ?_⟩
  refine ⟨(by show 5 ≤ sizeLine; decide), fun L5 h5 => ?_⟩
  have e0 := same_new h0 (.lst [V.int 0, V.int 1])
  have e1 := same_new h1 (.lst [V.int 0, V.int 1, V.int 2])
  have e2 := same_new h2 (.lst [V.int 0, V.int 1, V.int 2])
  have e3 := same_new h3 (.lst [V.int 3, V.int 9, V.int 10, V.int 63])
  have e4 := same_new h4 (.lst [V.int 0, V.int 1, V.int 2, V.int 3, V.int 4, V.int 5])
  have e5 := same_new h5 (.lst [V.ref l0, V.ref l1, V.ref l2, V.ref l3, V.ref l4])
  have e05 := e0.trans (e1.trans (e2.trans (e3.trans (e4.trans e5))))
  have hD5 := hD.same e05
  have al0 := hD.ne h0
  have al1 := (hD.same e0).ne h1
  have al2 := (hD.same (e0.trans e1)).ne h2
  have al3 := (hD.same (e0.trans (e1.trans e2))).ne h3
  have al4 := (hD.same (e0.trans (e1.trans (e2.trans e3)))).ne h4
  have al5 := (hD.same (e0.trans (e1.trans (e2.trans (e3.trans e4))))).ne h5
  have lists : ∀ (i : Nat) (x : V), ([V.ref l0, V.ref l1, V.ref l2, V.ref l3, V.ref l4] : List V)[i]? = some x → ∃ l g, x = .ref l ∧ l ≠ a ∧ (upd (upd (upd (upd (upd (upd H l0 (.lst [V.int 0, V.int 1])) l1 (.lst [V.int 0, V.int 1, V.int 2])) l2 (.lst [V.int 0, V.int 1, V.int 2])) l3 (.lst [V.int 3, V.int 9, V.int 10, V.int 63])) l4 (.lst [V.int 0, V.int 1, V.int 2, V.int 3, V.int 4, V.int 5])) L5 (.lst [V.ref l0, V.ref l1, V.ref l2, V.ref l3, V.ref l4])) l = some (.lst (g.map V.int)) ∧ okG g := by
    intro i x hx
    match i, hx with
    | 0, hx => cases hx; exact ⟨l0, [0, 1], rfl, Ne.symm al0, (e1.trans (e2.trans (e3.trans (e4.trans e5)))) _ _ upd_same, gs_ok _ (by decide)⟩
    | 1, hx => cases hx; exact ⟨l1, [0, 1, 2], rfl, Ne.symm al1, (e2.trans (e3.trans (e4.trans e5))) _ _ upd_same, gs_ok _ (by decide)⟩
    | 2, hx => cases hx; exact ⟨l2, [0, 1, 2], rfl, Ne.symm al2, (e3.trans (e4.trans e5)) _ _ upd_same, gs_ok _ (by decide)⟩
    | 3, hx => cases hx; exact ⟨l3, [3, 9, 10, 63], rfl, Ne.symm al3, (e4.trans e5) _ _ upd_same, gs_ok _ (by decide)⟩
    | 4, hx => cases hx; exact ⟨l4, [0, 1, 2, 3, 4, 5], rfl, Ne.symm al4, e5 _ _ upd_same, gs_ok _ (by decide)⟩
  have eL5 : (upd (upd (upd (upd (upd (upd H l0 (.lst [V.int 0, V.int 1])) l1 (.lst [V.int 0, V.int 1, V.int 2])) l2 (.lst [V.int 0, V.int 1, V.int 2])) l3 (.lst [V.int 3, V.int 9, V.int 10, V.int 63])) l4 (.lst [V.int 0, V.int 1, V.int 2, V.int 3, V.int 4, V.int 5])) L5 (.lst [V.ref l0, V.ref l1, V.ref l2, V.ref l3, V.ref l4])) L5 = some (.lst [V.ref l0, V.ref l1, V.ref l2, V.ref l3, V.ref l4]) := upd_same
  generalize (upd (upd (upd (upd (upd (upd H l0 (.lst [V.int 0, V.int 1])) l1 (.lst [V.int 0, V.int 1, V.int 2])) l2 (.lst [V.int 0, V.int 1, V.int 2])) l3 (.lst [V.int 3, V.int 9, V.int 10, V.int 63])) l4 (.lst [V.int 0, V.int 1, V.int 2, V.int 3, V.int 4, V.int 5])) L5 (.lst [V.ref l0, V.ref l1, V.ref l2, V.ref l3, V.ref l4])) = HA at e05 hD5 lists eL5 ⊢
  clear e0 e1 e2 e3 e4 e5 h0 h1 h2 h3 h4 h5 al0 al1 al2 al3 al4
  refine ⟨a, L5, n, [V.ref l0, V.ref l1, V.ref l2, V.ref l3, V.ref l4], rfl, hD5, hn0, by omega, eL5, Ne.symm al5, by show 0 < 5; decide, by show 5 < 1000; decide, fun i x HB hx bB wB => ?_⟩
  obtain ⟨l, g, rfl, nla, hlA, hg⟩ := lists i x hx
  have hl := bB _ _ nla hlA
  have b0B : But a H HB := (But.same e05).trans bB
  clear lists eL5 hlA e05 hD5 bB hx al5
  -- alone
  refine ⟨(by show 0 ≤ sizeLine; decide), fun L hL => ?_⟩
  have sL := same_new hL (.lst [])
  have haL : a ≠ L := wB.ne hL
  have hLn : H L = none := none_of_but b0B (Ne.symm haL) hL
  have bC : But a H (upd HB L (.lst [])) := b0B.trans (.same sL)
  have wC := wB.same sL
  have hlC := sL _ _ hl
  have eLC : (upd HB L (.lst [])) L = some (.lst []) := upd_same
  generalize upd HB L (.lst []) = HC at bC wC hlC eLC ⊢
  clear sL hL wB b0B hl
  refine ⟨(by show 2 ≤ sizeLine; decide), fun tt htt => ?_⟩
  have sT := same_new htt (.tup [V.int 0, V.int 1])
  have eTT : (upd HC tt (.tup [V.int 0, V.int 1])) tt = some (.tup [V.int 0, V.int 1]) := upd_same
  have bD := bC.trans (.same sT)
  have wD := wC.same sT
  have hlD := sT _ _ hlC
  have eLD := sT _ _ eLC
  generalize upd HC tt (.tup [V.int 0, V.int 1]) = HD at bD wD hlD eLD eTT ⊢
  clear sT htt wC hlC eLC bC
  have nla2 : l ≠ L := fun c => by
    subst c
    rw [eLD] at hlD
    injection hlD with z
    injection z with z
    have := hg.1
    rw [show g = [] by cases g with | nil => rfl | cons _ _ => cases z] at this
    exact absurd this (by decide)
  let p1 : Addr → Bool := fun b => decide (b ≠ a ∧ b ≠ L)
  have p1_ok : ∀ b, p1 b = true ↔ (b ≠ a ∧ b ≠ L) := fun b => decide_eq_true_iff
  have ntta : tt ≠ a := by
    obtain ⟨z, ez⟩ := wD.lst
    exact ne_of eTT ez (fun z => by cases z)
  have nttL : tt ≠ L := ne_of eTT eLD (fun z => by cases z)
  refine ⟨tt, rfl, ⟨_, SqT.of eTT⟩, for_tup (xs := [V.int 0, V.int 1]) (fun i σ H' => ∃ g4, σ = [some (.ref a), some (.int m), some (.ref l), some (.ref L), g4, none, none, none, none, none, none, none] ∧ But2 a L HD H' ∧ WellAt H' a (n + 1 + 41 * (i : Int)) ∧ ∃ ys rs, H' L = some (.lst ys) ∧ ys.Nodup ∧ A2 (RowsAt (vw p1 H')) ys rs ∧ rs.length = i ∧ ∀ rr ∈ rs, (1 ≤ rr.length ∧ (rr.length : Int) ≤ m) ∧ ∀ r ∈ rr, okRow r) ⟨_, rfl, fun b o _ _ e => e, (by rw [show n + 1 + 41 * ((0 : Nat) : Int) = n + 1 by omega]; exact wD), [], [], eLD, .nil, .nil, rfl, fun rr h => nomatch h⟩ (fun i σ H' _ ⟨_, _, b, _⟩ => SqT.of (b _ _ ntta nttL eTT)) ?_ ?_⟩
  · rintro i x σ H' hx ⟨g4, rfl, b1, w1, ys, rs, hy, hynd, ay, hrl, hrr⟩
    obtain ⟨hi, rfl⟩ := hand_at hx
    have hl1 := b1 _ _ nla nla2 hlD
    refine ⟨_, rfl, .inl ⟨rfl, _, SqL.of hy⟩, _, rfl, _, rfl, a, _, m, rfl, .inr w1, by omega, by omega, hm0, by omega, fun r H3 r0 r1 b3 w3 => ?_⟩
    have hl3 := b3 _ _ nla hl1
    have hy3 := b3 _ _ (Ne.symm haL) hy
    refine ⟨_, _, rfl, rfl, 1 + r, rfl, by omega, by omega, fun D2 hD2 => ?_⟩
    have s2 := same_new hD2 (.lst [])
    have haD2 : a ≠ D2 := w3.ne hD2
    have hD12 : L ≠ D2 := ne_of_none hy3 hD2
    let p2 : Addr → Bool := fun b => decide (b ≠ a ∧ b ≠ L ∧ b ≠ D2)
    have p2_ok : ∀ b, p2 b = true ↔ (b ≠ a ∧ b ≠ L ∧ b ≠ D2) := fun b => decide_eq_true_iff
    refine range_turns (n := (1 + r).toNat) (fun j H6 => But a H3 H6 ∧ WellAt H6 a (n + 2 + 41 * (i : Int) + 10 * (j : Int)) ∧ ∃ us rr, H6 D2 = some (.lst us) ∧ A2 (RowAt (vw p2 H6)) us rr ∧ rr.length = j ∧ ∀ r ∈ rr, okRow r) ⟨.same s2, ?_, [], [], upd_same, .nil, rfl, fun r hr => nomatch hr⟩ ?_ ?_
    · rw [show n + 2 + 41 * (i : Int) + 10 * ((0 : Nat) : Int) = n + 1 + 41 * (i : Int) + 1 by omega]
      exact w3.same s2
    · rintro j H6 hj ⟨b6, w6, us, rr, hu6, au, hul, hub⟩
      have hl6 := b6 _ _ nla hl3
      refine ⟨rfl, _, rfl, _, rfl, a, l, _, 3, g, rfl, .inr w6, by omega, by omega, hl6, nla, hg, by decide, by decide, fun p ns H7 b7 hp7 hp7' w7 okr _ => ?_⟩
      have hD27 := b7 _ _ (Ne.symm haD2) hu6
      have np2 : p ≠ D2 := (ne_of_none hu6 hp7).symm
      have npa : p ≠ a := (w6.ne hp7).symm
      have npL : p ≠ L := (ne_of_none (b6 _ _ (Ne.symm haL) hy3) hp7).symm
      refine ⟨us, hD27, ?_, (b6.trans b7).new hD2, ?_, _, rr ++ [ns], upd_same, ?_, by rw [List.length_append, hul]; rfl, fun r hr => ?_⟩
      · rw [au.len, hul]
        exact Nat.lt_of_lt_of_le (show j < 100 by omega) (by decide)
      · rw [show n + 2 + 41 * (i : Int) + 10 * ((j + 1 : Nat) : Int) = n + 2 + 41 * (i : Int) + 10 * (j : Int) + 10 by omega]
        exact w7.but haD2 But.at
      · refine A2.snoc (au.imp fun _ _ r => r.mono (vw_mono fun b o h f e => ⟨h, ?_⟩)) ⟨p, rfl, vw_put ((p2_ok p).mpr ⟨npa, npL, np2⟩) (by rw [upd_ne np2]; exact hp7')⟩
        obtain ⟨z1, z2, z3⟩ := (p2_ok b).mp h
        rw [upd_ne z3]
        exact b7 _ _ z1 e
      · rcases List.mem_append.mp hr with h | h
        · exact hub r h
        · obtain rfl := List.mem_singleton.mp h
          exact okr
    · rintro H6 ⟨b6, w6, us, rr, hu6, au, hul, hub⟩
      have hy6 := b6 _ _ (Ne.symm haL) hy3
      have nin : V.ref D2 ∉ ys := fun c => by
        obtain ⟨y, _, t, z, et, htt, _⟩ := ay.mem c
        injection et with et
        subst et
        have := b3 _ _ (Ne.symm haD2) (vw_some htt).2
        rw [this] at hD2
        cases hD2
      refine ⟨L, _, _, rfl, rfl, hy6, ?_, ?_⟩
      · rw [ay.len, hrl]
        exact Nat.lt_of_lt_of_le hi (by decide)
      refine ⟨_, rfl, (b1.trans (But2.l (b3.trans b6))).trans (.r But.at), (w6.but haL But.at).up (by omega), ys ++ [.ref D2], rs ++ [rr], upd_same, ?_, ?_, by rw [List.length_append, hrl]; rfl, fun rr' h => ?_⟩
      · rw [List.nodup_append]
        exact ⟨hynd, by simp, fun y hy z hz e => by obtain rfl := List.mem_singleton.mp hz; subst e; exact nin hy⟩
      · refine A2.snoc (ay.imp fun _ _ r => r.mono (vw_mono fun b o h f e => ⟨h, ?_⟩)) ⟨D2, us, rfl, vw_put ((p1_ok D2).mpr ⟨Ne.symm haD2, Ne.symm hD12⟩) (by rw [upd_ne (Ne.symm hD12)]; exact hu6), au.imp fun _ _ r => r.mono (vw_mono fun b o h f e => ?_)⟩
        · obtain ⟨z1, z2⟩ := (p1_ok b).mp h
          rw [upd_ne z2]
          exact b6 _ _ z1 (b3 _ _ z1 e)
        · obtain ⟨z1, z2, z3⟩ := (p2_ok b).mp h
          exact ⟨(p1_ok b).mpr ⟨z1, z2⟩, by rw [upd_ne z2]; exact e⟩
      · rcases List.mem_append.mp h with h | h
        · exact hrr rr' h
        · obtain rfl := List.mem_singleton.mp h
          exact ⟨⟨by rw [hul]; omega, by rw [hul]; omega⟩, hub⟩
  rintro σ H3 ⟨g4, rfl, b1, w1, ys, rs, hy, hynd, ay, hrl, hrr⟩
  replace hrl : rs.length = 2 := hrl
  let al : Nat → List (List Int) := fun h => rs.getD h []
  have hrs : rs = [al 0, al 1] := two_list hrl
  have hal0 := hrr (al 0) (by rw [hrs]; exact List.mem_cons_self)
  have hal1 := hrr (al 1) (by rw [hrs]; exact List.mem_cons_of_mem _ List.mem_cons_self)
  rw [hrs] at ay
  clear hrr hrl
  obtain ⟨r0, us0, hr0, a0, r1, us1, hr1, a1, rfl⟩ : ∃ r0 us0, vw p1 H3 r0 = some (.lst us0) ∧ A2 (RowAt (vw p1 H3)) us0 (al 0) ∧ ∃ r1 us1, vw p1 H3 r1 = some (.lst us1) ∧ A2 (RowAt (vw p1 H3)) us1 (al 1) ∧ ys = [.ref r0, .ref r1] := by
    cases ay with
    | cons x y =>
      cases y with
      | cons y z =>
        cases z
        obtain ⟨r0, us0, rfl, h0, h1⟩ := x
        obtain ⟨r1, us1, rfl, h2, h3⟩ := y
        exact ⟨r0, us0, h0, h1, r1, us1, h2, h3, rfl⟩
  have nr01 : r0 ≠ r1 := fun c => by
    subst c
    exact (List.nodup_cons.mp hynd).1 List.mem_cons_self
  obtain ⟨n0, en0⟩ : ∃ n0 : Nat, (al 0).length = n0 := ⟨_, rfl⟩
  obtain ⟨n1, en1⟩ : ∃ n1 : Nat, (al 1).length = n1 := ⟨_, rfl⟩
  have l0 := a0.len
  have l1 := a1.len
  rw [en0] at l0 hal0
  rw [en1] at l1 hal1
  obtain ⟨⟨q00, q01⟩, ok0⟩ := hal0
  obtain ⟨⟨q10, q11⟩, ok1⟩ := hal1
  have hl3 := b1 _ _ nla nla2 hlD
  have bH3 : But a H H3 := fun b o n e => b1 _ _ n (fun c => by subst c; rw [hLn] at e; cases e) (bD _ _ n e)
  have w3 : WellAt H3 a (n + 83) := w1.up (by show n + 1 + 41 * ((2 : Nat) : Int) ≤ n + 83; omega)
  clear b1 w1 wD bD eLD eTT hlD hynd hrs
  refine ⟨_, rfl, L, _, _, _, rfl, rfl, SqL.of hy, (by rfl), r0, us0, rfl, .inl (SqL.of (vw_some hr0).2), _, rfl, L, _, _, _, rfl, rfl, SqL.of hy, (by rfl), r1, us1, rfl, .inl (SqL.of (vw_some hr1).2), (by show 2 ≤ sizeLine; decide), fun Lm hLm => ?_⟩
  have sm := same_new hLm (.lst [V.int ((us0.length : Nat) : Int), V.int ((us1.length : Nat) : Int)])
  have eLm : (upd H3 Lm (.lst [V.int ((us0.length : Nat) : Int), V.int ((us1.length : Nat) : Int)])) Lm = some (.lst [V.int (n0 : Int), V.int (n1 : Int)]) := by rw [upd_same, l0, l1]
  have haLm : a ≠ Lm := w3.ne hLm
  have w4 := w3.same sm
  generalize upd H3 Lm (.lst [V.int ((us0.length : Nat) : Int), V.int ((us1.length : Nat) : Int)]) = H4 at sm eLm w4 ⊢
  refine ⟨(by show 0 ≤ sizeLine; decide), fun Lp hLp => ?_⟩
  have sp := same_new hLp (.lst [])
  have eLp : (upd H4 Lp (.lst [])) Lp = some (.lst []) := upd_same
  have haLp : a ≠ Lp := w4.ne hLp
  have nLmp : Lm ≠ Lp := ne_of_none eLm hLp
  have w5 := w4.same sp
  have eLm5 := sp _ _ eLm
  generalize upd H4 Lp (.lst []) = H5 at sp eLp w5 eLm5 ⊢
  have eLmI : H5 Lm = some (.lst (([(n0 : Int), (n1 : Int)] : List Int).map V.int)) := eLm5
  refine ⟨_, rfl, Lm, [(n0 : Int), (n1 : Int)], rfl, SqL.of eLmI, by show 0 < 2; decide, fun mx hmx hle => ?_⟩
  have hm0' := hle _ List.mem_cons_self
  have hm1' := hle _ (List.mem_cons_of_mem _ List.mem_cons_self)
  have hmx4 : mx ≤ 4 := by
    rcases List.mem_cons.mp hmx with rfl | h
    · omega
    · obtain rfl := List.mem_singleton.mp h
      omega
  clear hmx hle
  have Pstart : PairsL H5 Lp n0 n1 [] := ⟨⟨[], eLp, .nil⟩, fun p h => nomatch h⟩
  have bit0 : (0 : Int) < (n0 : Int) := by omega
  have bit1 : (0 : Int) < (n1 : Int) := by omega
  refine ⟨mx, rfl, by omega, by omega, for_range (n := mx.toNat) (fun i σ H' => ∃ g7, σ = [some (.ref a), some (.int m), some (.ref l), some (.ref L), g4, some (.ref Lm), some (.ref Lp), g7, none, none, none, none] ∧ But a H4 H' ∧ WellAt H' a (n + 83) ∧ ∃ ips, PairsL H' Lp n0 n1 ips ∧ ips.length = i ∧ ∀ k, k < i → (k % n0, k % n1) ∈ ips) ⟨_, rfl, .same sp, w5, [], Pstart, rfl, fun k h => absurd h (Nat.not_lt_zero _)⟩ ?_ ?_⟩
  · rintro i σ H' hi ⟨g7, rfl, b6, w6, ips, hP, hil, hcv⟩
    have ej : (0 : Int) + (i : Int) = (i : Int) := by omega
    rw [ej]
    obtain ⟨⟨qs, eq, _⟩, _⟩ := id hP
    have hLm' := b6 _ _ (Ne.symm haLm) eLm
    have em0 : ((i : Int) % (n0 : Int)) = ((i % n0 : Nat) : Int) := by omega
    have em1 : ((i : Int) % (n1 : Int)) = ((i % n1 : Nat) : Int) := by omega
    refine ⟨_, rfl, .inl ⟨rfl, _, SqL.of eq⟩, _, rfl, _, rfl, Lm, _, _, _, rfl, rfl, SqL.of hLm', (by rfl), _, _, rfl, rfl, bit0, _, rfl, _, rfl, Lm, _, _, _, rfl, rfl, SqL.of hLm', (by rfl), _, _, rfl, rfl, bit1, (by show 2 ≤ sizeLine; decide), fun t ht => ?_⟩
    have s7 := same_new ht (.tup [V.int ((i : Int) % (n0 : Int)), V.int ((i : Int) % (n1 : Int))])
    have et : (upd H' t (.tup [V.int ((i : Int) % (n0 : Int)), V.int ((i : Int) % (n1 : Int))])) t = some (.tup [V.int ((i % n0 : Nat) : Int), V.int ((i % n1 : Nat) : Int)]) := by rw [upd_same, em0, em1]
    have hP7 := hP.same s7
    have w7 := w6.same s7
    have eq7 := s7 _ _ eq
    generalize upd H' t (.tup [V.int ((i : Int) % (n0 : Int)), V.int ((i : Int) % (n1 : Int))]) = H7 at s7 et hP7 w7 eq7 ⊢
    refine ⟨Lp, _, _, rfl, rfl, eq7, ?_, ?_⟩
    · rw [hP7.len eq7, hil]
      exact Nat.lt_of_lt_of_le (show i < 100 by omega) (by decide)
    · refine ⟨_, rfl, (b6.trans (.same s7)).new hLp, w7.but haLp But.at, ips ++ [(i % n0, i % n1)], hP7.put eq7 et (Nat.mod_lt _ (by omega)) (Nat.mod_lt _ (by omega)), by rw [List.length_append, hil]; rfl, fun k hk => ?_⟩
      rcases Nat.lt_succ_iff_lt_or_eq.mp hk with h | rfl
      · exact List.mem_append_left _ (hcv k h)
      · exact List.mem_append_right _ List.mem_cons_self
  rintro σ H6 ⟨g7, rfl, b6, w6, ips0, hP0, hil0, hcv0⟩
  have cov0 : ∀ x, x < n0 → ∃ p ∈ ips0, p.1 = x := fun x hx => ⟨_, hcv0 x (by omega), Nat.mod_eq_of_lt hx⟩
  have cov1 : ∀ x, x < n1 → ∃ p ∈ ips0, p.2 = x := fun x hx => ⟨_, hcv0 x (by omega), Nat.mod_eq_of_lt hx⟩
  have hil0' : ips0.length ≤ 4 := by omega
  refine ⟨_, rfl, a, n + 83, 4, rfl, .inr w6, by omega, by omega, by decide, by decide, fun tn H7 tn0 tn1 b7 w7 => ?_⟩
  have b47 := b6.trans b7
  obtain ⟨zw6, ea6⟩ := w6.lst
  have hP7 := hP0.but ea6 (Ne.symm haLp) b7
  clear b6 b7 hcv0 w6 hP0
  refine ⟨tn, rfl, by omega, by omega, for_range (n := tn.toNat) (fun i σ H' => ∃ g8, σ = [some (.ref a), some (.int m), some (.ref l), some (.ref L), g4, some (.ref Lm), some (.ref Lp), g7, g8, none, none, none] ∧ But a H4 H' ∧ WellAt H' a (n + 84 + 2 * (i : Int)) ∧ ∃ ips, PairsL H' Lp n0 n1 ips ∧ ips.length = ips0.length + i ∧ ∀ p ∈ ips0, p ∈ ips) ⟨_, rfl, b47, (by rw [show n + 84 + 2 * ((0 : Nat) : Int) = n + 83 + 1 by omega]; exact w7), ips0, hP7, rfl, fun p h => h⟩ ?_ ?_⟩
  · rintro i σ H' hi ⟨g8, rfl, b8, w8, ips, hP, hil, hsub⟩
    obtain ⟨⟨qs, eq, _⟩, _⟩ := id hP
    have hLm' := b8 _ _ (Ne.symm haLm) eLm
    obtain ⟨zw8, ea8⟩ := w8.lst
    refine ⟨_, rfl, .inl ⟨rfl, _, SqL.of eq⟩, _, rfl, _, rfl, Lm, _, _, _, rfl, rfl, SqL.of hLm', (by rfl), a, _, (n0 : Int), rfl, .inr w8, by omega, by omega, bit0, by omega, fun x1 H9 x10 x11 b9 w9 => ?_⟩
    obtain ⟨zw9, ea9⟩ := w9.lst
    have hLm9 := b9 _ _ (Ne.symm haLm) hLm'
    refine ⟨_, rfl, _, rfl, Lm, _, _, _, rfl, rfl, SqL.of hLm9, (by rfl), a, _, (n1 : Int), rfl, .inr w9, by omega, by omega, bit1, by omega, fun x2 H10 x20 x21 b10 w10 => ?_⟩
    obtain ⟨y1, rfl⟩ : ∃ y : Nat, x1 = (y : Int) := ⟨x1.toNat, by omega⟩
    obtain ⟨y2, rfl⟩ : ∃ y : Nat, x2 = (y : Int) := ⟨x2.toNat, by omega⟩
    have hP10 := (hP.but ea8 (Ne.symm haLp) b9).but ea9 (Ne.symm haLp) b10
    have eq10 := b10 _ _ (Ne.symm haLp) (b9 _ _ (Ne.symm haLp) eq)
    refine ⟨(by show 2 ≤ sizeLine; decide), fun t ht => ?_⟩
    have s11 := same_new ht (.tup [V.int (y1 : Int), V.int (y2 : Int)])
    have hP11 := hP10.same s11
    have eq11 := s11 _ _ eq10
    have w11 := w10.same s11
    have et : (upd H10 t (.tup [V.int (y1 : Int), V.int (y2 : Int)])) t = some (.tup [V.int (y1 : Int), V.int (y2 : Int)]) := upd_same
    generalize upd H10 t (.tup [V.int (y1 : Int), V.int (y2 : Int)]) = H11 at s11 hP11 eq11 w11 et ⊢
    refine ⟨Lp, _, _, rfl, rfl, eq11, ?_, ?_⟩
    · rw [hP11.len eq11, hil]
      exact Nat.lt_of_lt_of_le (show ips0.length + i < 100 by omega) (by decide)
    · refine ⟨_, rfl, (((b8.trans b9).trans b10).trans (.same s11)).new hLp, ?_, ips ++ [(y1, y2)], hP11.put eq11 et (by show y1 < n0; omega) (by show y2 < n1; omega), by rw [List.length_append, hil]; rfl, fun p hp => List.mem_append_left _ (hsub p hp)⟩
      rw [show n + 84 + 2 * ((i + 1 : Nat) : Int) = n + 84 + 2 * (i : Int) + 1 + 1 by omega]
      exact w11.but haLp But.at
  rintro σ H8 ⟨g8, rfl, b8, w8, ips, hP, hil, hsub⟩
  have w8 : WellAt H8 a (n + 100) := w8.up (by omega)
  have hil' : ips.length ≤ 8 := by omega
  obtain ⟨⟨qs, eq, aq⟩, rng⟩ := hP
  have b38 : But a H3 H8 := (But.same sm).trans b8
  clear b8 b47 hP7 w7 Pstart
  intro d hd
  have sd := same_new hd (.dT [])
  have had : a ≠ d := w8.ne hd
  have w9 := w8.same sd
  have ed : (upd H8 d (.dT [])) d = some (.dT []) := upd_same
  have b89 : But a H8 (upd H8 d (.dT [])) := .same sd
  generalize upd H8 d (.dT []) = H9 at w9 ed b89 ⊢
  obtain ⟨zw8, ea8⟩ := w8.lst
  have hl8 := b38 _ _ nla hl3
  have hqsl := aq.len
  refine ⟨_, rfl, Lp, rfl, ⟨_, SqL.of (b89 _ _ (Ne.symm haLp) eq)⟩, for_list (xs := qs) (fun i σ H' => ∃ g10, σ = [some (.ref a), some (.int m), some (.ref l), some (.ref L), g4, some (.ref Lm), some (.ref Lp), g7, g8, some (.ref d), g10, none] ∧ But a H8 H' ∧ WellAt H' a (n + 100 + 20 * (i : Int)) ∧ ∃ kvs bo, H' d = some (.dT kvs) ∧ A2 (EnAt (vw (pA a) H')) kvs bo ∧ (bo.map (·.1)).Pairwise (· ≠ ·) ∧ (∀ p, p ∈ bo.map (·.1) ↔ p ∈ ips.take i) ∧ (∀ e ∈ bo, okLet e.2) ∧ bo.length ≤ i) ⟨_, rfl, b89, (by rw [show n + 100 + 20 * ((0 : Nat) : Int) = n + 100 by omega]; exact w9), [], [], ed, .nil, .nil, (fun p => Iff.rfl), (fun e h => nomatch h), Nat.zero_le _⟩ (fun i σ H' _ ⟨_, _, b, _⟩ => SqL.of (b _ _ (Ne.symm haLp) eq)) ?_ ?_⟩
  · rintro i x σ H' hx ⟨g10, rfl, b10, w10, kvs, bo, hdk, hE, hnd, hmem, hlt, hbl⟩
    obtain ⟨p, hp, tq⟩ := aq.get hx
    obtain ⟨tq, rfl, htq⟩ := tq.but ea8 b10
    have hil2 : i < qs.length := (List.getElem?_eq_some_iff.mp hx).1
    have hl' := b10 _ _ nla hl8
    obtain ⟨zw10, ea10⟩ := w10.lst
    refine ⟨_, rfl, _, rfl, a, l, _, 5, g, rfl, .inr w10, by omega, by omega, hl', nla, hg, by decide, by decide, fun pp xs ls H11 b11 hpn hpp ax w11 okl _ => ?_⟩
    obtain ⟨zw11, ea11⟩ := w11.lst
    have hdk11 := b11 _ _ (Ne.symm had) hdk
    have htq11 := b11 _ _ (ne_of htq ea10 (fun z => by cases z)) htq
    have hkl : kvs.length ≤ 100 := by rw [hE.len]; omega
    refine ⟨_, rfl, _, rfl, d, _, rfl, DPut.t (k := kI p) hdk11 htq11 (Nat.lt_of_le_of_lt hkl (by decide)), ?_⟩
    have npa : pp ≠ a := (w10.ne hpn).symm
    have npd : pp ≠ d := fun c => by subst c; rw [hdk] at hpn; cases hpn
    have kpA : Kp (vw (pA a) H') (vw (pA a) (upd H11 d (.dT (putK kvs (kI p) (V.ref pp))))) := (vwA_but b11).trans (vwA_put hdk11)
    refine ⟨_, rfl, (b10.trans b11).new hd, (w11.but had But.at).up (by omega), _, putB bo p ls, upd_same, en_put (hE.imp fun _ _ r => EnAt.mono kpA r) ⟨pp, xs, rfl, vw_put (pA_ok.mpr npa) (by rw [upd_ne npd]; exact hpp), ax.imp fun _ _ r => ?_⟩, ?_, fun p' => ?_, putB_lets hlt okl, Nat.le_trans putB_len (Nat.succ_le_succ hbl)⟩
    · obtain ⟨t, rfl, ht⟩ := r
      exact ⟨t, rfl, vw_put (pA_ok.mpr (ne_of ht ea11 (fun z => by cases z))) (by rw [upd_ne (ne_of ht hdk11 (fun z => by cases z))]; exact ht)⟩
    · rw [putB_keys]
      split
      · exact hnd
      · rename_i c
        rw [List.pairwise_append]
        exact ⟨hnd, List.pairwise_singleton _ _, fun x hx y hy e => by obtain rfl := List.mem_singleton.mp hy; subst e; exact c hx⟩
    · rw [putB_keys, take_get hp, List.mem_append, List.mem_singleton, ← hmem p']
      split
      · rename_i c
        constructor
        · exact fun h => .inl h
        · rintro (h | rfl)
          · exact h
          · exact c
      · rw [List.mem_append, List.mem_singleton]
  rintro σ H10 ⟨g10, rfl, b10, w10, kvs, bo, hdk, hE, hnd, hmem, hlt, hbl⟩
  rw [hqsl, List.take_length] at hmem
  refine ⟨_, rfl, _, rfl, (by show 2 ≤ sizeLine; decide), fun u hu2 => ?_⟩
  have su := same_new hu2 (.tup [V.ref L, V.ref d])
  have b3u : But a H3 (upd H10 u (.tup [V.ref L, V.ref d])) := (b38.trans b10).trans (.same su)
  have eu : (upd H10 u (.tup [V.ref L, V.ref d])) u = some (.tup [V.ref L, V.ref d]) := upd_same
  have hdn : H d = none := none_of_but (bH3.trans b38) (Ne.symm had) hd
  have wu := w10.same su
  have hun : H u = none := none_of_but ((bH3.trans b38).trans b10) (Ne.symm (w10.ne hu2)) hu2
  have hdu := su _ _ hdk
  have hEu := hE.imp fun _ _ r => EnAt.mono (vwA_but (.same su)) r
  generalize upd H10 u (.tup [V.ref L, V.ref d]) = HU at b3u eu wu hdu hEu ⊢
  have hLu := b3u _ _ (Ne.symm haL) hy
  have kpU : Kp (vw p1 H3) (vw (pA a) HU) := vw_mono fun b o h f e => ⟨pA_ok.mpr ((p1_ok b).mp h).1, b3u _ _ ((p1_ok b).mp h).1 e⟩
  have hAL : AlAt (vw (pA a) HU) (.ref L) al := ⟨L, .ref r0, .ref r1, rfl, vw_put (pA_ok.mpr (Ne.symm haL)) hLu, ⟨r0, us0, rfl, kpU.lst hr0, a0.imp fun _ _ r => r.mono kpU⟩, ⟨r1, us1, rfl, kpU.lst hr1, a1.imp fun _ _ r => r.mono kpU⟩⟩
  have inb : ∀ p ∈ ips, ∃ e ∈ bo, e.1 = p := fun p hp => by
    obtain ⟨e, he, e1⟩ := List.mem_map.mp ((hmem p).mpr hp)
    exact ⟨e, he, e1⟩
  have WT : WF ⟨al, bo⟩ := by
    refine ⟨fun h hh => ?_, fun h hh r hr => ?_, hnd, fun e he => ?_, hlt, fun x hx => ?_, fun x hx => ?_, by show bo.length ≤ 60; omega⟩
    · obtain rfl | rfl : h = 0 ∨ h = 1 := by omega
      · show 1 ≤ (al 0).length ∧ (al 0).length ≤ 20
        omega
      · show 1 ≤ (al 1).length ∧ (al 1).length ≤ 20
        omega
    · obtain rfl | rfl : h = 0 ∨ h = 1 := by omega
      · exact ok0 r hr
      · exact ok1 r hr
    · have := rng e.1 ((hmem e.1).mp (List.mem_map.mpr ⟨e, he, rfl⟩))
      show e.1.1 < (al 0).length ∧ e.1.2 < (al 1).length
      rw [en0, en1]
      exact this
    · obtain ⟨p, hp, e1⟩ := cov0 x (by rw [← en0]; exact hx)
      obtain ⟨e, he, e2⟩ := inb p (hsub p hp)
      exact ⟨e, he, by rw [e2, e1]⟩
    · obtain ⟨p, hp, e1⟩ := cov1 x (by rw [← en1]; exact hx)
      obtain ⟨e, he, e2⟩ := inb p (hsub p hp)
      exact ⟨e, he, by rw [e2, e1]⟩
  exact q u L d r0 r1 ⟨al, bo⟩ HU (bH3.trans b3u) hun hLn hdn eu ⟨hAL, _, hdu, hEu⟩ WT hLu nr01 (wu.up (by rw [hqsl]; omega))
end
end TA

set_option Elab.async false
set_option maxRecDepth 100000
set_option maxHeartbeats 4000000
namespace TA
open PySem L2 PyProof.Rows
set_option linter.unusedVariables false
def okHs (r : Nat) (hs : List Nat) : Prop := (∀ h ∈ hs, h < 2) ∧ (∀ h < 2, hs.count h ≤ 2 * r) ∧ hs.length ≤ 40
theorem len_two : ∀ {hs : List Nat}, (∀ h ∈ hs, h < 2) → hs.length = hs.count 0 + hs.count 1
  | [], _ => rfl
  | h :: hs, q => by
    have ih := len_two (hs := hs) fun x hx => q x (List.mem_cons_of_mem _ hx)
    have hh := q h List.mem_cons_self
    obtain rfl | rfl : h = 0 ∨ h = 1 := by omega
    · rw [List.length_cons, List.count_cons_self, List.count_cons_of_ne (by decide)]
      omega
    · rw [List.length_cons, List.count_cons_self, List.count_cons_of_ne (by decide)]
      omega
theorem okInts (l : List Int) : Ok 2 (.list (l.map PyData.int)) := ok_list fun d hd => by
  obtain ⟨x, _, rfl⟩ := List.mem_map.mp hd
  exact ok_int x
theorem eqv_two (a b c d : Int) : PyData.eqv (.list [.int a, .int b]) (.list [.int c, .int d]) = (decide (a = c) && decide (b = d)) := by
  show ((a == c) && ((b == d) && true)) = _
  rw [Bool.and_true]
  rfl
theorem rep_flat (k : Nat) (v : V) : (List.replicate k [v]).flatten = List.replicate k v := by
  induction k with
  | zero => rfl
  | succ k ih => rw [List.replicate_succ, List.replicate_succ, List.flatten_cons, ih]; rfl
theorem hl_app (xs ys : List Nat) : TB.hl xs ++ TB.hl ys = TB.hl (xs ++ ys) := by unfold TB.hl; rw [List.map_append]
theorem hl_rep (n z : Nat) : List.replicate n (V.int (z : Int)) = TB.hl (List.replicate n z) := by unfold TB.hl; rw [List.map_replicate]
theorem hl_len (xs : List Nat) : (TB.hl xs).length = xs.length := List.length_map _
theorem ix2 {h : Nat} (hh : h < 2) (x y : V) : ixN ([x, y] : List V).length (h : Int) = some h := by
  unfold ixN
  rw [if_pos (by omega), if_pos (by show (h : Int) < 2; omega)]
  rfl
theorem orW {b : Bool} {T F R : Prop} (c : Prop) (kT : c → T) (h : b = true → c) (r : b = false → (c → T) → R) : if b = true then (if true = true then T else F) else R := by
  cases b with
  | true => exact iteT (iteT (kT (h rfl)))
  | false => exact iteF (r rfl kT)
/-- a weaving under way -/
def WIn (r : Nat) (hs : List Nat) (l : Nat → Nat) : Prop := (∀ h ∈ hs, h < 2) ∧ ∀ h, h < 2 → hs.count h + l h ≤ 2 * r
theorem WIn.more {r : Nat} {hs : List Nat} {l : Nat → Nat} (w : WIn r hs l) {h k : Nat} (hh : h < 2) (hk : k ≤ l h) : WIn r (hs ++ List.replicate k h) (TB.upf l h (l h - k)) := by
  refine ⟨fun x hx => ?_, fun i hi => ?_⟩
  · rcases List.mem_append.mp hx with z | z
    · exact w.1 x z
    · rw [(List.mem_replicate.mp z).2]
      exact hh
  · rw [List.count_append, List.count_replicate]
    have := w.2 i hi
    by_cases c : i = h
    · subst c
      rw [TB.upf_same, if_pos (by simp)]
      omega
    · rw [TB.upf_ne c, if_neg (by simpa using Ne.symm c)]
      omega
theorem WIn.len {r : Nat} {hs : List Nat} {l : Nat → Nat} (w : WIn r hs l) : hs.length + l 0 + l 1 ≤ 4 * r := by
  rw [len_two w.1]
  have := w.2 0 (by decide)
  have := w.2 1 (by decide)
  omega
def spLWv : Sp := fun vs H Q _ => ∃ (a : Addr) (n : Int) (r : Nat), vs = [.ref a, .int (r : Int)] ∧ WellAt H a n ∧ 0 ≤ n ∧ n < 900000 ∧ r ≤ 5 ∧
  ∀ (lw : Addr) (hs : List Nat) (H' : Hp), But a H H' → H lw = none → H' lw = some (.lst (TB.hl hs)) → okHs r hs → WellAt H' a (n + 200) → Q (.ref lw) H'
section
variable {P : Program} {w : World} {K : PySem.W.Frag} {mg : Str → Option Value} {base : Heap}
abbrev nLW : List Str := ["_law_state", "_law_rounds", "_law_left", "_law_found", "_law_runs", "_law_hand", "_law_many"]
theorem sc_lw : FnScope nLW ["_law_state", "_law_rounds"] (defScope sLawWeav) := ⟨rfl, rfl, rfl, by decide +kernel, rfl, by decide +kernel, by decide +kernel⟩
theorem ok_lw {f g1 : Addr} {fd d1 : FuncData} (F : Fun K "_law_weaving" "_law_weaving" sLawWeav f fd) (T : Txt K mg) (Dg : Def P w K mg base "_law_digit" ["_law_state", "_law_base"] 1 spDigit g1 d1) : FnOk P w K mg base CX0 2 f fd ["_law_state", "_law_rounds"] spLWv := by
  refine F.ok sc_lw (fun vs H Q E h => ?_) (fun cdv A outer s H vs Q E hr h => ?_)
  · obtain ⟨a, n, r, rfl, _⟩ := h
    rfl
  obtain ⟨a, n, r, rfl, hw, hn0, hn, hr5, q⟩ := h
  have nd := sc_lw.nd
  refine ⟨_, (pss_cons (ps_set (i := 2) nd rfl (Or.inl rfl) (pe_lst (pa_cons (pe_op op_mul pe_int (pv 1)) (pa_cons (pe_op op_mul pe_int (pv 1)) pa_nil))))
    (pss_cons (ps_if (pt_cmpR op_eq (pe_call Dg.G (hr.mono (by decide)) rfl Dg.m Dg.k Dg.b .nil pass0 (pa_cons (pv 0) (pa_cons pe_int pa_nil))) pe_int (nomark _))
      (pss_one (ps_asg (pe_call Dg.G (hr.mono (by decide)) rfl Dg.m Dg.k Dg.b .nil pass0 (pa_cons (pv 0) (pa_cons (pe_op op_add (pe_op op_mul pe_int (pv 1)) pe_int) pa_nil))) (pg_sub (pv 2) (pe_call Dg.G (hr.mono (by decide)) rfl Dg.m Dg.k Dg.b .nil pass0 (pa_cons (pv 0) (pa_cons pe_int pa_nil))) set_list)))
      pss_nil)
    (pss_cons (ps_set (i := 3) nd rfl (Or.inl rfl) (pe_lst pa_nil))
    (pss_cons (ps_set (i := 4) nd rfl (Or.inl rfl) (pe_op op_add pe_int (pe_call Dg.G (hr.mono (by decide)) rfl Dg.m Dg.k Dg.b .nil pass0 (pa_cons (pv 0) (pa_cons pe_int pa_nil)))))
    (pss_cons (ps_while PassesOwn.never (pt_cmpR (op_neD hr.units) (pv 2) (pe_lst (pa_cons pe_int (pa_cons pe_int pa_nil))) (nomark _))
      (pss_cons (ps_set (i := 5) nd rfl (Or.inl rfl) (pe_call Dg.G (hr.mono (by decide)) rfl Dg.m Dg.k Dg.b .nil pass0 (pa_cons (pv 0) (pa_cons pe_int pa_nil))))
    (pss_cons (ps_set (i := 6) nd rfl (Or.inl rfl) (pe_callB (call_min2 rfl) (by rfl) T.min (by decide +kernel) (pa_cons (pe_ix ix_list (pv 2) (pv 5) (fun _ _ => rfl)) (pa_cons (pe_op op_add pe_int (pe_call Dg.G (hr.mono (by decide)) rfl Dg.m Dg.k Dg.b .nil pass0 (pa_cons (pv 0) (pa_cons (pv 4) pa_nil)))) pa_nil))))
    (pss_cons (ps_set (i := 3) nd rfl (Or.inl rfl) (pe_op op_cat (pv 3) (pe_op op_rep (pe_lst (pa_cons (pv 5) pa_nil)) (pv 6))))
    (pss_cons (ps_asg (pe_op op_sub (pe_ix ix_list (pv 2) (pv 5) (fun _ _ => rfl)) (pv 6)) (pg_sub (pv 2) (pv 5) set_list))
    (pss_one (ps_if (PW.pt (pw_or (pt_cmpR op_eq (pe_ix ix_list (pv 2) (pe_op op_sub pe_int (pv 5)) (fun _ _ => rfl)) pe_int (nomark _)) (pw_or1 (PW.pt (pw_and (pt_cmpR op_eq (pe_ix ix_list (pv 2) (pv 5) (fun _ _ => rfl)) pe_int (nomark _)) (pw_and1 (pt_cmpR op_eq (pv 6) pe_int (nomark _))))))))
      (pss_cons (ps_set (i := 3) nd rfl (Or.inl rfl) (pe_op op_cat (pe_op op_cat (pv 3) (pe_op op_rep (pe_lst (pa_cons (pv 5) pa_nil)) (pe_ix ix_list (pv 2) (pv 5) (fun _ _ => rfl)))) (pe_op op_rep (pe_lst (pa_cons (pe_op op_sub pe_int (pv 5)) pa_nil)) (pe_ix ix_list (pv 2) (pe_op op_sub pe_int (pv 5)) (fun _ _ => rfl)))))
    (pss_one (ps_set (i := 2) nd rfl (Or.inl rfl) (pe_lst (pa_cons pe_int (pa_cons pe_int pa_nil))))))
      pss_nil)))))))
    (pss_one (ps_ret (pv 3)))))))), ?_⟩
  have e2 : 2 * (r : Int) = ((2 * r : Nat) : Int) := by omega
  refine ⟨_, rfl, _, _, rfl, rfl, .inl ⟨by decide, by decide⟩, _, rfl, _, _, rfl, rfl, .inl ⟨by decide, by decide⟩, (by show 2 ≤ sizeLine; decide), fun lf hlf => ?_⟩
  have s1 := same_new hlf (.lst [V.int (2 * (r : Int)), V.int (2 * (r : Int))])
  have el : (upd H lf (.lst [V.int (2 * (r : Int)), V.int (2 * (r : Int))])) lf = some (.lst [V.int ((2 * r : Nat) : Int), V.int ((2 * r : Nat) : Int)]) := by rw [upd_same, e2]
  have nalf : a ≠ lf := hw.ne hlf
  have w1 := hw.same s1
  have b1 : But a H (upd H lf (.lst [V.int (2 * (r : Int)), V.int (2 * (r : Int))])) := .same s1
  generalize upd H lf (.lst [V.int (2 * (r : Int)), V.int (2 * (r : Int))]) = H1 at el w1 b1 ⊢
  refine ⟨_, rfl, a, n, 4, rfl, .inr w1, hn0, by omega, by decide, by decide, fun x2 H2 _ _ b2 w2 => ?_⟩
  refine ⟨rfl, _, rfl, ?_⟩
  refine join2 (fun σ Hn => σ = [some (.ref a), some (.int (r : Int)), some (.ref lf), none, none, none, none] ∧ But a H Hn ∧ WellAt Hn a (n + 3) ∧ ∃ l : Nat → Nat, Hn lf = some (.lst [.int ((l 0 : Nat) : Int), .int ((l 1 : Nat) : Int)]) ∧ ∀ h, h < 2 → l h ≤ 2 * r) ⟨rfl, b1.trans b2, w2.up (by omega), fun _ => 2 * r, b2 _ _ (Ne.symm nalf) el, fun h hh => Nat.le_refl _⟩ ?_ ?_
  rotate_left
  · intro _ k
    refine ⟨_, rfl, _, rfl, _, _, rfl, rfl, .inl ⟨by decide, by decide⟩, _, _, rfl, rfl, a, n + 1, 2 * (r : Int) + 1, rfl, .inr w2, by omega, by omega, by omega, by omega, fun x3 H3 x30 x31 b3 w3 => ?_⟩
    refine ⟨_, rfl, _, rfl, a, n + 1 + 1, 2, rfl, .inr w3, by omega, by omega, by decide, by decide, fun x4 H4 x40 x41 b4 w4 => ?_⟩
    obtain ⟨y3, rfl⟩ : ∃ y : Nat, x3 = (y : Int) := ⟨x3.toNat, by omega⟩
    obtain ⟨y4, rfl⟩ : ∃ y : Nat, x4 = (y : Int) := ⟨x4.toNat, by omega⟩
    have h4 : y4 < 2 := by omega
    have el4 := b4 _ _ (Ne.symm nalf) (b3 _ _ (Ne.symm nalf) (b2 _ _ (Ne.symm nalf) el))
    refine ⟨lf, _, _, y4, rfl, rfl, el4, ix2 h4 _ _, ?_⟩
    have et := TB.two_set (fun _ : Nat => V.int ((2 * r : Nat) : Int)) h4 (V.int (y3 : Int))
    refine k _ _ ⟨rfl, (((b1.trans b2).trans b3).trans b4).new hlf, (w4.but nalf But.at).up (by omega), TB.upf (fun _ => 2 * r) y4 y3, ?_, fun h hh => ?_⟩
    · rw [upd_same]
      show some (HO.lst (([(fun _ : Nat => V.int ((2 * r : Nat) : Int)) 0, (fun _ : Nat => V.int ((2 * r : Nat) : Int)) 1] : List V).set y4 (V.int (y3 : Int)))) = _
      rw [et]
      obtain rfl | rfl : y4 = 0 ∨ y4 = 1 := by omega
      · rfl
      · rfl
    · by_cases c : h = y4
      · subst c
        rw [TB.upf_same]
        omega
      · rw [TB.upf_ne c]
        exact Nat.le_refl _
  rintro σ H5 ⟨rfl, b5, w5, l0, el5, hl0⟩
  clear el w1 b1 b2 w2 s1
  refine ⟨(by show 0 ≤ sizeLine; decide), fun fo hfo => ?_⟩
  have s6 := same_new hfo (.lst [])
  have nafo : a ≠ fo := w5.ne hfo
  have nlfo : lf ≠ fo := ne_of_none el5 hfo
  have hfoH : H fo = none := none_of_but b5 (Ne.symm nafo) hfo
  have ef6 : (upd H5 fo (.lst [])) fo = some (.lst (TB.hl [])) := upd_same
  refine ⟨_, rfl, a, n + 3, 3, rfl, .inr (w5.same s6), by omega, by omega, by decide, by decide, fun x7 H7 x70 x71 b7 w7 => ?_⟩
  refine ⟨_, _, rfl, rfl, ?_⟩
  have hb7 : But a H H7 := (b5.trans (.same s6)).trans b7
  have el7 := b7 _ _ (Ne.symm nalf) (s6 _ _ el5)
  have ef7 := b7 _ _ (Ne.symm nafo) ef6
  refine ⟨fun m σ H' => ∃ (lf fo : Addr) (g5 g6 : Option V) (l : Nat → Nat) (hs : List Nat), σ = [some (.ref a), some (.int (r : Int)), some (.ref lf), some (.ref fo), some (.int (1 + x7)), g5, g6] ∧ m = l 0 + l 1 ∧ But a H H' ∧ WellAt H' a (n + 84 - 4 * (m : Int)) ∧ H lf = none ∧ H' lf = some (.lst [.int ((l 0 : Nat) : Int), .int ((l 1 : Nat) : Int)]) ∧ H fo = none ∧ H' fo = some (.lst (TB.hl hs)) ∧ lf ≠ fo ∧ a ≠ lf ∧ a ≠ fo ∧ WIn r hs l, ⟨l0 0 + l0 1, lf, fo, _, _, l0, [], rfl, rfl, hb7, ?_, hlf, el7, hfoH, ef7, nlfo, nalf, nafo, ⟨fun h hh => (nomatch hh), fun h hh => by rw [List.count_nil]; have := hl0 h hh; omega⟩⟩, ?_⟩
  · have := hl0 0 (by decide)
    have := hl0 1 (by decide)
    exact w7.up (by omega)
  clear hfo s6 ef6 b7 w7 hb7 el7 ef7 nlfo nafo hfoH b5 w5 el5 hl0 l0 hlf nalf
  rintro m σ H8 ⟨lf, fo, g5, g6, l, hs, rfl, rfl, b8, w8, hlf, el8, hfo, ef8, nlf, nalf, nafo, hW⟩
  have hlen := hW.len
  have hll := hW.2 0 (by decide)
  have hll1 := hW.2 1 (by decide)
  refine ⟨_, rfl, (by show 2 ≤ sizeLine; decide), fun t0 ht0 => ?_⟩
  have t9 := same_new ht0 (.lst [V.int 0, V.int 0])
  have el9 := t9 _ _ el8
  have ef9 := t9 _ _ ef8
  have w9 := w8.same t9
  have b9 := b8.trans (.same t9)
  have e0 : (upd H8 t0 (.lst [V.int 0, V.int 0])) t0 = some (.lst [V.int 0, V.int 0]) := upd_same
  generalize upd H8 t0 (.lst [V.int 0, V.int 0]) = H9 at el9 ef9 w9 b9 e0 ⊢
  clear t9 b8 w8 el8 ef8 ht0
  refine ⟨.list [.int ((l 0 : Nat) : Int), .int ((l 1 : Nat) : Int)], .list [.int 0, .int 0], Dp.lst (SqL.of el9) (.cons (.int _) (.cons (.int _) .nil)), Dp.lst (SqL.of e0) (.cons (.int _) (.cons (.int _) .nil)), (okInts [_, _]).shaped (by decide), (okInts [0, 0]).shaped (by decide), _, rfl, ?_⟩
  rw [eqv_two]
  by_cases c : l 0 = 0 ∧ l 1 = 0
  · obtain ⟨c0, c1⟩ := c
    refine iteF' (by rw [c0, c1]; rfl) ⟨_, rfl, ?_⟩
    refine q fo hs H9 b9 hfo ef9 ⟨hW.1, fun h hh => by have := hW.2 h hh; omega, by omega⟩ (w9.up (by omega))
  refine iteT' (by
    by_cases c0 : l 0 = 0
    · rw [decide_eq_false (show ¬ ((l 1 : Nat) : Int) = 0 from fun z => c ⟨c0, by omega⟩), Bool.and_false]
      rfl
    · rw [decide_eq_false (show ¬ ((l 0 : Nat) : Int) = 0 by omega), Bool.false_and]
      rfl) ?_
  refine ⟨fun σ' H'' => ∃ m' < l 0 + l 1, ∃ (lf fo : Addr) (g5 g6 : Option V) (l : Nat → Nat) (hs : List Nat), σ' = [some (.ref a), some (.int (r : Int)), some (.ref lf), some (.ref fo), some (.int (1 + x7)), g5, g6] ∧ m' = l 0 + l 1 ∧ But a H H'' ∧ WellAt H'' a (n + 84 - 4 * (m' : Int)) ∧ H lf = none ∧ H'' lf = some (.lst [.int ((l 0 : Nat) : Int), .int ((l 1 : Nat) : Int)]) ∧ H fo = none ∧ H'' fo = some (.lst (TB.hl hs)) ∧ lf ≠ fo ∧ a ≠ lf ∧ a ≠ fo ∧ WIn r hs l, fun σ' H'' h => h, ?_⟩
  refine ⟨_, rfl, a, _, 2, rfl, .inr w9, by omega, by omega, by decide, by decide, fun xh H10 xh0 xh1 b10 w10 => ?_⟩
  obtain ⟨h, rfl⟩ : ∃ y : Nat, xh = (y : Int) := ⟨xh.toNat, by omega⟩
  have hh : h < 2 := by omega
  have el10 := b10 _ _ (Ne.symm nalf) el9
  have ef10 := b10 _ _ (Ne.symm nafo) ef9
  have gl : ([V.int ((l 0 : Nat) : Int), V.int ((l 1 : Nat) : Int)] : List V)[h]? = some (.int ((l h : Nat) : Int)) := TB.two_get (fun i => V.int ((l i : Nat) : Int)) hh
  refine ⟨_, rfl, _, rfl, lf, _, _, _, rfl, rfl, SqL.of el10, atI_nat gl, _, rfl, _, rfl, a, _, 1 + x7, rfl, .inr w10, by omega, by omega, by omega, by omega, fun xm H11 xm0 xm1 b11 w11 => ?_⟩
  refine ⟨_, _, rfl, rfl, _, _, rfl, ?_⟩
  obtain ⟨k, ek, hk, hk0⟩ : ∃ k : Nat, (if 1 + xm < ((l h : Nat) : Int) then 1 + xm else ((l h : Nat) : Int)) = (k : Int) ∧ k ≤ l h ∧ (k = 0 → l h = 0) := by
    by_cases c : 1 + xm < ((l h : Nat) : Int)
    · rw [if_pos c]
      exact ⟨(1 + xm).toNat, by omega, by omega, by omega⟩
    · rw [if_neg c]
      exact ⟨l h, rfl, Nat.le_refl _, fun z => z⟩
  rw [ek]
  have el11 := b11 _ _ (Ne.symm nalf) el10
  have ef11 := b11 _ _ (Ne.symm nafo) ef10
  have hlh : l h ≤ l 0 + l 1 := by
    obtain rfl | rfl : h = 0 ∨ h = 1 := by omega
    · omega
    · omega
  have hl2 : l h ≤ 2 * r := by have := hW.2 h hh; omega
  refine ⟨_, rfl, _, rfl, (by show 1 ≤ sizeLine; decide), fun q0 hq0 => ?_⟩
  have u1 := same_new hq0 (.lst [V.int (h : Int)])
  refine ⟨_, rfl, q0, _, _, rfl, rfl, upd_same, by omega, by omega, ?_, fun q1 hq1 => ?_⟩
  · exact Nat.le_trans (show 1 * ((k : Nat) : Int).toNat ≤ 100 by omega) (by decide)
  rw [rep_flat, Int.toNat_natCast, hl_rep]
  have u2 := same_new hq1 (.lst (TB.hl (List.replicate k h)))
  refine ⟨fo, q1, _, _, rfl, rfl, (u1.trans u2) _ _ ef11, upd_same, ?_, fun q2 hq2 => ?_⟩
  · rw [hl_len, hl_len, List.length_replicate]
    exact Nat.le_trans (show hs.length + k ≤ 100 by omega) (by decide)
  rw [hl_app]
  have u3 := same_new hq2 (.lst (TB.hl (hs ++ List.replicate k h)))
  have ef12 : (upd (upd (upd H11 q0 (.lst [V.int (h : Int)])) q1 (.lst (TB.hl (List.replicate k h)))) q2 (.lst (TB.hl (hs ++ List.replicate k h)))) q2 = some (.lst (TB.hl (hs ++ List.replicate k h))) := upd_same
  have u13 := (u1.trans u2).trans u3
  have hq2H : H q2 = none := by
    have z := (w11.same (u1.trans u2)).ne hq2
    exact none_of_but ((((b9.trans b10).trans b11).trans (.same (u1.trans u2)))) (Ne.symm z) hq2
  have naq2 : a ≠ q2 := (w11.same (u1.trans u2)).ne hq2
  have nlq2 : lf ≠ q2 := ne_of_none ((u1.trans u2) _ _ el11) hq2
  have w12 := w11.same u13
  have el12 := u13 _ _ el11
  have b12 := (((b9.trans b10).trans b11).trans (.same u13))
  generalize upd (upd (upd H11 q0 (.lst [V.int (h : Int)])) q1 (.lst (TB.hl (List.replicate k h)))) q2 (.lst (TB.hl (hs ++ List.replicate k h))) = H12 at ef12 w12 el12 b12 ⊢
  clear u1 u2 u3 u13 hq0 hq1 hq2 w11 w10 w9 b9 b10 b11 el9 el10 el11 ef9 ef10 ef11 e0
  have hW1 := hW.more hh hk
  have et := TB.two_set (fun i : Nat => V.int ((l i : Nat) : Int)) hh (V.int ((l h - k : Nat) : Int))
  have e13 : ([TB.upf (fun i : Nat => V.int ((l i : Nat) : Int)) h (V.int ((l h - k : Nat) : Int)) 0, TB.upf (fun i : Nat => V.int ((l i : Nat) : Int)) h (V.int ((l h - k : Nat) : Int)) 1] : List V) = [V.int ((TB.upf l h (l h - k) 0 : Nat) : Int), V.int ((TB.upf l h (l h - k) 1 : Nat) : Int)] := by
    obtain rfl | rfl : h = 0 ∨ h = 1 := by omega
    · rfl
    · rfl
  rw [e13] at et
  have et : ([V.int ((l 0 : Nat) : Int), V.int ((l 1 : Nat) : Int)] : List V).set h (V.int ((l h - k : Nat) : Int)) = [V.int ((TB.upf l h (l h - k) 0 : Nat) : Int), V.int ((TB.upf l h (l h - k) 1 : Nat) : Int)] := et
  have ed : ((l h : Nat) : Int) - (k : Int) = ((l h - k : Nat) : Int) := by omega
  refine ⟨_, rfl, _, rfl, lf, _, _, _, rfl, rfl, SqL.of el12, atI_nat gl, _, rfl, _, _, rfl, rfl, _, rfl, _, rfl, lf, _, _, h, rfl, rfl, el12, ix2 hh _ _, ?_⟩
  dsimp only
  rw [ed, et]
  have ef13 := (But.at (a := lf) (o := .lst [V.int ((TB.upf l h (l h - k) 0 : Nat) : Int), V.int ((TB.upf l h (l h - k) 1 : Nat) : Int)]) : But lf H12 _) _ _ (Ne.symm nlq2) ef12
  have el13 : (upd H12 lf (.lst [V.int ((TB.upf l h (l h - k) 0 : Nat) : Int), V.int ((TB.upf l h (l h - k) 1 : Nat) : Int)])) lf = some (.lst [V.int ((TB.upf l h (l h - k) 0 : Nat) : Int), V.int ((TB.upf l h (l h - k) 1 : Nat) : Int)]) := upd_same
  have w13 := w12.but nalf (But.at (a := lf) (o := .lst [V.int ((TB.upf l h (l h - k) 0 : Nat) : Int), V.int ((TB.upf l h (l h - k) 1 : Nat) : Int)]))
  have b13 := b12.new hlf (o := .lst [V.int ((TB.upf l h (l h - k) 0 : Nat) : Int), V.int ((TB.upf l h (l h - k) 1 : Nat) : Int)])
  generalize upd H12 lf (.lst [V.int ((TB.upf l h (l h - k) 0 : Nat) : Int), V.int ((TB.upf l h (l h - k) 1 : Nat) : Int)]) = H13 at ef13 el13 w13 b13 ⊢
  have sum : TB.upf l h (l h - k) 0 + TB.upf l h (l h - k) 1 + k = l 0 + l 1 := by
    obtain rfl | rfl : h = 0 ∨ h = 1 := by omega
    · show l 0 - k + l 1 + k = _
      omega
    · show l 0 + (l 1 - k) + k = _
      omega
  have hup : TB.upf l h (l h - k) h = l h - k := TB.upf_same
  generalize TB.upf l h (l h - k) = l' at *
  generalize hs ++ List.replicate k h = hs' at *
  clear ef12 el12 w12 b12 et e13 ed gl
  have hlen' := hW1.len
  have h1 : 1 - h < 2 := by omega
  have gh : ([V.int ((l' 0 : Nat) : Int), V.int ((l' 1 : Nat) : Int)] : List V)[h]? = some (.int ((l' h : Nat) : Int)) := TB.two_get (fun i => V.int ((l' i : Nat) : Int)) hh
  have g1 : ([V.int ((l' 0 : Nat) : Int), V.int ((l' 1 : Nat) : Int)] : List V)[1 - h]? = some (.int ((l' (1 - h) : Nat) : Int)) := TB.two_get (fun i => V.int ((l' i : Nat) : Int)) h1
  have e1h : 1 - (h : Int) = ((1 - h : Nat) : Int) := by omega
  have le1 := hW1.2 h hh
  have le2 := hW1.2 (1 - h) h1
  refine ⟨_, rfl, _, rfl, _, _, rfl, rfl, lf, _, _, _, rfl, rfl, SqL.of el13, (by rw [e1h]; exact atI_nat g1), rfl, _, rfl, ?_⟩
  refine orW (l' (1 - h) = 0 ∨ (l' h = 0 ∧ k = 0)) ?_ (fun z => .inl (by have z := of_decide_eq_true z; injection z with z; omega)) ?_
  · intro cond
    refine ⟨_, rfl, _, rfl, (by show 1 ≤ sizeLine; decide), fun p0 h0 => ?_⟩
    have t0 := same_new h0 (.lst [V.int (h : Int)])
    refine ⟨_, rfl, _, rfl, lf, _, _, _, rfl, rfl, SqL.of (t0 _ _ el13), atI_nat gh, p0, _, _, rfl, rfl, upd_same, by omega, by omega, ?_, fun p1 hp1 => ?_⟩
    · exact Nat.le_trans (show 1 * ((l' h : Nat) : Int).toNat ≤ 100 by omega) (by decide)
    rw [rep_flat, Int.toNat_natCast, hl_rep]
    have t1 := t0.trans (same_new hp1 (.lst (TB.hl (List.replicate (l' h) h))))
    refine ⟨q2, p1, _, _, rfl, rfl, t1 _ _ ef13, upd_same, ?_, fun p2 hp2 => ?_⟩
    · rw [hl_len, hl_len, List.length_replicate]
      exact Nat.le_trans (show hs'.length + l' h ≤ 100 by omega) (by decide)
    rw [hl_app]
    have t2 := t1.trans (same_new hp2 (.lst (TB.hl (hs' ++ List.replicate (l' h) h))))
    have ep2 : (upd (upd (upd H13 p0 (.lst [V.int (h : Int)])) p1 (.lst (TB.hl (List.replicate (l' h) h)))) p2 (.lst (TB.hl (hs' ++ List.replicate (l' h) h)))) p2 = some (.lst (TB.hl (hs' ++ List.replicate (l' h) h))) := upd_same
    generalize upd (upd (upd H13 p0 (.lst [V.int (h : Int)])) p1 (.lst (TB.hl (List.replicate (l' h) h)))) p2 (.lst (TB.hl (hs' ++ List.replicate (l' h) h))) = H14 at t2 ep2 ⊢
    clear t0 t1 h0 hp1 hp2
    refine ⟨_, rfl, _, _, rfl, rfl, (by show 1 ≤ sizeLine; decide), fun p3 hp3 => ?_⟩
    dsimp only
    rw [e1h]
    have t3 := same_new hp3 (.lst [V.int ((1 - h : Nat) : Int)])
    refine ⟨_, rfl, _, rfl, _, _, rfl, rfl, lf, _, _, _, rfl, rfl, SqL.of (t3 _ _ (t2 _ _ el13)), (by rw [e1h]; exact atI_nat g1), p3, _, _, rfl, rfl, upd_same, by omega, by omega, ?_, fun p4 hp4 => ?_⟩
    · exact Nat.le_trans (show 1 * ((l' (1 - h) : Nat) : Int).toNat ≤ 100 by omega) (by decide)
    rw [rep_flat, Int.toNat_natCast, hl_rep]
    have t4 := t3.trans (same_new hp4 (.lst (TB.hl (List.replicate (l' (1 - h)) (1 - h)))))
    refine ⟨p2, p4, _, _, rfl, rfl, t4 _ _ ep2, upd_same, ?_, fun p5 hp5 => ?_⟩
    · rw [hl_len, hl_len, List.length_append, List.length_replicate, List.length_replicate]
      exact Nat.le_trans (show hs'.length + l' h + l' (1 - h) ≤ 100 by omega) (by decide)
    rw [hl_app]
    have t5 := t4.trans (same_new hp5 (.lst (TB.hl (hs' ++ List.replicate (l' h) h ++ List.replicate (l' (1 - h)) (1 - h)))))
    have ep5 : (upd (upd (upd H14 p3 (.lst [V.int ((1 - h : Nat) : Int)])) p4 (.lst (TB.hl (List.replicate (l' (1 - h)) (1 - h))))) p5 (.lst (TB.hl (hs' ++ List.replicate (l' h) h ++ List.replicate (l' (1 - h)) (1 - h))))) p5 = some (.lst (TB.hl (hs' ++ List.replicate (l' h) h ++ List.replicate (l' (1 - h)) (1 - h)))) := upd_same
    have w15 : WellAt (upd (upd (upd H14 p3 (.lst [V.int ((1 - h : Nat) : Int)])) p4 (.lst (TB.hl (List.replicate (l' (1 - h)) (1 - h))))) p5 (.lst (TB.hl (hs' ++ List.replicate (l' h) h ++ List.replicate (l' (1 - h)) (1 - h))))) a _ := w13.same (t2.trans t5)
    have b15 : But a H (upd (upd (upd H14 p3 (.lst [V.int ((1 - h : Nat) : Int)])) p4 (.lst (TB.hl (List.replicate (l' (1 - h)) (1 - h))))) p5 (.lst (TB.hl (hs' ++ List.replicate (l' h) h ++ List.replicate (l' (1 - h)) (1 - h))))) := b13.trans (.same (t2.trans t5))
    have hp5H : H p5 = none := none_of_but (b13.trans (.same (t2.trans t4))) (Ne.symm ((w13.same (t2.trans t4)).ne hp5)) hp5
    generalize upd (upd (upd H14 p3 (.lst [V.int ((1 - h : Nat) : Int)])) p4 (.lst (TB.hl (List.replicate (l' (1 - h)) (1 - h))))) p5 (.lst (TB.hl (hs' ++ List.replicate (l' h) h ++ List.replicate (l' (1 - h)) (1 - h)))) = H15 at ep5 w15 b15 ⊢
    refine ⟨(by show 2 ≤ sizeLine; decide), fun p6 hp6 => ?_⟩
    have t6 := same_new hp6 (.lst [V.int 0, V.int 0])
    have hp6H : H p6 = none := none_of_but b15 (Ne.symm (w15.ne hp6)) hp6
    have n65 : p6 ≠ p5 := (ne_of_none ep5 hp6).symm
    have a6 := w15.ne hp6
    have a5 : a ≠ p5 := by
      obtain ⟨zw, ez⟩ := (w13.same (t2.trans t4)).lst
      exact ne_of_none ez hp5
    refine ⟨0, ?_, p6, p5, _, _, fun _ => 0, _, rfl, rfl, b15.trans (.same t6), (w15.same t6).up (by omega), hp6H, upd_same, hp5H, t6 _ _ ep5, n65, a6, a5, ?_⟩
    · omega
    · have hW2 := (hW1.more hh (Nat.le_refl _)).more h1 (k := l' (1 - h)) (by rw [TB.upf_ne (by omega)]; exact Nat.le_refl _)
      exact ⟨hW2.1, fun i hi => by have := hW2.2 i hi; show _ + 0 ≤ 2 * r; omega⟩
  · intro c kT
    refine ⟨_, rfl, _, rfl, lf, _, _, _, rfl, rfl, SqL.of el13, atI_nat gh, rfl, _, rfl, ?_⟩
    by_cases c1 : l' h = 0
    · refine iteT' (decide_eq_true (by rw [c1]; rfl)) ⟨_, rfl, rfl, _, rfl, ?_⟩
      by_cases c2 : k = 0
      · exact iteT' (decide_eq_true (by rw [c2]; rfl)) (kT (.inr ⟨c1, c2⟩))
      · refine iteF' (decide_eq_false fun z => c2 (by injection z with z; omega)) ?_
        exact ⟨_, by omega, lf, q2, _, _, l', hs', rfl, rfl, b13, w13.up (by omega), hlf, el13, hq2H, ef13, nlq2, nalf, naq2, hW1⟩
    · refine iteF' (decide_eq_false fun z => c1 (by injection z with z; omega)) (iteF ?_)
      have k1 : k ≠ 0 := fun z => c1 (by have := hk0 z; omega)
      exact ⟨_, by omega, lf, q2, _, _, l', hs', rfl, rfl, b13, w13.up (by omega), hlf, el13, hq2H, ef13, nlq2, nalf, naq2, hW1⟩
end
end TA

set_option Elab.async false
set_option maxRecDepth 100000
set_option maxHeartbeats 4000000
namespace TB
open PySem L2 PyProof.Rows
set_option linter.unusedVariables false
/-! the hands exchanged: places mirrored -/
def mh (hs : List Nat) : List Nat := hs.map fun x => 1 - x
structure Mir (p p' : Pm) : Prop where
  l : ∀ h, h < 2 → p'.l h = p.l (1 - h)
  n : ∀ h, h < 2 → p'.n h = p.n (1 - h)
  q : ∀ h, h < 2 → ∀ t, t ≤ p.l (1 - h) → p'.q h t = (3 : Int) ^ t - p.q (1 - h) t
theorem Mir.zero : Mir P0 P0 where
  l := fun h _ => rfl
  n := fun h _ => rfl
  q := fun h hh t ht => by
    obtain rfl : t = 0 := Nat.le_zero.mp ht
    obtain rfl | rfl : h = 0 ∨ h = 1 := by omega
    · rfl
    · rfl
theorem Mir.step {p p' : Pm} (M : Mir p p') (N : Nb p) {z : Nat} (hz : z < 2) : Mir (p.step z) (p'.step (1 - z)) := by
  have hy : 1 - z < 2 := by omega
  have ez : 1 - (1 - z) = z := by omega
  have l1 := M.l (1 - z) hy
  have n1 := M.n (1 - z) hy
  have n2 := M.n z hz
  rw [ez] at l1 n1
  have a1 := N.n1 z hz
  have a2 := N.n1 (1 - z) hy
  unfold Pm.step
  by_cases c : p.l z < p.n z
  · rw [if_pos c, if_pos (show p'.l (1 - z) < p'.n (1 - z) by omega)]
    refine ⟨fun h hh => ?_, M.n, fun h hh t ht => ?_⟩
    · show upf p'.l (1 - z) (p'.l (1 - z) + 1) h = upf p.l z (p.l z + 1) (1 - h)
      by_cases e : h = 1 - z
      · subst e
        rw [ez, upf_same, upf_same, l1]
      · rw [upf_ne e, upf_ne (by omega)]
        exact M.l h hh
    · have ht : t ≤ upf p.l z (p.l z + 1) (1 - h) := ht
      show upf p'.q (1 - z) (upf (p'.q (1 - z)) (p'.l (1 - z) + 1) (p'.nxt (1 - z))) h t = (3 : Int) ^ t - upf p.q z (upf (p.q z) (p.l z + 1) (p.nxt z)) (1 - h) t
      by_cases e : h = 1 - z
      · subst e
        rw [ez, upf_same] at ht
        rw [ez, upf_same, upf_same, l1]
        by_cases et : t = p.l z + 1
        · subst et
          rw [upf_same, upf_same]
          have q1 := M.q (1 - z) hy (p.l z) (by rw [ez]; exact Nat.le_refl _)
          rw [ez] at q1
          unfold Pm.nxt
          rw [ez, l1, n2, q1, Int.pow_succ]
          by_cases c2 : p.l z < p.n (1 - z)
          · rw [if_pos c2, if_pos c2]
            have q2 := M.q z hz (p.l z) (by omega)
            rw [q2]
            omega
          · rw [if_neg c2, if_neg c2]
            omega
        · rw [upf_ne et, upf_ne et]
          have := M.q (1 - z) hy t (by rw [ez]; omega)
          rw [ez] at this
          exact this
      · rw [upf_ne (show 1 - h ≠ z by omega)] at ht
        rw [upf_ne e, upf_ne (show 1 - h ≠ z by omega)]
        exact M.q h hh t ht
  · rw [if_neg c, if_neg (show ¬ p'.l (1 - z) < p'.n (1 - z) by omega)]
    refine ⟨M.l, fun h hh => ?_, M.q⟩
    show upf p'.n (1 - z) (p'.n (1 - z) + 1) h = upf p.n z (p.n z + 1) (1 - h)
    by_cases e : h = 1 - z
    · subst e
      rw [ez, upf_same, upf_same, n1]
    · rw [upf_ne e, upf_ne (by omega)]
      exact M.n h hh
theorem Mir.run : ∀ {hs : List Nat} {p p' : Pm}, (∀ h ∈ hs, h < 2) → Mir p p' → Nb p → Mir (p.run hs) (p'.run (mh hs)) ∧ Nb (p.run hs)
  | [], _, _, _, M, N => ⟨M, N⟩
  | h :: r, p, p', q, M, N => Mir.run (hs := r) (p := p.step h) (p' := p'.step (1 - h)) (fun x hx => q x (List.mem_cons_of_mem _ hx)) (M.step N (q h List.mem_cons_self)) (N.step (q h List.mem_cons_self))
theorem mh_count : ∀ {hs : List Nat} {h : Nat}, (∀ x ∈ hs, x < 2) → h < 2 → (mh hs).count h = hs.count (1 - h)
  | [], _, _, _ => rfl
  | x :: r, h, q, hh => by
    have hx := q x List.mem_cons_self
    have ih := mh_count (hs := r) (h := h) (fun y hy => q y (List.mem_cons_of_mem _ hy)) hh
    show ((1 - x) :: mh r).count h = (x :: r).count (1 - h)
    rw [List.count_cons, List.count_cons, ih]
    have : ((1 - x) == h) = (x == (1 - h)) := by
      rw [Bool.eq_iff_iff, beq_iff_eq, beq_iff_eq]
      omega
    rw [this]
theorem mh_lt {hs : List Nat} : ∀ h ∈ mh hs, h < 2 := fun h hh => by
  obtain ⟨x, _, rfl⟩ := List.mem_map.mp hh
  omega
theorem mir_cur {hs : List Nat} {r h : Nat} (q : ∀ x ∈ hs, x < 2) (hh : h < 2) (c : hs.count (1 - h) = 2 * r) : (P0.run (mh hs)).cur h = ((3 ^ r : Nat) : Int) - (P0.run hs).cur (1 - h) ∧ 0 ≤ (P0.run hs).cur (1 - h) ∧ (P0.run hs).cur (1 - h) ≤ ((3 ^ r : Nat) : Int) := by
  obtain ⟨M, N⟩ := Mir.run q Mir.zero Nb.zero
  have hy : 1 - h < 2 := by omega
  have d := Pm.done_run P0 (1 - h) hs
  have hd : (P0.run hs).done (1 - h) = 2 * r := by rw [d, c]; show 0 + 0 + _ = _; omega
  have l := (N.half hy).1
  rw [hd] at l
  have lr : (P0.run hs).l (1 - h) = r := by omega
  unfold Pm.cur
  rw [M.l h hh, M.q h hh _ (Nat.le_refl _), lr, Int.natCast_pow]
  have n5 := (N.n5 (1 - h) hy r (by omega)).2
  exact ⟨rfl, n5.1, n5.2⟩
end TB

set_option Elab.async false
set_option maxRecDepth 100000
set_option maxHeartbeats 4000000
namespace TA
open PySem L2 PyProof.Rows
set_option linter.unusedVariables false
/-! a task with its hands exchanged -/
def swp (p : Int × Int) : Int × Int := (p.2, p.1)
def swI (p : IP) : IP := (p.2, p.1)
theorem swI_inj {p q : IP} (h : swI p = swI q) : p = q := by
  unfold swI at h
  injection h with a b
  exact Prod.ext b a
def SwE (e f : EB) : Prop := f.1 = swI e.1 ∧ f.2.Perm (e.2.map swp) ∧ f.2.Pairwise ltP
structure SwT (T U : TD) : Prop where
  al : ∀ h, h < 2 → U.al h = T.al (1 - h)
  bo : A2 SwE T.bo U.bo
theorem SwE.mem {e f : EB} (h : SwE e f) (o : Int × Int) : o ∈ f.2 ↔ swp o ∈ e.2 := by
  rw [h.2.1.mem_iff, List.mem_map]
  constructor
  · rintro ⟨x, hx, rfl⟩
    exact hx
  · exact fun hx => ⟨_, hx, rfl⟩
theorem sw_keys : ∀ {xs ys : BD}, A2 SwE xs ys → ys.map (·.1) = (xs.map (·.1)).map swI
  | _, _, .nil => rfl
  | _, _, .cons a b => by rw [List.map_cons, List.map_cons, List.map_cons, a.1, sw_keys b]
theorem A2.back {α β : Type} {R : α → β → Prop} {xs : List α} {ys : List β} {y : β} (h : A2 R xs ys) (m : y ∈ ys) : ∃ x, x ∈ xs ∧ R x y := by
  obtain ⟨i, hi⟩ := List.getElem?_of_mem m
  obtain ⟨x, hx, r⟩ := h.at hi
  exact ⟨x, List.mem_of_getElem? hx, r⟩
theorem SwT.wf {T U : TD} (S : SwT T U) (W : WF T) : WF U where
  n0 := fun h hh => by rw [S.al h hh]; exact W.n0 (1 - h) (by omega)
  row := fun h hh r hr => by rw [S.al h hh] at hr; exact W.row (1 - h) (by omega) r hr
  srt := by
    rw [sw_keys S.bo, List.pairwise_map]
    exact List.Pairwise.imp (fun h c => h (swI_inj c)) W.srt
  rng := fun f hf => by
    obtain ⟨e, he, r⟩ := S.bo.back hf
    have := W.rng e he
    rw [r.1, S.al 0 (by decide), S.al 1 (by decide)]
    exact ⟨this.2, this.1⟩
  lets := fun f hf => by
    obtain ⟨e, he, r⟩ := S.bo.back hf
    have := W.lets e he
    have hl := r.2.1.length_eq
    rw [List.length_map] at hl
    refine ⟨by rw [hl]; exact this.1, by rw [hl]; exact this.2.1, r.2.2, fun o ho => ?_⟩
    have := this.2.2.2 _ ((r.mem o).mp ho)
    exact ⟨this.2, this.1⟩
  com0 := fun x hx => by
    rw [S.al 0 (by decide)] at hx
    obtain ⟨e, he, k⟩ := W.com1 x hx
    obtain ⟨f, hf, r⟩ := S.bo.mem he
    exact ⟨f, hf, by rw [r.1]; exact k⟩
  com1 := fun x hx => by
    rw [S.al 1 (by decide)] at hx
    obtain ⟨e, he, k⟩ := W.com0 x hx
    obtain ⟨f, hf, r⟩ := S.bo.mem he
    exact ⟨f, hf, by rw [r.1]; exact k⟩
  many := by rw [← S.bo.len]; exact W.many
theorem key_one {bo : BD} (h : (bo.map (·.1)).Pairwise (· ≠ ·)) : ∀ {e f : EB}, e ∈ bo → f ∈ bo → e.1 = f.1 → e = f := by
  induction bo with
  | nil => intro e f he; cases he
  | cons b r ih =>
    intro e f he hf k
    rw [List.map_cons, List.pairwise_cons] at h
    rcases List.mem_cons.mp he with e1 | he'
    · rcases List.mem_cons.mp hf with e2 | hf'
      · rw [e1, e2]
      · exact (h.1 _ (List.mem_map.mpr ⟨f, hf', rfl⟩) (by rw [← e1]; exact k)).elim
    · rcases List.mem_cons.mp hf with e2 | hf'
      · exact (h.1 _ (List.mem_map.mpr ⟨e, he', rfl⟩) (by rw [← e2]; exact k.symm)).elim
      · exact ih h.2 he' hf' k
/-! the protocol, turned -/
def chS (ch : Nat → List Int) : Nat → List Int := fun h => ch (1 - h)
def wkS (T : TD) (wk : EB → List Int) : EB → List Int := fun f => ((T.bo.find? fun e => decide (swI e.1 = f.1)).map fun e => (wk e).reverse).getD []
theorem wkS_at {T : TD} (W : WF T) {wk : EB → List Int} {e f : EB} (he : e ∈ T.bo) (h : f.1 = swI e.1) : wkS T wk f = (wk e).reverse := by
  unfold wkS
  cases c : T.bo.find? fun e => decide (swI e.1 = f.1) with
  | none =>
    have := List.find?_eq_none.mp c e he
    exact absurd (decide_eq_true h.symm) this
  | some e' =>
    have h1 := List.find?_some c
    have h2 := List.mem_of_find?_eq_some c
    have h3 : swI e'.1 = f.1 := of_decide_eq_true h1
    rw [key_one W.srt h2 he (swI_inj (h3.trans h))]
    rfl
theorem sel_sw {h : Nat} (hh : h < 2) (p : IP) : sel h (swI p) = sel (1 - h) p := by
  obtain rfl | rfl : h = 0 ∨ h = 1 := by omega
  · rfl
  · rfl
theorem chO_sw {ch : Nat → List Int} {h : Nat} (hh : h < 2) (p : IP) : chO (chS ch) h (swI p) = chO ch (1 - h) p := by
  unfold chO chS
  rw [sel_sw hh]
theorem rev_get {w : List Int} {n i : Nat} (hl : w.length = n + 1) (hi : i ≤ n) : w.reverse.getD i 0 = w.getD (n - i) 0 := by
  rw [List.getD_eq_getElem?_getD, List.getD_eq_getElem?_getD, List.getElem?_reverse (by omega), hl]
  rw [show n + 1 - 1 - i = n - i by omega]
theorem tell_mir {T : TD} (W : WF T) {r : Nat} {ch : Nat → List Int} {wk : EB → List Int} {e f : EB} {hs : List Nat} (q : ∀ x ∈ hs, x < 2) (he : e ∈ T.bo) (hf : f.1 = swI e.1) (hl : (wk e).length = 3 ^ r + 1) {h : Nat} (hh : h < 2) :
    tellP r (chS ch) (wkS T wk) f (TB.mh hs) h = tellP r ch wk e hs (1 - h) := by
  unfold tellP
  rw [TB.mh_count q hh]
  by_cases c : hs.count (1 - h) = 2 * r
  · rw [if_pos c, if_pos c]
    obtain ⟨m1, m2, m3⟩ := TB.mir_cur q hh c
    rw [m1]
    generalize (TB.P0.run hs).cur (1 - h) = j at m2 m3
    refine congrArg some ?_
    unfold outAt
    rw [hf, chO_sw hh, wkS_at W he hf]
    generalize 3 ^ r = n at m3 hl
    by_cases c2 : j = 0 ∨ j = (n : Int)
    · rw [if_pos c2, if_pos (by omega)]
    · rw [if_neg c2, if_neg (by omega), rev_get hl (by omega)]
      congr 1
      omega
  · rw [if_neg c, if_neg c]
/-! faults of both -/
def okAll (T : TD) (ch : Nat → List Int) : Prop := ∀ h a, h < 2 → a < (T.al h).length → okA T ch h a
def okWs (T : TD) (r : Nat) (ch : Nat → List Int) (wk : EB → List Int) : Prop := ∀ e ∈ T.bo, walkP r ch wk e
theorem okA_sw {T U : TD} (S : SwT T U) {ch : Nat → List Int} {h a : Nat} (hh : h < 2) : okA U (chS ch) h a ↔ okA T ch (1 - h) a := by
  unfold okA chS
  rw [S.al h hh]
theorem okAll_sw {T U : TD} (S : SwT T U) {ch : Nat → List Int} : okAll U (chS ch) ↔ okAll T ch := by
  constructor
  · intro q h a hh ha
    have h1 : 1 - h < 2 := by omega
    have e : 1 - (1 - h) = h := by omega
    have := (okA_sw S h1).mp (q (1 - h) a h1 (by rw [S.al _ h1, e]; exact ha))
    rw [e] at this
    exact this
  · intro q h a hh ha
    rw [S.al h hh] at ha
    exact (okA_sw S hh).mpr (q (1 - h) a (by omega) ha)
theorem odd_pow (r : Nat) : 3 ^ r % 2 = 1 := by
  induction r with
  | zero => rfl
  | succ r ih => rw [Nat.pow_succ, Nat.mul_mod, ih]
theorem stp_sw {w : List Int} {n i : Nat} (hl : w.length = n + 1) (ho : n % 2 = 1) (hi : i < n) : stp w.reverse i = swp (stp w (n - 1 - i)) := by
  unfold stp swp
  rw [rev_get hl (by omega), rev_get hl (by omega)]
  have e1 : n - 1 - i + 1 = n - i := by omega
  have e2 : n - (i + 1) = n - 1 - i := by omega
  by_cases c : i % 2 = 0
  · rw [if_pos c, if_pos (by omega), e1, e2]
  · rw [if_neg c, if_neg (by omega), e1, e2]
theorem walk_sw {T : TD} (W : WF T) {r : Nat} {ch : Nat → List Int} {wk : EB → List Int} {e f : EB} (he : e ∈ T.bo) (hf : SwE e f) (hl : (wk e).length = 3 ^ r + 1) : walkP r (chS ch) (wkS T wk) f ↔ walkP r ch wk e := by
  have od := odd_pow r
  unfold walkP endsP
  rw [wkS_at W he hf.1, hf.1, chO_sw (by decide), chO_sw (by decide), rev_get hl (Nat.zero_le _), rev_get hl (Nat.le_refl _), Nat.sub_self, Nat.sub_zero]
  generalize 3 ^ r = n at hl od
  constructor
  · rintro ⟨⟨a, b⟩, c⟩
    refine ⟨⟨b, a⟩, fun i hi => ?_⟩
    have := (hf.mem _).mp (c (n - 1 - i) (by omega))
    rw [stp_sw hl od (by omega), show n - 1 - (n - 1 - i) = i by omega] at this
    exact this
  · rintro ⟨⟨a, b⟩, c⟩
    refine ⟨⟨b, a⟩, fun i hi => (hf.mem _).mpr ?_⟩
    rw [stp_sw hl od hi]
    exact c (n - 1 - i) (by omega)
theorem okWs_sw {T U : TD} (S : SwT T U) (W : WF T) {r : Nat} {ch : Nat → List Int} {wk : EB → List Int} (hl : ∀ e ∈ T.bo, (wk e).length = 3 ^ r + 1) : okWs U r (chS ch) (wkS T wk) ↔ okWs T r ch wk := by
  constructor
  · intro q e he
    obtain ⟨f, hf, x⟩ := S.bo.mem he
    exact (walk_sw W he x (hl e he)).mp (q f hf)
  · intro q f hf
    obtain ⟨e, he, x⟩ := S.bo.back hf
    exact (walk_sw W he x (hl e he)).mpr (q e he)
/-- the word of a fault -/
def Wd (H : Hp) (fv v : V) : Prop := (fv = .non ∧ v = .non) ∨ ∃ u xs w, fv = .ref u ∧ H u = some (.tup (.str w :: xs)) ∧ ((w = "alone" ∧ v = .str "alone") ∨ ((w = "ends" ∨ w = "step") ∧ v = .str "walk"))
theorem Wd.same {H H' : Hp} (s : Same H H') {fv v : V} (h : Wd H fv v) : Wd H' fv v := h.imp id fun ⟨u, xs, w, a, b, c⟩ => ⟨u, xs, w, a, s _ _ b, c⟩
def WdP (T : TD) (r : Nat) (ch : Nat → List Int) (wk : EB → List Int) (v : V) : Prop := (v = .non ∧ okAll T ch ∧ okWs T r ch wk) ∨ (v = .str "alone" ∧ ¬ okAll T ch) ∨ (v = .str "walk" ∧ okAll T ch ∧ ¬ okWs T r ch wk)
theorem fres_word {T : TD} {r : Nat} {ch : Nat → List Int} {wk : EB → List Int} {fv : V} {H : Hp} (h : FRes T r ch wk fv H) : ∃ v, Wd H fv v ∧ WdP T r ch wk v := by
  rcases h with ⟨rfl, a, b⟩ | ⟨u, h, a, rfl, e, h1, h2, h3, h4⟩ | ⟨u, e, tt, k, rfl, eu, ht, h1, h2, h3, h4⟩ | ⟨u, e, tt, k, i, rfl, eu, ht, h1, h2, h3, h4, h5, h6, h7⟩
  · exact ⟨_, .inl ⟨rfl, rfl⟩, .inl ⟨rfl, a, b⟩⟩
  · exact ⟨_, .inr ⟨u, _, _, rfl, e, .inl ⟨rfl, rfl⟩⟩, .inr (.inl ⟨rfl, fun c => h3 (c _ _ h1 h2)⟩)⟩
  · exact ⟨_, .inr ⟨u, _, _, rfl, eu, .inr ⟨.inl rfl, rfl⟩⟩, .inr (.inr ⟨rfl, h1, fun c => h4 (c e (sb_mem.mp (List.mem_of_getElem? h2))).1⟩)⟩
  · exact ⟨_, .inr ⟨u, _, _, rfl, eu, .inr ⟨.inr rfl, rfl⟩⟩, .inr (.inr ⟨rfl, h1, fun c => h6 ((c e (sb_mem.mp (List.mem_of_getElem? h2))).2 _ h5)⟩)⟩
theorem wdp_one {T U : TD} (S : SwT T U) (W : WF T) {r : Nat} {ch : Nat → List Int} {wk : EB → List Int} (hl : ∀ e ∈ T.bo, (wk e).length = 3 ^ r + 1) {v v' : V} (h : WdP T r ch wk v) (h' : WdP U r (chS ch) (wkS T wk) v') : v = v' := by
  unfold WdP at h'
  rw [okAll_sw S, okWs_sw S W hl] at h'
  rcases h with ⟨rfl, a, b⟩ | ⟨rfl, a⟩ | ⟨rfl, a, b⟩
  · rcases h' with ⟨rfl, _, _⟩ | ⟨rfl, c⟩ | ⟨rfl, _, c⟩
    · rfl
    · exact absurd a c
    · exact absurd b c
  · rcases h' with ⟨rfl, c, _⟩ | ⟨rfl, c⟩ | ⟨rfl, c, _⟩
    · exact absurd c a
    · rfl
    · exact absurd c a
  · rcases h' with ⟨rfl, _, c⟩ | ⟨rfl, c⟩ | ⟨rfl, _, c⟩
    · exact absurd c b
    · exact absurd a c
    · rfl
end TA

set_option Elab.async false
set_option maxRecDepth 100000
set_option maxHeartbeats 4000000
namespace TA
open PySem L2 PyProof.Rows
set_option linter.unusedVariables false
theorem code2 (x y : Int) : TS.code 64 [x, y] = x * 64 + y := by
  show x * 64 ^ 1 + (y * 64 ^ 0 + 0) = _
  omega
/-- what sorted tells of pairs, each once -/
theorem sortT_ls {K : PySem.W.Frag} {H : Hp} {xs ys : List V} {ms : List (Int × Int)} (a : A2 (TpAt H) xs ms) (nd : ms.Nodup) (ok : ∀ p ∈ ms, okOut p.1 ∧ okOut p.2) (pm : ys.Perm xs) (pw : ys.Pairwise (fun x y => ∀ n m, TupI K H x n → TupI K H y m → TS.code 64 n ≤ TS.code 64 m)) :
    ∃ ls : List (Int × Int), A2 (TpAt H) ys ls ∧ ls.Perm ms ∧ ls.Pairwise ltP := by
  obtain ⟨a1, a2⟩ := tp_perm a pm
  refine ⟨_, a1, a2, ?_⟩
  have nd' := a2.nodup_iff.mpr nd
  rw [List.pairwise_map]
  have nd2 := List.pairwise_map.mp nd'
  refine List.Pairwise.imp_of_mem (fun {x y} hx hy h => ?_) (List.Pairwise.imp₂ (fun a b h1 h2 => And.intro h1 h2) pw nd2)
  obtain ⟨h1, h2⟩ := h
  obtain ⟨px, hpx, tx⟩ := a.mem (pm.mem_iff.mp hx)
  obtain ⟨py, hpy, ty⟩ := a.mem (pm.mem_iff.mp hy)
  rw [dec_eq tx, dec_eq ty] at h2 ⊢
  obtain ⟨ox1, ox2⟩ := ok px hpx
  obtain ⟨oy1, oy2⟩ := ok py hpy
  obtain ⟨t1, rfl, e1⟩ := tx
  obtain ⟨t2, rfl, e2⟩ := ty
  have hc := h1 [px.1, px.2] [py.1, py.2] ⟨t1, rfl, SqT.of e1⟩ ⟨t2, rfl, SqT.of e2⟩
  rw [code2, code2] at hc
  have ne : ¬ (px.1 = py.1 ∧ px.2 = py.2) := fun ⟨a, b⟩ => h2 (Prod.ext a b)
  have := ox1.1; have := ox1.2; have := ox2.1; have := ox2.2; have := oy1.1; have := oy1.2; have := oy2.1; have := oy2.2
  show px.1 < py.1 ∨ (px.1 = py.1 ∧ px.2 < py.2)
  omega
theorem ltP_ne {p q : Int × Int} (h : ltP p q) : p ≠ q := fun c => by
  subst c
  rcases h with h | ⟨_, h⟩ <;> omega
theorem let_nodup {l : List (Int × Int)} (h : l.Pairwise ltP) : l.Nodup := List.Pairwise.imp ltP_ne h
theorem swp_nodup {l : List (Int × Int)} (h : l.Nodup) : (l.map swp).Nodup := by
  unfold List.Nodup
  rw [List.pairwise_map]
  refine List.Pairwise.imp (fun h c => h ?_) h
  unfold swp at c
  injection c with a b
  exact Prod.ext b a
theorem take_mapf {α β : Type} (f : α → β) {l : List α} {i : Nat} {x : α} (h : l[i]? = some x) : (l.take (i + 1)).map f = (l.take i).map f ++ [f x] := by
  rw [take_get h, List.map_append]
  rfl
def spSwap (K : PySem.W.Frag) (C : Addr) : Sp := fun vs H Q _ => ∃ (p : Addr) (T : TD), vs = [.ref p] ∧ TaskAt C H p T ∧ WF T ∧ ∀ (q : Addr) (U : TD) (H' : Hp), Same H H' → H q = none → SwT T U → NewAt C H H' q U → Q (.ref q) H'
section
variable {P : Program} {w : World} {K : PySem.W.Frag} {mg : Str → Option Value} {base : Heap}
abbrev nSwp : List Str := ["task", "alone", "both", "y", "x", "b", "a", "let"]
theorem sc_swp : FnScope nSwp ["task"] (defScope s_swapped) := ⟨rfl, rfl, rfl, by decide +kernel, rfl, by decide +kernel, by decide +kernel⟩
theorem ok_swp {f g1 C : Addr} {fd d1 : FuncData} (F : Fun K "swapped" "swapped" s_swapped f fd) (T2 : Txt2 K mg) (Z : TxtC K mg C) (Tk : KDef P w K mg base C "Task" ["self", "alone", "both"] 7 (spInit K C) g1 d1) : FnOk P w K mg base CX0 9 f fd ["task"] (spSwap K C) := by
  refine F.ok sc_swp (fun vs H Q E h => ?_) (fun cdv A outer s H vs Q E hr h => ?_)
  · obtain ⟨p, D, rfl, _⟩ := h
    rfl
  obtain ⟨p, D, rfl, hT, hW, q⟩ := h
  have nd := sc_swp.nd
  have hu := hu_of hr
  refine ⟨_, (pss_cons (ps_set (i := 1) nd rfl (Or.inl rfl) (pe_lst (pa_cons (pe_ix ix_list (pe_fld (pv 0) rfl) pe_int (fun _ _ => rfl)) (pa_cons (pe_ix ix_list (pe_fld (pv 0) rfl) pe_int (fun _ _ => rfl)) pa_nil))))
    (pss_cons (ps_lock (ps_setDcT (i := 2) (own := [("a", 6), ("b", 5), ("let", 7)]) (g := (gTup K 2 (gCons (gTup K 2 (gCons (gName 6) (gCons (gName 5) gNil))) (gCons (gName 7) gNil)))) (tt := tYes) (tk := (tTup (tCons (tVar 5) (tCons (tVar 6) tNil)))) (tv := (tCB (rSortU K 2 64) (tCons (tLc (iList K (tVar 7)) (gTup K 2 (gCons (gName 4) (gCons (gName 3) gNil))) tYes (tTup (tCons (tVar 3) (tCons (tVar 4) tNil))) [4, 3]) tNil))) hu rfl nd rfl rfl (sw_trueD rfl rfl rfl (by decide +kernel)) (pi_itemsT (pe_fld (pv 0) rfl)) (blkOk_by (N := nSwp) (sc := defScope s_swapped) (by decide +kernel)) (fun _ _ _ _ _ => (by exact (pg_tup (by rfl) (pgs_cons (pg_tup (by rfl) (pgs_cons (pg_name (i := 6) nd rfl (Or.inl rfl)) (pgs_cons (pg_name (i := 5) nd rfl (Or.inl rfl)) pgs_nil))) (pgs_cons (pg_name (i := 7) nd rfl (Or.inl rfl)) pgs_nil))))) (fun _ _ _ _ _ => pts_nil) (fun _ _ _ _ _ => (by exact (pe_tup (pa_cons (pv 5) (pa_cons (pv 6) pa_nil))))) (fun _ _ _ _ _ => (by exact (pe_callB (cr_sortT (d := 2) (B := 64) (by decide)) (by rfl) T2.sorted (by decide +kernel) (pa_cons (pe_lc (own := [("x", 4), ("y", 3)]) (g := (gTup K 2 (gCons (gName 4) (gCons (gName 3) gNil)))) (tt := tYes) (te := (tTup (tCons (tVar 3) (tCons (tVar 4) tNil)))) rfl nd (pi_list (pv 7)) (blkOk_by (N := nSwp)  (by kernel_rfl)) (fun _ _ _ _ _ => (by exact (pg_tup (by rfl) (pgs_cons (pg_name (i := 4) nd rfl (Or.inl rfl)) (pgs_cons (pg_name (i := 3) nd rfl (Or.inl rfl)) pgs_nil))))) (fun _ _ _ _ _ => pts_nil) (fun _ _ _ _ _ => (by exact (pe_tup (pa_cons (pv 3) (pa_cons (pv 4) pa_nil)))))) pa_nil))))))
    (pss_one (ps_ret (pe_make Tk.M Tk.G (hr.mono (by decide)) (by rfl) Tk.m Tk.b .nil pass0 (pa_cons (pv 1) (pa_cons (pv 2) pa_nil))))))), ?_⟩
  obtain ⟨dx, aa, d, hp, hA, hB⟩ := hT
  obtain ⟨t, x0, x1, e, ht, h0, h1⟩ := id hA
  obtain rfl : aa = t := by injection e
  refine ⟨_, rfl, p, C, dx, _, _, rfl, hp, Z.cl, Z.nA, flds_alone _ _, aa, _, _, _, rfl, rfl, SqL.of ht, atI_nat (j := 1) rfl, _, rfl, p, C, dx, _, _, rfl, hp, Z.cl, Z.nA, flds_alone _ _, aa, _, _, _, rfl, rfl, SqL.of ht, atI_nat (j := 0) rfl, (by show 2 ≤ sizeLine; decide), fun la hla => ?_⟩
  have s1 := same_new hla (.lst [x1, x0])
  have ela : (upd H la (.lst [x1, x0])) la = some (.lst [x1, x0]) := upd_same
  generalize upd H la (.lst [x1, x0]) = H1 at s1 ela ⊢
  obtain ⟨kvs, hd, ha⟩ := hB.mono s1
  have hp1 := s1 _ _ hp
  refine ⟨d, _, hd, trivial, fun od => ?_⟩
  have hd6 : (upd H1 d (.frz od (.dT kvs))) d = some (.frz od (.dT kvs)) := upd_same
  have npd : p ≠ d := ne_of hp1 hd (fun z => by cases z)
  refine ⟨_, rfl, p, C, dx, _, _, rfl, (by rw [upd_ne npd]; exact hp1), Z.cl, Z.nB, flds_both _ _, d, od, kvs, rfl, hd6, fun L hL => ?_⟩
  have nL : d ≠ L := ne_of_none hd6 hL
  have hLn : H1 L = none := none_of_but But.at (Ne.symm nL) hL
  refine itemT_turns (fun i H' => But d H1 H' ∧ H' d = some (.frz od (.dT kvs)) ∧ ∃ ks fs, H' L = some (.dT ks) ∧ A2 (EnAt H') ks fs ∧ A2 SwE (D.bo.take i) fs) ⟨But.at.trans (.same (same_new hL _)), by rw [upd_ne nL]; exact hd6, [], [], upd_same, .nil, .nil⟩ (fun i H' h => h.2.1) ?_ ?_
  · rintro i k x qa Tt H' hi hq hTn ⟨b1, e1, ks, fs, e2, as, aw⟩
    obtain ⟨eb, hbi, ek, hx⟩ := ha.get hi
    dsimp only at ek hx
    subst ek
    have hem := List.mem_of_getElem? hbi
    have okl := hW.lets eb hem
    have rg := hW.rng eb hem
    have s2 := same_new hTn (.tup [V.ref qa, x])
    have kp : Kp H1 (upd H' Tt (.tup [V.ref qa, x])) := (b1.kp hd nf_dT).trans (.same s2)
    obtain ⟨lt, lxs, rfl, hlt, alx⟩ := hx.mono kp
    have hqa : (upd H' Tt (.tup [V.ref qa, V.ref lt])) qa = some (.tup [V.int (eb.1.1 : Int), V.int (eb.1.2 : Int)]) := s2 _ _ hq
    have e12 := s2 _ _ e1
    have e22 := s2 _ _ e2
    have eT : (upd H' Tt (.tup [V.ref qa, V.ref lt])) Tt = some (.tup [V.ref qa, V.ref lt]) := upd_same
    have as2 := as.imp fun _ _ r => EnAt.mono (.same s2) r
    have b2 := b1.trans (But.same s2)
    generalize upd H' Tt (.tup [V.ref qa, V.ref lt]) = H2 at s2 hlt alx hqa e12 e22 eT as2 b2 kp ⊢
    refine ⟨Tt, _, rfl, SqT.of eT, rfl, _, _, rfl, qa, _, rfl, SqT.of hqa, rfl, _, _, rfl, _, _, rfl, rfl, _, _, rfl, rfl, rfl, ?_⟩
    refine ⟨_, rfl, _, rfl, (by show 2 ≤ sizeLine; decide), fun kt hkt => ?_⟩
    have s3 := same_new hkt (.tup [V.int (eb.1.2 : Int), V.int (eb.1.1 : Int)])
    have ekt : (upd H2 kt (.tup [V.int (eb.1.2 : Int), V.int (eb.1.1 : Int)])) kt = some (.tup [V.int (eb.1.2 : Int), V.int (eb.1.1 : Int)]) := upd_same
    generalize upd H2 kt (.tup [V.int (eb.1.2 : Int), V.int (eb.1.1 : Int)]) = H3 at s3 ekt ⊢
    have hlt3 := s3 _ _ hlt
    have alx3 := alx.imp fun _ _ r => TpAt.mono (.same s3) r
    refine ⟨_, rfl, lt, rfl, ⟨_, SqL.of hlt3⟩, fun L2 hL2 => ?_⟩
    refine list_turns (xs := lxs) (fun j H4 => Same H3 H4 ∧ ∃ us, H4 L2 = some (.lst us) ∧ A2 (TpAt H4) us ((eb.2.take j).map swp)) ⟨same_new hL2 _, [], upd_same, .nil⟩ (fun j H4 _ h => h.1.seq (SqL.of hlt3)) ?_ ?_
    · rintro j z H4 hz ⟨s4, us, hu4, au⟩
      obtain ⟨o, ho, tt, rfl, htt⟩ := alx3.get hz
      have htt4 := s4 _ _ htt
      refine ⟨tt, _, rfl, SqT.of htt4, rfl, _, _, rfl, _, _, rfl, rfl, rfl, _, rfl, _, rfl, (by show 2 ≤ sizeLine; decide), fun tn htn => ?_⟩
      have s5 := same_new htn (.tup [V.int o.2, V.int o.1])
      have hjl : us.length < 100 := by
        rw [au.len, List.length_map, List.length_take]
        have := okl.2.1
        omega
      have ntL : tn ≠ L2 := (ne_of_none hu4 htn).symm
      refine ⟨us, s5 _ _ hu4, Nat.lt_of_lt_of_le hjl (by decide), same_upd (s4.trans s5) hL2, _, upd_same, ?_⟩
      rw [take_mapf swp ho]
      have kt5 : ∀ v p, TpAt H4 v p → TpAt (upd (upd H4 tn (.tup [V.int o.2, V.int o.1])) L2 (.lst (us ++ [V.ref tn]))) v p := fun v p r => by
        obtain ⟨u, rfl, hu'⟩ := r
        exact ⟨u, rfl, by rw [upd_ne (ne_of hu' hu4 (fun z => by cases z))]; exact s5 _ _ hu'⟩
      exact A2.snoc (au.imp kt5) ⟨tn, rfl, by rw [upd_ne ntL]; exact upd_same⟩
    · rintro H4 ⟨s4, us, hu4, au⟩
      rw [alx3.len, List.take_length] at au
      have usl : us.length < 64 := by
        rw [au.len, List.length_map]
        have := okl.2.1
        omega
      have okm : ∀ o ∈ eb.2.map swp, okOut o.1 ∧ okOut o.2 := fun o ho => by
        obtain ⟨x, hx, rfl⟩ := List.mem_map.mp ho
        have := okl.2.2.2 x hx
        exact ⟨this.2, this.1⟩
      refine ⟨L2, us, rfl, SqL.of hu4, usl, fun x hx => ?_, fun ys lp pm pw hlp => ?_⟩
      · obtain ⟨o, ho, t', rfl, ht'⟩ := au.mem hx
        have := okm o ho
        refine ⟨[o.1, o.2], ⟨t', rfl, SqT.of ht'⟩, rfl, fun m hm => ?_⟩
        rcases List.mem_cons.mp hm with rfl | hm
        · have q1 := this.1.1; have q2 := this.1.2; omega
        · obtain rfl := List.mem_singleton.mp hm
          have q1 := this.2.1; have q2 := this.2.2; omega
      obtain ⟨ls, al, lpm, lpw⟩ := sortT_ls au (swp_nodup (let_nodup okl.2.2.1)) okm pm pw
      have s5 := same_new hlp (.lst ys)
      have elp : (upd H4 lp (.lst ys)) lp = some (.lst ys) := upd_same
      have al5 := al.imp fun _ _ r => TpAt.mono (.same s5) r
      have s25 : Same H2 (upd H4 lp (.lst ys)) := (s3.trans s4).trans s5
      have ek5 := s5 _ _ (s4 _ _ ekt)
      generalize upd H4 lp (.lst ys) = H5 at s5 elp al5 s25 ek5 ⊢
      have hks : ks.length < 100 := by
        rw [as.len, ← aw.len, List.length_take]
        have := hW.many
        omega
      have e25 := s25 _ _ e22
      refine ⟨ks, kI (swI eb.1), kt, rfl, ek5, e25, Nat.lt_of_lt_of_le hks (by decide), ?_⟩
      have hil : i < D.bo.length := (List.getElem?_eq_some_iff.mp hbi).1
      have hvn : valV ks (kI (swI eb.1)) = none := valV_noneP fun e he c => by
        obtain ⟨y, hy1, hy2, _⟩ := as.mem he
        rw [hy2] at c
        have c := kI_inj c
        obtain ⟨z, hz, r⟩ := aw.back hy1
        rw [r.1] at c
        have c := swI_inj c
        obtain ⟨j, hj⟩ := List.getElem?_of_mem hz
        have hjl : j < i := by
          have := (List.getElem?_eq_some_iff.mp hj).1
          rw [List.length_take] at this
          omega
        rw [List.getElem?_take_of_lt hjl] at hj
        have sr := List.pairwise_iff_getElem.mp hW.srt j i (by rw [List.length_map]; omega) (by rw [List.length_map]; exact hil) hjl
        rw [List.getElem_map, List.getElem_map, (List.getElem?_eq_some_iff.mp hj).2, (List.getElem?_eq_some_iff.mp hbi).2] at sr
        exact sr c
      rw [putK_new _ hvn]
      have kpl : Kp H5 (upd H5 L (.dT (ks ++ [(kI (swI eb.1), V.ref lp)]))) := .put e25 nf_dT
      refine ⟨(b2.trans (.same s25)).new hLn, by rw [upd_ne nL]; exact s25 _ _ e12, _, fs ++ [(swI eb.1, ls)], upd_same, ?_, ?_⟩
      · exact A2.snoc (as2.imp fun _ _ r => EnAt.mono ((Kp.same s25).trans kpl) r) (EnAt.mono kpl ⟨rfl, lp, ys, rfl, elp, al5⟩)
      · rw [take_get hbi]
        exact A2.snoc aw ⟨rfl, lpm, lpw⟩
  · rintro H6 ⟨b1, e1, ks, fs, e2, as, aw⟩
    rw [ha.len, List.take_length] at aw
    have s6 : Same H1 (upd H6 d (.dT kvs)) := b1.unlock hd
    have kp67 : Kp H6 (upd H6 d (.dT kvs)) := .put e1 nf_frz
    have e27 : (upd H6 d (.dT kvs)) L = some (.dT ks) := by rw [upd_ne (Ne.symm nL)]; exact e2
    have as7 := as.imp fun _ _ r => EnAt.mono kp67 r
    refine ⟨e1, ?_⟩
    generalize upd H6 d (.dT kvs) = H7 at s6 e27 as7 ⊢
    refine ⟨_, rfl, _, rfl, fun x dx2 hx hdx ne => ?_⟩
    have sx : Same H7 (upd (upd H7 dx2 (.own x)) x (.ins C dx2 [])) := (same_new hdx _).trans (same_new (by rw [upd_ne (Ne.symm ne)]; exact hx) _)
    have ex := upd_same (H := upd H7 dx2 (.own x)) (a := x) (o := .ins C dx2 [])
    generalize upd (upd H7 dx2 (.own x)) x (.ins C dx2 []) = H8 at sx ex ⊢
    have S : SwT D ⟨fun h => D.al (1 - h), fs⟩ := ⟨fun _ _ => rfl, aw⟩
    have s07 := s1.trans s6
    have s08 := s07.trans sx
    have hA8 : AlAt H8 (.ref la) (fun h => D.al (1 - h)) := ⟨la, x1, x0, rfl, sx _ _ (s6 _ _ ela), h1.mono (.same s08), h0.mono (.same s08)⟩
    refine ⟨x, dx2, la, L, ⟨fun h => D.al (1 - h), fs⟩, rfl, ex, hA8, ⟨ks, sx _ _ e27, as7.imp fun _ _ r => EnAt.mono (.same sx) r⟩, S.wf hW, fun H9 b9 n9 => ⟨rfl, ?_⟩⟩
    exact q x _ H9 (same_of_but s08 (none_of_same s07 hx) b9) (none_of_same s07 hx) S (n9.up s08 ex)
end
end TA

set_option Elab.async false
set_option maxRecDepth 100000
set_option maxHeartbeats 4000000
namespace TA
open PySem L2 PyProof.Rows
set_option linter.unusedVariables false
def spWords : Sp := fun vs H Q _ => ∃ (fv v : V), vs = [fv] ∧ Wd H fv v ∧ ∀ H', Same H H' → Q v H'
/-- the parts of a protocol -/
structure SchF (H : Hp) (t : Addr) (T : TD) (r : Nat) (ch : Nat → List Int) (wk : EB → List Int) (al wd : Addr) (kvs : List (List Key × V)) : Prop where
  ht : H t = some (.tup [.int (r : Int), .ref al, .ref wd])
  hwd : H wd = some (.dT kvs)
  hwk : A2 (WkAt H wk) kvs T.bo
def TkN (H0 H : Hp) (wk : EB → List Int) (kv : List Key × V) (e : EB) : Prop := kv.1 = kI (swI e.1) ∧ ∃ rl, kv.2 = .ref rl ∧ H0 rl = none ∧ H rl = some (.lst ((wk e).reverse.map .int))
def TkL (H0 : Hp) (L : Addr) (H : Hp) (wk : EB → List Int) (kv : List Key × V) (e : EB) : Prop := kv.1 = kI (swI e.1) ∧ ∃ rl, kv.2 = .ref rl ∧ H0 rl = none ∧ rl ≠ L ∧ H rl = some (.lst ((wk e).reverse.map .int))
theorem TkL.but {H0 H H' : Hp} {L : Addr} {wk kv e} (b : But L H H') (h : TkL H0 L H wk kv e) : TkL H0 L H' wk kv e := let ⟨a, rl, x, y, n, z⟩ := h; ⟨a, rl, x, y, n, b _ _ n z⟩
theorem TkN.same {H0 H H' : Hp} {wk kv e} (b : Same H H') (h : TkN H0 H wk kv e) : TkN H0 H' wk kv e := let ⟨a, rl, x, y, z⟩ := h; ⟨a, rl, x, y, b _ _ z⟩
def spTurned (K : PySem.W.Frag) : Sp := fun vs H Q _ => ∃ (t al wd : Addr) (T : TD) (r : Nat) (ch : Nat → List Int) (wk : EB → List Int) (kvs : List (List Key × V)) (x0 x1 : V), vs = [.ref t] ∧ SchF H t T r ch wk al wd kvs ∧ H al = some (.lst [x0, x1]) ∧ (T.bo.map (·.1)).Pairwise (· ≠ ·) ∧ T.bo.length ≤ 60 ∧
  ∀ (t' al' wd' : Addr) (ks : List (List Key × V)) (H' : Hp), Same H H' → H' t' = some (.tup [.int (r : Int), .ref al', .ref wd']) → H al' = none → H' al' = some (.lst [x1, x0]) → H wd' = none → H' wd' = some (.dT ks) → A2 (TkN H H' wk) ks T.bo → Q (.ref t') H'
theorem merge_uniq : ∀ {kvs acc : List (List Key × V)}, ((acc ++ kvs).map (·.1)).Pairwise (· ≠ ·) → mergeT acc kvs = acc ++ kvs
  | [], acc, _ => (List.append_nil acc).symm
  | kv :: kvs, acc, h => by
    have hp : putK acc kv.1 kv.2 = acc ++ [kv] := putK_new _ (valV_noneP fun x hx => by
      rw [List.map_append, List.pairwise_append] at h
      exact h.2.2 _ (List.mem_map_of_mem hx) _ List.mem_cons_self)
    show mergeT (putK acc kv.1 kv.2) kvs = _
    rw [hp, merge_uniq (by rw [List.append_assoc]; exact h), List.append_assoc]
    rfl
theorem val_mem : ∀ {kvs : List (List Key × V)}, (kvs.map (·.1)).Pairwise (· ≠ ·) → ∀ kv ∈ kvs, valV kvs kv.1 = some kv.2
  | [], _, _, m => (nomatch m)
  | x :: r, h, kv, m => by
    rw [List.map_cons, List.pairwise_cons] at h
    rcases List.mem_cons.mp m with rfl | m
    · exact valV_pos rfl
    · rw [valV_neg (h.1 _ (List.mem_map_of_mem m))]
      exact val_mem h.2 kv m
theorem wk_keys {H : Hp} {wk : EB → List Int} : ∀ {ks : List (List Key × V)} {bo : BD}, A2 (WkAt H wk) ks bo → ks.map (·.1) = (bo.map (·.1)).map kI
  | _, _, .nil => rfl
  | _, _, .cons a b => by rw [List.map_cons, List.map_cons, List.map_cons, a.1, wk_keys b]
theorem wk_uniq {H : Hp} {wk : EB → List Int} {ks : List (List Key × V)} {bo : BD} (a : A2 (WkAt H wk) ks bo) (s : (bo.map (·.1)).Pairwise (· ≠ ·)) : (ks.map (·.1)).Pairwise (· ≠ ·) := by
  rw [wk_keys a, List.pairwise_map]
  exact List.Pairwise.imp (fun h c => h (kI_inj c)) s
theorem tk_keys {H0 H : Hp} {wk : EB → List Int} : ∀ {ks : List (List Key × V)} {bo : BD}, A2 (TkN H0 H wk) ks bo → ks.map (·.1) = (bo.map (·.1)).map fun p => kI (swI p)
  | _, _, .nil => rfl
  | _, _, .cons a b => by rw [List.map_cons, List.map_cons, List.map_cons, a.1, tk_keys b]
def PrA (H : Hp) (p : Addr) (kv : List Key × V) : Prop := ∃ b, H p = some (.tup [.ref b, kv.2]) ∧ H b = some (.tup (kv.1.map kV))
theorem PrA.but {H H' : Hp} {L : Addr} {zs : List V} (e : H L = some (.lst zs)) (s : But L H H') {p : Addr} {kv : List Key × V} (h : PrA H p kv) : PrA H' p kv := by
  obtain ⟨b, x, y⟩ := h
  exact ⟨b, s _ _ (ne_of x e (fun z => by cases z)) x, s _ _ (ne_of y e (fun z => by cases z)) y⟩
/-- a pair of a dict in the making: a tuple of a key tuple and a thing -/
def PrAt (K : PySem.W.Frag) (H : Hp) (p : Addr) (kv : List Key × V) : Prop := ∃ b, SqT K H p [.ref b, kv.2] ∧ H b = some (.tup (kv.1.map kV))
theorem PrAt.same {K : PySem.W.Frag} {H H' : Hp} (s : Same H H') {p : Addr} {kv : List Key × V} (h : PrAt K H p kv) : PrAt K H' p kv := let ⟨b, x, y⟩ := h; ⟨b, seqT_mono s x, s _ _ y⟩
theorem paired_snoc {α β : Type} {R : α → β → Prop} : ∀ {xs : List α} {ys : List β} {x : α} {y : β}, Paired R xs ys → R x y → Paired R (xs ++ [x]) (ys ++ [y])
  | _, _, _, _, .nil, h => .cons h .nil
  | _, _, _, _, .cons a b, h => .cons a (paired_snoc b h)
theorem paired_imp {α β : Type} {R S : α → β → Prop} (f : ∀ x y, R x y → S x y) : ∀ {xs : List α} {ys : List β}, Paired R xs ys → Paired S xs ys
  | _, _, .nil => .nil
  | _, _, .cons a b => .cons (f _ _ a) (paired_imp f b)
theorem hu2_of {A : Around} {k : Nat} (hr : Room k A) : A.units + 2 < cLine := by have := hr.un; omega
theorem PrA.same {H H' : Hp} (s : Same H H') {p : Addr} {kv : List Key × V} (h : PrA H p kv) : PrA H' p kv := let ⟨b, x, y⟩ := h; ⟨b, s _ _ x, s _ _ y⟩
theorem _root_.PySem.Paired.len' {α β : Type} {R : α → β → Prop} : ∀ {xs : List α} {ys : List β}, Paired R xs ys → xs.length = ys.length
  | _, _, .nil => rfl
  | _, _, .cons _ b => by rw [List.length_cons, List.length_cons, PySem.Paired.len' b]
section
variable {P : Program} {w : World} {K : PySem.W.Frag} {mg : Str → Option Value} {base : Heap}
abbrev nWo : List Str := ["_law_fault"]
theorem sc_wo : FnScope nWo nWo (defScope s__law_words) := ⟨rfl, rfl, rfl, by decide +kernel, rfl, by decide +kernel, by decide +kernel⟩
theorem ok_wo {f : Addr} {fd : FuncData} (F : Fun K "_law_words" "_law_words" s__law_words f fd) : FnOk P w K mg base CX0 1 f fd ["_law_fault"] spWords := by
  refine F.ok sc_wo (fun vs H Q E h => ?_) (fun cdv A outer s H vs Q E hr h => ?_)
  · obtain ⟨fv, v, rfl, _⟩ := h
    rfl
  obtain ⟨fv, v, rfl, hw, q⟩ := h
  have nd := sc_wo.nd
  have hu := hu_of hr
  refine ⟨_, (pss_cons (ps_if (pt_cmpR op_isN (pv 0) pe_non (nomark _))
      (pss_one (ps_ret pe_non))
      pss_nil)
    (pss_one (ps_ret (pe_dget hu (pe_disp (pps_cons pe_str pe_str (pps_cons pe_str pe_str (pps_cons pe_str pe_str (pps_cons pe_str pe_str pps_nil)))) (by rfl) (by rfl) (fun h => nomatch h) (by decide)) (pe_ix ix_tup (pv 0) pe_int (fun _ _ => rfl)) (fun _ _ => rfl))))), ?_⟩
  rcases hw with ⟨rfl, rfl⟩ | ⟨u, xs, wd, rfl, hu', hv⟩
  · exact ⟨_, rfl, rfl, _, rfl, iteT (q _ (Same.refl H))⟩
  refine ⟨_, rfl, rfl, _, rfl, iteF ?_⟩
  refine fun p hp => ⟨upd_same, [(.inr "alone", .str "alone"), (.inr "ends", .str "walk"), (.inr "step", .str "walk"), (.inr "form", .str "form")], rfl, by decide, ?_⟩
  have s1 : Same H (upd (upd H p (.dK [])) p (.dK (mergeK [] [(.inr "alone", .str "alone"), (.inr "ends", .str "walk"), (.inr "step", .str "walk"), (.inr "form", .str "form")]))) := fun b u e => by rw [upd_ne (ne_of_none e hp), upd_ne (ne_of_none e hp)]; exact e
  have ep := upd_same (H := upd H p (.dK [])) (a := p) (o := .dK (mergeK [] [(.inr "alone", .str "alone"), (.inr "ends", .str "walk"), (.inr "step", .str "walk"), (.inr "form", .str "form")]))
  refine ⟨_, rfl, u, _, _, _, rfl, rfl, SqT.of (s1 _ _ hu'), atI_nat (j := 0) rfl, p, v, rfl, ?_, q _ s1⟩
  refine .inl ⟨_, .inr wd, .inl ep, rfl, ?_⟩
  rcases hv with ⟨rfl, rfl⟩ | ⟨rfl | rfl, rfl⟩
  · kernel_rfl
  · kernel_rfl
  · kernel_rfl
abbrev nTu : List Str := ["_law_scheme_here", "_law_rounds", "_law_chosen", "_law_walks", "_law_a", "_law_b"]
theorem sc_tu : FnScope nTu ["_law_scheme_here"] (defScope s__law_turned) := ⟨rfl, rfl, rfl, by decide +kernel, rfl, by decide +kernel, by decide +kernel⟩
theorem ok_tu {f : Addr} {fd : FuncData} (F : Fun K "_law_turned" "_law_turned" s__law_turned f fd) (T2 : Txt2 K mg) : FnOk P w K mg base CX0 1 f fd ["_law_scheme_here"] (spTurned K) := by
  refine F.ok sc_tu (fun vs H Q E h => ?_) (fun cdv A outer s H vs Q E hr h => ?_)
  · obtain ⟨t, al, wd, D, r, ch, wk, kvs, x0, x1, rfl, _⟩ := h
    rfl
  obtain ⟨t, al, wd, D, r, ch, wk, kvs, x0, x1, rfl, S, hal, sr, many, q⟩ := h
  have nd := sc_tu.nd
  have hu := hu_of hr
  have hu2 := hu2_of hr
  refine ⟨_, (pss_cons (ps_asg (pv 0) (pg_tup (by rfl) (pgs_cons (pg_name (i := 1) nd rfl (Or.inl rfl)) (pgs_cons (pg_name (i := 2) nd rfl (Or.inl rfl)) (pgs_cons (pg_name (i := 3) nd rfl (Or.inr rfl)) pgs_nil)))))
    (pss_one (ps_ret (pe_tup (pa_cons (pv 1) (pa_cons (pe_revL (pv 2)) (pa_cons (pe_callTy (call_dictPT rfl hu2) (by rfl) T2.dict boot_dict (pa_cons (pe_lock (pe_lc (own := [("_law_a", 4), ("_law_b", 5)]) (g := (gTup K 2 (gCons (gName 4) (gCons (gName 5) gNil)))) (tt := tYes) (te := (tTup (tCons (tTup (tCons (tVar 5) (tCons (tVar 4) tNil))) (tCons (tRevL K (tDGet (tVar 3) (tTup (tCons (tVar 4) (tCons (tVar 5) tNil))))) tNil)))) rfl nd (pi_keys (pv 3)) (blkOk_by (N := nTu) (sc := defScope s__law_turned) (by decide +kernel)) (fun _ _ _ _ _ => (by exact (pg_tup (by rfl) (pgs_cons (pg_name (i := 4) nd rfl (Or.inl rfl)) (pgs_cons (pg_name (i := 5) nd rfl (Or.inl rfl)) pgs_nil))))) (fun _ _ _ _ _ => pts_nil) (fun _ _ _ _ _ => (by exact (pe_tup (pa_cons (pe_tup (pa_cons (pv 5) (pa_cons (pv 4) pa_nil))) (pa_cons (pe_revL (pe_dget hu (pv 3) (pe_tup (pa_cons (pv 4) (pa_cons (pv 5) pa_nil))) (fun _ _ => rfl))) pa_nil))))))) pa_nil)) pa_nil))))))), ?_⟩
  refine ⟨_, rfl, t, _, rfl, SqT.of S.ht, rfl, _, _, rfl, _, _, rfl, _, _, rfl, rfl, ?_⟩
  refine ⟨_, rfl, _, rfl, al, _, rfl, SqL.of hal, fun rv hrv => ?_⟩
  have s1 := same_new hrv (.lst ([x0, x1] : List V).reverse)
  have erv : (upd H rv (.lst ([x0, x1] : List V).reverse)) rv = some (.lst ([x0, x1] : List V).reverse) := upd_same
  generalize upd H rv (.lst ([x0, x1] : List V).reverse) = H1 at s1 erv ⊢
  have hd := s1 _ _ S.hwd
  have hk1 := S.hwk.imp fun _ _ r => WkAt.mono (.same s1) r
  refine ⟨wd, _, hd, trivial, fun od => ?_⟩
  have hd6 : (upd H1 wd (.frz od (.dT kvs))) wd = some (.frz od (.dT kvs)) := upd_same
  refine ⟨_, rfl, wd, od, rfl, .inr ⟨kvs, hd6, fun L hL => ?_⟩⟩
  have nL : wd ≠ L := ne_of_none hd6 hL
  have hLn : H1 L = none := none_of_but But.at (Ne.symm nL) hL
  refine keyT_turns (fun i H' => But wd H1 H' ∧ H' wd = some (.frz od (.dT kvs)) ∧ ∃ (ps : List Addr) (ks : List (List Key × V)), H' L = some (.lst (ps.map V.ref)) ∧ Paired (PrA H') ps ks ∧ A2 (TkL H L H' wk) ks (D.bo.take i)) ⟨But.at.trans (.same (same_new hL _)), by rw [upd_ne nL]; exact hd6, [], [], upd_same, .nil, .nil⟩ (fun i H' h => h.2.1) ?_ ?_
  · rintro i k v qa H' hi hq ⟨b1, e1, ps, ks, e2, ap, at_⟩
    obtain ⟨eb, hbi, ek, lr, elr, hlr⟩ := hk1.get hi
    dsimp only at ek elr hlr
    subst ek elr
    have hq : H' qa = some (.tup [V.int (eb.1.1 : Int), V.int (eb.1.2 : Int)]) := hq
    have hv := (List.getElem?_eq_some_iff.mp hi).1
    have nlw : lr ≠ wd := ne_of hlr hd (fun z => by cases z)
    have hlr' := b1 _ _ nlw hlr
    refine ⟨qa, _, rfl, SqT.of hq, rfl, _, _, rfl, _, _, rfl, rfl, rfl, _, rfl, _, rfl, (by show 2 ≤ sizeLine; decide), fun k1 hk => ?_⟩
    have s2 := same_new hk (.tup [V.int (eb.1.2 : Int), V.int (eb.1.1 : Int)])
    have ek1 : (upd H' k1 (.tup [V.int (eb.1.2 : Int), V.int (eb.1.1 : Int)])) k1 = some (.tup [V.int (eb.1.2 : Int), V.int (eb.1.1 : Int)]) := upd_same
    refine ⟨_, rfl, _, rfl, _, rfl, (by show 2 ≤ sizeLine; decide), fun k2 hk2 => ?_⟩
    have s3 := same_new hk2 (.tup [V.int (eb.1.1 : Int), V.int (eb.1.2 : Int)])
    have ek2 : (upd (upd H' k1 (.tup [V.int (eb.1.2 : Int), V.int (eb.1.1 : Int)])) k2 (.tup [V.int (eb.1.1 : Int), V.int (eb.1.2 : Int)])) k2 = some (.tup [V.int (eb.1.1 : Int), V.int (eb.1.2 : Int)]) := upd_same
    have s23 := s2.trans s3
    have ek1' := s3 _ _ ek1
    generalize upd (upd H' k1 (.tup [V.int (eb.1.2 : Int), V.int (eb.1.1 : Int)])) k2 (.tup [V.int (eb.1.1 : Int), V.int (eb.1.2 : Int)]) = H4 at s23 ek1' ek2 ⊢
    have hvv : valV kvs (kI eb.1) = some (.ref lr) := val_mem (wk_uniq S.hwk sr) (kI eb.1, V.ref lr) (List.mem_of_getElem? hi)
    refine ⟨wd, _, rfl, hvv ▸ dget_rd (k := kI eb.1) (.inr ⟨od, s23 _ _ e1⟩) ek2, lr, _, rfl, SqL.of (s23 _ _ hlr'), fun rl hrl => ?_⟩
    have s4 := same_new hrl (.lst ((wk eb).map V.int).reverse)
    have erl : (upd H4 rl (.lst ((wk eb).map V.int).reverse)) rl = some (.lst ((wk eb).map V.int).reverse) := upd_same
    refine ⟨(by show 2 ≤ sizeLine; decide), fun tp htp => ?_⟩
    have s5 := s23.trans (s4.trans (same_new htp (.tup [V.ref k1, V.ref rl])))
    have etp : (upd (upd H4 rl (.lst ((wk eb).map V.int).reverse)) tp (.tup [V.ref k1, V.ref rl])) tp = some (.tup [V.ref k1, V.ref rl]) := upd_same
    have erl' := same_new htp (.tup [V.ref k1, V.ref rl]) _ _ erl
    have ek1'' := (s4.trans (same_new htp (.tup [V.ref k1, V.ref rl]))) _ _ ek1'
    generalize upd (upd H4 rl (.lst ((wk eb).map V.int).reverse)) tp (.tup [V.ref k1, V.ref rl]) = H5 at s5 etp erl' ek1'' ⊢
    have e25 := s5 _ _ e2
    have hks : (ps.map V.ref).length < 100 := by
      rw [List.length_map, ap.len', at_.len, List.length_take]
      omega
    have nrL : rl ≠ L := (ne_of_none (s23 _ _ e2) hrl).symm
    have bL : But L H5 (upd H5 L (.lst (ps.map V.ref ++ [V.ref tp]))) := But.at
    refine ⟨_, e25, Nat.lt_of_lt_of_le hks (by decide), (b1.trans (.same s5)).new hLn, by rw [upd_ne nL]; exact s5 _ _ e1, ps ++ [tp], ks ++ [(kI (swI eb.1), V.ref rl)], by rw [upd_same, List.map_append]; rfl, ?_, ?_⟩
    · refine paired_snoc (paired_imp (fun _ _ r => PrA.but e25 bL (PrA.same s5 r)) ap) ⟨k1, ?_, ?_⟩
      · rw [upd_ne (ne_of etp e25 (fun z => by cases z))]; exact etp
      · rw [upd_ne (ne_of ek1'' e25 (fun z => by cases z))]; exact ek1''
    · rw [take_get hbi]
      have nrl0 : H rl = none := by
        refine none_of_same s1 (none_of_but b1 (fun c => ?_) (none_of_same s23 hrl))
        rw [c] at hrl
        rw [s23 _ _ e1] at hrl
        cases hrl
      refine A2.snoc (at_.imp fun _ _ r => TkL.but ((But.same s5).trans bL) r) ⟨rfl, rl, rfl, nrl0, nrL, ?_⟩
      rw [upd_ne nrL, erl', List.map_reverse]
  · rintro H6 ⟨b1, e1, ps, ks, e2, ap, at_⟩
    rw [hk1.len, List.take_length] at at_
    have s6 : Same H1 (upd H6 wd (.dT kvs)) := b1.unlock hd
    have e27 : (upd H6 wd (.dT kvs)) L = some (.lst (ps.map V.ref)) := by rw [upd_ne (Ne.symm nL)]; exact e2
    have at7 : A2 (TkN H (upd H6 wd (.dT kvs)) wk) ks D.bo := at_.imp fun _ _ ⟨a, rl, x, y, n, z⟩ => ⟨a, rl, x, y, by rw [upd_ne (ne_of z e1 (fun z => by cases z))]; exact z⟩
    have ap7 : Paired (PrA (upd H6 wd (.dT kvs))) ps ks := paired_imp (fun _ _ ⟨b, x, y⟩ => ⟨b, by rw [upd_ne (ne_of x e1 (fun z => by cases z))]; exact x, by rw [upd_ne (ne_of y e1 (fun z => by cases z))]; exact y⟩) ap
    refine ⟨e1, ?_⟩
    generalize upd H6 wd (.dT kvs) = H7 at s6 e27 at7 ap7 ⊢
    refine ⟨L, ps, ks, rfl, SqL.of e27, paired_imp (fun _ _ ⟨b, x, y⟩ => ⟨b, SqT.of x, y⟩) ap7, fun nd_ hnd => ?_⟩
    have mk : mergeT [] ks = ks := by
      refine merge_uniq ?_
      rw [List.nil_append, tk_keys at7, List.pairwise_map]
      exact List.Pairwise.imp (fun h c => h (swI_inj (kI_inj c))) sr
    rw [mk]
    have s8 := same_new hnd (.dT ks)
    have end_ : (upd H7 nd_ (.dT ks)) nd_ = some (.dT ks) := upd_same
    have at8 := at7.imp fun _ _ r => TkN.same s8 r
    have hn0 : H nd_ = none := none_of_same (s1.trans s6) hnd
    refine ⟨(by show 3 ≤ sizeLine; decide), fun t' ht' => ?_⟩
    have s9 := same_new ht' (.tup [V.int (r : Int), V.ref rv, V.ref nd_])
    have sa : Same H _ := ((s1.trans s6).trans s8).trans s9
    have hrv0 : H rv = none := hrv
    exact q t' rv nd_ ks _ sa upd_same hrv0 (s9 _ _ (s8 _ _ (s6 _ _ erv))) hn0 (s9 _ _ end_) (at8.imp fun _ _ r => TkN.same s9 r)
end
end TA

set_option Elab.async false
set_option maxRecDepth 100000
set_option maxHeartbeats 4000000
namespace TA
open PySem L2 PyProof.Rows
set_option linter.unusedVariables false
theorem vwS {a : Addr} {H H' : Hp} (b : But a H H') : Same (vw (pA a) H) H' := fun x o e => let ⟨n, e⟩ := vw_some e; b x o (pA_ok.mp n) e
theorem vwSS {a : Addr} {H H' : Hp} (b : But a H H') : Same (vw (pA a) H) (vw (pA a) H') := fun x o e => let ⟨n, e⟩ := vw_some e; vw_put n (b x o (pA_ok.mp n) e)
theorem vw_in {a b : Addr} {H : Hp} {o : HO} (n : b ≠ a) (h : H b = some o) : vw (pA a) H b = some o := vw_put (pA_ok.mpr n) h
theorem PartsV.but {st : Addr} {H H' : Hp} {al d : Addr} {T : TD} {zs : List V} (h : PartsV st H al d T) (es : H st = some (.lst zs)) (b : But st H H') : PartsV st H' al d T := by
  obtain ⟨h1, kvs, h2, h3⟩ := h
  exact ⟨h1.mono (vwA_but b), kvs, b _ _ (ne_of h2 es (fun z => by cases z)) h2, h3.imp fun _ _ r => r.mono (vwA_but b)⟩
theorem NewAt.x {C : Addr} {H H' : Hp} {p wd : Addr} {T : TD} (h : NewAt C H H' p T) (hw : H wd ≠ none) : TaskX C H' p T wd := by
  obtain ⟨dx, aa, d, kvs, h1, h2, h3, h4, h5⟩ := h
  exact ⟨dx, aa, d, h1, h2.mono kp_nwx, ⟨kvs, .inl h4, h5.imp fun _ _ r => r.en kp_nwx⟩, fun c => hw (by rw [← c]; exact h3)⟩
theorem NewAt.vx {C a : Addr} {H H' : Hp} {p wd : Addr} {T : TD} (h : NewAt C H H' p T) (ha : H a ≠ none) (hp : p ≠ a) {zs : List V} (hl : H' a = some (.lst zs)) (hw : H wd ≠ none) : TaskX C (vw (pA a) H') p T wd := by
  obtain ⟨dx, aa, d, kvs, h1, h2, h3, h4, h5⟩ := h
  have k : Kp (nwx H p H') (vw (pA a) H') := .same fun b o e => by
    obtain ⟨e1, e2, e3⟩ := nwx_some e
    exact vw_in (fun c => ha (by rw [← c]; exact e1)) e3
  refine ⟨dx, aa, d, vw_in hp h1, h2.mono k, ⟨kvs, .inl (vw_in (fun c => ha (by rw [← c]; exact h3)) h4), h5.imp fun _ _ q => ?_⟩, fun c => hw (by rw [← c]; exact h3)⟩
  obtain ⟨e1, t, xs, e2, e3, e4⟩ := q
  exact ⟨e1, t, xs, e2, k.lst e3, e4.imp fun _ _ q => by
    obtain ⟨t, rfl, ht⟩ := q
    exact ⟨t, rfl, vw_in (fun c => by rw [c, hl] at ht; cases ht) ht⟩⟩
theorem fd_sort {T : TD} {r : Nat} {ch : Nat → List Int} {wk : EB → List Int} {d : PyData} (x : FD (sorted T) r ch wk d) : FD T r ch wk d := by
  cases x with
  | non a b => exact .non a fun e he => b e (sb_mem.mpr he)
  | alone h1 h2 h3 h4 => exact .alone h1 h2 h3 h4
  | ends h1 h2 h3 h4 => rw [sb_sort] at h2 h3; exact .ends h1 h2 h3 h4
  | step h1 h2 h3 h4 h5 h6 h7 => rw [sb_sort] at h2 h3; exact .step h1 h2 h3 h4 h5 h6 h7
theorem fd_shaped {T : TD} {r : Nat} {ch : Nat → List Int} {wk : EB → List Int} {d : PyData} (x : FD T r ch wk d) : SeqAt.shaped d = true := by
  cases x <;> (unfold SeqAt.shaped; simp [PyData.canLay0, PyData.canLayAll0, PyData.depth, PyData.depthAll] <;> decide +kernel)
theorem wdp_dp {K : PySem.W.Frag} {H : Hp} {T : TD} {r : Nat} {ch : Nat → List Int} {wk : EB → List Int} {v : V} (h : WdP T r ch wk v) : ∃ d, (∀ H, Dp K H v d) ∧ SeqAt.shaped d = true ∧ PyData.eqv d d = true := by
  rcases h with ⟨rfl, _⟩ | ⟨rfl, _⟩ | ⟨rfl, _⟩
  · exact ⟨.none, fun _ => .non, by decide +kernel, by decide +kernel⟩
  · exact ⟨.str "alone", fun _ => .str _, by decide +kernel, by decide +kernel⟩
  · exact ⟨.str "walk", fun _ => .str _, by decide +kernel, by decide +kernel⟩
/-- the facts of a scheme that speak of no heap -/
structure SchP (T : TD) (r : Nat) (ch : Nat → List Int) (wk : EB → List Int) : Prop where
  rr : r ≤ 5
  len : ∀ h, h < 2 → (ch h).length = (T.al h).length
  outc : ∀ h, h < 2 → ∀ x ∈ ch h, okOut x
  wlen : ∀ e ∈ T.bo, (wk e).length = 3 ^ r + 1
  wout : ∀ e ∈ T.bo, ∀ x ∈ wk e, okOut x
theorem SchP.turn {T U : TD} (W : WF T) (S : SwT T U) {r : Nat} {ch : Nat → List Int} {wk : EB → List Int} (P : SchP T r ch wk) : SchP U r (chS ch) (wkS T wk) where
  rr := P.rr
  len := fun h hh => by rw [S.al h hh]; exact P.len (1 - h) (by omega)
  outc := fun h hh => P.outc (1 - h) (by omega)
  wlen := fun f hf => by
    obtain ⟨e, he, r⟩ := S.bo.back hf
    rw [wkS_at W he r.1, List.length_reverse]
    exact P.wlen e he
  wout := fun f hf x hx => by
    obtain ⟨e, he, r⟩ := S.bo.back hf
    rw [wkS_at W he r.1, List.mem_reverse] at hx
    exact P.wout e he x hx
theorem SchP.sort {T : TD} {r : Nat} {ch : Nat → List Int} {wk : EB → List Int} (P : SchP T r ch wk) : SchP (sorted T) r ch wk := ⟨P.rr, P.len, P.outc, fun e he => P.wlen e (sb_mem.mp he), fun e he => P.wout e (sb_mem.mp he)⟩
theorem tk_wk {H0 H : Hp} {T U : TD} (W : WF T) {wk : EB → List Int} (S : A2 SwE T.bo U.bo) {ks : List (List Key × V)} (a : A2 (TkN H0 H wk) ks T.bo) {G : Hp} (g : ∀ b o, H0 b = none → H b = some o → G b = some o) : A2 (WkAt G (wkS T wk)) ks U.bo := by
  have hm : ∀ e ∈ T.bo, ∀ f, f.1 = swI e.1 → wkS T wk f = (wk e).reverse := fun e he f hf => wkS_at W he hf
  generalize wkS T wk = w2 at hm ⊢
  clear W
  generalize U.bo = ub at S
  generalize T.bo = tb at S a hm
  induction a generalizing ub with
  | nil => cases S; exact .nil
  | @cons kv e ks tb a b ih =>
    cases S with
    | cons s1 s2 =>
      obtain ⟨a1, rl, a2, a3, a4⟩ := a
      refine .cons ⟨by rw [a1, s1.1], rl, a2, ?_⟩ (ih _ s2 fun e he f hf => hm e (List.mem_cons_of_mem _ he) f hf)
      rw [hm e List.mem_cons_self _ s1.1]
      exact g _ _ a3 a4
theorem oneR {al : Addr} {H : Hp} {a b : List Int} (h : RowsAt H (.ref al) [a, b]) : ∃ x0 x1, H al = some (.lst [x0, x1]) ∧ RowAt H x0 a ∧ RowAt H x1 b := by
  obtain ⟨t, xs, e, ht, ar⟩ := h
  obtain rfl : al = t := by injection e
  cases ar with
  | cons a b =>
    cases b with
    | cons b c =>
      cases c
      exact ⟨_, _, ht, a, b⟩
def oID : Option Int → PyData
  | none => .none
  | some i => .int i
theorem oI_dp {K : PySem.W.Frag} {H : Hp} (o : Option Int) : Dp K H (oI o) (oID o) := by
  cases o with
  | none => exact .non
  | some i => exact .int i
theorem tup_oI {K : PySem.W.Frag} {H : Hp} {r : Addr} {f0 f1 : Option Int} (h : H r = some (.tup [oI f0, oI f1])) : Dp K H (.ref r) (.tuple [oID f0, oID f1]) := .tup (SqT.of h) (.cons (oI_dp f0) (.cons (oI_dp f1) .nil))
theorem ok_oID (o : Option Int) : Ok 1 (oID o) := by
  cases o with
  | none => exact ok_non
  | some i => exact ok_int i
theorem ok_tup_oID (f0 f1 : Option Int) : Ok 2 (.tuple [oID f0, oID f1]) := ok_tuple fun d hd => by
  rcases List.mem_cons.mp hd with rfl | hd
  · exact ok_oID _
  · obtain rfl := List.mem_singleton.mp hd
    exact ok_oID _
theorem eqv_oI (a b : Option Int) : PyData.eqv (.tuple [oID a, oID b]) (.tuple [oID a, oID b]) = true := by
  cases a <;> cases b <;> simp [oID, PyData.eqv, PyData.eqvAll]
def spLaw (K : PySem.W.Frag) : Sp := fun vs H Q _ => ∃ (a : Addr) (ns : List Int), vs = [.ref a] ∧ SqL K H a (ns.map V.int) ∧ ns.length ≤ 63 ∧ ∀ H', Q (.bl true) H'
/-! the pairs in order, as sorted tells them -/
theorem keys_tp {H G : Hp} : ∀ {kvs : List (List Key × V)} {bs : List Addr} {bo : BD}, IsKeys H kvs bs → A2 (EnAt G) kvs bo → A2 (TpAt H) (bs.map V.ref) (bo.map fun e => iI e.1)
  | _, _, _, .nil, .nil => .nil
  | _, _, _, .cons a b, .cons c d => .cons ⟨_, rfl, by rw [c.1] at a; exact a⟩ (keys_tp b d)
theorem sorted_at {H : Hp} {K : PySem.W.Frag} {T : TD} (W : WF T) {xs ys : List V} (a : A2 (TpAt H) xs (T.bo.map fun e => iI e.1)) (pm : ys.Perm xs) (pw : ys.Pairwise (fun x y => ∀ n m, TupI K H x n → TupI K H y m → TS.code 64 n ≤ TS.code 64 m)) : A2 (TpAt H) ys ((sb T).map fun e => iI e.1) := by
  obtain ⟨a1, a2⟩ := tp_perm a pm
  obtain ⟨ks, k1, k2, k3⟩ := let_ks a1
  have h1 : (ks.map (·.2)).Perm (T.bo.map fun e => [((e.1.1 : Nat) : Int), ((e.1.2 : Nat) : Int)]) := by
    rw [k2]
    have := a2.map (fun p : Int × Int => [p.1, p.2])
    have e : (T.bo.map fun e => iI e.1).map (fun p : Int × Int => [p.1, p.2]) = T.bo.map fun e => [((e.1.1 : Nat) : Int), ((e.1.2 : Nat) : Int)] := by
      rw [List.map_map]
      rfl
    rw [e] at this
    exact this
  have h2 : ks.Pairwise (fun q r => TS.code 64 q.2 ≤ TS.code 64 r.2) := by
    rw [k1, List.pairwise_map] at pw
    refine pw.imp_of_mem fun {x y} hx hy h => ?_
    exact h x.2 y.2 ⟨x.1, rfl, SqT.of (k3 x hx)⟩ ⟨y.1, rfl, SqT.of (k3 y hy)⟩
  have h3 := keys_sorted W h1 h2
  rw [k2] at h3
  have h4 : ys.map (dec H) = (sb T).map fun e => iI e.1 := by
    have inj : ∀ {l m : List (Int × Int)}, l.map (fun p => [p.1, p.2]) = m.map (fun p => [p.1, p.2]) → l = m := by
      intro l
      induction l with
      | nil => intro m e; cases m with
        | nil => rfl
        | cons => cases e
      | cons x l ih => intro m e; cases m with
        | nil => cases e
        | cons y m =>
          rw [List.map_cons, List.map_cons] at e
          injection e with e1 e2
          injection e1 with e3 e4
          injection e4 with e4 _
          rw [ih e2, Prod.ext e3 e4]
    refine inj ?_
    rw [h3, List.map_map]
    rfl
  rw [← h4]
  exact a1
theorem cut_ints {ns : List Int} {lo hi : Option Int} {x : V} (h : x ∈ cutV (ns.map V.int) lo hi) : ∃ c : Int, x = .int c := by
  unfold cutV at h
  have h1 := List.mem_of_mem_drop (List.mem_of_mem_take h)
  obtain ⟨c, _, e⟩ := List.mem_map.mp h1
  exact ⟨c, e.symm⟩
end TA

set_option Elab.async false
set_option maxRecDepth 100000
set_option maxHeartbeats 4000000
namespace TA
open PySem L2 PyProof.Rows
set_option linter.unusedVariables false
section
variable {P : Program} {w : World} {K : PySem.W.Frag} {mg : Str → Option Value} {base : Heap}
abbrev nLaw : List Str := ["_law_script", "_law_cell", "_law_state", "_law_alone", "_law_both", "_law_scheme_here", "_law_task", "_law_other", "_law_turned_here", "_law_turn", "_law_pair", "_law_weaving_here", "_law_found", "_law_again", "_law_hand"]
theorem sc_law : FnScope nLaw ["_law_script"] (defScope sLaw) := ⟨rfl, rfl, rfl, by decide +kernel, rfl, by decide +kernel, by decide +kernel⟩
theorem ok_law {f g1 g2 g3 g4 g5 g6 g7 g8 g9 g10 g11 g12 g13 g14 C : Addr} {fd d1 d2 d3 d4 d5 d6 d7 d8 d9 d10 d11 d12 d13 d14 : FuncData} (F : Fun K "law" "law" sLaw f fd) (T : Txt K mg) (T2 : Txt2 K mg) (Z : TxtC K mg C) (Ca : Def P w K mg base "_law_cell_at" ["_law_script", "_law_k"] 1 (spCell K) g1 d1)
    (Pa : Def P w K mg base "_law_parts" ["_law_state", "_law_most"] 4 spParts g2 d2) (Of : Def P w K mg base "_law_of" nOf 2 (spOf K) g3 d3) (Sc : Def P w K mg base "_law_scheme" ["_law_state", "_law_alone", "_law_both", "_law_rounds"] 4 spScheme g4 d4) (Dg : Def P w K mg base "_law_digit" ["_law_state", "_law_base"] 1 spDigit g5 d5)
    (Tk : KDef P w K mg base C "Task" ["self", "alone", "both"] 7 (spInit K C) g6 d6) (LW : Def P w K mg base "_law_weaving" ["_law_state", "_law_rounds"] 2 spLWv g7 d7) (Te : Def P w K mg base "tell" ["task", "protocol", "inputs", "weaving"] 11 (spTell K C) g8 d8)
    (Sw_ : Def P w K mg base "swapped" ["task"] 9 (spSwap K C) g9 d9) (Tu : Def P w K mg base "_law_turned" ["_law_scheme_here"] 1 (spTurned K) g10 d10) (Wo : Def P w K mg base "_law_words" ["_law_fault"] 1 spWords g11 d11) (PF : Def P w K mg base "protocol_fault" ["task", "thing"] 7 (spPrFG K C) g12 d12)
    (TT : Def P w K mg base "task_text" ["task"] 5 (spTT K C) g13 d13) (RT : Def P w K mg base "read_task" ["text"] 9 (spRT K C) g14 d14) : FnOk P w K mg base CX0 12 f fd ["_law_script"] (spLaw K) := by
  refine F.ok sc_law (fun vs H Q E h => ?_) (fun cdv A outer s H vs Q E hr h => ?_)
  · obtain ⟨a, ns, rfl, _⟩ := h
    rfl
  obtain ⟨a, ns, rfl, hS, h63, q⟩ := h
  have nd := sc_law.nd
  have hu := hu_of hr
  refine ⟨_, (pss_cons (ps_for PassesOwn.never (by rfl) (pi_list (pe_op op_cat (pe_lst (pa_cons (pe_call Ca.G (hr.mono (by decide)) rfl Ca.m Ca.k Ca.b .nil pass0 (pa_cons (pv 0) (pa_cons pe_int pa_nil))) pa_nil)) (pe_slice sl_list (pv 0) (po_some pe_int) (po_some pe_int)))) (pg_name (i := 1) nd rfl (Or.inl rfl))
      (pss_cons (ps_set (i := 2) nd rfl (Or.inl rfl) (pe_lst (pa_cons (pv 1) pa_nil)))
    (pss_cons (ps_asg (pe_call Pa.G (hr.mono (by decide)) rfl Pa.m Pa.k Pa.b .nil pass0 (pa_cons (pv 2) (pa_cons pe_int pa_nil))) (pg_tup (by rfl) (pgs_cons (pg_name (i := 3) nd rfl (Or.inl rfl)) (pgs_cons (pg_name (i := 4) nd rfl (Or.inl rfl)) pgs_nil))))
    (pss_cons (ps_set (i := 5) nd rfl (Or.inl rfl) (pe_call Sc.G (hr.mono (by decide)) rfl Sc.m Sc.k Sc.b .nil pass0 (pa_cons (pv 2) (pa_cons (pv 3) (pa_cons (pv 4) (pa_cons (pe_call Dg.G (hr.mono (by decide)) rfl Dg.m Dg.k Dg.b .nil pass0 (pa_cons (pv 2) (pa_cons pe_int pa_nil))) pa_nil))))))
    (pss_cons (ps_set (i := 6) nd rfl (Or.inl rfl) (pe_make Tk.M Tk.G (hr.mono (by decide)) (by rfl) Tk.m Tk.b .nil pass0 (pa_cons (pv 3) (pa_cons (pv 4) pa_nil))))
    (pss_cons (ps_set (i := 7) nd rfl (Or.inl rfl) (pe_call Sw_.G (hr.mono (by decide)) rfl Sw_.m Sw_.k Sw_.b .nil pass0 (pa_cons (pv 6) pa_nil)))
    (pss_cons (ps_set (i := 8) nd rfl (Or.inl rfl) (pe_call Tu.G (hr.mono (by decide)) rfl Tu.m Tu.k Tu.b .nil pass0 (pa_cons (pv 5) pa_nil)))
    (pss_cons (ps_if (pt_cmpR (op_neD hr.units) (pe_call Wo.G (hr.mono (by decide)) rfl Wo.m Wo.k Wo.b .nil pass0 (pa_cons (pe_call PF.G (hr.mono (by decide)) rfl PF.m PF.k PF.b .nil pass0 (pa_cons (pv 6) (pa_cons (pv 5) pa_nil))) pa_nil)) (pe_call Wo.G (hr.mono (by decide)) rfl Wo.m Wo.k Wo.b .nil pass0 (pa_cons (pe_call PF.G (hr.mono (by decide)) rfl PF.m PF.k PF.b .nil pass0 (pa_cons (pv 7) (pa_cons (pv 8) pa_nil))) pa_nil)) (nomark _))
      (pss_one (ps_ret pe_bl))
      pss_nil)
    (pss_cons (ps_if (pt_cmpR (op_neD hr.units) (pe_call PF.G (hr.mono (by decide)) rfl PF.m PF.k PF.b .nil pass0 (pa_cons (pe_call RT.G (hr.mono (by decide)) rfl RT.m RT.k RT.b .nil pass0 (pa_cons (pe_call TT.G (hr.mono (by decide)) rfl TT.m TT.k TT.b .nil pass0 (pa_cons (pv 6) pa_nil)) pa_nil)) (pa_cons (pv 5) pa_nil))) (pe_call PF.G (hr.mono (by decide)) rfl PF.m PF.k PF.b .nil pass0 (pa_cons (pv 6) (pa_cons (pv 5) pa_nil))) (nomark _))
      (pss_one (ps_ret pe_bl))
      pss_nil)
    (pss_one (ps_for PassesOwn.never (by rfl) (pi_range1 (by rfl) T.range (pa_cons pe_int pa_nil)) (pg_name (i := 9) nd rfl (Or.inl rfl))
      (pss_cons (ps_set (i := 10) nd rfl (Or.inl rfl) (pe_call Of.G (hr.mono (by decide)) rfl Of.m Of.k Of.b .nil pass0 (pa_cons (pv 2) (pa_cons (pe_callB (cr_sortT (d := 2) (B := 64) (by decide)) (by rfl) T2.sorted (by decide +kernel) (pa_cons (pe_callTy (call_list_dT rfl) (by rfl) T.list boot_list (pa_cons (pv 4) pa_nil)) pa_nil)) pa_nil))))
    (pss_cons (ps_set (i := 11) nd rfl (Or.inl rfl) (pe_call LW.G (hr.mono (by decide)) rfl LW.m LW.k LW.b .nil pass0 (pa_cons (pv 2) (pa_cons (pe_ix ix_tup (pv 5) pe_int (fun _ _ => rfl)) pa_nil))))
    (pss_cons (ps_set (i := 12) nd rfl (Or.inl rfl) (pe_call Te.G (hr.mono (by decide)) rfl Te.m Te.k Te.b .nil pass0 (pa_cons (pv 6) (pa_cons (pv 5) (pa_cons (pv 10) (pa_cons (pv 11) pa_nil))))))
    (pss_cons (ps_set (i := 13) nd rfl (Or.inl rfl) (pe_call Te.G (hr.mono (by decide)) rfl Te.m Te.k Te.b .nil pass0 (pa_cons (pv 7) (pa_cons (pv 8) (pa_cons (pe_revT (pv 10)) (pa_cons (pe_lc (own := [("_law_hand", 14)]) (g := (gName 14)) (tt := tYes) (te := (tOp (rI0 fun i j => .int (i - j)) (tC (.int 1)) (tVar 14))) rfl nd (pi_list (pv 11)) (blkOk_by (N := nLaw) (sc := defScope sLaw) (by decide +kernel)) (fun _ _ _ _ _ => (by exact (pg_name (i := 14) nd rfl (Or.inl rfl)))) (fun _ _ _ _ _ => pts_nil) (fun _ _ _ _ _ => (by exact (pe_op op_sub pe_int (pv 14))))) pa_nil))))))
    (pss_one (ps_if (pt_cmpR (op_neD hr.units) (pv 13) (pe_revT (pv 12)) (nomark _))
      (pss_one (ps_ret pe_bl))
      pss_nil)))))))))))))))))
    (pss_one (ps_ret pe_bl))), ?_⟩
  refine ⟨_, rfl, a, ns, 0, rfl, hS, by omega, Int.le_refl 0, fun c => ⟨(by show 1 ≤ sizeLine; decide), fun l hl0 => ?_⟩⟩
  have s1 := same_new hl0 (.lst [V.int c])
  refine ⟨_, rfl, _, rfl, _, rfl, a, _, rfl, s1.seq hS, fun p hp => ?_⟩
  have s2 := same_new hp (.lst (cutV (ns.map V.int) (some 1) (some 5)))
  have hcl := cutV_length (ns.map V.int) (some 1) (some 5)
  rw [List.length_map] at hcl
  refine ⟨l, p, _, _, rfl, rfl, s2 _ _ upd_same, upd_same, small13 (by show 1 + _ ≤ _; omega), fun ct hct => ?_⟩
  have hint : ∀ x ∈ [V.int c] ++ cutV (ns.map V.int) (some 1) (some 5), ∃ z : Int, x = .int z := fun x hx => by
    rcases List.mem_append.mp hx with m | m
    · exact ⟨c, by simpa using m⟩
    · exact cut_ints m
  refine ⟨ct, rfl, ⟨_, SqL.of upd_same⟩, for_list (K := K) (a := ct) (xs := [V.int c] ++ cutV (ns.map V.int) (some 1) (some 5)) (fun i σ Hc => ∃ g1 g2 g3 g4 g5 g6 g7 g8 g9 g10 g11 g12 g13 g14, σ = [some (.ref a), g1, g2, g3, g4, g5, g6, g7, g8, g9, g10, g11, g12, g13, g14] ∧ Hc ct = some (.lst ([V.int c] ++ cutV (ns.map V.int) (some 1) (some 5)))) ⟨_, _, _, _, _, _, _, _, _, _, _, _, _, _, rfl, upd_same⟩ ?_ ?_ ?_⟩
  · rintro i σ Hc _ ⟨_, _, _, _, _, _, _, _, _, _, _, _, _, _, _, h⟩
    exact SqL.of h
  rotate_left
  · rintro σ Hc ⟨_, _, _, _, _, _, _, _, _, _, _, _, _, _, rfl, h⟩
    exact q _
  rintro i x σ Hc hx ⟨k1, k2, k3, k4, k5, k6, k7, k8, k9, k10, k11, k12, k13, k14, rfl, h⟩
  obtain ⟨z, rfl⟩ := hint x (List.mem_of_getElem? hx)
  generalize [V.int c] ++ cutV (ns.map V.int) (some 1) (some 5) = xs at h ⊢
  clear hint hx hct hcl s2 hp s1 hl0
  refine ⟨_, rfl, (by show 1 ≤ sizeLine; decide), fun st hst => ?_⟩
  have t1 := same_new hst (.lst [V.int z])
  have nct : ct ≠ st := ne_of_none h hst
  have h1 := t1 _ _ h
  have es1 : (upd Hc st (.lst [V.int z])) st = some (.lst [V.int z]) := upd_same
  generalize upd Hc st (.lst [V.int z]) = H1 at h1 es1 ⊢
  refine ⟨_, rfl, st, 0, 3, rfl, .inl ⟨_, es1⟩, by decide, by decide, by decide, by decide, fun u al d r0 r1 D H2 b2 un aln dn hu' hP hW hal nr w2 => ?_⟩
  have h2 := b2 _ _ nct h1
  refine ⟨u, _, rfl, SqT.of hu', rfl, _, _, rfl, _, _, rfl, rfl, ?_⟩
  obtain ⟨z2, es2⟩ := w2.lst
  refine ⟨_, rfl, _, rfl, _, rfl, _, rfl, st, _, 4, rfl, .inr w2, by decide, by decide, by decide, by decide, fun ra H3 ra0 ra1 b3 w3 => ?_⟩
  obtain ⟨r, rfl, hr5⟩ : ∃ r : Nat, ra = (r : Int) ∧ r ≤ 5 := ⟨ra.toNat, by omega, by omega⟩
  obtain ⟨z3, es3⟩ := w3.lst
  have hP3 := hP.but es2 b3
  have h3 := b3 _ _ nct h2
  refine ⟨st, al, d, _, D, r, rfl, w3, by decide, by decide, hP3, hW, hr5, fun t cal wd ch wk kvs H5 b5 tn caln wdn hS5 w5 hfr => ?_⟩
  obtain ⟨z5, es5⟩ := w5.lst
  have hP5 := hP3.but es3 b5
  have h5 := b5 _ _ nct h3
  clear hP hP3 w2 w3 es1 es2 es3 b2 b3 b5 un aln dn hu' tn caln wdn h1 h2 h3 nr hal ra0 ra1 t1 h hst hfr
  have hSP : SchP D r ch wk := ⟨hr5, hS5.len, hS5.outc, hS5.wlen, hS5.wout⟩
  obtain ⟨hA5, kvs0, hd5, hE5⟩ := id hP5
  -- the task
  refine ⟨_, rfl, _, rfl, fun x dx hx hdx ne => ?_⟩
  have sx : Same H5 (upd (upd H5 dx (.own x)) x (.ins C dx [])) := (same_new hdx _).trans (same_new (by rw [upd_ne (Ne.symm ne)]; exact hx) _)
  have ex := upd_same (H := upd H5 dx (.own x)) (a := x) (o := .ins C dx [])
  have hB5 : BoAt H5 d D.bo := ⟨kvs0, hd5, hE5.imp fun _ _ r => EnAt.mono vw_kp r⟩
  generalize upd (upd H5 dx (.own x)) x (.ins C dx []) = H6 at sx ex ⊢
  refine ⟨x, dx, al, d, D, rfl, ex, (hA5.mono vw_kp).mono (.same sx), hB5.mono sx, hW, fun H7 b7 n7 => ⟨rfl, ?_⟩⟩
  have s57 : Same H5 H7 := same_of_but sx hx b7
  have n7 := n7.up sx ex
  have nx : x ≠ st := fun c => by rw [c, es5] at hx; cases hx
  clear b7 sx ex hdx ne
  -- exchanged
  refine ⟨_, rfl, x, D, rfl, n7.task, hW, fun y U H8 s8 hy SW n8 => ?_⟩
  have s58 := s57.trans s8
  have ny : y ≠ st := fun c => by rw [c, s57 _ _ es5] at hy; cases hy
  have hWU := SW.wf hW
  -- turned
  obtain ⟨x0, x1, ecal, rx0, rx1⟩ := oneR hS5.hal
  obtain ⟨ncal, ecal⟩ := vw_some ecal
  have ncal := pA_ok.mp ncal
  have ntt : t ≠ st := ne_of hS5.ht es5 (fun z => by cases z)
  have nwd : wd ≠ st := ne_of hS5.hwd es5 (fun z => by cases z)
  have hwk8 : A2 (WkAt H8 wk) kvs D.bo := hS5.hwk.imp fun _ _ r => (r.mono vw_kp).mono (.same s58)
  refine ⟨_, rfl, t, cal, wd, D, r, ch, wk, kvs, x0, x1, rfl, ⟨s58 _ _ hS5.ht, s58 _ _ hS5.hwd, hwk8⟩, s58 _ _ ecal, hW.srt, hW.many, fun t' al' wd' ks H9 s9 ht' hal0 hal' hwd0 hwd' htk => ?_⟩
  have s59 := s58.trans s9
  have s79 := s8.trans s9
  have es9 := s59 _ _ es5
  have es8 := s58 _ _ es5
  have es7 := s57 _ _ es5
  have w9 := w5.same s59
  have v59 : Kp (vw (pA st) H5) (vw (pA st) H9) := vwA_but (.same s59)
  have nal' : al' ≠ st := fun c => by rw [c, es8] at hal0; cases hal0
  have nwd' : wd' ≠ st := fun c => by rw [c, es8] at hwd0; cases hwd0
  have nt' : t' ≠ st := ne_of ht' es9 (fun z => by cases z)
  have hX1 : TaskX C (vw (pA st) H9) x D wd := TaskX.mono (vwSS (.same s79)) (n7.vx (by rw [es5]; exact fun c => nomatch c) nx es7 (by rw [hS5.hwd]; exact fun c => nomatch c))
  have hX2 : TaskX C (vw (pA st) H9) y U wd' := TaskX.new (vwSS (.same s9)) (TaskX.task (n8.vx (wd := st) (by rw [es7]; exact fun c => nomatch c) ny es8 (by rw [es7]; exact fun c => nomatch c))) (by
    show (if pA st wd' = true then H8 wd' else none) = none
    rw [hwd0]; split <;> rfl)
  have PA : PrF C (vw (pA st) H9) x t D r ch wk cal wd kvs := ⟨vw_in ntt (s59 _ _ hS5.ht), hS5.hal.mono v59, vw_in nwd (s59 _ _ hS5.hwd), ⟨_, List.Perm.refl _, hS5.hwk.imp fun _ _ r => r.mono v59⟩, hX1, hSP.rr, hSP.len, hSP.outc, hSP.wlen, hSP.wout⟩
  have hSP' := hSP.turn hW SW
  have PB : PrF C (vw (pA st) H9) y t' U r (chS ch) (wkS D wk) al' wd' ks := ⟨vw_in nt' ht', ⟨al', _, rfl, vw_in nal' hal', .cons (rx1.mono v59) (.cons (rx0.mono v59) .nil)⟩, vw_in nwd' hwd', ⟨_, List.Perm.refl _, tk_wk hW SW.bo htk fun b o e0 e1 => vw_in (fun c => by rw [c, es8] at e0; cases e0) e1⟩, hX2, hSP'.rr, hSP'.len, hSP'.outc, hSP'.wlen, hSP'.wout⟩
  have vS : ∀ {Hn : Hp}, But st H9 Hn → Same (vw (pA st) H9) Hn := fun b => vwS b
  have h9 := s59 _ _ h5
  have hT1 : TaskAt C H9 x D := n7.task.mono s79
  have hT2 : TaskAt C H9 y U := n8.task.mono s9
  have hP9 := hP5.but es5 (.same s59)
  clear hX1 hX2 hwk8 htk hal0 hal' hwd0 hwd' ht' v59 es7 es8 n8 s8 s58 s9 s79 ecal rx0 rx1 hA5 hd5 hE5 hB5 hP5
  -- words
  refine ⟨_, rfl, _, rfl, x, t, D, r, ch, wk, cal, wd, kvs, rfl, hW, hT1, PA.mono (vS (.same (Same.refl _))), fun fv Ha sa fr => ?_⟩
  obtain ⟨v1, wd1, wp1⟩ := fres_word fr
  refine ⟨fv, v1, rfl, wd1, fun Hb sb => ?_⟩
  have sab := sa.trans sb
  refine ⟨_, rfl, _, rfl, y, t', U, r, chS ch, wkS D wk, al', wd', ks, rfl, hWU, hT2.mono sab, PB.mono (vS (.same sab)), fun fv2 Hc sc fr2 => ?_⟩
  obtain ⟨v2, wd2, wp2⟩ := fres_word fr2
  refine ⟨fv2, v2, rfl, wd2, fun Hd sd => ?_⟩
  obtain rfl := wdp_one SW hW hSP.wlen wp1 wp2
  obtain ⟨dv, dp, sh, eqd⟩ := wdp_dp (K := K) (H := Hd) wp1
  refine ⟨dv, dv, dp _, dp _, sh, sh, _, rfl, ?_⟩
  rw [eqd]
  refine iteF ?_
  have s9d : Same H9 Hd := (sab.trans sc).trans sd
  clear fr fr2 wd1 wd2 wp1 wp2 dp sh eqd sa sb sab sc sd
  -- of the task by its own text
  refine ⟨_, rfl, x, D, rfl, hT1.mono s9d, hW, fun He se => ?_⟩
  refine ⟨D, rfl, hW, fun yy Hf sf hyy nyy => ?_⟩
  have s9f := (s9d.trans se).trans sf
  have hwd9 : (s9d.trans se) = (s9d.trans se) := rfl
  have PC : PrF C Hf yy t (sorted D) r ch wk cal wd kvs := by
    have PA' := PA.mono (vS (.same s9f))
    have hs := hSP.sort
    obtain ⟨bo', pm, hk⟩ := PA'.hwk
    refine ⟨PA'.ht, PA'.hal, PA'.hwd, ⟨bo', pm.trans (sb_perm D).symm, hk⟩, nyy.x ?_, hs.rr, hs.len, hs.outc, hs.wlen, hs.wout⟩
    rw [(PA.mono (vS (.same (s9d.trans se)))).hwd]
    exact fun c => nomatch c
  refine ⟨_, rfl, yy, t, sorted D, r, ch, wk, cal, wd, kvs, rfl, hW.sort, nyy.task, PC, fun fv Hg sg fr => ?_⟩
  obtain ⟨d1, fd1, dp1⟩ := fres_fd (K := K) fr
  have s9g := s9f.trans sg
  refine ⟨_, rfl, _, rfl, x, t, D, r, ch, wk, cal, wd, kvs, rfl, hW, hT1.mono s9g, PA.mono (vS (.same s9g)), fun fv2 Hh sh fr2 => ?_⟩
  obtain ⟨d2, fd2, dp2⟩ := fres_fd (K := K) fr2
  obtain rfl := fd_one (fd_sort fd1) fd2
  have shp := fd_shaped fd2
  refine ⟨d1, d1, dp_mono sh _ _ dp1, dp2, shp, shp, _, rfl, ?_⟩
  rw [SeqAt.eqv_refl d1 (SeqAt.canLay_of_shaped shp)]
  refine iteF ?_
  have s9h := s9g.trans sh
  clear PC fr fr2 fd1 fd2 dp1 dp2 shp nyy hwd9 hyy se sf sg sh s9d s9f s9g hT1 hT2
  have w10 : WellAt Hh st 50000 := (w9.same s9h).up (by decide)
  have P1 : ∀ {Hn : Hp}, But st Hh Hn → PrF C Hn x t D r ch wk cal wd kvs := fun b => PA.mono (vS ((But.same s9h).trans b))
  have P2 : ∀ {Hn : Hp}, But st Hh Hn → PrF C Hn y t' U r (chS ch) (wkS D wk) al' wd' ks := fun b => PB.mono (vS ((But.same s9h).trans b))
  have hPh := hP9.but es9 (.same s9h)
  have esh := s9h _ _ es9
  have hh := s9h _ _ h9
  clear PA PB vS hP9 es9 h9 s9h w9 s59 s57 n7 hS5 es5 w5 h5
  obtain ⟨hAh, kvs1, hdh, hEh⟩ := id hPh
  have nds : d ≠ st := ne_of hdh esh (fun z => by cases z)
  have sorts : ∀ {H' : Hp} {bs : List Addr} {pl : Addr} {ys : List V}, IsKeys H' kvs1 bs → H' pl = none → ys.Perm (bs.map V.ref) → ys.Pairwise (fun x y => ∀ n m, TupI K (upd H' pl (.lst (bs.map V.ref))) x n → TupI K (upd H' pl (.lst (bs.map V.ref))) y m → TS.code 64 n ≤ TS.code 64 m) → A2 (TpAt (upd H' pl (.lst (bs.map V.ref)))) ys ((sb D).map fun e => iI e.1) := fun hk hn pm pw =>
    sorted_at hW ((keys_tp hk hEh).imp fun _ _ r => r.mono (.same (same_new hn _))) pm pw
  have asks : ∀ {H' : Hp} {bs : List Addr} {pl : Addr}, IsKeys H' kvs1 bs → H' pl = none → (bs.map V.ref).length < 64 ∧ ∀ v ∈ bs.map V.ref, ∃ ns, TupI K (upd H' pl (.lst (bs.map V.ref))) v ns ∧ ns.length = 2 ∧ TS.Bd 64 ns := fun hk hn => by
    have a := keys_tp hk hEh
    have hl := a.len
    have hm := hW.many
    rw [List.length_map] at hl
    rw [List.length_map] at hl
    refine ⟨by rw [List.length_map]; omega, fun v hv => ?_⟩
    obtain ⟨y, hy, tq, rfl, htq⟩ := a.mem hv
    obtain ⟨e, he, rfl⟩ := List.mem_map.mp hy
    have rg := hW.rng e he
    have q0 := (hW.n0 0 (by decide)).2
    have q1 := (hW.n0 1 (by decide)).2
    refine ⟨[(iI e.1).1, (iI e.1).2], ⟨tq, rfl, SqT.of (same_new hn _ _ _ htq)⟩, rfl, fun z hz => ?_⟩
    rcases List.mem_cons.mp hz with rfl | hz
    · show (0 : Int) ≤ (e.1.1 : Int) ∧ (e.1.1 : Int) < 64
      omega
    · obtain rfl := List.mem_singleton.mp hz
      show (0 : Int) ≤ (e.1.2 : Int) ∧ (e.1.2 : Int) < 64
      omega
  refine ⟨4, rfl, by decide, by decide, for_range (n := 4) (fun i σ H' => ∃ g9 g10 g11 g12 g13 g14, σ = [some (.ref a), some (.int z), some (.ref st), some (.ref al), some (.ref d), some (.ref t), some (.ref x), some (.ref y), some (.ref t'), g9, g10, g11, g12, g13, g14] ∧ But st Hh H' ∧ WellAt H' st (50000 + 300 * (i : Int))) ⟨_, _, _, _, _, _, rfl, .same (Same.refl _), w10.up (by omega)⟩ ?_ ?_⟩
  rotate_left
  · rintro σ H' ⟨g9, g10, g11, g12, g13, g14, rfl, bL, wL⟩
    exact ⟨_, _, _, _, _, _, _, _, _, _, _, _, _, _, rfl, bL _ _ nct hh⟩
  rintro i σ H' hi ⟨g9, g10, g11, g12, g13, g14, rfl, bL, wL⟩
  have hdL := bL _ _ nds hdh
  refine ⟨_, rfl, _, rfl, d, kvs1, rfl, .inl hdL, fun pl bs hpl hkeys => ?_⟩
  obtain ⟨q64, qtp⟩ := asks hkeys hpl
  refine ⟨pl, bs.map V.ref, rfl, SqL.of upd_same, q64, qtp, fun ys po pm pw hpo => ?_⟩
  have aS := sorts hkeys hpl pm pw
  have t11 := same_new hpl (.lst (bs.map V.ref))
  have t12 := same_new hpo (.lst ys)
  have t10 := t11.trans t12
  have hyl := aS.len
  rw [List.length_map] at hyl
  have epo : (upd (upd H' pl (.lst (bs.map V.ref))) po (.lst ys)) po = some (.lst ys) := upd_same
  have npo : po ≠ st := ((wL.same t11).ne hpo).symm
  have aS2 := aS.imp fun _ _ r => TpAt.mono (.same t12) r
  generalize upd (upd H' pl (.lst (bs.map V.ref))) po (.lst ys) = H12 at t10 epo aS2 ⊢
  clear t11 t12 aS pm pw hpo hpl hkeys q64 qtp
  have sbl : (sb D).length ≤ 60 := by rw [(sb_perm D).length_eq]; exact hW.many
  have bol : 1 ≤ (sb D).length := by
    rw [(sb_perm D).length_eq]
    obtain ⟨e, he, _⟩ := hW.com0 0 (by have := (hW.n0 0 (by decide)).1; omega)
    exact List.length_pos_of_mem he
  refine ⟨st, po, _, ys, rfl, .inr (wL.same t10), by omega, by omega, epo, npo, by omega, by omega, fun k v H13 hv b13 w13 => ?_⟩
  obtain ⟨y2, hy2, tq, rfl, htq⟩ := aS2.get hv
  rw [List.getElem?_map] at hy2
  obtain ⟨e, hbe, rfl⟩ := Option.map_eq_some_iff.mp hy2
  have he := sb_mem.mp (List.mem_of_getElem? hbe)
  obtain ⟨z12, es12⟩ := (wL.same t10).lst
  have ntq : tq ≠ st := ne_of htq es12 (fun z => by cases z)
  have htq13 := b13 _ _ ntq htq
  have b913 : But st Hh H13 := (bL.trans (.same t10)).trans b13
  clear aS2 hyl epo npo hv hbe b13 t10 es12 sbl bol
  -- a weaving
  have P13 := P1 b913
  refine ⟨_, rfl, _, rfl, t, _, _, _, rfl, rfl, SqT.of P13.ht, (by rfl), st, _, r, rfl, w13, by omega, by omega, hr5, fun lw hs H14 b14 lwn hlw ok w14 => ?_⟩
  have htq14 := b14 _ _ ntq htq13
  have b914 := b913.trans b14
  clear P13 htq13 b913 w13
  refine ⟨_, rfl, _, rfl, _, rfl, _, rfl, x, t, D, r, ch, wk, cal, wd, kvs, tq, lw, hs, e, rfl, hW, P1 b914, he, ⟨tq, rfl, htq14⟩, SqL.of hlw, ok.1, ok.2.1, ok.2.2, fun fu H15 s15 hfu => ?_⟩
  obtain ⟨e', he', sw⟩ := SW.bo.mem he
  have b915 := b914.trans (.same s15)
  have w15 := w14.same s15
  refine ⟨_, rfl, _, rfl, _, rfl, tq, _, _, rfl, SqT.of (s15 _ _ htq14), fun p2 hp2 => ?_⟩
  have s16 := same_new hp2 (.tup [V.int (iI e.1).2, V.int (iI e.1).1])
  have ep2 : (upd H15 p2 (.tup [V.int (iI e.1).2, V.int (iI e.1).1])) p2 = some (.tup [V.int (iI e.1).2, V.int (iI e.1).1]) := upd_same
  have hlw16 := s16 _ _ (s15 _ _ hlw)
  have hfu16 := s16 _ _ hfu
  generalize upd H15 p2 (.tup [V.int (iI e.1).2, V.int (iI e.1).1]) = H16 at s16 ep2 hlw16 hfu16 ⊢
  refine ⟨_, rfl, lw, rfl, ⟨_, SqL.of hlw16⟩, fun L hL => ?_⟩
  have hlen : (TB.hl hs).length = hs.length := by unfold TB.hl; rw [List.length_map]
  refine list_turns (xs := TB.hl hs) (fun j Hj => Same H16 Hj ∧ Hj L = some (.lst (TB.hl (TB.mh (hs.take j))))) ⟨same_new hL _, upd_same⟩ (fun j Hj _ h => SqL.of (h.1 _ _ hlw16)) ?_ ?_
  · rintro j v Hj hv ⟨sj, ej⟩
    obtain ⟨hz, hhz, rfl⟩ : ∃ hz, hs[j]? = some hz ∧ V.int (hz : Int) = v := by
      unfold TB.hl at hv
      rw [List.getElem?_map] at hv
      obtain ⟨a, b, c⟩ := Option.map_eq_some_iff.mp hv
      exact ⟨a, b, c⟩
    have hlt := ok.1 hz (List.mem_of_getElem? hhz)
    have eg : TB.hl (TB.mh (hs.take (j + 1))) = TB.hl (TB.mh (hs.take j)) ++ [V.int (1 - (hz : Int))] := by
      rw [take_get hhz]
      unfold TB.hl TB.mh
      rw [List.map_append, List.map_append]
      refine congrArg (fun z => _ ++ [V.int z]) ?_
      show ((1 - hz : Nat) : Int) = 1 - (hz : Int)
      omega
    refine ⟨rfl, _, rfl, _, _, rfl, rfl, _, ej, ?_, same_upd sj hL, by rw [upd_same, eg]⟩
    have h40 := ok.2.2
    have hjl := (List.getElem?_eq_some_iff.mp hhz).1
    refine Nat.lt_of_lt_of_le (show _ < 100 from ?_) (by decide)
    unfold TB.hl TB.mh
    rw [List.length_map, List.length_map, List.length_take]
    omega
  rintro H17 ⟨s17, e17⟩
  rw [hlen, List.take_length] at e17
  have b917 := b915.trans (.same (s16.trans s17))
  have htp : TpAt H17 (.ref p2) (iI e'.1) := by
    rw [sw.1]
    exact ⟨p2, rfl, s17 _ _ ep2⟩
  refine ⟨y, t', U, r, chS ch, wkS D wk, al', wd', ks, p2, L, TB.mh hs, e', rfl, hWU, P2 b917, he', htp, SqL.of e17, TB.mh_lt, fun h hh => by rw [TB.mh_count ok.1 hh]; exact ok.2.1 _ (by omega), by unfold TB.mh; rw [List.length_map]; exact ok.2.2, fun fu2 H18 s18 hfu2 => ?_⟩
  have hl := hSP.wlen e he
  rw [tell_mir hW ok.1 he sw.1 hl (by decide), tell_mir hW ok.1 he sw.1 hl (by decide)] at hfu2
  have hfu18 := s18 _ _ (s17 _ _ hfu16)
  refine ⟨_, rfl, _, rfl, fu, _, _, rfl, SqT.of hfu18, fun rv hrv => ?_⟩
  have s19 := same_new hrv (.tup [oI (tellP r ch wk e hs 1), oI (tellP r ch wk e hs 0)])
  have erv : (upd H18 rv (.tup [oI (tellP r ch wk e hs 1), oI (tellP r ch wk e hs 0)])) rv = some (.tup [oI (tellP r ch wk e hs 1), oI (tellP r ch wk e hs 0)]) := upd_same
  have shp := (ok_tup_oID (tellP r ch wk e hs 1) (tellP r ch wk e hs 0)).shaped (by decide)
  refine ⟨_, _, tup_oI (s19 _ _ hfu2), tup_oI erv, shp, shp, _, rfl, ?_⟩
  rw [eqv_oI]
  refine iteF ?_
  have bE := (b917.trans (.same s18)).trans (.same s19)
  exact ⟨_, _, _, _, _, _, rfl, bE, ((((w15.same s16).same s17).same s18).same s19).up (by omega)⟩
end
end TA

set_option Elab.async false
set_option maxRecDepth 100000
set_option maxHeartbeats 4000000
set_option linter.unusedVariables false
namespace TA
open PySem PySem.Spec L2 PyProof.Rows LamX
def raiseB (K : PySem.W.Frag) (C : Addr) : Bool := decide (PySem.W.subIn K (.ref C) (.type "BaseException") = some true) && decide (PySem.W.typeIn K (.ref C) = some (.type "type"))
theorem raiseB_ok {K : PySem.W.Frag} {mg : Str → Option Value} {n : Str} {C : Addr} (h : raiseB K C = true) (m : mg n = some (.ref C)) (x : PySem.W.excIn K C [.type "ValueError", .type "Exception", .type "BaseException", .type "object"] "ValueError.__new__" = true) (k : PySem.W.keepIn K (.ref C) = true) : TB.RaiseC K mg n C := by
  obtain ⟨a, b⟩ := Bool.and_eq_true_iff.mp h
  exact ⟨m, x, k, of_decide_eq_true a, of_decide_eq_true b⟩
theorem all_mk {l : PySem.W.OpenLaw} {w : World} {K : PySem.W.Frag} {h : Heap} {mg : Str → Option Value} {fa f1 f2 f3 f4 f5 f6 f7 f8 f9 f10 f11 f12 f13 f14 f15 f16 f17 f18 f19 f20 f21 f22 f23 f24 f25 f26 f27 f28 f29 f30 f31 f32 f33 f34 f35 f36 f37 f38 f39 f40 f41 f42 f43 f44 f45 f46 f47 f48 f49 f50 f51 f52 f53 f54 f55 hA0 hA1 cN C y1 y2 y3 : Addr} (X : K.In h) (G : h.Ns mainGlobals mg) (hfa : mg "law" = some (.ref fa))
    {od1 an1 od2 an2 od3 an3 od4 an4 od5 an5 od6 an6 od7 an7 od8 an8 od9 an9 od10 an10 od11 an11 od12 an12 od13 an13 od14 an14 od15 an15 od16 an16 od17 an17 od18 an18 od19 an19 od20 an20 od21 an21 od22 an22 od23 an23 od24 an24 od25 an25 od26 an26 od27 an27 od28 an28 od29 an29 od30 an30 od31 an31 od32 an32 od33 an33 od34 an34 od35 an35 od36 an36 od37 an37 od38 an38 od39 an39 od40 an40 od41 an41 od42 an42 od43 an43 od44 an44 od45 an45 od46 an46 od47 an47 od48 an48 od49 an49 od50 an50 od51 an51 od52 an52 od53 an53 od54 an54 od55 an55 odH0 odH1 : Option Addr} {sl1 sl2 sl3 sl4 sl5 sl6 sl7 sl8 sl9 sl10 sl11 sl12 sl13 sl14 sl15 sl16 sl17 sl18 sl19 sl20 sl21 sl22 sl23 sl24 sl25 sl26 sl27 sl28 sl29 sl30 sl31 sl32 sl33 sl34 sl35 sl36 sl37 sl38 sl39 sl40 sl41 sl42 sl43 sl44 sl45 sl46 sl47 sl48 sl49 sl50 sl51 sl52 sl53 sl54 sl55 slH0 slH1 : Array (Option Value)} {oc1 kV1 dc1 pm1 cd1 ct1 oc2 kV2 dc2 pm2 cd2 ct2 oc3 kV3 dc3 pm3 cd3 ct3 oc4 kV4 dc4 pm4 cd4 ct4 oc5 kV5 dc5 pm5 cd5 ct5 oc6 kV6 dc6 pm6 cd6 ct6 oc7 kV7 dc7 pm7 cd7 ct7 oc8 kV8 dc8 pm8 cd8 ct8 oc9 kV9 dc9 pm9 cd9 ct9 oc10 kV10 dc10 pm10 cd10 ct10 oc11 kV11 dc11 pm11 cd11 ct11 oc12 kV12 dc12 pm12 cd12 ct12 oc13 kV13 dc13 pm13 cd13 ct13 oc14 kV14 dc14 pm14 cd14 ct14 oc15 kV15 dc15 pm15 cd15 ct15 oc16 kV16 dc16 pm16 cd16 ct16 oc17 kV17 dc17 pm17 cd17 ct17 oc18 kV18 dc18 pm18 cd18 ct18 oc19 kV19 dc19 pm19 cd19 ct19 oc20 kV20 dc20 pm20 cd20 ct20 oc21 kV21 dc21 pm21 cd21 ct21 oc22 kV22 dc22 pm22 cd22 ct22 oc23 kV23 dc23 pm23 cd23 ct23 oc24 kV24 dc24 pm24 cd24 ct24 oc25 kV25 dc25 pm25 cd25 ct25 oc26 kV26 dc26 pm26 cd26 ct26 oc27 kV27 dc27 pm27 cd27 ct27 oc28 kV28 dc28 pm28 cd28 ct28 oc29 kV29 dc29 pm29 cd29 ct29 oc30 kV30 dc30 pm30 cd30 ct30 oc31 kV31 dc31 pm31 cd31 ct31 oc32 kV32 dc32 pm32 cd32 ct32 oc33 kV33 dc33 pm33 cd33 ct33 oc34 kV34 dc34 pm34 cd34 ct34 oc35 kV35 dc35 pm35 cd35 ct35 oc36 kV36 dc36 pm36 cd36 ct36 oc37 kV37 dc37 pm37 cd37 ct37 oc38 kV38 dc38 pm38 cd38 ct38 oc39 kV39 dc39 pm39 cd39 ct39 oc40 kV40 dc40 pm40 cd40 ct40 oc41 kV41 dc41 pm41 cd41 ct41 oc42 kV42 dc42 pm42 cd42 ct42 oc43 kV43 dc43 pm43 cd43 ct43 oc44 kV44 dc44 pm44 cd44 ct44 oc45 kV45 dc45 pm45 cd45 ct45 oc46 kV46 dc46 pm46 cd46 ct46 oc47 kV47 dc47 pm47 cd47 ct47 oc48 kV48 dc48 pm48 cd48 ct48 oc49 kV49 dc49 pm49 cd49 ct49 oc50 kV50 dc50 pm50 cd50 ct50 oc51 kV51 dc51 pm51 cd51 ct51 oc52 kV52 dc52 pm52 cd52 ct52 oc53 kV53 dc53 pm53 cd53 ct53 oc54 kV54 dc54 pm54 cd54 ct54 oc55 kV55 dc55 pm55 cd55 ct55 : Value} {tI0 tI1 tI2 tI3 tI4 tT0_0 tT0_1 tT1_0 tT1_1 tT1_2 tT1_3 tT1_4 tT1_5 : Tok} {nH0 nH1 : Nat}
    {yod1 yan1 yod2 yan2 yod3 yan3 : Option Addr} {ysl1 ysl2 ysl3 : Array (Option Value)} {yoc1 ykV1 ydc1 ypm1 ycd1 yct1 yoc2 ykV2 ydc2 ypm2 ycd2 yct2 yoc3 ykV3 ydc3 ypm3 ycd3 yct3 : Value}
    (aC : PySem.W.nsIn K mainGlobals "Task" = some (some (.ref C)))
    (ya1 : PySem.W.findIn K (.ref C) "__init__" = some (some (.ref y1))) (yi1 : PySem.W.isFn K (.ref y1) = true) (yl1 : K.lookup y1 = some ⟨yoc1, yod1, .func (PySem.W.fnOf "__init__" "Task.__init__" (defArgs s_init) (defBody s_init) (defScope s_init) .none ykV1 ydc1 ypm1 yan1 ycd1 yct1), ysl1⟩) (yc1 : PySem.W.codeIn K ycd1 "Task.__init__" = true) (yk1 : PySem.W.keepIn K (.ref y1) = true)
    (ya2 : PySem.W.findIn K (.ref C) "inputs" = some (some (.ref y2))) (yi2 : PySem.W.isFn K (.ref y2) = true) (yl2 : K.lookup y2 = some ⟨yoc2, yod2, .func (PySem.W.fnOf "inputs" "Task.inputs" (defArgs s_inputs) (defBody s_inputs) (defScope s_inputs) .none ykV2 ydc2 ypm2 yan2 ycd2 yct2), ysl2⟩) (yc2 : PySem.W.codeIn K ycd2 "Task.inputs" = true) (yk2 : PySem.W.keepIn K (.ref y2) = true)
    (ya3 : PySem.W.findIn K (.ref C) "pairs" = some (some (.ref y3))) (yi3 : PySem.W.isFn K (.ref y3) = true) (yl3 : K.lookup y3 = some ⟨yoc3, yod3, .func (PySem.W.fnOf "pairs" "Task.pairs" (defArgs s_pairs) (defBody s_pairs) (defScope s_pairs) .none ykV3 ydc3 ypm3 yan3 ycd3 yct3), ysl3⟩) (yc3 : PySem.W.codeIn K ycd3 "Task.pairs" = true) (yk3 : PySem.W.keepIn K (.ref y3) = true)
    (pg : PySem.W.plainGet K C Str.empty = true) (hd : PySem.W.hasDictIn K C = true) (po : PySem.W.plainOver K C = true) (sa : PySem.W.findIn K (.ref C) "__setattr__" = some (some (.builtin "object.__setattr__"))) (mkC : PySem.W.makesIn K C = true) (kC : PySem.W.keepIn K (.ref C) = true) (nA : PySem.W.findIn K (.ref C) "alone" = some none) (nB : PySem.W.findIn K (.ref C) "both" = some none)
    (a1 : PySem.W.nsIn K mainGlobals "is_whole" = some (some (.ref f1))) (l1 : K.lookup f1 = some ⟨oc1, od1, .func (PySem.W.fnOf "is_whole" "is_whole" (defArgs sWhole) (defBody sWhole) (defScope sWhole) .none kV1 dc1 pm1 an1 cd1 ct1), sl1⟩) (c1 : PySem.W.codeIn K cd1 "is_whole" = true) (k1 : PySem.W.keepIn K (.ref f1) = true)
    (a2 : PySem.W.nsIn K mainGlobals "is_whole_within" = some (some (.ref f2))) (l2 : K.lookup f2 = some ⟨oc2, od2, .func (PySem.W.fnOf "is_whole_within" "is_whole_within" (defArgs sWithin) (defBody sWithin) (defScope sWithin) .none kV2 dc2 pm2 an2 cd2 ct2), sl2⟩) (c2 : PySem.W.codeIn K cd2 "is_whole_within" = true) (k2 : PySem.W.keepIn K (.ref f2) = true)
    (a3 : PySem.W.nsIn K mainGlobals "is_hand" = some (some (.ref f3))) (l3 : K.lookup f3 = some ⟨oc3, od3, .func (PySem.W.fnOf "is_hand" "is_hand" (defArgs sHand) (defBody sHand) (defScope sHand) .none kV3 dc3 pm3 an3 cd3 ct3), sl3⟩) (c3 : PySem.W.codeIn K cd3 "is_hand" = true) (k3 : PySem.W.keepIn K (.ref f3) = true)
    (a4 : PySem.W.nsIn K mainGlobals "is_rising" = some (some (.ref f4))) (l4 : K.lookup f4 = some ⟨oc4, od4, .func (PySem.W.fnOf "is_rising" "is_rising" (defArgs s_is_rising) (defBody s_is_rising) (defScope s_is_rising) .none kV4 dc4 pm4 an4 cd4 ct4), sl4⟩) (c4 : PySem.W.codeIn K cd4 "is_rising" = true) (k4 : PySem.W.keepIn K (.ref f4) = true)
    (a5 : PySem.W.nsIn K mainGlobals "is_inputs" = some (some (.ref f5))) (l5 : K.lookup f5 = some ⟨oc5, od5, .func (PySem.W.fnOf "is_inputs" "is_inputs" (defArgs sInputs) (defBody sInputs) (defScope sInputs) .none kV5 dc5 pm5 an5 cd5 ct5), sl5⟩) (c5 : PySem.W.codeIn K cd5 "is_inputs" = true) (k5 : PySem.W.keepIn K (.ref f5) = true)
    (a6 : PySem.W.nsIn K mainGlobals "is_weaving" = some (some (.ref f6))) (l6 : K.lookup f6 = some ⟨oc6, od6, .func (PySem.W.fnOf "is_weaving" "is_weaving" (defArgs sWeaving) (defBody sWeaving) (defScope sWeaving) .none kV6 dc6 pm6 an6 cd6 ct6), sl6⟩) (c6 : PySem.W.codeIn K cd6 "is_weaving" = true) (k6 : PySem.W.keepIn K (.ref f6) = true)
    (a7 : PySem.W.nsIn K mainGlobals "put_in" = some (some (.ref f7))) (l7 : K.lookup f7 = some ⟨oc7, od7, .func (PySem.W.fnOf "put_in" "put_in" (defArgs sPut) (defBody sPut) (defScope sPut) .none kV7 dc7 pm7 an7 cd7 ct7), sl7⟩) (c7 : PySem.W.codeIn K cd7 "put_in" = true) (k7 : PySem.W.keepIn K (.ref f7) = true)
    (a8 : PySem.W.nsIn K mainGlobals "known" = some (some (.ref f8))) (l8 : K.lookup f8 = some ⟨oc8, od8, .func (PySem.W.fnOf "known" "known" (defArgs sKnown) (defBody sKnown) (defScope sKnown) .none kV8 dc8 pm8 an8 cd8 ct8), sl8⟩) (c8 : PySem.W.codeIn K cd8 "known" = true) (k8 : PySem.W.keepIn K (.ref f8) = true)
    (a9 : PySem.W.nsIn K mainGlobals "rounds_behind" = some (some (.ref f9))) (l9 : K.lookup f9 = some ⟨oc9, od9, .func (PySem.W.fnOf "rounds_behind" "rounds_behind" (defArgs s_rounds_behind) (defBody s_rounds_behind) (defScope s_rounds_behind) .none kV9 dc9 pm9 an9 cd9 ct9), sl9⟩) (c9 : PySem.W.codeIn K cd9 "rounds_behind" = true) (k9 : PySem.W.keepIn K (.ref f9) = true)
    (a10 : PySem.W.nsIn K mainGlobals "agrees" = some (some (.ref f10))) (l10 : K.lookup f10 = some ⟨oc10, od10, .func (PySem.W.fnOf "agrees" "agrees" (defArgs s_agrees) (defBody s_agrees) (defScope s_agrees) .none kV10 dc10 pm10 an10 cd10 ct10), sl10⟩) (c10 : PySem.W.codeIn K cd10 "agrees" = true) (k10 : PySem.W.keepIn K (.ref f10) = true)
    (a11 : PySem.W.nsIn K mainGlobals "met" = some (some (.ref f11))) (l11 : K.lookup f11 = some ⟨oc11, od11, .func (PySem.W.fnOf "met" "met" (defArgs s_met) (defBody s_met) (defScope s_met) .none kV11 dc11 pm11 an11 cd11 ct11), sl11⟩) (c11 : PySem.W.codeIn K cd11 "met" = true) (k11 : PySem.W.keepIn K (.ref f11) = true)
    (a12 : PySem.W.nsIn K mainGlobals "standing" = some (some (.ref f12))) (l12 : K.lookup f12 = some ⟨oc12, od12, .func (PySem.W.fnOf "standing" "standing" (defArgs s_standing) (defBody s_standing) (defScope s_standing) .none kV12 dc12 pm12 an12 cd12 ct12), sl12⟩) (c12 : PySem.W.codeIn K cd12 "standing" = true) (k12 : PySem.W.keepIn K (.ref f12) = true)
    (a13 : PySem.W.nsIn K mainGlobals "place" = some (some (.ref f13))) (l13 : K.lookup f13 = some ⟨oc13, od13, .func (PySem.W.fnOf "place" "place" (defArgs sPlace) (defBody sPlace) (defScope sPlace) .none kV13 dc13 pm13 an13 cd13 ct13), sl13⟩) (c13 : PySem.W.codeIn K cd13 "place" = true) (k13 : PySem.W.keepIn K (.ref f13) = true)
    (a14 : PySem.W.nsIn K mainGlobals "is_output" = some (some (.ref f14))) (l14 : K.lookup f14 = some ⟨oc14, od14, .func (PySem.W.fnOf "is_output" "is_output" (defArgs s_is_output) (defBody s_is_output) (defScope s_is_output) .none kV14 dc14 pm14 an14 cd14 ct14), sl14⟩) (c14 : PySem.W.codeIn K cd14 "is_output" = true) (k14 : PySem.W.keepIn K (.ref f14) = true)
    (a15 : PySem.W.nsIn K mainGlobals "is_outputs" = some (some (.ref f15))) (l15 : K.lookup f15 = some ⟨oc15, od15, .func (PySem.W.fnOf "is_outputs" "is_outputs" (defArgs s_is_outputs) (defBody s_is_outputs) (defScope s_is_outputs) .none kV15 dc15 pm15 an15 cd15 ct15), sl15⟩) (c15 : PySem.W.codeIn K cd15 "is_outputs" = true) (k15 : PySem.W.keepIn K (.ref f15) = true)
    (a16 : PySem.W.nsIn K mainGlobals "is_rows" = some (some (.ref f16))) (l16 : K.lookup f16 = some ⟨oc16, od16, .func (PySem.W.fnOf "is_rows" "is_rows" (defArgs s_is_rows) (defBody s_is_rows) (defScope s_is_rows) .none kV16 dc16 pm16 an16 cd16 ct16), sl16⟩) (c16 : PySem.W.codeIn K cd16 "is_rows" = true) (k16 : PySem.W.keepIn K (.ref f16) = true)
    (a17 : PySem.W.nsIn K mainGlobals "is_alone" = some (some (.ref f17))) (l17 : K.lookup f17 = some ⟨oc17, od17, .func (PySem.W.fnOf "is_alone" "is_alone" (defArgs s_is_alone) (defBody s_is_alone) (defScope s_is_alone) .none kV17 dc17 pm17 an17 cd17 ct17), sl17⟩) (c17 : PySem.W.codeIn K cd17 "is_alone" = true) (k17 : PySem.W.keepIn K (.ref f17) = true)
    (a18 : PySem.W.nsIn K mainGlobals "is_output_pair" = some (some (.ref f18))) (l18 : K.lookup f18 = some ⟨oc18, od18, .func (PySem.W.fnOf "is_output_pair" "is_output_pair" (defArgs s_is_output_pair) (defBody s_is_output_pair) (defScope s_is_output_pair) .none kV18 dc18 pm18 an18 cd18 ct18), sl18⟩) (c18 : PySem.W.codeIn K cd18 "is_output_pair" = true) (k18 : PySem.W.keepIn K (.ref f18) = true)
    (a19 : PySem.W.nsIn K mainGlobals "is_let" = some (some (.ref f19))) (l19 : K.lookup f19 = some ⟨oc19, od19, .func (PySem.W.fnOf "is_let" "is_let" (defArgs s_is_let) (defBody s_is_let) (defScope s_is_let) .none kV19 dc19 pm19 an19 cd19 ct19), sl19⟩) (c19 : PySem.W.codeIn K cd19 "is_let" = true) (k19 : PySem.W.keepIn K (.ref f19) = true)
    (a20 : PySem.W.nsIn K mainGlobals "is_input_pair" = some (some (.ref f20))) (l20 : K.lookup f20 = some ⟨oc20, od20, .func (PySem.W.fnOf "is_input_pair" "is_input_pair" (defArgs s_is_input_pair) (defBody s_is_input_pair) (defScope s_is_input_pair) .none kV20 dc20 pm20 an20 cd20 ct20), sl20⟩) (c20 : PySem.W.codeIn K cd20 "is_input_pair" = true) (k20 : PySem.W.keepIn K (.ref f20) = true)
    (a21 : PySem.W.nsIn K mainGlobals "each_comes" = some (some (.ref f21))) (l21 : K.lookup f21 = some ⟨oc21, od21, .func (PySem.W.fnOf "each_comes" "each_comes" (defArgs s_each_comes) (defBody s_each_comes) (defScope s_each_comes) .none kV21 dc21 pm21 an21 cd21 ct21), sl21⟩) (c21 : PySem.W.codeIn K cd21 "each_comes" = true) (k21 : PySem.W.keepIn K (.ref f21) = true)
    (a22 : PySem.W.nsIn K mainGlobals "is_both" = some (some (.ref f22))) (l22 : K.lookup f22 = some ⟨oc22, od22, .func (PySem.W.fnOf "is_both" "is_both" (defArgs s_is_both) (defBody s_is_both) (defScope s_is_both) .none kV22 dc22 pm22 an22 cd22 ct22), sl22⟩) (c22 : PySem.W.codeIn K cd22 "is_both" = true) (k22 : PySem.W.keepIn K (.ref f22) = true)
    (a23 : PySem.W.nsIn K mainGlobals "is_pair" = some (some (.ref f23))) (l23 : K.lookup f23 = some ⟨oc23, od23, .func (PySem.W.fnOf "is_pair" "is_pair" (defArgs s_is_pair) (defBody s_is_pair) (defScope s_is_pair) .none kV23 dc23 pm23 an23 cd23 ct23), sl23⟩) (c23 : PySem.W.codeIn K cd23 "is_pair" = true) (k23 : PySem.W.keepIn K (.ref f23) = true)
    (a24 : PySem.W.nsIn K mainGlobals "swapped" = some (some (.ref f24))) (l24 : K.lookup f24 = some ⟨oc24, od24, .func (PySem.W.fnOf "swapped" "swapped" (defArgs s_swapped) (defBody s_swapped) (defScope s_swapped) .none kV24 dc24 pm24 an24 cd24 ct24), sl24⟩) (c24 : PySem.W.codeIn K cd24 "swapped" = true) (k24 : PySem.W.keepIn K (.ref f24) = true)
    (a25 : PySem.W.nsIn K mainGlobals "is_row" = some (some (.ref f25))) (l25 : K.lookup f25 = some ⟨oc25, od25, .func (PySem.W.fnOf "is_row" "is_row" (defArgs s_is_row) (defBody s_is_row) (defScope s_is_row) .none kV25 dc25 pm25 an25 cd25 ct25), sl25⟩) (c25 : PySem.W.codeIn K cd25 "is_row" = true) (k25 : PySem.W.keepIn K (.ref f25) = true)
    (a26 : PySem.W.nsIn K mainGlobals "is_chosen" = some (some (.ref f26))) (l26 : K.lookup f26 = some ⟨oc26, od26, .func (PySem.W.fnOf "is_chosen" "is_chosen" (defArgs s_is_chosen) (defBody s_is_chosen) (defScope s_is_chosen) .none kV26 dc26 pm26 an26 cd26 ct26), sl26⟩) (c26 : PySem.W.codeIn K cd26 "is_chosen" = true) (k26 : PySem.W.keepIn K (.ref f26) = true)
    (a27 : PySem.W.nsIn K mainGlobals "is_walks" = some (some (.ref f27))) (l27 : K.lookup f27 = some ⟨oc27, od27, .func (PySem.W.fnOf "is_walks" "is_walks" (defArgs s_is_walks) (defBody s_is_walks) (defScope s_is_walks) .none kV27 dc27 pm27 an27 cd27 ct27), sl27⟩) (c27 : PySem.W.codeIn K cd27 "is_walks" = true) (k27 : PySem.W.keepIn K (.ref f27) = true)
    (a28 : PySem.W.nsIn K mainGlobals "is_protocol" = some (some (.ref f28))) (l28 : K.lookup f28 = some ⟨oc28, od28, .func (PySem.W.fnOf "is_protocol" "is_protocol" (defArgs s_is_protocol) (defBody s_is_protocol) (defScope s_is_protocol) .none kV28 dc28 pm28 an28 cd28 ct28), sl28⟩) (c28 : PySem.W.codeIn K cd28 "is_protocol" = true) (k28 : PySem.W.keepIn K (.ref f28) = true)
    (a29 : PySem.W.nsIn K mainGlobals "output_of" = some (some (.ref f29))) (l29 : K.lookup f29 = some ⟨oc29, od29, .func (PySem.W.fnOf "output_of" "output_of" (defArgs s_output_of) (defBody s_output_of) (defScope s_output_of) .none kV29 dc29 pm29 an29 cd29 ct29), sl29⟩) (c29 : PySem.W.codeIn K cd29 "output_of" = true) (k29 : PySem.W.keepIn K (.ref f29) = true)
    (a30 : PySem.W.nsIn K mainGlobals "tell" = some (some (.ref f30))) (l30 : K.lookup f30 = some ⟨oc30, od30, .func (PySem.W.fnOf "tell" "tell" (defArgs s_tell) (defBody s_tell) (defScope s_tell) .none kV30 dc30 pm30 an30 cd30 ct30), sl30⟩) (c30 : PySem.W.codeIn K cd30 "tell" = true) (k30 : PySem.W.keepIn K (.ref f30) = true)
    (a31 : PySem.W.nsIn K mainGlobals "alone_fault" = some (some (.ref f31))) (l31 : K.lookup f31 = some ⟨oc31, od31, .func (PySem.W.fnOf "alone_fault" "alone_fault" (defArgs s_alone_fault) (defBody s_alone_fault) (defScope s_alone_fault) .none kV31 dc31 pm31 an31 cd31 ct31), sl31⟩) (c31 : PySem.W.codeIn K cd31 "alone_fault" = true) (k31 : PySem.W.keepIn K (.ref f31) = true)
    (a32 : PySem.W.nsIn K mainGlobals "outputs_at" = some (some (.ref f32))) (l32 : K.lookup f32 = some ⟨oc32, od32, .func (PySem.W.fnOf "outputs_at" "outputs_at" (defArgs s_outputs_at) (defBody s_outputs_at) (defScope s_outputs_at) .none kV32 dc32 pm32 an32 cd32 ct32), sl32⟩) (c32 : PySem.W.codeIn K cd32 "outputs_at" = true) (k32 : PySem.W.keepIn K (.ref f32) = true)
    (a33 : PySem.W.nsIn K mainGlobals "walk_fault" = some (some (.ref f33))) (l33 : K.lookup f33 = some ⟨oc33, od33, .func (PySem.W.fnOf "walk_fault" "walk_fault" (defArgs s_walk_fault) (defBody s_walk_fault) (defScope s_walk_fault) .none kV33 dc33 pm33 an33 cd33 ct33), sl33⟩) (c33 : PySem.W.codeIn K cd33 "walk_fault" = true) (k33 : PySem.W.keepIn K (.ref f33) = true)
    (a34 : PySem.W.nsIn K mainGlobals "protocol_fault" = some (some (.ref f34))) (l34 : K.lookup f34 = some ⟨oc34, od34, .func (PySem.W.fnOf "protocol_fault" "protocol_fault" (defArgs s_protocol_fault) (defBody s_protocol_fault) (defScope s_protocol_fault) .none kV34 dc34 pm34 an34 cd34 ct34), sl34⟩) (c34 : PySem.W.codeIn K cd34 "protocol_fault" = true) (k34 : PySem.W.keepIn K (.ref f34) = true)
    (a35 : PySem.W.nsIn K mainGlobals "alone_row" = some (some (.ref f35))) (l35 : K.lookup f35 = some ⟨oc35, od35, .func (PySem.W.fnOf "alone_row" "alone_row" (defArgs s_alone_row) (defBody s_alone_row) (defScope s_alone_row) .none kV35 dc35 pm35 an35 cd35 ct35), sl35⟩) (c35 : PySem.W.codeIn K cd35 "alone_row" = true) (k35 : PySem.W.keepIn K (.ref f35) = true)
    (a36 : PySem.W.nsIn K mainGlobals "both_row" = some (some (.ref f36))) (l36 : K.lookup f36 = some ⟨oc36, od36, .func (PySem.W.fnOf "both_row" "both_row" (defArgs s_both_row) (defBody s_both_row) (defScope s_both_row) .none kV36 dc36 pm36 an36 cd36 ct36), sl36⟩) (c36 : PySem.W.codeIn K cd36 "both_row" = true) (k36 : PySem.W.keepIn K (.ref f36) = true)
    (a37 : PySem.W.nsIn K mainGlobals "task_text" = some (some (.ref f37))) (l37 : K.lookup f37 = some ⟨oc37, od37, .func (PySem.W.fnOf "task_text" "task_text" (defArgs s_task_text) (defBody s_task_text) (defScope s_task_text) .none kV37 dc37 pm37 an37 cd37 ct37), sl37⟩) (c37 : PySem.W.codeIn K cd37 "task_text" = true) (k37 : PySem.W.keepIn K (.ref f37) = true)
    (a38 : PySem.W.nsIn K mainGlobals "number" = some (some (.ref f38))) (l38 : K.lookup f38 = some ⟨oc38, od38, .func (PySem.W.fnOf "number" "number" (defArgs s_number) (defBody s_number) (defScope s_number) .none kV38 dc38 pm38 an38 cd38 ct38), sl38⟩) (c38 : PySem.W.codeIn K cd38 "number" = true) (k38 : PySem.W.keepIn K (.ref f38) = true)
    (a39 : PySem.W.nsIn K mainGlobals "numbers" = some (some (.ref f39))) (l39 : K.lookup f39 = some ⟨oc39, od39, .func (PySem.W.fnOf "numbers" "numbers" (defArgs s_numbers) (defBody s_numbers) (defScope s_numbers) .none kV39 dc39 pm39 an39 cd39 ct39), sl39⟩) (c39 : PySem.W.codeIn K cd39 "numbers" = true) (k39 : PySem.W.keepIn K (.ref f39) = true)
    (a40 : PySem.W.nsIn K mainGlobals "read_alone" = some (some (.ref f40))) (l40 : K.lookup f40 = some ⟨oc40, od40, .func (PySem.W.fnOf "read_alone" "read_alone" (defArgs s_read_alone) (defBody s_read_alone) (defScope s_read_alone) .none kV40 dc40 pm40 an40 cd40 ct40), sl40⟩) (c40 : PySem.W.codeIn K cd40 "read_alone" = true) (k40 : PySem.W.keepIn K (.ref f40) = true)
    (a41 : PySem.W.nsIn K mainGlobals "read_both" = some (some (.ref f41))) (l41 : K.lookup f41 = some ⟨oc41, od41, .func (PySem.W.fnOf "read_both" "read_both" (defArgs s_read_both) (defBody s_read_both) (defScope s_read_both) .none kV41 dc41 pm41 an41 cd41 ct41), sl41⟩) (c41 : PySem.W.codeIn K cd41 "read_both" = true) (k41 : PySem.W.keepIn K (.ref f41) = true)
    (a42 : PySem.W.nsIn K mainGlobals "read_rows" = some (some (.ref f42))) (l42 : K.lookup f42 = some ⟨oc42, od42, .func (PySem.W.fnOf "read_rows" "read_rows" (defArgs s_read_rows) (defBody s_read_rows) (defScope s_read_rows) .none kV42 dc42 pm42 an42 cd42 ct42), sl42⟩) (c42 : PySem.W.codeIn K cd42 "read_rows" = true) (k42 : PySem.W.keepIn K (.ref f42) = true)
    (a43 : PySem.W.nsIn K mainGlobals "read_task" = some (some (.ref f43))) (l43 : K.lookup f43 = some ⟨oc43, od43, .func (PySem.W.fnOf "read_task" "read_task" (defArgs s_read_task) (defBody s_read_task) (defScope s_read_task) .none kV43 dc43 pm43 an43 cd43 ct43), sl43⟩) (c43 : PySem.W.codeIn K cd43 "read_task" = true) (k43 : PySem.W.keepIn K (.ref f43) = true)
    (a44 : PySem.W.nsIn K mainGlobals "_law_cell_at" = some (some (.ref f44))) (l44 : K.lookup f44 = some ⟨oc44, od44, .func (PySem.W.fnOf "_law_cell_at" "_law_cell_at" (defArgs sCell) (defBody sCell) (defScope sCell) .none kV44 dc44 pm44 an44 cd44 ct44), sl44⟩) (c44 : PySem.W.codeIn K cd44 "_law_cell_at" = true) (k44 : PySem.W.keepIn K (.ref f44) = true)
    (a45 : PySem.W.nsIn K mainGlobals "_law_digit" = some (some (.ref f45))) (l45 : K.lookup f45 = some ⟨oc45, od45, .func (PySem.W.fnOf "_law_digit" "_law_digit" (defArgs s__law_digit) (defBody s__law_digit) (defScope s__law_digit) .none kV45 dc45 pm45 an45 cd45 ct45), sl45⟩) (c45 : PySem.W.codeIn K cd45 "_law_digit" = true) (k45 : PySem.W.keepIn K (.ref f45) = true)
    (a46 : PySem.W.nsIn K mainGlobals "_law_of" = some (some (.ref f46))) (l46 : K.lookup f46 = some ⟨oc46, od46, .func (PySem.W.fnOf "_law_of" "_law_of" (defArgs s__law_of) (defBody s__law_of) (defScope s__law_of) .none kV46 dc46 pm46 an46 cd46 ct46), sl46⟩) (c46 : PySem.W.codeIn K cd46 "_law_of" = true) (k46 : PySem.W.keepIn K (.ref f46) = true)
    (a47 : PySem.W.nsIn K mainGlobals "_law_rising" = some (some (.ref f47))) (l47 : K.lookup f47 = some ⟨oc47, od47, .func (PySem.W.fnOf "_law_rising" "_law_rising" (defArgs s__law_rising) (defBody s__law_rising) (defScope s__law_rising) .none kV47 dc47 pm47 an47 cd47 ct47), sl47⟩) (c47 : PySem.W.codeIn K cd47 "_law_rising" = true) (k47 : PySem.W.keepIn K (.ref f47) = true)
    (a48 : PySem.W.nsIn K mainGlobals "_law_outs" = some (some (.ref f48))) (l48 : K.lookup f48 = some ⟨oc48, od48, .func (PySem.W.fnOf "_law_outs" "_law_outs" (defArgs s__law_outs) (defBody s__law_outs) (defScope s__law_outs) .none kV48 dc48 pm48 an48 cd48 ct48), sl48⟩) (c48 : PySem.W.codeIn K cd48 "_law_outs" = true) (k48 : PySem.W.keepIn K (.ref f48) = true)
    (a49 : PySem.W.nsIn K mainGlobals "_law_parts" = some (some (.ref f49))) (l49 : K.lookup f49 = some ⟨oc49, od49, .func (PySem.W.fnOf "_law_parts" "_law_parts" (defArgs s__law_parts) (defBody s__law_parts) (defScope s__law_parts) .none kV49 dc49 pm49 an49 cd49 ct49), sl49⟩) (c49 : PySem.W.codeIn K cd49 "_law_parts" = true) (k49 : PySem.W.keepIn K (.ref f49) = true)
    (a50 : PySem.W.nsIn K mainGlobals "_law_walk" = some (some (.ref f50))) (l50 : K.lookup f50 = some ⟨oc50, od50, .func (PySem.W.fnOf "_law_walk" "_law_walk" (defArgs s__law_walk) (defBody s__law_walk) (defScope s__law_walk) .none kV50 dc50 pm50 an50 cd50 ct50), sl50⟩) (c50 : PySem.W.codeIn K cd50 "_law_walk" = true) (k50 : PySem.W.keepIn K (.ref f50) = true)
    (a51 : PySem.W.nsIn K mainGlobals "_law_scheme" = some (some (.ref f51))) (l51 : K.lookup f51 = some ⟨oc51, od51, .func (PySem.W.fnOf "_law_scheme" "_law_scheme" (defArgs s__law_scheme) (defBody s__law_scheme) (defScope s__law_scheme) .none kV51 dc51 pm51 an51 cd51 ct51), sl51⟩) (c51 : PySem.W.codeIn K cd51 "_law_scheme" = true) (k51 : PySem.W.keepIn K (.ref f51) = true)
    (a52 : PySem.W.nsIn K mainGlobals "_law_weaving" = some (some (.ref f52))) (l52 : K.lookup f52 = some ⟨oc52, od52, .func (PySem.W.fnOf "_law_weaving" "_law_weaving" (defArgs sLawWeav) (defBody sLawWeav) (defScope sLawWeav) .none kV52 dc52 pm52 an52 cd52 ct52), sl52⟩) (c52 : PySem.W.codeIn K cd52 "_law_weaving" = true) (k52 : PySem.W.keepIn K (.ref f52) = true)
    (a53 : PySem.W.nsIn K mainGlobals "_law_turned" = some (some (.ref f53))) (l53 : K.lookup f53 = some ⟨oc53, od53, .func (PySem.W.fnOf "_law_turned" "_law_turned" (defArgs s__law_turned) (defBody s__law_turned) (defScope s__law_turned) .none kV53 dc53 pm53 an53 cd53 ct53), sl53⟩) (c53 : PySem.W.codeIn K cd53 "_law_turned" = true) (k53 : PySem.W.keepIn K (.ref f53) = true)
    (a54 : PySem.W.nsIn K mainGlobals "_law_words" = some (some (.ref f54))) (l54 : K.lookup f54 = some ⟨oc54, od54, .func (PySem.W.fnOf "_law_words" "_law_words" (defArgs s__law_words) (defBody s__law_words) (defScope s__law_words) .none kV54 dc54 pm54 an54 cd54 ct54), sl54⟩) (c54 : PySem.W.codeIn K cd54 "_law_words" = true) (k54 : PySem.W.keepIn K (.ref f54) = true)
    (a55 : PySem.W.nsIn K mainGlobals "law" = some (some (.ref f55))) (l55 : K.lookup f55 = some ⟨oc55, od55, .func (PySem.W.fnOf "law" "law" (defArgs sLaw) (defBody sLaw) (defScope sLaw) .none kV55 dc55 pm55 an55 cd55 ct55), sl55⟩) (c55 : PySem.W.codeIn K cd55 "law" = true) (k55 : PySem.W.keepIn K (.ref f55) = true)
    (z0 : PySem.W.nsIn K mainGlobals "isinstance" = some none)
    (z1 : PySem.W.nsIn K mainGlobals "int" = some none)
    (z2 : PySem.W.nsIn K mainGlobals "bool" = some none)
    (z3 : PySem.W.nsIn K mainGlobals "len" = some none)
    (z4 : PySem.W.nsIn K mainGlobals "range" = some none)
    (z5 : PySem.W.nsIn K mainGlobals "list" = some none)
    (z6 : PySem.W.nsIn K mainGlobals "tuple" = some none)
    (z7 : PySem.W.nsIn K mainGlobals "all" = some none)
    (z8 : PySem.W.nsIn K mainGlobals "sum" = some none)
    (z9 : PySem.W.nsIn K mainGlobals "min" = some none)
    (z10 : PySem.W.nsIn K mainGlobals "sorted" = some none)
    (z11 : PySem.W.nsIn K mainGlobals "set" = some none)
    (z12 : PySem.W.nsIn K mainGlobals "max" = some none)
    (z13 : PySem.W.nsIn K mainGlobals "zip" = some none)
    (z14 : PySem.W.nsIn K mainGlobals "dict" = some none)
    (z15 : PySem.W.nsIn K mainGlobals "abs" = some none)
    (z16 : PySem.W.nsIn K mainGlobals "str" = some none)
    (i0 : PySem.W.nsIn K mainGlobals "MOST_OUTPUT" = some (some (.int 63 tI0)))
    (i1 : PySem.W.nsIn K mainGlobals "STEPS" = some (some (.int 2 tI1)))
    (i2 : PySem.W.nsIn K mainGlobals "MOST_ROUNDS" = some (some (.int 5 tI2)))
    (i3 : PySem.W.nsIn K mainGlobals "MOST_FIGURES" = some (some (.int 9 tI3)))
    (i4 : PySem.W.nsIn K mainGlobals "FIGURES" = some (some (.str "0123456789" tI4)))
    (t0 : PySem.W.nsIn K mainGlobals "HANDS" = some (some (.ref hA0))) (u0 : K.lookup hA0 = some ⟨.type "tuple", odH0, .seq (Array.mk [.int 0 tT0_0, .int 1 tT0_1]) nH0, slH0⟩)
    (t1 : PySem.W.nsIn K mainGlobals "LAST_PLACES" = some (some (.ref hA1))) (u1 : K.lookup hA1 = some ⟨.type "tuple", odH1, .seq (Array.mk [.int 1 tT1_0, .int 3 tT1_1, .int 9 tT1_2, .int 27 tT1_3, .int 81 tT1_4, .int 243 tT1_5]) nH1, slH1⟩)
    (n0 : PySem.W.nsIn K mainGlobals "NoKnown" = some (some (.ref cN)))
    (q_cN : PySem.W.excIn K cN [.type "ValueError", .type "Exception", .type "BaseException", .type "object"] "ValueError.__new__" = true) (kk_cN : PySem.W.keepIn K (.ref cN) = true) (r_cN : raiseB K cN = true)
    : ∃ fd : FuncData, (∀ (s : Shared) (v : Value), BindsTo s fd ⟨[v], []⟩ [("_law_script", v)]) ∧ ∀ base : Heap, K.In base → base.Ns mainGlobals mg → FnOk l.prog w K mg base CX0 12 fa fd ["_law_script"] (spLaw K) := by
  have e := hfa.symm.trans (PySem.W.mg_of X G a55)
  cases e
  have F1 := fun_mk (st := sWhole) l1 c1 k1
  have b1 := F1.binds (ps := ["thing"]) fun _ _ _ _ _ _ us hl => match us, hl with | [_], _ => rfl
  have F2 := fun_mk (st := sWithin) l2 c2 k2
  have b2 := F2.binds (ps := ["thing", "least", "most"]) fun _ _ _ _ _ _ us hl => match us, hl with | [_, _, _], _ => rfl
  have F3 := fun_mk (st := sHand) l3 c3 k3
  have b3 := F3.binds (ps := ["thing"]) fun _ _ _ _ _ _ us hl => match us, hl with | [_], _ => rfl
  have F4 := fun_mk (st := s_is_rising) l4 c4 k4
  have b4 := F4.binds (ps := ["things"]) fun _ _ _ _ _ _ us hl => match us, hl with | [_], _ => rfl
  have F5 := fun_mk (st := sInputs) l5 c5 k5
  have b5 := F5.binds (ps := ["thing"]) fun _ _ _ _ _ _ us hl => match us, hl with | [_], _ => rfl
  have F6 := fun_mk (st := sWeaving) l6 c6 k6
  have b6 := F6.binds (ps := ["thing", "rounds"]) fun _ _ _ _ _ _ us hl => match us, hl with | [_, _], _ => rfl
  have F7 := fun_mk (st := sPut) l7 c7 k7
  have b7 := F7.binds (ps := ["cells", "at"]) fun _ _ _ _ _ _ us hl => match us, hl with | [_, _], _ => rfl
  have F8 := fun_mk (st := sKnown) l8 c8 k8
  have F9 := fun_mk (st := s_rounds_behind) l9 c9 k9
  have b9 := F9.binds (ps := ["thing"]) fun _ _ _ _ _ _ us hl => match us, hl with | [_], _ => rfl
  have F10 := fun_mk (st := s_agrees) l10 c10 k10
  have b10 := F10.binds (ps := ["one", "other"]) fun _ _ _ _ _ _ us hl => match us, hl with | [_, _], _ => rfl
  have F11 := fun_mk (st := s_met) l11 c11 k11
  have b11 := F11.binds (ps := ["own", "other"]) fun _ _ _ _ _ _ us hl => match us, hl with | [_, _], _ => rfl
  have F12 := fun_mk (st := s_standing) l12 c12 k12
  have b12 := F12.binds (ps := ["thing", "hand", "rounds"]) fun _ _ _ _ _ _ us hl => match us, hl with | [_, _, _], _ => rfl
  have F13 := fun_mk (st := sPlace) l13 c13 k13
  have b13 := F13.binds (ps := ["known", "hand"]) fun _ _ _ _ _ _ us hl => match us, hl with | [_, _], _ => rfl
  have F14 := fun_mk (st := s_is_output) l14 c14 k14
  have b14 := F14.binds (ps := ["thing"]) fun _ _ _ _ _ _ us hl => match us, hl with | [_], _ => rfl
  have F15 := fun_mk (st := s_is_outputs) l15 c15 k15
  have b15 := F15.binds (ps := ["thing"]) fun _ _ _ _ _ _ us hl => match us, hl with | [_], _ => rfl
  have F16 := fun_mk (st := s_is_rows) l16 c16 k16
  have b16 := F16.binds (ps := ["thing"]) fun _ _ _ _ _ _ us hl => match us, hl with | [_], _ => rfl
  have F17 := fun_mk (st := s_is_alone) l17 c17 k17
  have b17 := F17.binds (ps := ["thing"]) fun _ _ _ _ _ _ us hl => match us, hl with | [_], _ => rfl
  have F18 := fun_mk (st := s_is_output_pair) l18 c18 k18
  have b18 := F18.binds (ps := ["thing"]) fun _ _ _ _ _ _ us hl => match us, hl with | [_], _ => rfl
  have F19 := fun_mk (st := s_is_let) l19 c19 k19
  have b19 := F19.binds (ps := ["thing"]) fun _ _ _ _ _ _ us hl => match us, hl with | [_], _ => rfl
  have F20 := fun_mk (st := s_is_input_pair) l20 c20 k20
  have b20 := F20.binds (ps := ["thing", "alone"]) fun _ _ _ _ _ _ us hl => match us, hl with | [_, _], _ => rfl
  have F21 := fun_mk (st := s_each_comes) l21 c21 k21
  have b21 := F21.binds (ps := ["both", "alone", "hand"]) fun _ _ _ _ _ _ us hl => match us, hl with | [_, _, _], _ => rfl
  have F22 := fun_mk (st := s_is_both) l22 c22 k22
  have b22 := F22.binds (ps := ["thing", "alone"]) fun _ _ _ _ _ _ us hl => match us, hl with | [_, _], _ => rfl
  have F23 := fun_mk (st := s_is_pair) l23 c23 k23
  have b23 := F23.binds (ps := ["task", "thing"]) fun _ _ _ _ _ _ us hl => match us, hl with | [_, _], _ => rfl
  have F24 := fun_mk (st := s_swapped) l24 c24 k24
  have b24 := F24.binds (ps := ["task"]) fun _ _ _ _ _ _ us hl => match us, hl with | [_], _ => rfl
  have F25 := fun_mk (st := s_is_row) l25 c25 k25
  have b25 := F25.binds (ps := ["thing", "many"]) fun _ _ _ _ _ _ us hl => match us, hl with | [_, _], _ => rfl
  have F26 := fun_mk (st := s_is_chosen) l26 c26 k26
  have b26 := F26.binds (ps := ["task", "thing"]) fun _ _ _ _ _ _ us hl => match us, hl with | [_, _], _ => rfl
  have F27 := fun_mk (st := s_is_walks) l27 c27 k27
  have b27 := F27.binds (ps := ["task", "thing", "many"]) fun _ _ _ _ _ _ us hl => match us, hl with | [_, _, _], _ => rfl
  have F28 := fun_mk (st := s_is_protocol) l28 c28 k28
  have b28 := F28.binds (ps := ["task", "thing"]) fun _ _ _ _ _ _ us hl => match us, hl with | [_, _], _ => rfl
  have F29 := fun_mk (st := s_output_of) l29 c29 k29
  have b29 := F29.binds (ps := ["protocol", "inputs", "hand", "thing"]) fun _ _ _ _ _ _ us hl => match us, hl with | [_, _, _, _], _ => rfl
  have F30 := fun_mk (st := s_tell) l30 c30 k30
  have b30 := F30.binds (ps := ["task", "protocol", "inputs", "weaving"]) fun _ _ _ _ _ _ us hl => match us, hl with | [_, _, _, _], _ => rfl
  have F31 := fun_mk (st := s_alone_fault) l31 c31 k31
  have b31 := F31.binds (ps := ["task", "alone"]) fun _ _ _ _ _ _ us hl => match us, hl with | [_, _], _ => rfl
  have F32 := fun_mk (st := s_outputs_at) l32 c32 k32
  have b32 := F32.binds (ps := ["row", "at"]) fun _ _ _ _ _ _ us hl => match us, hl with | [_, _], _ => rfl
  have F33 := fun_mk (st := s_walk_fault) l33 c33 k33
  have b33 := F33.binds (ps := ["task", "alone", "pair", "row"]) fun _ _ _ _ _ _ us hl => match us, hl with | [_, _, _, _], _ => rfl
  have F34 := fun_mk (st := s_protocol_fault) l34 c34 k34
  have b34 := F34.binds (ps := ["task", "thing"]) fun _ _ _ _ _ _ us hl => match us, hl with | [_, _], _ => rfl
  have F35 := fun_mk (st := s_alone_row) l35 c35 k35
  have b35 := F35.binds (ps := ["task", "hand", "at"]) fun _ _ _ _ _ _ us hl => match us, hl with | [_, _, _], _ => rfl
  have F36 := fun_mk (st := s_both_row) l36 c36 k36
  have b36 := F36.binds (ps := ["task", "pair"]) fun _ _ _ _ _ _ us hl => match us, hl with | [_, _], _ => rfl
  have F37 := fun_mk (st := s_task_text) l37 c37 k37
  have b37 := F37.binds (ps := ["task"]) fun _ _ _ _ _ _ us hl => match us, hl with | [_], _ => rfl
  have F38 := fun_mk (st := s_number) l38 c38 k38
  have b38 := F38.binds (ps := ["word"]) fun _ _ _ _ _ _ us hl => match us, hl with | [_], _ => rfl
  have F39 := fun_mk (st := s_numbers) l39 c39 k39
  have b39 := F39.binds (ps := ["words", "many"]) fun _ _ _ _ _ _ us hl => match us, hl with | [_, _], _ => rfl
  have F40 := fun_mk (st := s_read_alone) l40 c40 k40
  have b40 := F40.binds (ps := ["alone", "words"]) fun _ _ _ _ _ _ us hl => match us, hl with | [_, _], _ => rfl
  have F41 := fun_mk (st := s_read_both) l41 c41 k41
  have b41 := F41.binds (ps := ["both", "words"]) fun _ _ _ _ _ _ us hl => match us, hl with | [_, _], _ => rfl
  have F42 := fun_mk (st := s_read_rows) l42 c42 k42
  have b42 := F42.binds (ps := ["text"]) fun _ _ _ _ _ _ us hl => match us, hl with | [_], _ => rfl
  have F43 := fun_mk (st := s_read_task) l43 c43 k43
  have b43 := F43.binds (ps := ["text"]) fun _ _ _ _ _ _ us hl => match us, hl with | [_], _ => rfl
  have F44 := fun_mk (st := sCell) l44 c44 k44
  have b44 := F44.binds (ps := ["_law_script", "_law_k"]) fun _ _ _ _ _ _ us hl => match us, hl with | [_, _], _ => rfl
  have F45 := fun_mk (st := s__law_digit) l45 c45 k45
  have b45 := F45.binds (ps := ["_law_state", "_law_base"]) fun _ _ _ _ _ _ us hl => match us, hl with | [_, _], _ => rfl
  have F46 := fun_mk (st := s__law_of) l46 c46 k46
  have b46 := F46.binds (ps := ["_law_state", "_law_some"]) fun _ _ _ _ _ _ us hl => match us, hl with | [_, _], _ => rfl
  have F47 := fun_mk (st := s__law_rising) l47 c47 k47
  have b47 := F47.binds (ps := ["_law_state", "_law_some", "_law_most"]) fun _ _ _ _ _ _ us hl => match us, hl with | [_, _, _], _ => rfl
  have F48 := fun_mk (st := s__law_outs) l48 c48 k48
  have b48 := F48.binds (ps := ["_law_state", "_law_some", "_law_most"]) fun _ _ _ _ _ _ us hl => match us, hl with | [_, _, _], _ => rfl
  have F49 := fun_mk (st := s__law_parts) l49 c49 k49
  have b49 := F49.binds (ps := ["_law_state", "_law_most"]) fun _ _ _ _ _ _ us hl => match us, hl with | [_, _], _ => rfl
  have F50 := fun_mk (st := s__law_walk) l50 c50 k50
  have b50 := F50.binds (ps := ["_law_state", "_law_first", "_law_last", "_law_outs_here", "_law_many"]) fun _ _ _ _ _ _ us hl => match us, hl with | [_, _, _, _, _], _ => rfl
  have F51 := fun_mk (st := s__law_scheme) l51 c51 k51
  have b51 := F51.binds (ps := ["_law_state", "_law_alone", "_law_both", "_law_rounds"]) fun _ _ _ _ _ _ us hl => match us, hl with | [_, _, _, _], _ => rfl
  have F52 := fun_mk (st := sLawWeav) l52 c52 k52
  have b52 := F52.binds (ps := ["_law_state", "_law_rounds"]) fun _ _ _ _ _ _ us hl => match us, hl with | [_, _], _ => rfl
  have F53 := fun_mk (st := s__law_turned) l53 c53 k53
  have b53 := F53.binds (ps := ["_law_scheme_here"]) fun _ _ _ _ _ _ us hl => match us, hl with | [_], _ => rfl
  have F54 := fun_mk (st := s__law_words) l54 c54 k54
  have b54 := F54.binds (ps := ["_law_fault"]) fun _ _ _ _ _ _ us hl => match us, hl with | [_], _ => rfl
  have F55 := fun_mk (st := sLaw) l55 c55 k55
  have Zc : TxtC K mg C := ⟨⟨pg, hd, po, sa⟩, nA, nB, PySem.W.mg_of X G aC⟩
  have Y1 := fun_mk (st := s_init) yl1 yc1 yk1
  have yb1 := Y1.binds (ps := ["self", "alone", "both"]) fun _ _ _ _ _ _ us hl => match us, hl with | [_, _, _], _ => rfl
  have Y2 := fun_mk (st := s_inputs) yl2 yc2 yk2
  have yb2 := Y2.binds (ps := ["self", "hand"]) fun _ _ _ _ _ _ us hl => match us, hl with | [_, _], _ => rfl
  have Y3 := fun_mk (st := s_pairs) yl3 yc3 yk3
  have yb3 := Y3.binds (ps := ["self"]) fun _ _ _ _ _ _ us hl => match us, hl with | [_], _ => rfl
  have m := fun {n : Str} {v : Value} (e : PySem.W.nsIn K mainGlobals n = some (some v)) => PySem.W.mg_of X G e
  have mz := fun {n : Str} (e : PySem.W.nsIn K mainGlobals n = some none) => PySem.W.mg_none_of X G e
  have T : Txt K mg := ⟨mz z0, mz z1, mz z2, mz z3, mz z4, mz z5, mz z6, mz z7, mz z8, mz z9⟩
  have TT : TB.Txt K mg := ⟨mz z0, mz z1, mz z2, mz z3, mz z4, mz z5, mz z6, mz z7, mz z8, mz z9⟩
  have T2 : Txt2 K mg := ⟨mz z10, mz z11, mz z12, mz z13, mz z14⟩
  have U : TxtH K mg := ⟨_, m t0, fun H => .inr ⟨_, _, _, u0, rfl, rfl, (by show 2 ≤ sizeLine; decide), .cons ⟨_, rfl⟩ (.cons ⟨_, rfl⟩ .nil)⟩⟩
  have UT : TB.Txt2 K mg := ⟨⟨_, m i1⟩, ⟨_, m i2⟩, ⟨_, m t0, fun H => .inr ⟨_, _, _, u0, rfl, rfl, (by show 2 ≤ sizeLine; decide), .cons ⟨_, rfl⟩ (.cons ⟨_, rfl⟩ .nil)⟩⟩⟩
  have UP : TxtP K mg := ⟨⟨_, m t1, fun H => .inr ⟨_, _, _, u1, rfl, rfl, (by show 6 ≤ sizeLine; decide), .cons ⟨_, rfl⟩ (.cons ⟨_, rfl⟩ (.cons ⟨_, rfl⟩ (.cons ⟨_, rfl⟩ (.cons ⟨_, rfl⟩ (.cons ⟨_, rfl⟩ .nil)))))⟩⟩, ⟨_, m i2⟩⟩
  have R1 := raiseB_ok (mg := mg) r_cN (m n0) q_cN kk_cN
  have BK := TB.kn_binds F8
  refine ⟨PySem.W.fnOf "law" "law" (defArgs sLaw) (defBody sLaw) (defScope sLaw) .none kV55 dc55 pm55 an55 cd55 ct55, fun s v => .of_eq rfl, fun base _ _ => ?_⟩
  have e1 : Def l.prog w K mg base "is_whole" ["thing"] 1 (spWholeG K) f1 _ := ⟨ok_wholeG F1 T, b1, k1, m a1⟩
  have e2 : Def l.prog w K mg base "is_whole_within" ["thing", "least", "most"] 2 (spWithinG K) f2 _ := ⟨ok_withinG F2 e1, b2, k2, m a2⟩
  have e3 : Def l.prog w K mg base "is_hand" ["thing"] 3 (spHandG K) f3 _ := ⟨ok_handG F3 e2, b3, k3, m a3⟩
  have t1 : TB.Def l.prog w K mg base "is_whole" ["thing"] 1 TB.spWhole f1 _ := ⟨TB.ok_whole F1 TT, b1, k1, m a1⟩
  have tk1 : TB.Def l.prog w K mg base "is_whole" ["thing"] 1 TB.spWholeK f1 _ := ⟨TB.ok_wholeK F1 TT, b1, k1, m a1⟩
  have t2 : TB.Def l.prog w K mg base "is_whole_within" ["thing", "least", "most"] 2 TB.spWithin f2 _ := ⟨TB.ok_within F2 t1.G t1.b t1.k t1.m, b2, k2, m a2⟩
  have t3 : TB.Def l.prog w K mg base "is_hand" ["thing"] 3 TB.spHand f3 _ := ⟨TB.ok_hand F3 t2, b3, k3, m a3⟩
  have t5 : TB.Def l.prog w K mg base "is_inputs" ["thing"] 2 TB.spInputs f5 _ := ⟨TB.ok_inputs F5 TT t1, b5, k5, m a5⟩
  have t6 : TB.Def l.prog w K mg base "is_weaving" ["thing", "rounds"] 4 (TB.spWeaving K) f6 _ := ⟨TB.ok_weaving F6 TT UT t3, b6, k6, m a6⟩
  have t7 : TB.Def l.prog w K mg base "put_in" ["cells", "at"] 1 (TB.spPut K) f7 _ := ⟨TB.ok_put F7 TT, b7, k7, m a7⟩
  have KD : TB.KDef l.prog w K mg base f8 _ := ⟨TB.ok_known F8 TT UT t2 t5 t6 t7, BK, k8, m a8⟩
  have t9 : TB.Def l.prog w K mg base "rounds_behind" ["thing"] 1 TB.spRb f9 _ := ⟨TB.ok_rb F9 TT UT, b9, k9, m a9⟩
  have t10 : TB.Def l.prog w K mg base "agrees" ["one", "other"] 1 TB.spAgr f10 _ := ⟨TB.ok_agr F10, b10, k10, m a10⟩
  have t11 : TB.Def l.prog w K mg base "met" ["own", "other"] 2 TB.spMet f11 _ := ⟨TB.ok_met F11 (mz z15) t10, b11, k11, m a11⟩
  have eS := fun r => TB.ok_stand (P := l.prog) (w := w) (base := base) F12 TT tk1 t11 b12 k12 (m a12) r
  have PD : TB.PDef l.prog w K mg base cN f13 _ := ⟨TB.ok_place F13 R1 t3 t9 b12 k12 (m a12) (fun r _ => eS r), b13, k13, m a13⟩
  have eRI : Def l.prog w K mg base "is_rising" ["things"] 1 (spRisI K) f4 _ := ⟨ok_risI F4 T, b4, k4, m a4⟩
  have eRP : Def l.prog w K mg base "is_rising" ["things"] 1 (spRisP K) f4 _ := ⟨ok_risP F4 T, b4, k4, m a4⟩
  have e14 : Def l.prog w K mg base "is_output" ["thing"] 3 (spOut K) f14 _ := ⟨ok_out F14 (m i0) e2, b14, k14, m a14⟩
  have e15 : Def l.prog w K mg base "is_outputs" ["thing"] 4 (spOuts K) f15 _ := ⟨ok_outs F15 T e14 eRI, b15, k15, m a15⟩
  have e16 : Def l.prog w K mg base "is_rows" ["thing"] 5 (spRows K) f16 _ := ⟨ok_rows F16 T e15, b16, k16, m a16⟩
  have e17 : Def l.prog w K mg base "is_alone" ["thing"] 6 (spAlone K) f17 _ := ⟨ok_alone F17 T e16, b17, k17, m a17⟩
  have e18 : Def l.prog w K mg base "is_output_pair" ["thing"] 4 (spPairB K) f18 _ := ⟨ok_outpair F18 T e14, b18, k18, m a18⟩
  have e19 : Def l.prog w K mg base "is_let" ["thing"] 5 (spLetB K) f19 _ := ⟨ok_let F19 T e18 eRP, b19, k19, m a19⟩
  have e20 : Def l.prog w K mg base "is_input_pair" ["thing", "alone"] 3 (spInp K) f20 _ := ⟨ok_inp F20 T U e2, b20, k20, m a20⟩
  have e21 : Def l.prog w K mg base "each_comes" ["both", "alone", "hand"] 1 (spEach K) f21 _ := ⟨ok_each F21 T T2, b21, k21, m a21⟩
  have e22 : Def l.prog w K mg base "is_both" ["thing", "alone"] 6 (spBoth K) f22 _ := ⟨ok_both F22 T T2 U e20 e19 e21, b22, k22, m a22⟩
  have tk : KDef l.prog w K mg base C "Task" ["self", "alone", "both"] 7 (spInit K C) y1 _ := ⟨ok_init Y1 T T2 Zc e17 e22, yb1, ⟨mkC, ya1, yi1, kC⟩, Zc.mg⟩
  have inp : MDef l.prog w K mg base C "inputs" nInputs 4 (spInputs K C) y2 _ := ⟨ok_inputs Y2 T Zc e3, yb2, ⟨ya2, yi2, yk2⟩⟩
  have prs : MDef l.prog w K mg base C "pairs" nPairs 1 (spPairs K C) y3 _ := ⟨ok_pairs Y3 T2 Zc, yb3, ⟨ya3, yi3, yk3⟩⟩
  have e23 : Def l.prog w K mg base "is_pair" ["task", "thing"] 4 (spPair K C) f23 _ := ⟨ok_ispair F23 T Zc e20, b23, k23, m a23⟩
  have e25 : Def l.prog w K mg base "is_row" ["thing", "many"] 4 (spRow K) f25 _ := ⟨ok_row F25 T e14, b25, k25, m a25⟩
  have e26 : Def l.prog w K mg base "is_chosen" ["task", "thing"] 5 (spChosen K C) f26 _ := ⟨ok_chosen F26 T U Zc e25 inp, b26, k26, m a26⟩
  have e27 : Def l.prog w K mg base "is_walks" ["task", "thing", "many"] 5 (spIsWalks K C) f27 _ := ⟨ok_iswalks F27 T T2 Zc e23 e25, b27, k27, m a27⟩
  have e28 : Def l.prog w K mg base "is_protocol" ["task", "thing"] 6 (spIsPr K C) f28 _ := ⟨ok_ispr F28 T UP Zc e2 e26 e27, b28, k28, m a28⟩
  have e29 : Def l.prog w K mg base "output_of" ["protocol", "inputs", "hand", "thing"] 10 (spOutOf C) f29 _ := ⟨ok_outof F29 UP PD, b29, k29, m a29⟩
  have e30 : Def l.prog w K mg base "tell" ["task", "protocol", "inputs", "weaving"] 11 (spTell K C) f30 _ := ⟨ok_tell F30 T U e28 e23 KD e29, b30, k30, m a30⟩
  have e44 : Def l.prog w K mg base "_law_cell_at" ["_law_script", "_law_k"] 1 (spCell K) f44 _ := ⟨ok_cell F44 T, b44, k44, m a44⟩
  have e45 : Def l.prog w K mg base "_law_digit" ["_law_state", "_law_base"] 1 spDigit f45 _ := ⟨ok_digit F45 T, b45, k45, m a45⟩
  have e46 : Def l.prog w K mg base "_law_of" ["_law_state", "_law_some"] 2 (spOf K) f46 _ := ⟨ok_of F46 T e45, b46, k46, m a46⟩
  have e47 : Def l.prog w K mg base "_law_rising" ["_law_state", "_law_some", "_law_most"] 3 (spRising K) f47 _ := ⟨ok_rs F47 T T2 e45 e46, b47, k47, m a47⟩
  have e48 : Def l.prog w K mg base "_law_outs" ["_law_state", "_law_some", "_law_most"] 3 (spOutsL K) f48 _ := ⟨ok_os F48 T T2 e45 e46, b48, k48, m a48⟩
  have e49 : Def l.prog w K mg base "_law_parts" ["_law_state", "_law_most"] 4 spParts f49 _ := ⟨ok_pa F49 T T2 e45 e46 e47 e48, b49, k49, m a49⟩
  have e50 : Def l.prog w K mg base "_law_walk" ["_law_state", "_law_first", "_law_last", "_law_outs_here", "_law_many"] 3 spWalk f50 _ := ⟨ok_wk F50 T e46, b50, k50, m a50⟩
  have e51 : Def l.prog w K mg base "_law_scheme" ["_law_state", "_law_alone", "_law_both", "_law_rounds"] 4 spScheme f51 _ := ⟨ok_sc F51 T e46 e50, b51, k51, m a51⟩
  have e52 : Def l.prog w K mg base "_law_weaving" ["_law_state", "_law_rounds"] 2 spLWv f52 _ := ⟨ok_lw F52 T e45, b52, k52, m a52⟩
  have e24 : Def l.prog w K mg base "swapped" ["task"] 9 (spSwap K C) f24 _ := ⟨ok_swp F24 T2 Zc tk, b24, k24, m a24⟩
  have e31 : Def l.prog w K mg base "alone_fault" ["task", "alone"] 5 (spAloneF K C) f31 _ := ⟨ok_af F31 T U Zc inp, b31, k31, m a31⟩
  have e32 : Def l.prog w K mg base "outputs_at" ["row", "at"] 1 (spOutsAt K) f32 _ := ⟨ok_oa F32, b32, k32, m a32⟩
  have e33 : Def l.prog w K mg base "walk_fault" ["task", "alone", "pair", "row"] 2 (spWalkF K C) f33 _ := ⟨ok_wf F33 T T2 Zc e32, b33, k33, m a33⟩
  have e34 : Def l.prog w K mg base "protocol_fault" ["task", "thing"] 7 (spPrFG K C) f34 _ := ⟨ok_pf F34 Zc e28 e31 e33 prs, b34, k34, m a34⟩
  have e35 : Def l.prog w K mg base "alone_row" ["task", "hand", "at"] 1 (spAR K C) f35 _ := ⟨ok_ar F35 (mz z16) Zc, b35, k35, m a35⟩
  have e36 : Def l.prog w K mg base "both_row" ["task", "pair"] 1 (spBR K C) f36 _ := ⟨ok_br F36 (mz z16) Zc, b36, k36, m a36⟩
  have e37 : Def l.prog w K mg base "task_text" ["task"] 5 (spTT K C) f37 _ := ⟨ok_tt F37 T U Zc e35 e36 inp prs, b37, k37, m a37⟩
  have e38 : Def l.prog w K mg base "number" ["word"] 1 (spNum K) f38 _ := ⟨ok_num F38 T (m i3) (m i4), b38, k38, m a38⟩
  have e39 : Def l.prog w K mg base "numbers" ["words", "many"] 2 (spNums K) f39 _ := ⟨ok_nums F39 T e38, b39, k39, m a39⟩
  have e40 : Def l.prog w K mg base "read_alone" ["alone", "words"] 3 (spRA K) f40 _ := ⟨ok_ra F40 T U e38 e39, b40, k40, m a40⟩
  have e41 : Def l.prog w K mg base "read_both" ["both", "words"] 3 (spRB K) f41 _ := ⟨ok_rb F41 T e39, b41, k41, m a41⟩
  have e42 : Def l.prog w K mg base "read_rows" ["text"] 4 (spRR K) f42 _ := ⟨ok_rr F42 e40 e41, b42, k42, m a42⟩
  have e43 : Def l.prog w K mg base "read_task" ["text"] 9 (spRT K C) f43 _ := ⟨ok_rt F43 T (mz z16) e42 e37 tk, b43, k43, m a43⟩
  have e53 : Def l.prog w K mg base "_law_turned" ["_law_scheme_here"] 1 (spTurned K) f53 _ := ⟨ok_tu F53 T2, b53, k53, m a53⟩
  have e54 : Def l.prog w K mg base "_law_words" ["_law_fault"] 1 spWords f54 _ := ⟨ok_wo F54, b54, k54, m a54⟩
  exact ok_law F55 T T2 Zc e44 e49 e46 e51 e45 tk e52 e30 e24 e53 e54 e34 e37 e43
theorem walk {l : PySem.W.OpenLaw} {q : Program} {loose : List Str} {XP : (Str → Option Value) → Heap → Prop} {YP : World → Heap → Prop} {d : DefRec} {K : Params → PySem.W.Frag} (hn : l.most = some 63) (hdf : d.params.defaults = [])
    (hY : ∀ (w : World) (h : Heap), YP w h → (K w.params).In h)
    (F : ∀ (w : World) (mg : Str → Option Value) (fa : Addr) (h : Heap), (K w.params).In h → h.Ns mainGlobals mg → mg d.name = some (.ref fa) →
      ∃ fd : FuncData, (∀ (s : Shared) (u : Value), BindsTo s fd ⟨[u], []⟩ [("_law_script", u)]) ∧ ∀ base : Heap, (K w.params).In base → base.Ns mainGlobals mg → FnOk l.prog w (K w.params) mg base CX0 12 fa fd ["_law_script"] (spLaw (K w.params))) :
    PySem.W.WalkO q loose XP YP l.row.toRowW d [] (fun f vs => PySem.call f vs) :=
  L2.walk_of (n := 63) (k := 12) (x := "_law_script") (CX := fun _ => CX0) (sp := fun w => spLaw (K w.params)) hn (by decide) hdf ⟨rfl, by decide, by decide⟩ hY F (fun _ _ a ns hl _ hS => ⟨a, ns, rfl, hS, hl, fun _ => rfl⟩) fun _ _ _ _ _ z => z
end TA
open PySem PySem.W PyProof.Rows
set_option maxRecDepth 100000 in
set_option maxHeartbeats 0 in
theorem PySem.Challenge.cw_twoalone_k35_whole_protocols_of_exchange_holds : PySem.Challenge.rw_twoalone_k35_whole_protocols_of_exchange.Holds := by
  w_on; o_law; k_head; (case hw => w_witness2)
  k_fill
  refine TA.walk (l := PySem.Challenge.rw_twoalone_k35_whole_protocols_of_exchange) rfl rfl (fun w h Y => PySem.W.kIn_of Y) ?F
  case F =>
    intro w mg fa h KX G hmg
    refine' TA.all_mk KX G hmg ?aC ?ya1 ?yi1 ?yl1 ?yc1 ?yk1 ?ya2 ?yi2 ?yl2 ?yc2 ?yk2 ?ya3 ?yi3 ?yl3 ?yc3 ?yk3 ?pg ?hd ?po ?sa ?mkC ?kC ?nA ?nB ?a1 ?l1 ?c1 ?k1 ?a2 ?l2 ?c2 ?k2 ?a3 ?l3 ?c3 ?k3 ?a4 ?l4 ?c4 ?k4 ?a5 ?l5 ?c5 ?k5 ?a6 ?l6 ?c6 ?k6 ?a7 ?l7 ?c7 ?k7 ?a8 ?l8 ?c8 ?k8 ?a9 ?l9 ?c9 ?k9 ?a10 ?l10 ?c10 ?k10 ?a11 ?l11 ?c11 ?k11 ?a12 ?l12 ?c12 ?k12 ?a13 ?l13 ?c13 ?k13 ?a14 ?l14 ?c14 ?k14 ?a15 ?l15 ?c15 ?k15 ?a16 ?l16 ?c16 ?k16 ?a17 ?l17 ?c17 ?k17 ?a18 ?l18 ?c18 ?k18 ?a19 ?l19 ?c19 ?k19 ?a20 ?l20 ?c20 ?k20 ?a21 ?l21 ?c21 ?k21 ?a22 ?l22 ?c22 ?k22 ?a23 ?l23 ?c23 ?k23 ?a24 ?l24 ?c24 ?k24 ?a25 ?l25 ?c25 ?k25 ?a26 ?l26 ?c26 ?k26 ?a27 ?l27 ?c27 ?k27 ?a28 ?l28 ?c28 ?k28 ?a29 ?l29 ?c29 ?k29 ?a30 ?l30 ?c30 ?k30 ?a31 ?l31 ?c31 ?k31 ?a32 ?l32 ?c32 ?k32 ?a33 ?l33 ?c33 ?k33 ?a34 ?l34 ?c34 ?k34 ?a35 ?l35 ?c35 ?k35 ?a36 ?l36 ?c36 ?k36 ?a37 ?l37 ?c37 ?k37 ?a38 ?l38 ?c38 ?k38 ?a39 ?l39 ?c39 ?k39 ?a40 ?l40 ?c40 ?k40 ?a41 ?l41 ?c41 ?k41 ?a42 ?l42 ?c42 ?k42 ?a43 ?l43 ?c43 ?k43 ?a44 ?l44 ?c44 ?k44 ?a45 ?l45 ?c45 ?k45 ?a46 ?l46 ?c46 ?k46 ?a47 ?l47 ?c47 ?k47 ?a48 ?l48 ?c48 ?k48 ?a49 ?l49 ?c49 ?k49 ?a50 ?l50 ?c50 ?k50 ?a51 ?l51 ?c51 ?k51 ?a52 ?l52 ?c52 ?k52 ?a53 ?l53 ?c53 ?k53 ?a54 ?l54 ?c54 ?k54 ?a55 ?l55 ?c55 ?k55 ?z0 ?z1 ?z2 ?z3 ?z4 ?z5 ?z6 ?z7 ?z8 ?z9 ?z10 ?z11 ?z12 ?z13 ?z14 ?z15 ?z16 ?i0 ?i1 ?i2 ?i3 ?i4 ?t0 ?u0 ?t1 ?u1 ?n0 ?q_cN ?kk_cN ?r_cN
    (case aC => k_is); (case ya1 => k_is); (case yi1 => k_is); (case yl1 => k_is); (case yc1 => k_is); (case yk1 => k_is); (case ya2 => k_is); (case yi2 => k_is); (case yl2 => k_is); (case yc2 => k_is); (case yk2 => k_is); (case ya3 => k_is); (case yi3 => k_is); (case yl3 => k_is); (case yc3 => k_is); (case yk3 => k_is); (case pg => k_is); (case hd => k_is); (case po => k_is); (case sa => k_is); (case mkC => k_is); (case kC => k_is); (case nA => k_is); (case nB => k_is)
    (case a1 => k_is); (case l1 => k_is); (case c1 => k_is); (case k1 => k_is); (case a2 => k_is); (case l2 => k_is); (case c2 => k_is); (case k2 => k_is); (case a3 => k_is); (case l3 => k_is); (case c3 => k_is); (case k3 => k_is); (case a4 => k_is); (case l4 => k_is); (case c4 => k_is); (case k4 => k_is); (case a5 => k_is); (case l5 => k_is); (case c5 => k_is); (case k5 => k_is); (case a6 => k_is); (case l6 => k_is); (case c6 => k_is); (case k6 => k_is); (case a7 => k_is); (case l7 => k_is); (case c7 => k_is); (case k7 => k_is); (case a8 => k_is); (case l8 => k_is); (case c8 => k_is); (case k8 => k_is); (case a9 => k_is); (case l9 => k_is); (case c9 => k_is); (case k9 => k_is); (case a10 => k_is); (case l10 => k_is); (case c10 => k_is); (case k10 => k_is); (case a11 => k_is); (case l11 => k_is); (case c11 => k_is); (case k11 => k_is); (case a12 => k_is); (case l12 => k_is); (case c12 => k_is); (case k12 => k_is); (case a13 => k_is); (case l13 => k_is); (case c13 => k_is); (case k13 => k_is); (case a14 => k_is); (case l14 => k_is); (case c14 => k_is); (case k14 => k_is); (case a15 => k_is); (case l15 => k_is); (case c15 => k_is); (case k15 => k_is); (case a16 => k_is); (case l16 => k_is); (case c16 => k_is); (case k16 => k_is); (case a17 => k_is); (case l17 => k_is); (case c17 => k_is); (case k17 => k_is); (case a18 => k_is); (case l18 => k_is); (case c18 => k_is); (case k18 => k_is); (case a19 => k_is); (case l19 => k_is); (case c19 => k_is); (case k19 => k_is); (case a20 => k_is); (case l20 => k_is); (case c20 => k_is); (case k20 => k_is); (case a21 => k_is); (case l21 => k_is); (case c21 => k_is); (case k21 => k_is); (case a22 => k_is); (case l22 => k_is); (case c22 => k_is); (case k22 => k_is); (case a23 => k_is); (case l23 => k_is); (case c23 => k_is); (case k23 => k_is); (case a24 => k_is); (case l24 => k_is); (case c24 => k_is); (case k24 => k_is); (case a25 => k_is); (case l25 => k_is); (case c25 => k_is); (case k25 => k_is); (case a26 => k_is); (case l26 => k_is); (case c26 => k_is); (case k26 => k_is); (case a27 => k_is); (case l27 => k_is); (case c27 => k_is); (case k27 => k_is); (case a28 => k_is); (case l28 => k_is); (case c28 => k_is); (case k28 => k_is); (case a29 => k_is); (case l29 => k_is); (case c29 => k_is); (case k29 => k_is); (case a30 => k_is); (case l30 => k_is); (case c30 => k_is); (case k30 => k_is); (case a31 => k_is); (case l31 => k_is); (case c31 => k_is); (case k31 => k_is); (case a32 => k_is); (case l32 => k_is); (case c32 => k_is); (case k32 => k_is); (case a33 => k_is); (case l33 => k_is); (case c33 => k_is); (case k33 => k_is); (case a34 => k_is); (case l34 => k_is); (case c34 => k_is); (case k34 => k_is); (case a35 => k_is); (case l35 => k_is); (case c35 => k_is); (case k35 => k_is); (case a36 => k_is); (case l36 => k_is); (case c36 => k_is); (case k36 => k_is); (case a37 => k_is); (case l37 => k_is); (case c37 => k_is); (case k37 => k_is); (case a38 => k_is); (case l38 => k_is); (case c38 => k_is); (case k38 => k_is); (case a39 => k_is); (case l39 => k_is); (case c39 => k_is); (case k39 => k_is); (case a40 => k_is); (case l40 => k_is); (case c40 => k_is); (case k40 => k_is); (case a41 => k_is); (case l41 => k_is); (case c41 => k_is); (case k41 => k_is); (case a42 => k_is); (case l42 => k_is); (case c42 => k_is); (case k42 => k_is); (case a43 => k_is); (case l43 => k_is); (case c43 => k_is); (case k43 => k_is); (case a44 => k_is); (case l44 => k_is); (case c44 => k_is); (case k44 => k_is); (case a45 => k_is); (case l45 => k_is); (case c45 => k_is); (case k45 => k_is); (case a46 => k_is); (case l46 => k_is); (case c46 => k_is); (case k46 => k_is); (case a47 => k_is); (case l47 => k_is); (case c47 => k_is); (case k47 => k_is); (case a48 => k_is); (case l48 => k_is); (case c48 => k_is); (case k48 => k_is); (case a49 => k_is); (case l49 => k_is); (case c49 => k_is); (case k49 => k_is); (case a50 => k_is); (case l50 => k_is); (case c50 => k_is); (case k50 => k_is); (case a51 => k_is); (case l51 => k_is); (case c51 => k_is); (case k51 => k_is); (case a52 => k_is); (case l52 => k_is); (case c52 => k_is); (case k52 => k_is); (case a53 => k_is); (case l53 => k_is); (case c53 => k_is); (case k53 => k_is); (case a54 => k_is); (case l54 => k_is); (case c54 => k_is); (case k54 => k_is); (case a55 => k_is); (case l55 => k_is); (case c55 => k_is); (case k55 => k_is); (case z0 => k_is); (case z1 => k_is); (case z2 => k_is); (case z3 => k_is); (case z4 => k_is); (case z5 => k_is); (case z6 => k_is); (case z7 => k_is); (case z8 => k_is); (case z9 => k_is); (case z10 => k_is); (case z11 => k_is); (case z12 => k_is); (case z13 => k_is); (case z14 => k_is); (case z15 => k_is); (case z16 => k_is); (case i0 => k_is); (case i1 => k_is); (case i2 => k_is); (case i3 => k_is); (case i4 => k_is); (case t0 => k_is); (case u0 => k_is); (case t1 => k_is); (case u1 => k_is); (case n0 => k_is); (case q_cN => k_exc); (case kk_cN => k_is); (case r_cN => kernel_rfl)
