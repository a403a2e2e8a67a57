import PyProof.Rows.All
import Wide.All
import OpenK.AllK
import Wide.FinOn
import HandS.ForMost
import HandS.IsInst
import HandS.SetFor
import HandS.Wide
import HandS.Defaults
import HandS.ExcValue
import HandS.ExcInit
import HandS.ExcIs
import HandS.ExcField
import KE.DataFind
import PySem.Challenge.RW_twoalone_k05_refusals_apart
set_option Elab.async false
set_option maxRecDepth 100000
set_option maxHeartbeats 4000000
set_option linter.unusedVariables false
/-! an own error class with its own __init__, called with one keyword -/
namespace TAx
open PySem PySem.Calls PySem.HandSPX
section
variable {prog : Program} {w : World} {A : Around} {E : Value → Shared → Prop} {R : Result → Shared → Prop} {h : Heap} {g : Array GenState} {d : Drawn} {t : Nat} {os : OsState}
variable {nm q : Str} {C N : Addr} {bs bm bB : List Value} {hd : Bool} {sn : List Str} {sub : List Value} {ab : Bool} {col : Option Bool} {dd : Option Addr} {k0 k1 k2 k3 k5 : Option Value} {B nid iid : String}
abbrev clsObj (nm q : Str) (C N : Addr) (bs bm : List Value) (hd : Bool) (sn : List Str) (sub : List Value) (ab : Bool) (col : Option Bool) (dd : Option Addr) (k0 k1 k2 k3 k5 : Option Value) (nid : String) := excClassObj nm q C N bs bm hd sn sub ab col dd k0 k1 k2 k3 k5 nid
theorem kw_new_check {M : Model} {kw : List (Str × Value)} {Q : Unit → Shared → Prop} (F : ExcBaseFacts B nid iid bB) (same : ∀ X : String, bm.contains (.type X) = bB.contains (.type X))
    (at_ : h.get? C = some (clsObj nm q C N bs bm hd sn sub ab col dd k0 k1 k2 k3 k5 nid)) (fin : Q () ⟨h, g, d, t, os⟩) :
    wpAny M A (checkBuiltinCall nid ⟨[.ref C], kw⟩) Q E ⟨h, g, d, t, os⟩ := by
  have isB : (Value.ref C :: bm).contains (.type B) = true := by
    rw [List.contains_cons, same, F.hasB, Bool.or_true]
  have star := F.noStar
  simp only [F.newRow, F.newSplit, F.newKind, checkBuiltinCall]
  repeat (first
    | (refine wpAny_loadPart_at at_ ?_)
    | (refine wpAny_isSubtype_exc at_ ?_; rw [isB])
    | (refine wpAny_staticBase_exc at_ ?_)
    | (refine wpAny_madeBy_exc at_ ?_)
    | (simp only [bne_self_eq_false, Bool.false_eq_true, if_false])
    | wp_step)
  exact fin

theorem kw_new {kw : List (Str × Value)} (F : ExcBaseFacts B nid iid bB) (same : ∀ X : String, bm.contains (.type X) = bB.contains (.type X))
    (at_ : h.get? C = some (clsObj nm q C N bs bm hd sn sub ab col dd k0 k1 k2 k3 k5 nid))
    (fin : R (.ok (.ret (.ref (h.objs.size + 1)))) ⟨(h.push (W.kdv_tup [])).push (excO C h.objs.size), g, d, t, os⟩) :
    codeAny (model prog w) A (.builtin nid ⟨[.ref C], kw⟩) R ⟨h, g, d, t, os⟩ := by
  have ends := F.ends
  have yes : (Value.ref C :: bm).contains (.type B) = true := by
    rw [List.contains_cons, same, F.hasB, Bool.or_true]
  have no1 : (Value.ref C :: bm).contains (.type "AttributeError") = false := by
    rw [List.contains_cons, same, F.noAttr]
    rfl
  have no2 : (Value.ref C :: bm).contains (.type "NameError") = false := by
    rw [List.contains_cons, same, F.noName]
    rfl
  refine codeAny_builtinAt F.entry ?_; unfold Builtin.«BaseException.__new__»; refine wpAt_bind ?_
  show wpAt _ _ _ (stack >>= _) _ _ _; refine wpAt_bind (wpAt_stack fun p below => wpAt_of_wpAny ?_); wp_walk
  refine wpAt_of_wpAny ?_
  rw [F.owner]
  repeat (first
    | (with_reducible refine wpAny_madeHere_exc F.canon at_ ?_)
    | (with_reducible refine wpAny_loadPart_at at_ ?_)
    | (with_reducible refine wpAny_isSubtype_exc at_ ?_; first | rw [yes] | rw [no1] | rw [no2])
    | wp_step)
  show R _ _
  rw [Heap.size_push]
  exact fin
theorem kw_type_call {kw : List (Str × Value)} {fI : Addr} {Q : Fin → Shared → Prop} (F : ExcBaseFacts B nid iid bB) (same : ∀ X : String, bm.contains (.type X) = bB.contains (.type X))
    (at_ : h.get? C = some (clsObj nm q C N bs bm hd sn sub ab col dd k0 k1 k2 k3 k5 nid))
    (ini : W.Looks (model prog w) h (typeLookup (.ref C) "__init__") (some (.ref fI))) (bnd : ∀ self, W.Looks (model prog w) h (bindSpecial (.ref fI) self) (.ref fI, [self]))
    (fin : codeAny (model prog w) A (.call (.ref fI) ⟨[.ref (h.objs.size + 1)], kw⟩)
      (fun r s' => match r with
        | .ok (.ret v) => v = .none ∧ Q (.done (.ret (.ref (h.objs.size + 1)))) s'
        | .ok _ => False
        | .error e => E e s')
      ⟨(h.push (W.kdv_tup [])).push (excO C h.objs.size), g, d, t, os⟩) :
    wpAny (model prog w) A (Builtin.«type.__call__» ⟨[.ref C], kw⟩) Q E ⟨h, g, d, t, os⟩ := by
  repeat (first
    | (with_reducible refine wpAny_loadPart_at at_ ?_)
    | (with_reducible refine wpAny_madeBy_exc at_ ?_)
    | wp_step)
  refine codeAny_call_builtin_code (Code.quiet_builtin _ F.quiet) (kw_new_check F same at_ ?_)
  refine kw_new F same at_ ?_
  show wpAny _ _ _ _ _ _
  have keep : ∀ b o, h.get? b = some o → ((h.push (W.kdv_tup [])).push (excO C h.objs.size)).get? b = some o := fun b o e =>
    Heap.get?_push_of_some _ (Heap.get?_push_of_some _ e)
  have at2 := keep _ _ at_
  have new2 : ((h.push (W.kdv_tup [])).push (excO C h.objs.size)).get? (h.objs.size + 1) = some (excO C h.objs.size) := by heap_get
  have own : (Value.ref C :: bm).contains (.ref C) = true := by simp
  have ini2 := ini.keeps keep
  have bnd2 := (bnd (.ref (h.objs.size + 1))).keeps keep
  unfold isInstance
  repeat (first
    | (with_reducible refine wpAny_loadPart_at new2 ?_)
    | (with_reducible refine wpAny_isSubtype_exc at2 ?_; rw [own])
    | wp_step)
  show wpAny _ _ (typeLookup (.ref C) _) _ _ _; refine ini2.at ?_
  refine wpAny_holding (wpAny_bind (bnd2.at ?_))
  refine wpAny_bind (wpAny_call (codeAny_mono fin fun r s' z => ?_))
  cases r with
  | error e => exact z
  | ok fl =>
    cases fl with
    | ret v =>
      obtain ⟨rfl, z⟩ := z
      first
        | (refine wpAny_pure ?_; exact wpAny_pure z)
        | (wp_walk; first | done | exact z)
        | wp_walk
    | next => exact z.elim
    | brk => exact z.elim
    | cont => exact z.elim
theorem kw_type_check {M : Model} {kw : List (Str × Value)} {Q : Unit → Shared → Prop} (at_ : h.get? C = some (clsObj nm q C N bs bm hd sn sub ab col dd k0 k1 k2 k3 k5 nid))
    (fin : Q () ⟨h, g, d, t, os⟩) : wpAny M A (checkBuiltinCall "type.__call__" ⟨[.ref C], kw⟩) Q E ⟨h, g, d, t, os⟩ := by
  have sub3 := tc_sub
  have ty : (⟨h, g, d, t, os⟩ : Shared).TypeIs (.ref C) "type" := ⟨_, at_, rfl⟩
  simp only [tc_split, tc_kind, checkBuiltinCall]
  repeat (any_goals (first
    | assumption
    | (with_reducible refine wpAny_loadPart_at at_ ?_)
    | (with_reducible refine wpAny_onRaise ?_)
    | (with_reducible refine wpAny_map ?_)
    | wp_step))
theorem kw_call {kw : List (Str × Value)} {fI : Addr} (F : ExcBaseFacts B nid iid bB) (same : ∀ X : String, bm.contains (.type X) = bB.contains (.type X))
    (at_ : h.get? C = some (clsObj nm q C N bs bm hd sn sub ab col dd k0 k1 k2 k3 k5 nid))
    (ini : W.Looks (model prog w) h (typeLookup (.ref C) "__init__") (some (.ref fI))) (bnd : ∀ self, W.Looks (model prog w) h (bindSpecial (.ref fI) self) (.ref fI, [self]))
    (fin : codeAny (model prog w) (A.under (.builtin "type.__call__" ⟨[.ref C], kw⟩)) (.call (.ref fI) ⟨[.ref (h.objs.size + 1)], kw⟩) (W.InitBack (h.objs.size + 1) R)
      ⟨(h.push (W.kdv_tup [])).push (excO C h.objs.size), g, d, t, os⟩) :
    codeAny (model prog w) A (.call (.ref C) ⟨[], kw⟩) R ⟨h, g, d, t, os⟩ := by
  have lk := tc_lookup
  have bd := tc_bind (.ref C)
  have ty : (⟨h, g, d, t, os⟩ : Shared).TypeIs (.ref C) "type" := ⟨_, at_, rfl⟩
  refine codeAny_of_tree ?_; show wpAny _ _ (callAny (.ref C) _) _ _ _
  repeat (any_goals (first
    | assumption
    | (with_reducible refine wpAny_loadPart_at at_ ?_)
    | wp_step))
  refine ⟨rfl, ?_⟩
  refine codeAny_call_builtin_at (Code.quiet_builtin _ (by decide +kernel)) entry_typeCall ?_
  refine kw_type_check at_ (kw_type_call F same at_ ini bnd (codeAny_mono fin fun r s' z => ?_))
  rcases r with er | (v | _ | _ | _)
  all_goals exact z
end
end TAx

set_option Elab.async false
set_option maxRecDepth 100000
set_option maxHeartbeats 4000000
set_option linter.unusedVariables false
namespace TA
open PySem L2 PyProof.Rows
section
variable {X : Cx} {CX : CXT} {x : Str} {C fI : Addr} {k : Nat} {fd : FuncData} {ps : List Str} {sp : Sp} {e : Expr} {te : TE} {p pos kp : Pos} {n : Str}
/-- C(e) and C(n=e) as values, C an own error class with its own __init__ of one parameter n -/
def tExo (C : Addr) (sp : Sp) (te : TE) : TE := fun σ H Q => te σ H fun v H1 => ∀ a, H1 a = none → sp [.ref a, v] (upd H1 a (exo a C none)) (fun r H2 => r = .non ∧ Q (.ref a) H2) E0
theorem exo_run {pins : List (Addr × Obj)} {σ : L2.St} {H : Hp} {s : Shared} {Q : VK} {v : V} {u : Value} {us : List Value} {kw : List (Str × Value)} (T : OexC X.K C) (ini : PySem.W.findIn X.K (.ref C) "__init__" = some (some (.ref fI))) (ty : PySem.W.typeIn X.K (.ref fI) = some (.type "function"))
    (F : FnOk X.prog X.w X.K X.mg X.base CX0 k fI fd ps sp) (hr : Room (k + 1) X.A) (way : (us = [u] ∧ kw = []) ∨ (us = [] ∧ kw = [(n, u)])) (hb : ∀ (s : Shared) (a : Value), BindsTo s fd ⟨a :: us, kw⟩ (ps.zip [a, u]))
    (I : Inv X pins σ H s) (r : RelV v u) (h : ∀ a, H a = none → sp [.ref a, v] (upd H a (exo a C none)) (fun r H2 => r = .non ∧ Q (.ref a) H2) E0) :
    wpAny (model X.prog X.w) X.A (call (.ref C) us kw) (EP X pins σ Q) X.xe s := by
  obtain ⟨nm, q, N, bs, bm, sn, sub, ab, col, dd, k0, k1, k2, k3, k5, hC, hbm⟩ := T.cls
  obtain ⟨hp, g, dr, tk, os⟩ := s
  have later : hp.objs.size ≤ hp.objs.size + 1 := Nat.le_succ _
  have fresh : H (hp.objs.size + 1) = none := I.hok.fresh later
  have hq := h (hp.objs.size + 1) fresh
  have keep : ∀ b o, hp.get? b = some o → ((hp.push (PySem.W.kdv_tup us)).push (PySem.HandSPX.excO C hp.objs.size)).get? b = some o := fun b o e =>
    Heap.get?_push_of_some _ (Heap.get?_push_of_some _ e)
  have there : ((hp.push (PySem.W.kdv_tup us)).push (PySem.HandSPX.excO C hp.objs.size)).get? (hp.objs.size + 1) = some (PySem.HandSPX.excO C hp.objs.size) := by heap_get
  have I2 : Inv X pins σ (upd H (hp.objs.size + 1) (exo (hp.objs.size + 1) C none)) ⟨(hp.push (PySem.W.kdv_tup us)).push (PySem.HandSPX.excO C hp.objs.size), g, dr, tk, os⟩ :=
    I.laid (t' := tk) (a := hp.objs.size + 1) (o := exo (hp.objs.size + 1) C none) keep later (exo_ok there)
  have r2 : Vals [V.ref (hp.objs.size + 1), v] [Value.ref (hp.objs.size + 1), u] := .cons rfl (.cons r .nil)
  have same := fun Y => PySem.HandSPX.refsVE_contains Y bm hbm
  have body := F.run (X.A.under (.builtin "type.__call__" ⟨.ref C :: us, kw⟩)) X.stack _ _ ⟨Value.ref (hp.objs.size + 1) :: us, kw⟩ [Value.ref (hp.objs.size + 1), u] _ _ E0 (hr.make C us kw) (I2.env0.make C us kw) (hb _ _) r2 hq
  rcases way with ⟨rfl, rfl⟩ | ⟨rfl, rfl⟩
  · refine wpAny_call (PySem.HandSPX.call_own PySem.F.excBase_ValueError same (I.kIn _ _ hC) (PySem.W.looks_findIn I.kIn ini) (fun self => PySem.W.bind_fn I.kIn self ty) (by show 1 ≤ sizeLine; decide) (codeAny_mono body fun r s' hq' => ?_))
    cases r with
    | error er => exact hq'.elim
    | ok fl =>
      cases fl with
      | ret w =>
        obtain ⟨v2, H2, os2, bare2, un2, hok2, rv, ev, q2⟩ := hq'
        subst ev
        exact ⟨rv, .ref (hp.objs.size + 1), H2, I2.call' (ch := []) os2 un2 hok2 bare2 (fun b z => absurd z (by simp)), rfl, q2⟩
      | next => exact hq'.elim
      | brk => exact hq'.elim
      | cont => exact hq'.elim
  · refine wpAny_call (TAx.kw_call PySem.F.excBase_ValueError same (I.kIn _ _ hC) (PySem.W.looks_findIn I.kIn ini) (fun self => PySem.W.bind_fn I.kIn self ty) (codeAny_mono body fun r s' hq' => ?_))
    cases r with
    | error er => exact hq'.elim
    | ok fl =>
      cases fl with
      | ret w =>
        obtain ⟨v2, H2, os2, bare2, un2, hok2, rv, ev, q2⟩ := hq'
        subst ev
        exact ⟨rv, .ref (hp.objs.size + 1), H2, I2.call' (ch := []) os2 un2 hok2 bare2 (fun b z => absurd z (by simp)), rfl, q2⟩
      | next => exact hq'.elim
      | brk => exact hq'.elim
      | cont => exact hq'.elim
theorem pe_exo (T : OexC X.K C) (ini : PySem.W.findIn X.K (.ref C) "__init__" = some (some (.ref fI))) (ty : PySem.W.typeIn X.K (.ref fI) = some (.type "function")) (F : FnOk X.prog X.w X.K X.mg X.base CX0 k fI fd ps sp) (hr : Room (k + 1) X.A) (hg : Gl X x) (hm : X.mg x = some (.ref C))
    (hb : ∀ (s : Shared) (a u : Value), BindsTo s fd ⟨[a, u], []⟩ (ps.zip [a, u])) (ha : PA X [e] (tCons te tNil)) (hm_te : ∀ (σ : L2.St) (H : Hp) (Q Q' : VK), (∀ v H1, Q v H1 → Q' v H1) → te σ H Q → te σ H Q') (hdb : (x == ("__debug__" : Str)) = false := by decide) (hst : starEach [e] X.env = (false, eval e X.env) :: starEach [] X.env := by rfl) (hpl : (backTo pos (starEach [] X.env)).any (·.1) = false := by rfl) :
    PE X (.Call (.Name x p) [e] [] pos) (tExo C sp te) := by
  refine ⟨fun pins s σ H Q I h => ?_⟩
  refine wpAny_Call_Name_kw (ld_glob I hg hm ?_ hdb)
  have h' : tCons te tNil σ H fun vs H1 => ∃ v, vs = [v] ∧ ∀ a, H1 a = none → sp [.ref a, v] (upd H1 a (exo a C none)) (fun r H2 => r = .non ∧ Q (.ref a) H2) E0 := hm_te _ _ _ _ (fun v H1 z => ⟨v, rfl, z⟩) h
  refine PySem.W.callWith_K (h₀ := X.base) I.ok.mod.kin T.kC (thn (ha.run pos pins s σ H _ I h') fun us s1 ⟨vs, H1, I1, r1, v, ev, q1⟩ => ⟨I1.kIn, ?_⟩) hst hpl
  subst ev
  cases r1 with
  | @cons _ u _ ur ra rw' =>
    cases rw'
    exact exo_run (n := "x") T ini ty F hr (.inl ⟨rfl, rfl⟩) (fun s a => hb s a u) I1 ra q1
theorem pe_exoK (T : OexC X.K C) (ini : PySem.W.findIn X.K (.ref C) "__init__" = some (some (.ref fI))) (ty : PySem.W.typeIn X.K (.ref fI) = some (.type "function")) (F : FnOk X.prog X.w X.K X.mg X.base CX0 k fI fd ps sp) (hr : Room (k + 1) X.A) (hg : Gl X x) (hm : X.mg x = some (.ref C))
    (hb : ∀ (s : Shared) (a u : Value), BindsTo s fd ⟨[a], [(n, u)]⟩ (ps.zip [a, u])) (ha : PK X [⟨some n, e, kp⟩] (tCons te tNil)) (hm_te : ∀ (σ : L2.St) (H : Hp) (Q Q' : VK), (∀ v H1, Q v H1 → Q' v H1) → te σ H Q → te σ H Q') (hdb : (x == ("__debug__" : Str)) = false := by decide)
    (hall : (backToKw pos (keywordEach [⟨some n, e, kp⟩] X.env)).all (·.1.isSome) = true := by rfl) (hks : (backToKw pos (keywordEach [⟨some n, e, kp⟩] X.env)).filterMap (·.1) = [n] := by rfl)
    (hpl : ((backTo pos (starEach [] X.env)).any (·.1) || (backToKw pos (keywordEach [⟨some n, e, kp⟩] X.env)).any (·.1.isNone)) = false := by rfl) :
    PE X (.Call (.Name x p) [] [⟨some n, e, kp⟩] pos) (tExo C sp te) := by
  refine ⟨fun pins s σ H Q I h => ?_⟩
  refine wpAny_Call_Name_kw (ld_glob I hg hm ?_ hdb)
  have h' : tCons te tNil σ H fun vs H1 => ∃ v, vs = [v] ∧ ∀ a, H1 a = none → sp [.ref a, v] (upd H1 a (exo a C none)) (fun r H2 => r = .non ∧ Q (.ref a) H2) E0 := hm_te _ _ _ _ (fun v H1 z => ⟨v, rfl, z⟩) h
  refine PySem.W.callWith_KW0 (h₀ := X.base) I.ok.mod.kin T.kC hall (thn (ha.run pos pins s σ H _ I h') fun us s1 ⟨vs, H1, I1, r1, v, ev, q1⟩ => ⟨I1.kIn, ?_⟩) hpl
  subst ev
  cases r1 with
  | @cons _ u _ ur ra rw' =>
    cases rw'
    rw [hks]
    exact exo_run T ini ty F hr (.inr ⟨rfl, rfl⟩) (fun s a => hb s a u) I1 ra q1
end
end TA

set_option Elab.async false
set_option maxRecDepth 100000
set_option maxHeartbeats 4000000
set_option linter.unusedVariables false
namespace PySem.W
open PySem PySem.Spec PySem.Calls PyProof.Rows
section
variable {prog : Program} {w : World} {A : Around} {E : Value → Shared → Prop} {s : Shared} {K : Frag} {x D : Addr} {ox : Obj} {od : Option Obj}
theorem ta_find {a g : Value} {name : Str} (cl : (clsIn K D).isSome = true) (fi : findIn K (.ref D) name = some (some a)) (ge : specialIn K a "__get__" = some (some g)) (ta : takesIn K a = some true) :
    findObj K D od name = some (.bind g a) := by
  obtain ⟨cd, hc⟩ := Option.isSome_iff_exists.mp cl
  unfold findObj
  rw [hc, Option.bind_some, fi, Option.bind_some]
  cases od with
  | none => simp [ge, ta]
  | some o => simp [ge, ta]
/-- __class__ of an error object, with or without a dict of its own -/
theorem ta_class {Q : Option Value → Shared → Prop} (T : L2.ExcC K D) (X : K.In s.heap) (I : InstAt s.heap x ox D od) (fin : Q (some (.ref D)) { s with toks := s.toks + 1 }) :
    wpAny (model prog w) A (getAttr? (.ref x) "__class__") Q E s := by
  have found : findObj K D od "__class__" = some (.bind (.builtin "getset_descriptor.__get__") (.builtin "object.__class__")) := ta_find (by
    obtain ⟨cd, hc, _⟩ := any_some T.hd
    rw [hc]
    rfl) T.ha T.hn T.ht
  obtain ⟨hp, g, d, t, os⟩ := s
  have la := I.type (M := model prog w)
  have lb := looks_findIn (M := model prog w) X T.hg
  have lc := looks_findIn (M := model prog w) X T.hk
  have ld := looks_find (M := model prog w) X I found
  have isB : Looks (model prog w) hp (isInstance (.ref x) (.type "BaseException")) true := la.andThen (looks_subIn X T.hs)
  have e0 : (false && onTheHeap (Value.builtin "BaseException.__getattribute__")) = false := rfl
  have e1 : (onTheHeap (Value.ref D) && Value.builtin "BaseException.__getattribute__" == Value.builtin "object.__getattribute__") = false := by
    have : (Value.builtin "BaseException.__getattribute__" == Value.builtin "object.__getattribute__") = false := by decide +kernel
    rw [this]
    rfl
  unfold getAttr? getAttrBy? getAttrBy; refine wpAny_bind (wpAny_mkText (wpAny_bind (wpAny_attempt (wpAny_holding (wpAny_bind (la.at (wpAny_bind (lb.at ?_))))))))
  show wpAny _ _ (if (onTheHeap (Value.ref D) && Value.builtin "BaseException.__getattribute__" == Value.builtin "object.__getattribute__") = true then _ else _) _ _ _; rw [e1, if_neg Bool.false_ne_true]
  unfold getAttrByItsOwn hookBefore; refine wpAny_bind ?_
  rw [if_pos (show onTheHeap (Value.ref D) = true from rfl)]; refine lc.at (wpAny_bind (wpAny_attempt (wpAny_holding ?_)))
  unfold callGetattribute; rw [e0, if_neg Bool.false_ne_true]
  unfold boundAndCalled; rw [PySem.F.excAttr_ValueError.ga.bind (.ref x)]
  refine wpAny_bind (wpAny_pure ?_); show wpAny _ _ (call (.builtin "BaseException.__getattribute__") [.ref x, .str "__class__" t]) _ _ _
  refine wpAny_call (codeAny_call_builtin PySem.F.excAttr_ValueError.ga.plain PySem.F.entry_bexc_ga ?_); refine @check_slot (model prog w) _ _ ⟨hp, g, d, t + 1, os⟩ "BaseException.__getattribute__" "BaseException" "__getattribute__" (.ref x) [.str "__class__" t] [] _ (by decide +kernel) (by decide +kernel) isB (PySem.F.args_bexc_ga (.ref x) (.str "__class__" t)) ?_
  unfold Builtin.«object.__getattribute__»; refine wpAny_bind (wpAny_of_eq (a := ((Value.ref x : Value), [Value.str "__class__" t])) (by first | rfl | (simp only [slotArgs]; rfl)) ?_)
  refine wpAny_bind (wpAny_pure (wpAny_bind (la.at (wpAny_bind (ld.at ?_))))); show wpAny _ _ (holding [Value.builtin "object.__class__"] (call (.builtin "getset_descriptor.__get__") [.builtin "object.__class__", .ref x, .ref D]) >>= ret) _ _ _
  refine wpAny_bind (wpAny_holding (wpAny_call (class_get (s := ⟨hp, g, d, t + 1, os⟩) (ox := ox) (od := od) X I T.hm ?_))); refine wpAny_pure ?_
  show wpAny _ _ (handedOut (.ref D)) _ _ _; rw [handedOut_of (v := .ref D) rfl]
  first
    | exact wpAny_pure (wpAny_pure fin)
    | exact wpAny_pure fin
    | exact wpAny_pure (wpAny_bind (wpAny_pure (wpAny_pure fin)))
theorem ta_kit (ox : Obj) (T : L2.ExcC K D) : KitX K (.ref x) (.ref D) (fun h => ∃ ox od, InstAt h x ox D od) where
  ty := fun _ _ _ ⟨_, _, I⟩ => I.type
  it := fun _ _ X _ => by
    obtain ⟨cdD, hcD, _⟩ := any_some T.hd
    unfold clsIn at hcD
    split at hcD
    next ho =>
      intro A' Q' E' s' k q; unfold isType loadHead
      refine wpAny_bind (wpAny_loadPart (k _ _ (X _ _ ho)) ?_); exact wpAny_pure q
    next => cases hcD
  ne := (handS_kitx_exc (x := x) (ox := ox) T.hg T.hk T.hs T.hd T.ha T.hn T.ht T.hm).ne
  ca := fun X ⟨_, _, I⟩ k => ta_class T X I k
end
end PySem.W
namespace TA
open PySem L2 PyProof.Rows
/-- an error object of the class at D stands at a -/
inductive ErrAt (H : Hp) (a D : Addr) : Prop where
  | plain (h : H a = some (ExO (.ref D) a))
  | own (dx : Addr) (fs : List (Str × V)) (h : H a = some (exo a D (some dx))) (g : H dx = some (exd dx fs))
def rIsErr (K : PySem.W.Frag) : List V → Hp → VK → Prop := fun xs H Q => ∃ (a D : Addr) (c : V) (cv : Value) (b : Bool), xs = [.ref a, c] ∧ ErrAt H a D ∧ ExcC K D ∧ (∀ u, RelV c u → u = cv) ∧ PySem.W.kitOne K (.ref D) cv = some b ∧ Q (.bl b) H
theorem err_inst {X : Cx} {pins : List (Addr × Obj)} {σ : L2.St} {H : Hp} {s : Shared} {a D : Addr} (I : Inv X pins σ H s) (h : ErrAt H a D) : ∃ ox od, PySem.W.InstAt s.heap a ox D od := by
  cases h with
  | plain h =>
    obtain ⟨⟨oe, vs, ho, hz, hd, _⟩, _, _⟩ := I.hok a _ h
    refine ⟨oe, none, ?_⟩
    obtain ⟨oc, od, oda, osl⟩ := oe
    obtain ⟨h1, h2⟩ := hz
    dsimp only at h1 h2 hd
    subst h1 h2 hd
    exact ⟨ho, rfl, rfl, trivial⟩
  | own dx fs h g =>
    obtain ⟨t1, ho⟩ := exo_at I.hok h
    obtain ⟨mA, hns, _⟩ := exd_at I.hok g
    obtain ⟨o, es, ep, e1, e2⟩ := hns
    exact ⟨_, some o, ho, rfl, rfl, e1⟩
theorem call_isErr {X : Cx} : CallR X (.builtin "isinstance") (rIsErr X.K) := by
  intro pins s σ H xs us Q I r h
  obtain ⟨a, D, c, cv, b, rfl, hat, T, hcv, e, q⟩ := h
  cases r with
  | cons rx rr =>
    cases rr with
    | cons rt rr =>
      cases rr
      cases rx
      have ec := hcv _ rt
      subst ec
      exact PySem.W.kia_one (PySem.W.ta_kit ⟨.none, none, .fields #[], #[]⟩ T) I.kIn (err_inst I hat) e (fun z => nomatch z) fun tk => ⟨.bl b, H, I.kept (t' := tk) fun _ _ z => z, rfl, q⟩
end TA

set_option Elab.async false
set_option maxRecDepth 100000
set_option maxHeartbeats 4000000
set_option linter.unusedVariables false
namespace TA
open PySem L2 PyProof.Rows
section
variable {X : Cx} {e : Expr} {es : List Expr} {te : TE} {ta : TA} {p1 p2 pos : Pos} {n cn : Str} {C A0 : Addr}
/-- B.__init__(self, ..) of an own class B that takes it from ValueError -/
structure FromVE (K : PySem.W.Frag) (A0 : Addr) : Prop where
  ga : PySem.W.specialIn K (.ref A0) "__getattribute__" = some (some (.builtin "type.__getattribute__"))
  ty : PySem.W.typeIn K (.ref A0) = some (.type "type")
  rd : PySem.W.readsIn K A0 (.type "type") = true
  fi : PySem.W.findCls K (.ref A0) (.type "type") "__init__" = some (.val (.builtin "ValueError.__init__"))
theorem pe_binit {pl : Sem Bool} (B : FromVE X.K A0) (hg : Gl X cn) (hm : X.mg cn = some (.ref A0)) (ha : PA X (e :: es) ta) (hdb : (cn == ("__debug__" : Str)) = false := by decide)
    (hc : eval (.Call (.Attribute (.Name cn p1) "__init__" p2) (e :: es) [] pos) X.env = (do
      let ov ← eval (.Name cn p1) X.env
      standAt p2.atName
      let (f, first) ← holding [ov] (getMethod ov "__init__" pl)
      callWith pos f first (backTo pos (starEach (e :: es) X.env)) (backToKw pos (keywordEach [] X.env))) := by rfl)
    (hs : starEach (e :: es) X.env = (false, eval e X.env) :: starEach es X.env := by rfl) (hpl : (backTo pos (starEach es X.env)).any (·.1) = false := by rfl) :
    PE X (.Call (.Attribute (.Name cn p1) "__init__" p2) (e :: es) [] pos) (tVeI X.K ta) := by
  refine ⟨fun pins s σ H Q I h => ?_⟩
  refine PySem.W.methodCall_KW (ld_glob I hg hm ?_ hdb) hc
  obtain ⟨m, fr⟩ := I.fr
  refine PySem.W.method_of_cls fr I.ok.mod.kin B.ga (PySem.W.cls_val fr I.ok.mod.kin B.ty B.rd B.fi (by decide +kernel) ?_)
  show wpAny _ _ (callWith pos (Value.builtin "ValueError.__init__") [] (backTo pos (starEach (e :: es) X.env)) []) _ _ _
  refine PyProof.Rows.callWith_method1 (thn (ha.run pos pins _ σ H _ (I.tok _) h) fun us s1 ⟨vs, H1, I1, r1, a, C, ws, ev, hl, T, ea, q⟩ => ?_) hs hpl
  subst ev
  cases r1 with
  | @cons _ u0 _ ur ra rw' =>
    obtain rfl : u0 = Value.ref a := ra
    exact oinit_ok T I1 ea (by rw [← Paired.length rw', sizeLine_eq]; omega) fun s' J => ⟨.non, H1, J, rfl, q⟩
/-- x.n of an error object that holds n -/
def tWhat (C : Addr) (n : Str) (te : TE) : TE := fun σ H Q => te σ H fun x H1 => ∃ (a dx : Addr) (fs : List (Str × V)) (v : V), x = .ref a ∧ H1 a = some (exo a C (some dx)) ∧ H1 dx = some (exd dx fs) ∧ fs.lookup n = some v ∧ Q v H1
theorem pe_what (T : XfC X.K C) (hno : PySem.W.findIn X.K (.ref C) n = some none) (he : PE X e te) (hb : attributeBase e n X.env (eval e X.env) = eval e X.env := by rfl) : PE X (.Attribute e n pos) (tWhat C n te) := by
  refine ⟨fun pins s σ H Q I h => attr_of hb (thn (he.run pins s σ H _ I h) fun u s1 hh => ?_)⟩
  obtain ⟨x, H1, I1, rx, a, dx, fs, v, rfl, ea, ed, hl, q⟩ := hh
  obtain rfl : u = Value.ref a := rx
  obtain ⟨t1, ho⟩ := exo_at I1.hok ea
  obtain ⟨mA, hns, hr⟩ := exd_at I1.hok ed
  obtain ⟨o, e1, look⟩ := lookIn_ns hns
  obtain ⟨u, hu, ru⟩ := RelO.some_of (v := v) (o := mA n) (by rw [← hl]; exact hr n)
  have J : PySem.W.InstAt s1.heap a _ C (some o) := ⟨ho, rfl, rfl, e1⟩
  exact PySem.HandSPX.exc_get I1.kIn J T.ga T.gg T.exC (PySem.W.findObj_own T.hdC hno rfl (by rw [look, hu])) (handed_of ru) ⟨v, H1, I1.tok _, ru, q⟩
/-- xs.count(y) over data -/
def rCntD (K : PySem.W.Frag) : V → List V → Hp → VK → Prop := fun x xs H Q => ∃ (p : Addr) (vs : List V) (y : V) (ds : List PyData) (d : PyData), x = .ref p ∧ xs = [y] ∧ SqL K H p vs ∧ DpAll K H vs ds ∧ Dp K H y d ∧ PyData.plainAll ds = true ∧ d.plain = true ∧ d.depth ≤ 10 ∧ Q (.int ((ds.countP fun z => PyData.eqv z d : Nat) : Int)) H
theorem mt_countD (hu : X.A.units + 64 < cLine) : MtR X "list.count" (rCntD X.K) := by
  intro pins s σ H x xs v us Q I rx rxs h
  obtain ⟨p, vs, y, ds, d, rfl, rfl, hs, hd, hy, h1, h2, h3, q⟩ := h
  cases rx
  cases rxs with
  | @cons _ u _ ur ry rn =>
    cases rn
    obtain ⟨its, rv, pl, hz⟩ := I.list hs
    obtain ⟨as, r1⟩ := Dp.readsAll I ds _ its hd rv
    obtain ⟨bs, r2⟩ := Dp.reads I d _ _ hy ry
    have := Nat.min_le_right (PyData.depthAll ds) d.depth
    exact PySem.SeqAt.count_list_data pl.isList r1 r2 h1 h2 (by omega) ⟨.int _, H, I.tok _, ⟨_, rfl⟩, q⟩
end
end TA

set_option Elab.async false
set_option maxRecDepth 100000
set_option maxHeartbeats 4000000
set_option linter.unusedVariables false
namespace TA
open PySem L2 PyProof.Rows
def top (i : Nat) : Stmt := PySem.Challenge.pw_twoalone_k05_refusals_apart.main.body.getD i (.Pass ⟨0, 0, 0, 0⟩)
abbrev sI0 : Stmt := inClass (top 2) 0
abbrev sI1 : Stmt := inClass (top 11) 0
abbrev sI2 : Stmt := inClass (top 12) 0
abbrev sCell : Stmt := top 16
abbrev sDigit : Stmt := top 17
abbrev sMade : Stmt := top 18
abbrev sMarks : Stmt := top 19
abbrev sLaw : Stmt := top 20
theorem same_new {H : Hp} {p : Addr} (h : H p = none) (o : HO) : Same H (upd H p o) := fun b u q => by rw [upd_ne (ne_of_none q h)]; exact q
abbrev veMro : List Value := [.type "ValueError", .type "Exception", .type "BaseException", .type "object"]
structure PlainC (K : PySem.W.Frag) (mg : Str → Option Value) (n : Str) (C : Addr) : Prop where
  m : mg n = some (.ref C)
  q : PySem.W.excIn K C veMro "ValueError.__new__" = true
  k : PySem.W.keepIn K (.ref C) = true
structure OwnC (K : PySem.W.Frag) (mg : Str → Option Value) (n f : Str) (C fI : Addr) : Prop where
  m : mg n = some (.ref C)
  T : OexC K C
  ini : PySem.W.findIn K (.ref C) "__init__" = some (some (.ref fI))
  ty : PySem.W.typeIn K (.ref fI) = some (.type "function")
  X : XfC K C
  no : PySem.W.findIn K (.ref C) f = some none
def spInit (K : PySem.W.Frag) (C : Addr) (f : Str) : Sp := fun vs H Q _ => ∃ (a : Addr) (v : V), vs = [.ref a, v] ∧ H a = some (exo a C none) ∧ ∀ dx, H dx = none → dx ≠ a → Q .non (upd (upd H dx (exd dx [(f, v)])) a (exo a C (some dx)))
section
variable {P : Program} {w : World} {K : PySem.W.Frag} {mg : Str → Option Value} {base : Heap}
theorem scI0 : FnScope ["self", "what"] ["self", "what"] (defScope sI0) := ⟨rfl, rfl, rfl, by decide +kernel, rfl, by decide +kernel, by decide +kernel⟩
theorem ok_init0 {g fI C A0 : Addr} {fd : FuncData} (F : Fun K "__init__" "NoTask.__init__" sI0 g fd) (B : FromVE K A0) (mA : mg "AloneError" = some (.ref A0)) (O : OwnC K mg "NoTask" "what" C fI) : FnOk P w K mg base CX0 1 g fd ["self", "what"] (spInit K C "what") := by
  refine F.ok scI0 (fun vs H Q E h => ?_) (fun cdv A outer s H vs Q E hr h => ?_)
  · obtain ⟨a, v, rfl, _⟩ := h
    rfl
  obtain ⟨a, v, rfl, ha, q⟩ := h
  refine ⟨_, pss_cons (ps_expr (pe_binit (pl := _) B rfl mA (pa_cons (pv 0) (pa_cons pe_str pa_nil)))) (pss_one (ps_ost (pv 0) (pv 1))), ?_⟩
  refine ⟨_, rfl, a, C, _, rfl, (by show 1 ≤ 1000; decide), O.T, ha, ?_⟩
  exact ⟨_, rfl, _, rfl, a, C, rfl, O.T, O.no, .inl ⟨ha, fun dx h1 h2 => q dx h1 h2⟩⟩
theorem scI1 : FnScope ["self", "bar"] ["self", "bar"] (defScope sI1) := ⟨rfl, rfl, rfl, by decide +kernel, rfl, by decide +kernel, by decide +kernel⟩
theorem ok_init1 {g fI C A0 : Addr} {fd : FuncData} (F : Fun K "__init__" "Barred.__init__" sI1 g fd) (B : FromVE K A0) (mA : mg "AloneError" = some (.ref A0)) (O : OwnC K mg "Barred" "bar" C fI) : FnOk P w K mg base CX0 1 g fd ["self", "bar"] (spInit K C "bar") := by
  refine F.ok scI1 (fun vs H Q E h => ?_) (fun cdv A outer s H vs Q E hr h => ?_)
  · obtain ⟨a, v, rfl, _⟩ := h
    rfl
  obtain ⟨a, v, rfl, ha, q⟩ := h
  refine ⟨_, pss_cons (ps_expr (pe_binit (pl := _) B rfl mA (pa_cons (pv 0) (pa_cons pe_str pa_nil)))) (pss_one (ps_ost (pv 0) (pv 1))), ?_⟩
  refine ⟨_, rfl, a, C, _, rfl, (by show 1 ≤ 1000; decide), O.T, ha, ?_⟩
  exact ⟨_, rfl, _, rfl, a, C, rfl, O.T, O.no, .inl ⟨ha, fun dx h1 h2 => q dx h1 h2⟩⟩
theorem scI2 : FnScope ["self", "many"] ["self", "many"] (defScope sI2) := ⟨rfl, rfl, rfl, by decide +kernel, rfl, by decide +kernel, by decide +kernel⟩
theorem ok_init2 {g fI C A0 : Addr} {fd : FuncData} (F : Fun K "__init__" "TooMany.__init__" sI2 g fd) (B : FromVE K A0) (mA : mg "AloneError" = some (.ref A0)) (O : OwnC K mg "TooMany" "many" C fI) : FnOk P w K mg base CX0 1 g fd ["self", "many"] (spInit K C "many") := by
  refine F.ok scI2 (fun vs H Q E h => ?_) (fun cdv A outer s H vs Q E hr h => ?_)
  · obtain ⟨a, v, rfl, _⟩ := h
    rfl
  obtain ⟨a, v, rfl, ha, q⟩ := h
  refine ⟨_, pss_cons (ps_expr (pe_binit (pl := _) B rfl mA (pa_cons (pv 0) (pa_cons pe_str pa_nil)))) (pss_one (ps_ost (pv 0) (pv 1))), ?_⟩
  refine ⟨_, rfl, a, C, _, rfl, (by show 1 ≤ 1000; decide), O.T, ha, ?_⟩
  exact ⟨_, rfl, _, rfl, a, C, rfl, O.T, O.no, .inl ⟨ha, fun dx h1 h2 => q dx h1 h2⟩⟩
end
end TA

set_option Elab.async false
set_option maxRecDepth 100000
set_option maxHeartbeats 4000000
set_option linter.unusedVariables false
namespace TA
open PySem L2 PyProof.Rows
def But (a : Addr) (H H' : Hp) : Prop := ∀ b o, b ≠ a → H b = some o → H' b = some o
theorem But.trans {a : Addr} {H H1 H2 : Hp} (h : But a H H1) (g : But a H1 H2) : But a H H2 := fun b o e q => g b o e (h b o e q)
theorem But.same {a : Addr} {H H' : Hp} (s : Same H H') : But a H H' := fun b o _ q => s b o q
theorem But.at {a : Addr} {H : Hp} {o : HO} : But a H (upd H a o) := fun b u nb e => by rw [upd_ne nb]; exact e
def WellAt (H : Hp) (a : Addr) (n : Int) : Prop := ∃ x y z : Int, H a = some (.lst [.int x, .int y, .int z]) ∧ 0 ≤ x ∧ 0 ≤ y ∧ y < 2147483647 ∧ 0 ≤ z ∧ z ≤ n
theorem WellAt.same {H H' : Hp} {a : Addr} {n : Int} (s : Same H H') (w : WellAt H a n) : WellAt H' a n := by
  obtain ⟨x, y, z, h, r⟩ := w
  exact ⟨x, y, z, s _ _ h, r⟩
theorem join3 {b : Bool} {X : Prop} {R : L2.St → Hp → Prop} {σ : L2.St} {H : Hp} (Iv : L2.St → Hp → Prop) (h0 : b = false → Iv σ H) (k : ∀ σ Hc, Iv σ Hc → R σ Hc) (h1 : b = true → (∀ σ Hc, Iv σ Hc → R σ Hc) → X) : if b = true then X else R σ H := by
  cases b with
  | false => exact iteF (k σ H (h0 rfl))
  | true => exact iteT (h1 rfl k)
structure Txt (K : PySem.W.Frag) (mg : Str → Option Value) : Prop where
  isi : mg "isinstance" = none
  int : mg "int" = none
  len : mg "len" = none
  range : mg "range" = none
  max : mg "max" = none
  min : mg "min" = none
  enum : mg "enumerate" = none
  ve : mg "ValueError" = none
def spCell (K : PySem.W.Frag) : Sp := fun vs H Q _ => ∃ (a : Addr) (ns : List Int) (k : Int), vs = [.ref a, .int k] ∧ SqL K H a (ns.map V.int) ∧ ns.length ≤ 1000 ∧ 0 ≤ k ∧ ∀ c : Int, Q (.int c) H
def spDigit : Sp := fun vs H Q _ => ∃ (a : Addr) (n m : Int), vs = [.ref a, .int m] ∧ ((∃ x : Int, H a = some (.lst [.int x])) ∨ WellAt H a n) ∧ 0 ≤ n ∧ n < 999999 ∧ 0 < m ∧ m < 1000 ∧ ∀ (r : Int) (H' : Hp), 0 ≤ r → r < m → But a H H' → WellAt H' a (n + 1) → Q (.int r) H'
section
variable {P : Program} {w : World} {K : PySem.W.Frag} {mg : Str → Option Value} {base : Heap}
theorem scCell : FnScope ["_law_script", "_law_k"] ["_law_script", "_law_k"] (defScope sCell) := ⟨rfl, rfl, rfl, by decide +kernel, rfl, by decide +kernel, by decide +kernel⟩
theorem ok_cell {f : Addr} {fd : FuncData} (F : Fun K "_law_cell_at" "_law_cell_at" sCell f fd) (T : Txt K mg) : FnOk P w K mg base CX0 1 f fd ["_law_script", "_law_k"] (spCell K) := by
  refine F.ok scCell (fun vs H Q E h => ?_) (fun cdv A outer s H vs Q E hr h => ?_)
  · obtain ⟨a, ns, k, rfl, _⟩ := h
    rfl
  obtain ⟨a, ns, k, rfl, hS, hn, hk, q⟩ := h
  refine ⟨_, pss_cons (ps_if (pt_cmpR op_lt (pv 1) (pe_callB call_len_seq (by rfl) T.len PySem.boot_len (pa_cons (pv 0) pa_nil)) (nomark _)) (pss_one (ps_ret (pe_ix ix_list (pv 0) (pv 1) (fun _ _ => rfl)))) pss_nil)
    (pss_one (ps_ret pe_int)), ?_⟩
  refine ⟨_, rfl, _, rfl, a, _, rfl, .inl hS, _, _, rfl, rfl, _, rfl, ?_⟩
  refine ite2 (fun c => ?_) (fun c => ?_)
  · have c' : k < (((ns.map V.int).length : Nat) : Int) := of_decide_eq_true c
    rw [List.length_map] at c'
    have hk' : k.toNat < ns.length := by omega
    have ek : k = ((k.toNat : Nat) : Int) := by omega
    have g : atI (ns.map V.int) ((k.toNat : Nat) : Int) = some (.int ns[k.toNat]) := atI_nat (by rw [List.getElem?_map, List.getElem?_eq_getElem hk'] <;> rfl)
    rw [← ek] at g
    exact ⟨_, rfl, _, rfl, a, _, _, _, rfl, rfl, hS, g, q _⟩
  · exact q 0
theorem scDigit : FnScope ["_law_state", "_law_base", "_law_cell", "_law_found", "_law_number"] ["_law_state", "_law_base"] (defScope sDigit) := ⟨rfl, rfl, rfl, by decide +kernel, rfl, by decide +kernel, by decide +kernel⟩
theorem ok_digit {f : Addr} {fd : FuncData} (F : Fun K "_law_digit" "_law_digit" sDigit f fd) (T : Txt K mg) : FnOk P w K mg base CX0 1 f fd ["_law_state", "_law_base"] spDigit := by
  refine F.ok scDigit (fun vs H Q E h => ?_) (fun cdv A outer s H vs Q E hr h => ?_)
  · obtain ⟨a, n, m, rfl, _⟩ := h
    rfl
  obtain ⟨a, n, m, rfl, hst, hn0, hn, hm, hm2, q⟩ := h
  have nd := scDigit.nd
  have ix : ∀ {X : Cx} {e1 e2 : Expr} {t1 t2 : TE} {p : Pos}, PE X e1 t1 → PE X e2 t2 → PlainIx e2 → PE X (.Subscript e1 e2 p) (tOp (rIxL X.K) t1 t2) := fun h1 h2 h3 => pe_ix ix_list h1 h2 h3
  refine ⟨_, pss_cons (ps_if (pt_cmpR op_eq (pe_callB call_len_seq (by rfl) T.len PySem.boot_len (pa_cons (pv 0) pa_nil)) pe_int (nomark _))
      (pss_cons (ps_set (i := 2) nd rfl (Or.inl rfl) (pe_ix ix_list (pv 0) pe_int (fun _ _ => rfl)))
      (pss_cons (ps_asg (pe_ix ix_list (pe_lst (pa_cons pe_int (pa_cons (pv 2) pa_nil))) (pe_callTy call_int1 (by rfl) T.int boot_int (pa_cons (pe_cmpR op_ge (pv 2) (pe_op op_pow pe_int pe_int) (nomark _)) pa_nil)) (fun _ _ => rfl)) (pg_sub (pv 0) pe_int set_list))
      (pss_one (ps_expr (pe_bm PySem.F.plainAttrs_list PySem.F.slot_list_extend PySem.F.type_list_extend mt_extend (pv 0) (pa_cons (pe_lst (pa_cons (pe_op op_mod (pv 2) pe_int) (pa_cons pe_int pa_nil))) pa_nil)))))) pss_nil)
    (pss_cons (ps_if (pt_cmpR op_gt (pe_ix ix_list (pv 0) pe_int (fun _ _ => rfl)) pe_int (nomark _))
      (pss_cons (ps_set (i := 3) nd rfl (Or.inl rfl) (pe_op op_mod (pe_ix ix_list (pv 0) pe_int (fun _ _ => rfl)) (pv 1)))
      (pss_cons (ps_asg (pe_op op_fdiv (pe_ix ix_list (pv 0) pe_int (fun _ _ => rfl)) (pv 1)) (pg_sub (pv 0) pe_int set_list))
      (pss_one (ps_ret (pv 3))))) pss_nil)
    (pss_cons (ps_asg (pe_op op_add (pe_ix ix_list (pv 0) pe_int (fun _ _ => rfl)) pe_int) (pg_sub (pv 0) pe_int set_list))
    (pss_cons (ps_set (i := 4) nd rfl (Or.inl rfl) (pe_op op_mod (pe_op op_mul (pe_op op_add (pe_op op_add (pe_ix ix_list (pv 0) pe_int (fun _ _ => rfl)) (pe_op op_mul pe_int (pe_ix ix_list (pv 0) pe_int (fun _ _ => rfl)))) pe_int) pe_int) pe_int))
    (pss_cons (ps_set (i := 4) nd rfl (Or.inl rfl) (pe_op op_mod (pe_op op_mul (pv 4) (pe_op op_add (pe_op op_fdiv (pv 4) pe_int) pe_int)) pe_int))
    (pss_one (ps_ret (pe_op op_mod (pe_op op_mod (pe_op op_mul (pv 4) (pe_op op_add (pe_op op_fdiv (pv 4) pe_int) pe_int)) pe_int) (pv 1)))))))), ?_⟩
  obtain ⟨xs, hxs, hlen⟩ : ∃ xs, H a = some (.lst xs) ∧ ((xs.length = 1 ∧ ∃ x : Int, xs = [.int x]) ∨ (xs.length = 3 ∧ WellAt H a n)) := by
    rcases hst with ⟨x, h⟩ | ⟨x, y, z, h, r⟩
    · exact ⟨_, h, .inl ⟨rfl, x, rfl⟩⟩
    · exact ⟨_, h, .inr ⟨rfl, x, y, z, h, r⟩⟩
  refine ⟨_, rfl, a, xs, rfl, .inl (SqL.of hxs), rfl, _, rfl, ?_⟩
  refine join3 (fun σ Hc => ∃ g, σ = [some (.ref a), some (.int m), g, none, none] ∧ But a H Hc ∧ WellAt Hc a n) ?_ ?_ ?_
  · intro hb
    rcases hlen with ⟨h1, _⟩ | ⟨_, hw⟩
    · rw [h1] at hb
      cases hb
    · exact ⟨none, rfl, fun b o _ e => e, hw⟩
  · rintro σ Hc ⟨g, rfl, b, x, y, z, hL, hx, hy, hy2, hz, hz2⟩
    refine ⟨_, rfl, a, _, _, _, rfl, rfl, SqL.of hL, rfl, _, _, rfl, rfl, _, rfl, ?_⟩
    refine ite2 (fun c => ?_) (fun c => ?_)
    · refine ⟨_, rfl, a, _, _, _, rfl, rfl, SqL.of hL, rfl, _, rfl, _, _, rfl, rfl, hm, ?_⟩
      refine ⟨_, rfl, a, _, _, _, rfl, rfl, SqL.of hL, rfl, _, rfl, _, _, rfl, rfl, ⟨hm, by omega⟩, ?_⟩
      refine ⟨_, rfl, a, _, _, 0, rfl, rfl, hL, rfl, _, rfl, ?_⟩
      exact q _ _ (Int.emod_nonneg _ (by omega)) (Int.emod_lt_of_pos _ hm) (b.trans But.at) ⟨_, y, z, upd_same, Int.ediv_nonneg hx (by omega), hy, hy2, hz, by omega⟩
    · have hL2 : (upd Hc a (.lst [.int x, .int y, .int (z + 1)])) a = some (.lst [.int x, .int y, .int (z + 1)]) := upd_same
      refine ⟨_, rfl, a, _, _, _, rfl, rfl, SqL.of hL, rfl, _, _, rfl, rfl, ?_⟩
      refine ⟨_, rfl, a, _, _, 2, rfl, rfl, hL, rfl, ?_⟩
      refine ⟨_, rfl, a, _, _, _, rfl, rfl, SqL.of hL2, rfl, _, rfl, a, _, _, _, rfl, rfl, SqL.of hL2, rfl, _, _, rfl, rfl, .inl ⟨by decide, by decide⟩, _, _, rfl, rfl, _, _, rfl, rfl, _, _, rfl, rfl, .inr ⟨by decide, by decide⟩, _, _, rfl, rfl, (by show (0 : Int) < 2147483647; decide), ?_⟩
      have n0 := Int.emod_nonneg ((y + 7919 * (z + 1) + 1) * 48271) (show (2147483647 : Int) ≠ 0 by decide)
      have n1 := Int.emod_lt_of_pos ((y + 7919 * (z + 1) + 1) * 48271) (show (0 : Int) < 2147483647 by decide)
      generalize ((y + 7919 * (z + 1) + 1) * 48271) % 2147483647 = i at n0 n1 ⊢
      refine ⟨_, rfl, _, rfl, _, _, rfl, rfl, ⟨by decide, by decide⟩, _, _, rfl, rfl, _, _, rfl, rfl, .inl ⟨by omega, by omega⟩, _, _, rfl, rfl, (by show (0 : Int) < 2147483647; decide), ?_⟩
      have k0 := Int.emod_nonneg (i * (i / 1009 + 69621)) (show (2147483647 : Int) ≠ 0 by decide)
      have k1 := Int.emod_lt_of_pos (i * (i / 1009 + 69621)) (show (0 : Int) < 2147483647 by decide)
      generalize (i * (i / 1009 + 69621)) % 2147483647 = j at k0 k1 ⊢
      refine ⟨_, rfl, _, rfl, _, _, rfl, rfl, ⟨by decide, by decide⟩, _, _, rfl, rfl, _, _, rfl, rfl, .inl ⟨by omega, by omega⟩, _, _, rfl, rfl, (by show (0 : Int) < 2147483399; decide), _, rfl, _, _, rfl, rfl, hm, ?_⟩
      exact q _ _ (Int.emod_nonneg _ (by omega)) (Int.emod_lt_of_pos _ hm) (b.trans But.at) ⟨x, y, z + 1, upd_same, hx, hy, hy2, by omega, by omega⟩
  · intro hb k
    obtain ⟨x, rfl⟩ : ∃ x : Int, xs = [.int x] := by
      rcases hlen with ⟨_, h⟩ | ⟨h3, _⟩
      · exact h
      · rw [h3] at hb
        cases hb
    refine ⟨_, rfl, a, _, _, _, rfl, rfl, SqL.of hxs, rfl, ?_⟩
    refine ⟨_, rfl, (by show 2 ≤ sizeLine; decide), fun l hl => ?_⟩
    have s1 := same_new hl (.lst [V.int 0, V.int x])
    refine ⟨_, rfl, _, _, rfl, rfl, ⟨by decide, by decide, by decide⟩, _, _, rfl, rfl, .inr ⟨_, rfl, ?_⟩⟩
    obtain ⟨y, hy, y0⟩ : ∃ y : Int, atI [V.int 0, V.int x] (if decide (x ≥ 10 ^ (18 : Int).toNat) = true then 1 else 0) = some (.int y) ∧ 0 ≤ y := by
      by_cases c : x ≥ 10 ^ (18 : Int).toNat
      · rw [decide_eq_true c]
        have : (0 : Int) ≤ 10 ^ (18 : Int).toNat := by decide
        exact ⟨x, rfl, by omega⟩
      · rw [decide_eq_false c]
        exact ⟨0, rfl, Int.le_refl 0⟩
    refine ⟨l, _, _, _, rfl, rfl, SqL.of upd_same, hy, _, rfl, a, [.int x], _, 0, rfl, rfl, s1 _ _ hxs, rfl, ?_⟩
    have hL : (upd (upd H l (.lst [V.int 0, V.int x])) a (.lst ([V.int x].set 0 (.int y)))) a = some (.lst [.int y]) := upd_same
    refine ⟨_, rfl, .inl ⟨rfl, _, SqL.of hL⟩, _, rfl, _, _, rfl, rfl, (by show (0 : Int) < 2147483647; decide), (by show 2 ≤ sizeLine; decide), fun l2 hl2 => ?_⟩
    have nl : a ≠ l2 := ne_of_none hL hl2
    refine ⟨a, l2, [.int y], _, rfl, rfl, (by rw [upd_ne nl]; exact hL), upd_same, (by show 3 ≤ sizeLine; decide), ?_⟩
    refine k _ _ ⟨_, rfl, ?_, y, x % 2147483647, 0, upd_same, y0, Int.emod_nonneg _ (by decide), Int.emod_lt_of_pos _ (by decide), Int.le_refl 0, hn0⟩
    exact (((But.same s1).trans But.at).trans (But.same (same_new hl2 _))).trans But.at
end
end TA

set_option Elab.async false
set_option maxRecDepth 100000
set_option maxHeartbeats 4000000
set_option linter.unusedVariables false
namespace TA
open PySem L2 PyProof.Rows
theorem ErrAt.mono {H H' : Hp} (s : Same H H') {a D : Addr} (e : ErrAt H a D) : ErrAt H' a D := by
  cases e with
  | plain h => exact .plain (s _ _ h)
  | own dx fs h g => exact .own dx fs (s _ _ h) (s _ _ g)
theorem own_new {H : Hp} {a dx C : Addr} {fs : List (Str × V)} (ha : H a = none) (hd : (upd H a (exo a C none)) dx = none) : Same H (upd (upd (upd H a (exo a C none)) dx (exd dx fs)) a (exo a C (some dx))) := fun b o e => by
  have n1 : b ≠ a := ne_of_none e ha
  have n2 : b ≠ dx := fun q => by rw [q] at e n1; rw [upd_ne n1, e] at hd; cases hd
  rw [upd_ne n1, upd_ne n2, upd_ne n1]
  exact e
theorem own_dict {H : Hp} {a dx C : Addr} {fs : List (Str × V)} (ne : dx ≠ a) : (upd (upd (upd H a (exo a C none)) dx (exd dx fs)) a (exo a C (some dx))) dx = some (exd dx fs) := by
  rw [upd_ne ne, upd_same]
theorem own_err {H : Hp} {a dx C : Addr} {fs : List (Str × V)} (ne : dx ≠ a) : ErrAt (upd (upd (upd H a (exo a C none)) dx (exd dx fs)) a (exo a C (some dx))) a C := .own dx fs upd_same (own_dict ne)
inductive ErrL (H : Hp) : List Addr → List Addr → Prop
  | nil : ErrL H [] []
  | cons {a D as Ds} : ErrAt H a D → ErrL H as Ds → ErrL H (a :: as) (D :: Ds)
theorem ErrL.mono {H H' : Hp} (s : Same H H') : ∀ {as Ds}, ErrL H as Ds → ErrL H' as Ds
  | _, _, .nil => .nil
  | _, _, .cons a b => .cons (a.mono s) (b.mono s)
theorem ErrL.get {H : Hp} : ∀ {as Ds} {i : Nat} {x : V}, ErrL H as Ds → (as.map V.ref)[i]? = some x → ∃ a D, x = .ref a ∧ Ds[i]? = some D ∧ ErrAt H a D
  | _, _, i, _, .nil, e => by simp at e
  | _, _, 0, _, .cons (a := a) (D := D) h _, e => ⟨a, D, by simpa using e.symm, rfl, h⟩
  | _, _, i + 1, x, .cons _ b, e => by
    obtain ⟨a, D, h1, h2, h3⟩ := ErrL.get (i := i) (x := x) b (by simpa using e)
    exact ⟨a, D, h1, by simpa using h2, h3⟩
theorem ErrL.len {H : Hp} : ∀ {as Ds}, ErrL H as Ds → as.length = Ds.length
  | _, _, .nil => rfl
  | _, _, .cons _ b => congrArg (· + 1) b.len
structure OwnD (P : Program) (w : World) (K : PySem.W.Frag) (mg : Str → Option Value) (base : Heap) (n f : Str) (C fI : Addr) (fd : FuncData) : Prop where
  O : OwnC K mg n f C fI
  G : FnOk P w K mg base CX0 1 fI fd ["self", f] (spInit K C f)
  b : ∀ (s : Shared) (a u : Value), BindsTo s fd ⟨[a, u], []⟩ ((["self", f] : List Str).zip [a, u])
  bk : ∀ (s : Shared) (a u : Value), BindsTo s fd ⟨[a], [(f, u)]⟩ ((["self", f] : List Str).zip [a, u])
structure Cls13 (K : PySem.W.Frag) (Ds : List Addr) : Prop where
  exc : ∀ D ∈ Ds, ExcC K D
  kit : ∀ (i j : Nat) (D E : Addr), Ds[i]? = some D → Ds[j]? = some E → PySem.W.kitOne K (.ref D) (.ref E) = some (decide (i = j))
def spMade (Ds : List Addr) : Sp := fun vs H Q _ => ∃ (x : Str) (v : V), vs = [.str x, v] ∧ ∀ (p : Addr) (as : List Addr) (H' : Hp), Same H H' → H' p = some (.lst (as.map V.ref)) → ErrL H' as Ds → Q (.ref p) H'
def markL (i : Nat) : List V := (List.range 13).map fun j => V.bl (decide (i = j))
def spMarks (Ds : List Addr) : Sp := fun vs H Q _ => ∃ (a D : Addr) (i : Nat), vs = [.ref a] ∧ ErrAt H a D ∧ Ds[i]? = some D ∧ ∀ (p : Addr) (H' : Hp), Same H H' → H' p = some (.lst (markL i)) → Q (.ref p) H'
section
variable {P : Program} {w : World} {K : PySem.W.Frag} {mg : Str → Option Value} {base : Heap}
theorem scMade : FnScope ["_law_word", "_law_thing", "_law_found"] ["_law_word", "_law_thing"] (defScope sMade) := ⟨rfl, rfl, rfl, by decide +kernel, rfl, by decide +kernel, by decide +kernel⟩
theorem ok_made {f c0 c1 c2 c3 c4 c5 c6 c7 c8 c9 t0 t1 t2 i0 i1 i2 : Addr} {fd d0 d1 d2 : FuncData} (F : Fun K "_law_made" "_law_made" sMade f fd) (p0 : PlainC K mg "NoHand" c0) (p1 : PlainC K mg "NoJoint" c1) (p2 : PlainC K mg "NoRounds" c2) (p3 : PlainC K mg "NoInputs" c3) (p4 : PlainC K mg "NoWeaving" c4) (p5 : PlainC K mg "NoKnown" c5) (p6 : PlainC K mg "NoProtocol" c6) (p7 : PlainC K mg "NoChoice" c7) (p8 : PlainC K mg "NoMade" c8) (p9 : PlainC K mg "NoText" c9) (o0 : OwnD P w K mg base "NoTask" "what" t0 i0 d0) (o1 : OwnD P w K mg base "Barred" "bar" t1 i1 d1) (o2 : OwnD P w K mg base "TooMany" "many" t2 i2 d2) :
    FnOk P w K mg base CX0 3 f fd ["_law_word", "_law_thing"] (spMade [c0, c1, c2, c3, c4, c5, c6, c7, c8, c9, t0, t1, t2]) := by
  refine F.ok scMade (fun vs H Q E h => ?_) (fun cdv A outer s H vs Q E hr h => ?_)
  · obtain ⟨x, v, rfl, _⟩ := h
    rfl
  obtain ⟨x, v, rfl, q⟩ := h
  have nd := scMade.nd
  have hte : ∀ (σ : L2.St) (H : Hp) (Q Q' : VK), (∀ v H1, Q v H1 → Q' v H1) → tVar 1 σ H Q → tVar 1 σ H Q' := fun σ H Q Q' m ⟨v, e, h⟩ => ⟨v, e, m _ _ h⟩
  refine ⟨_, pss_cons (ps_set (i := 2) nd rfl (Or.inl rfl) (pe_lst (pa_cons (pe_exc1 PySem.F.excBase_ValueError p0.q p0.m p0.k (by rfl) (pv 0)) (pa_cons (pe_exc1 PySem.F.excBase_ValueError p1.q p1.m p1.k (by rfl) (pv 0)) (pa_cons (pe_exc1 PySem.F.excBase_ValueError p2.q p2.m p2.k (by rfl) (pv 0)) (pa_cons (pe_exc1 PySem.F.excBase_ValueError p3.q p3.m p3.k (by rfl) (pv 0)) (pa_cons (pe_exc1 PySem.F.excBase_ValueError p4.q p4.m p4.k (by rfl) (pv 0)) (pa_cons (pe_exc1 PySem.F.excBase_ValueError p5.q p5.m p5.k (by rfl) (pv 0)) pa_nil))))))))
    (pss_cons (ps_set (i := 2) nd rfl (Or.inl rfl) (pe_op op_cat (pv 2) (pe_lst (pa_cons (pe_exc1 PySem.F.excBase_ValueError p6.q p6.m p6.k (by rfl) (pv 0)) (pa_cons (pe_exc1 PySem.F.excBase_ValueError p7.q p7.m p7.k (by rfl) (pv 0)) (pa_cons (pe_exc1 PySem.F.excBase_ValueError p8.q p8.m p8.k (by rfl) (pv 0)) (pa_cons (pe_exc1 PySem.F.excBase_ValueError p9.q p9.m p9.k (by rfl) (pv 0)) pa_nil)))))))
    (pss_one (ps_ret (pe_op op_cat (pv 2) (pe_lst (pa_cons (pe_exo o0.O.T o0.O.ini o0.O.ty o0.G hr (by rfl) o0.O.m o0.b (pa_cons (pv 1) pa_nil) hte) (pa_cons (pe_exo o1.O.T o1.O.ini o1.O.ty o1.G hr (by rfl) o1.O.m o1.b (pa_cons (pv 1) pa_nil) hte) (pa_cons (pe_exo o2.O.T o2.O.ini o2.O.ty o2.G hr (by rfl) o2.O.m o2.b (pa_cons (pv 1) pa_nil) hte) pa_nil)))))))), ?_⟩
  refine ⟨_, rfl, fun a0 h0 => ?_⟩
  have g1 := same_new h0 (ExO (.ref c0) a0)
  refine ⟨_, rfl, fun a1 h1 => ?_⟩
  have g2 := same_new h1 (ExO (.ref c1) a1)
  refine ⟨_, rfl, fun a2 h2 => ?_⟩
  have g3 := same_new h2 (ExO (.ref c2) a2)
  refine ⟨_, rfl, fun a3 h3 => ?_⟩
  have g4 := same_new h3 (ExO (.ref c3) a3)
  refine ⟨_, rfl, fun a4 h4 => ?_⟩
  have g5 := same_new h4 (ExO (.ref c4) a4)
  refine ⟨_, rfl, fun a5 h5 => ?_⟩
  have g6 := same_new h5 (ExO (.ref c5) a5)
  refine ⟨(by show 6 ≤ sizeLine; decide), fun q1 hq1 => ?_⟩
  have g7 := same_new hq1 (.lst [V.ref a0, V.ref a1, V.ref a2, V.ref a3, V.ref a4, V.ref a5])
  refine ⟨_, rfl, ?_⟩
  refine ⟨_, rfl, fun a6 h6 => ?_⟩
  have g8 := same_new h6 (ExO (.ref c6) a6)
  refine ⟨_, rfl, fun a7 h7 => ?_⟩
  have g9 := same_new h7 (ExO (.ref c7) a7)
  refine ⟨_, rfl, fun a8 h8 => ?_⟩
  have g10 := same_new h8 (ExO (.ref c8) a8)
  refine ⟨_, rfl, fun a9 h9 => ?_⟩
  have g11 := same_new h9 (ExO (.ref c9) a9)
  refine ⟨(by show 4 ≤ sizeLine; decide), fun q2 hq2 => ?_⟩
  have g12 := same_new hq2 (.lst [V.ref a6, V.ref a7, V.ref a8, V.ref a9])
  refine ⟨q1, q2, _, _, rfl, rfl, (((((g8).trans g9).trans g10).trans g11).trans g12) _ _ upd_same, upd_same, (by show 10 ≤ sizeLine; decide), fun q3 hq3 => ?_⟩
  have g13 := same_new hq3 (.lst ([V.ref a0, V.ref a1, V.ref a2, V.ref a3, V.ref a4, V.ref a5] ++ [V.ref a6, V.ref a7, V.ref a8, V.ref a9]))
  refine ⟨_, rfl, ?_⟩
  refine ⟨_, rfl, fun b0 u0 => ⟨b0, v, rfl, upd_same, fun e0 x0 y0 => ⟨rfl, ?_⟩⟩⟩
  have g14 := own_new (C := t0) (fs := [("what", v)]) u0 x0
  refine ⟨_, rfl, fun b1 u1 => ⟨b1, v, rfl, upd_same, fun e1 x1 y1 => ⟨rfl, ?_⟩⟩⟩
  have g15 := own_new (C := t1) (fs := [("bar", v)]) u1 x1
  refine ⟨_, rfl, fun b2 u2 => ⟨b2, v, rfl, upd_same, fun e2 x2 y2 => ⟨rfl, ?_⟩⟩⟩
  have g16 := own_new (C := t2) (fs := [("many", v)]) u2 x2
  refine ⟨(by show 3 ≤ sizeLine; decide), fun q4 hq4 => ?_⟩
  have g17 := same_new hq4 (.lst [V.ref b0, V.ref b1, V.ref b2])
  refine ⟨q3, q4, _, _, rfl, rfl, ((((g14).trans g15).trans g16).trans g17) _ _ upd_same, upd_same, (by show 13 ≤ sizeLine; decide), fun q5 hq5 => ?_⟩
  have g18 := same_new hq5 (.lst (([V.ref a0, V.ref a1, V.ref a2, V.ref a3, V.ref a4, V.ref a5] ++ [V.ref a6, V.ref a7, V.ref a8, V.ref a9]) ++ [V.ref b0, V.ref b1, V.ref b2]))
  have r17 := g18
  have r16 := g17.trans r17
  have r15 := g16.trans r16
  have r14 := g15.trans r15
  have r13 := g14.trans r14
  have r12 := g13.trans r13
  have r11 := g12.trans r12
  have r10 := g11.trans r11
  have r9 := g10.trans r10
  have r8 := g9.trans r9
  have r7 := g8.trans r8
  have r6 := g7.trans r7
  have r5 := g6.trans r6
  have r4 := g5.trans r5
  have r3 := g4.trans r4
  have r2 := g3.trans r3
  have r1 := g2.trans r2
  have r0 := g1.trans r1
  exact q q5 [a0, a1, a2, a3, a4, a5, a6, a7, a8, a9, b0, b1, b2] _ r0 upd_same (.cons (ErrAt.mono r1 (.plain upd_same)) (.cons (ErrAt.mono r2 (.plain upd_same)) (.cons (ErrAt.mono r3 (.plain upd_same)) (.cons (ErrAt.mono r4 (.plain upd_same)) (.cons (ErrAt.mono r5 (.plain upd_same)) (.cons (ErrAt.mono r6 (.plain upd_same)) (.cons (ErrAt.mono r8 (.plain upd_same)) (.cons (ErrAt.mono r9 (.plain upd_same)) (.cons (ErrAt.mono r10 (.plain upd_same)) (.cons (ErrAt.mono r11 (.plain upd_same)) (.cons (ErrAt.mono r14 (own_err y0)) (.cons (ErrAt.mono r15 (own_err y1)) (.cons (ErrAt.mono r16 (own_err y2)) .nil)))))))))))))
theorem scMarks : FnScope ["_law_one", "_law_found"] ["_law_one"] (defScope sMarks) := ⟨rfl, rfl, rfl, by decide +kernel, rfl, by decide +kernel, by decide +kernel⟩
theorem ok_marks {f c0 c1 c2 c3 c4 c5 c6 c7 c8 c9 t0 t1 t2 : Addr} {fd : FuncData} (F : Fun K "_law_marks" "_law_marks" sMarks f fd) (T : Txt K mg) (Z : Cls13 K [c0, c1, c2, c3, c4, c5, c6, c7, c8, c9, t0, t1, t2]) (m0 : mg "NoHand" = some (.ref c0)) (m1 : mg "NoJoint" = some (.ref c1)) (m2 : mg "NoRounds" = some (.ref c2)) (m3 : mg "NoInputs" = some (.ref c3)) (m4 : mg "NoWeaving" = some (.ref c4)) (m5 : mg "NoKnown" = some (.ref c5)) (m6 : mg "NoProtocol" = some (.ref c6)) (m7 : mg "NoChoice" = some (.ref c7)) (m8 : mg "NoMade" = some (.ref c8)) (m9 : mg "NoText" = some (.ref c9)) (m10 : mg "NoTask" = some (.ref t0)) (m11 : mg "Barred" = some (.ref t1)) (m12 : mg "TooMany" = some (.ref t2)) :
    FnOk P w K mg base CX0 1 f fd ["_law_one"] (spMarks [c0, c1, c2, c3, c4, c5, c6, c7, c8, c9, t0, t1, t2]) := by
  refine F.ok scMarks (fun vs H Q E h => ?_) (fun cdv A outer s H vs Q E hr h => ?_)
  · obtain ⟨a, D, i, rfl, _⟩ := h
    rfl
  obtain ⟨a, D, i, rfl, hat, hD, q⟩ := h
  have nd := scMarks.nd
  have ec := Z.exc D (List.mem_of_getElem? hD)
  refine ⟨_, pss_cons (ps_set (i := 1) nd rfl (Or.inl rfl) (pe_lst (pa_cons (pe_callB call_isErr (by rfl) T.isi boot_isinstance (pa_cons (pv 0) (pa_cons (pe_glob (v := .ref c0) rfl m0 rfl) pa_nil))) (pa_cons (pe_callB call_isErr (by rfl) T.isi boot_isinstance (pa_cons (pv 0) (pa_cons (pe_glob (v := .ref c1) rfl m1 rfl) pa_nil))) (pa_cons (pe_callB call_isErr (by rfl) T.isi boot_isinstance (pa_cons (pv 0) (pa_cons (pe_glob (v := .ref c2) rfl m2 rfl) pa_nil))) (pa_cons (pe_callB call_isErr (by rfl) T.isi boot_isinstance (pa_cons (pv 0) (pa_cons (pe_glob (v := .ref c3) rfl m3 rfl) pa_nil))) pa_nil))))))
    (pss_cons (ps_set (i := 1) nd rfl (Or.inl rfl) (pe_op op_cat (pv 1) (pe_lst (pa_cons (pe_callB call_isErr (by rfl) T.isi boot_isinstance (pa_cons (pv 0) (pa_cons (pe_glob (v := .ref c4) rfl m4 rfl) pa_nil))) (pa_cons (pe_callB call_isErr (by rfl) T.isi boot_isinstance (pa_cons (pv 0) (pa_cons (pe_glob (v := .ref c5) rfl m5 rfl) pa_nil))) (pa_cons (pe_callB call_isErr (by rfl) T.isi boot_isinstance (pa_cons (pv 0) (pa_cons (pe_glob (v := .ref c6) rfl m6 rfl) pa_nil))) pa_nil))))))
    (pss_cons (ps_set (i := 1) nd rfl (Or.inl rfl) (pe_op op_cat (pv 1) (pe_lst (pa_cons (pe_callB call_isErr (by rfl) T.isi boot_isinstance (pa_cons (pv 0) (pa_cons (pe_glob (v := .ref c7) rfl m7 rfl) pa_nil))) (pa_cons (pe_callB call_isErr (by rfl) T.isi boot_isinstance (pa_cons (pv 0) (pa_cons (pe_glob (v := .ref c8) rfl m8 rfl) pa_nil))) (pa_cons (pe_callB call_isErr (by rfl) T.isi boot_isinstance (pa_cons (pv 0) (pa_cons (pe_glob (v := .ref c9) rfl m9 rfl) pa_nil))) pa_nil))))))
    (pss_one (ps_ret (pe_op op_cat (pv 1) (pe_lst (pa_cons (pe_callB call_isErr (by rfl) T.isi boot_isinstance (pa_cons (pv 0) (pa_cons (pe_glob (v := .ref t0) rfl m10 rfl) pa_nil))) (pa_cons (pe_callB call_isErr (by rfl) T.isi boot_isinstance (pa_cons (pv 0) (pa_cons (pe_glob (v := .ref t1) rfl m11 rfl) pa_nil))) (pa_cons (pe_callB call_isErr (by rfl) T.isi boot_isinstance (pa_cons (pv 0) (pa_cons (pe_glob (v := .ref t2) rfl m12 rfl) pa_nil))) pa_nil))))))))), ?_⟩
  refine ⟨_, rfl, a, D, .ref c0, .ref c0, decide (i = 0), rfl, hat, ec, (fun u r => r), Z.kit i 0 D c0 hD rfl, _, rfl, a, D, .ref c1, .ref c1, decide (i = 1), rfl, hat, ec, (fun u r => r), Z.kit i 1 D c1 hD rfl, _, rfl, a, D, .ref c2, .ref c2, decide (i = 2), rfl, hat, ec, (fun u r => r), Z.kit i 2 D c2 hD rfl, _, rfl, a, D, .ref c3, .ref c3, decide (i = 3), rfl, hat, ec, (fun u r => r), Z.kit i 3 D c3 hD rfl, (by show 4 ≤ sizeLine; decide), fun p1 h1 => ?_⟩
  have s1 := same_new h1 (.lst [V.bl (decide (i = 0)), V.bl (decide (i = 1)), V.bl (decide (i = 2)), V.bl (decide (i = 3))])
  refine ⟨_, rfl, _, rfl, a, D, .ref c4, .ref c4, decide (i = 4), rfl, hat.mono s1, ec, (fun u r => r), Z.kit i 4 D c4 hD rfl, _, rfl, a, D, .ref c5, .ref c5, decide (i = 5), rfl, hat.mono s1, ec, (fun u r => r), Z.kit i 5 D c5 hD rfl, _, rfl, a, D, .ref c6, .ref c6, decide (i = 6), rfl, hat.mono s1, ec, (fun u r => r), Z.kit i 6 D c6 hD rfl, (by show 3 ≤ sizeLine; decide), fun p2 h2 => ?_⟩
  have z2 := same_new h2 (.lst [V.bl (decide (i = 4)), V.bl (decide (i = 5)), V.bl (decide (i = 6))])
  have s2 := s1.trans z2
  refine ⟨p1, p2, _, _, rfl, rfl, z2 _ _ upd_same, upd_same, (by show 7 ≤ sizeLine; decide), fun p3 h3 => ?_⟩
  have z3 := same_new h3 (.lst ([V.bl (decide (i = 0)), V.bl (decide (i = 1)), V.bl (decide (i = 2)), V.bl (decide (i = 3))] ++ [V.bl (decide (i = 4)), V.bl (decide (i = 5)), V.bl (decide (i = 6))]))
  have s3 := s2.trans z3
  refine ⟨_, rfl, _, rfl, a, D, .ref c7, .ref c7, decide (i = 7), rfl, hat.mono s3, ec, (fun u r => r), Z.kit i 7 D c7 hD rfl, _, rfl, a, D, .ref c8, .ref c8, decide (i = 8), rfl, hat.mono s3, ec, (fun u r => r), Z.kit i 8 D c8 hD rfl, _, rfl, a, D, .ref c9, .ref c9, decide (i = 9), rfl, hat.mono s3, ec, (fun u r => r), Z.kit i 9 D c9 hD rfl, (by show 3 ≤ sizeLine; decide), fun p4 h4 => ?_⟩
  have z4 := same_new h4 (.lst [V.bl (decide (i = 7)), V.bl (decide (i = 8)), V.bl (decide (i = 9))])
  have s4 := s3.trans z4
  refine ⟨p3, p4, _, _, rfl, rfl, z4 _ _ upd_same, upd_same, (by show 10 ≤ sizeLine; decide), fun p5 h5 => ?_⟩
  have z5 := same_new h5 (.lst (([V.bl (decide (i = 0)), V.bl (decide (i = 1)), V.bl (decide (i = 2)), V.bl (decide (i = 3))] ++ [V.bl (decide (i = 4)), V.bl (decide (i = 5)), V.bl (decide (i = 6))]) ++ [V.bl (decide (i = 7)), V.bl (decide (i = 8)), V.bl (decide (i = 9))]))
  have s5 := s4.trans z5
  refine ⟨_, rfl, _, rfl, a, D, .ref t0, .ref t0, decide (i = 10), rfl, hat.mono s5, ec, (fun u r => r), Z.kit i 10 D t0 hD rfl, _, rfl, a, D, .ref t1, .ref t1, decide (i = 11), rfl, hat.mono s5, ec, (fun u r => r), Z.kit i 11 D t1 hD rfl, _, rfl, a, D, .ref t2, .ref t2, decide (i = 12), rfl, hat.mono s5, ec, (fun u r => r), Z.kit i 12 D t2 hD rfl, (by show 3 ≤ sizeLine; decide), fun p6 h6 => ?_⟩
  have z6 := same_new h6 (.lst [V.bl (decide (i = 10)), V.bl (decide (i = 11)), V.bl (decide (i = 12))])
  have s6 := s5.trans z6
  refine ⟨p5, p6, _, _, rfl, rfl, z6 _ _ upd_same, upd_same, (by show 13 ≤ sizeLine; decide), fun p7 h7 => ?_⟩
  exact q p7 _ (s6.trans (same_new h7 _)) upd_same
end
end TA

set_option Elab.async false
set_option maxRecDepth 100000
set_option maxHeartbeats 4000000
set_option linter.unusedVariables false
namespace TA
open PySem L2 PyProof.Rows
structure Def (P : Program) (w : World) (K : PySem.W.Frag) (mg : Str → Option Value) (base : Heap) (x : Str) (ps : List Str) (k : Nat) (sp : Sp) (f : Addr) (fd : FuncData) : Prop where
  G : FnOk P w K mg base CX0 k f fd ps sp
  b : Binds K fd ps []
  k : PySem.W.keepIn K (.ref f) = true
  m : mg x = some (.ref f)
/-- the things that are drawn -/
inductive Th (H : Hp) : V → PyData → Prop
  | int (n : Int) : Th H (.int n) (.int n)
  | str : Th H (.str "alone") (.str "alone")
  | non : Th H .non .none
  | tup {t l : Addr} : H t = some (.tup [.str "choose", .int 0, .int 0, .ref l]) → H l = some (.lst []) → Th H (.ref t) (.tuple [.str "choose", .int 0, .int 0, .list []])
theorem Th.mono {H H' : Hp} (s : Same H H') {v d} (h : Th H v d) : Th H' v d := by
  cases h with
  | int n => exact .int n
  | str => exact .str
  | non => exact .non
  | tup a b => exact .tup (s _ _ a) (s _ _ b)
theorem Th.dp {K : PySem.W.Frag} {H : Hp} {v d} (h : Th H v d) : Dp K H v d := by
  cases h with
  | int n => exact .int n
  | str => exact .str _
  | non => exact .non
  | tup a b => exact .tup (SqT.of a) (.cons (.str _) (.cons (.int 0) (.cons (.int 0) (.cons (.lst (SqL.of b) .nil) .nil))))
theorem Th.three {K : PySem.W.Frag} {H : Hp} {v d} {p : Addr} (h : Th H v d) (hp : H p = some (.lst [v, v, v])) : Dp K H (.ref p) (.list [d, d, d]) := .lst (SqL.of hp) (.cons h.dp (.cons h.dp (.cons h.dp .nil)))
theorem Th.shaped {H : Hp} {v d} (h : Th H v d) : SeqAt.shaped (.list [d, d, d]) = true := by
  cases h with
  | int n => rfl
  | str => decide +kernel
  | non => rfl
  | tup a b => decide +kernel
theorem eqv_self {d : PyData} (h : SeqAt.shaped d = true) : PyData.eqv d d = true := SeqAt.eqv_refl d (SeqAt.canLay_of_shaped h)
def markD (i : Nat) : List PyData := (List.range 13).map fun j => .bool (decide (i = j))
theorem mark_dp {K : PySem.W.Frag} {H : Hp} (i : Nat) : DpAll K H (markL i) (markD i) := by
  unfold markL markD
  generalize List.range 13 = l
  induction l with
  | nil => exact .nil
  | cons j r ih => exact .cons (.bl _) ih
theorem mark_plain : ∀ i < 13, PyData.plainAll (markD i) = true := by decide +kernel
theorem mark_one : ∀ i < 13, (markD i).countP (fun z => PyData.eqv z (.bool true)) = 1 := by decide +kernel
theorem mark_at {i : Nat} (hi : i < 13) : atI (markL i) ((i : Nat) : Int) = some (.bl true) := atI_nat (by
  unfold markL
  rw [List.getElem?_map, List.getElem?_range hi]
  simp)
/-- a for of n turns, whatever is walked -/
theorem for_turns {J : It} (n : Nat) {g : TG} {tb : TS} {D : Ends} {σ0 : L2.St} {H0 : Hp} (Pv : Nat → L2.St → Hp → Prop) (start : Pv 0 σ0 H0) (last : ∀ σ H, Pv n σ H → J.stop n H ∧ D.nx σ H)
    (turn : ∀ i σ H, i < n → Pv i σ H → J.go i H ∧ ∀ x H', J.yld i H x H' → g x σ H' fun σ2 H2 => tb { D with nx := Pv (i + 1), ct := Pv (i + 1), bk := D.nx } σ2 H2) :
    ∃ W : Nat → Nat → L2.St → Hp → Prop, (∃ m, W 0 m σ0 H0) ∧ ∀ i m σ H, W i m σ H →
      (J.stop i H ∧ D.nx σ H) ∨ (J.go i H ∧ ∃ N : L2.St → Hp → Prop, (∀ σ' H', N σ' H' → ∃ m', m' < m ∧ W (i + 1) m' σ' H') ∧ ∀ x H', J.yld i H x H' → g x σ H' fun σ2 H2 => tb { D with nx := N, ct := N, bk := D.nx } σ2 H2) := by
  refine ⟨fun i m σ H => i + m = n ∧ Pv i σ H, ⟨n, by omega, start⟩, fun i m σ H h => ?_⟩
  obtain ⟨hm, word⟩ := h
  cases m with
  | zero =>
    have hin : i = n := by omega
    rw [hin] at word ⊢
    exact Or.inl (last σ H word)
  | succ m =>
    obtain ⟨go, step⟩ := turn i σ H (by omega) word
    exact Or.inr ⟨go, Pv (i + 1), fun σ' H' w' => ⟨m, by omega, by omega, w'⟩, step⟩
theorem same_upd {H0 H : Hp} {p : Addr} {o : HO} (s : Same H0 H) (f : H0 p = none) : Same H0 (upd H p o) := fun b u e => by
  rw [upd_ne (ne_of_none e f)]
  exact s _ _ e
theorem But.fresh {a : Addr} {H0 H H' : Hp} (s : Same H0 H) (f : H0 a = none) (b : But a H H') : Same H0 H' := fun c u e => b c u (ne_of_none e f) (s _ _ e)
def spLaw (K : PySem.W.Frag) : Sp := fun vs H Q _ => ∃ (a : Addr) (ns : List Int), vs = [.ref a] ∧ SqL K H a (ns.map V.int) ∧ ns.length ≤ 63 ∧ ∀ H', Q (.bl true) H'
section
variable {P : Program} {w : World} {K : PySem.W.Frag} {mg : Str → Option Value} {base : Heap}
abbrev nLaw : List Str := ["_law_script", "_law_k", "_law_state", "_law_thing", "_law_word", "_law_number", "_law_one", "_law_marks_here"]
theorem scLaw : FnScope nLaw ["_law_script"] (defScope sLaw) := ⟨rfl, rfl, rfl, by decide +kernel, rfl, by decide +kernel, by decide +kernel⟩
theorem ok_law {f f1 f2 f3 f4 A0 c0 c1 c2 c3 c4 c5 c6 c7 c8 c9 t0 t1 t2 i0 i1 i2 : Addr} {fd d1 d2 d3 d4 e0 e1 e2 : FuncData} (F : Fun K "law" "law" sLaw f fd) (T : Txt K mg) (Z : Cls13 K [c0, c1, c2, c3, c4, c5, c6, c7, c8, c9, t0, t1, t2])
    (mA : mg "AloneError" = some (.ref A0)) (zA : ∀ D ∈ [c0, c1, c2, c3, c4, c5, c6, c7, c8, c9, t0, t1, t2], PySem.W.kitOne K (.ref D) (.ref A0) = some true) (zV : ∀ D ∈ [c0, c1, c2, c3, c4, c5, c6, c7, c8, c9, t0, t1, t2], PySem.W.kitOne K (.ref D) (.type "ValueError") = some true)
    (Cell : Def P w K mg base "_law_cell_at" ["_law_script", "_law_k"] 1 (spCell K) f1 d1) (Digit : Def P w K mg base "_law_digit" ["_law_state", "_law_base"] 1 spDigit f2 d2)
    (Made : Def P w K mg base "_law_made" ["_law_word", "_law_thing"] 3 (spMade [c0, c1, c2, c3, c4, c5, c6, c7, c8, c9, t0, t1, t2]) f3 d3) (Marks : Def P w K mg base "_law_marks" ["_law_one"] 1 (spMarks [c0, c1, c2, c3, c4, c5, c6, c7, c8, c9, t0, t1, t2]) f4 d4)
    (o0 : OwnD P w K mg base "NoTask" "what" t0 i0 e0) (o1 : OwnD P w K mg base "Barred" "bar" t1 i1 e1) (o2 : OwnD P w K mg base "TooMany" "many" t2 i2 e2) : FnOk P w K mg base CX0 4 f fd ["_law_script"] (spLaw K) := by
  refine F.ok scLaw (fun vs H Q E h => ?_) (fun cdv A outer s H vs Q E hr h => ?_)
  · obtain ⟨a, ns, rfl, _⟩ := h
    rfl
  obtain ⟨a, ns, rfl, hS, h63, q⟩ := h
  have nd := scLaw.nd
  have hte : ∀ (σ : L2.St) (H : Hp) (Q Q' : VK), (∀ v H1, Q v H1 → Q' v H1) → tVar 3 σ H Q → tVar 3 σ H Q' := fun σ H Q Q' m ⟨v, e, h⟩ => ⟨v, e, m _ _ h⟩
  refine ⟨_, pss_cons (ps_for PassesOwn.never rfl (pi_range1 rfl T.range (pa_cons (pe_callB (call_max2 rfl) (by rfl) T.max (by decide +kernel) (pa_cons pe_int (pa_cons (pe_callB (call_min2 rfl) (by rfl) T.min (by decide +kernel) (pa_cons pe_int (pa_cons (pe_callB call_len_seq (by rfl) T.len PySem.boot_len (pa_cons (pv 0) pa_nil)) pa_nil))) pa_nil))) pa_nil)) (pg_name (i := 1) nd rfl (Or.inl rfl))
      (pss_cons (ps_set (i := 2) nd rfl (Or.inl rfl) (pe_lst (pa_cons (pe_op op_add (pe_call Cell.G (hr.mono (by decide)) rfl Cell.m Cell.k Cell.b .nil pass0 (pa_cons (pv 0) (pa_cons (pv 1) pa_nil))) (pe_op op_mul pe_int (pv 1))) pa_nil)))
      (pss_cons (ps_set (i := 3) nd rfl (Or.inl rfl) (pe_ix ix_list (pe_lst (pa_cons (pe_int) (pa_cons (pe_int) (pa_cons (pe_str) (pa_cons (pe_tup (pa_cons pe_str (pa_cons pe_int (pa_cons pe_int (pa_cons (pe_lst pa_nil) pa_nil))))) (pa_cons (pe_non) (pa_cons (pe_call Digit.G (hr.mono (by decide)) rfl Digit.m Digit.k Digit.b .nil pass0 (pa_cons (pv 2) (pa_cons pe_int pa_nil))) pa_nil))))))) (pe_call Digit.G (hr.mono (by decide)) rfl Digit.m Digit.k Digit.b .nil pass0 (pa_cons (pv 2) (pa_cons pe_int pa_nil))) (fun _ _ => rfl)))
      (pss_cons (ps_set (i := 4) nd rfl (Or.inl rfl) (pe_ix ix_list (pe_lst (pa_cons (pe_str) (pa_cons (pe_str) (pa_cons (pe_str) pa_nil)))) (pe_call Digit.G (hr.mono (by decide)) rfl Digit.m Digit.k Digit.b .nil pass0 (pa_cons (pv 2) (pa_cons pe_int pa_nil))) (fun _ _ => rfl)))
      (pss_cons (ps_for PassesOwn.never rfl (pi_enum (by rfl) T.enum (pa_cons (pe_call Made.G hr rfl Made.m Made.k Made.b .nil pass0 (pa_cons (pv 4) (pa_cons (pv 3) pa_nil))) pa_nil)) (pg_tup rfl (pgs_cons (pg_name (i := 5) nd rfl (Or.inl rfl)) (pgs_cons (pg_name (i := 6) nd rfl (Or.inl rfl)) pgs_nil)))
        (pss_cons (ps_set (i := 7) nd rfl (Or.inl rfl) (pe_call Marks.G (hr.mono (by decide)) rfl Marks.m Marks.k Marks.b .nil pass0 (pa_cons (pv 6) pa_nil)))
        (pss_cons (ps_if (PW.pt (pw_or (pt_not (pt_val (pe_callB call_isErr (by rfl) T.isi boot_isinstance (pa_cons (pv 6) (pa_cons (pe_glob (v := .ref A0) rfl mA rfl) pa_nil))))) (pw_or1 (pt_not (pt_val (pe_callB call_isErr (by rfl) T.isi boot_isinstance (pa_cons (pv 6) (pa_cons (pe_bltn (v := .ty "ValueError") (by rfl) T.ve (by decide +kernel) rfl) pa_nil)))))))) (pss_one (ps_ret pe_bl)) pss_nil)
        (pss_one (ps_if (PW.pt (pw_or (pt_cmpR op_ne (pe_bm PySem.F.plainAttrs_list PySem.F.slot_list_count PySem.F.type_list_count (mt_countD hr.units) (pv 7) (pa_cons pe_bl pa_nil)) pe_int (nomark _)) (pw_or1 (pt_not (pt_val (pe_ix ix_list (pv 7) (pv 5) (fun _ _ => rfl))))))) (pss_one (ps_ret pe_bl)) pss_nil)))))
      (pss_cons (ps_if (pt_cmpR (op_neD hr.units) (pe_lst (pa_cons (pe_what o0.O.X o0.O.no (pe_exoK o0.O.T o0.O.ini o0.O.ty o0.G (hr.mono (by decide)) (by rfl) o0.O.m o0.bk (pk_cons (pv 3) pk_nil) hte)) (pa_cons (pe_what o1.O.X o1.O.no (pe_exoK o1.O.T o1.O.ini o1.O.ty o1.G (hr.mono (by decide)) (by rfl) o1.O.m o1.bk (pk_cons (pv 3) pk_nil) hte)) (pa_cons (pe_what o2.O.X o2.O.no (pe_exoK o2.O.T o2.O.ini o2.O.ty o2.G (hr.mono (by decide)) (by rfl) o2.O.m o2.bk (pk_cons (pv 3) pk_nil) hte)) pa_nil)))) (pe_op op_rep (pe_lst (pa_cons (pv 3) pa_nil)) pe_int) (nomark _)) (pss_one (ps_ret pe_bl)) pss_nil)
      (pss_one (ps_if (pt_cmpR (op_neD hr.units) (pe_lst (pa_cons (pe_what o0.O.X o0.O.no (pe_exo o0.O.T o0.O.ini o0.O.ty o0.G (hr.mono (by decide)) (by rfl) o0.O.m o0.b (pa_cons (pv 3) pa_nil) hte)) (pa_cons (pe_what o1.O.X o1.O.no (pe_exo o1.O.T o1.O.ini o1.O.ty o1.G (hr.mono (by decide)) (by rfl) o1.O.m o1.b (pa_cons (pv 3) pa_nil) hte)) (pa_cons (pe_what o2.O.X o2.O.no (pe_exo o2.O.T o2.O.ini o2.O.ty o2.G (hr.mono (by decide)) (by rfl) o2.O.m o2.b (pa_cons (pv 3) pa_nil) hte)) pa_nil)))) (pe_op op_rep (pe_lst (pa_cons (pv 3) pa_nil)) pe_int) (nomark _)) (pss_one (ps_ret pe_bl)) pss_nil))))))))
    (pss_one (ps_ret pe_bl)), ?_⟩
  refine ⟨_, rfl, a, _, rfl, .inl hS, _, _, rfl, _, _, rfl, ?_⟩
  have hk : ∀ j : Int, 1 ≤ (if (if j < 8 then j else 8) > 1 then (if j < 8 then j else 8) else 1) ∧ (if (if j < 8 then j else 8) > 1 then (if j < 8 then j else 8) else 1) ≤ 8 := fun j => by
    split <;> split <;> omega
  have hkk := hk (((ns.map V.int).length : Nat) : Int)
  generalize (if (if (((ns.map V.int).length : Nat) : Int) < 8 then (((ns.map V.int).length : Nat) : Int) else 8) > 1 then (if (((ns.map V.int).length : Nat) : Int) < 8 then (((ns.map V.int).length : Nat) : Int) else 8) else 1) = kk at hkk ⊢
  refine ⟨kk, rfl, by omega, by omega, for_range (n := kk.toNat) (fun i σ Hc => ∃ g1 g2 g3 g4 g5 g6 g7, σ = [some (.ref a), g1, g2, g3, g4, g5, g6, g7] ∧ Same H Hc) ⟨_, _, _, _, _, _, _, rfl, Same.refl H⟩ ?_ ?_⟩
  · rintro i σ Hc hi ⟨g1, g2, g3, g4, g5, g6, g7, rfl, sc⟩
    refine ⟨_, rfl, _, rfl, a, ns, _, rfl, sc.seq hS, by omega, by omega, fun c => ?_⟩
    refine ⟨_, rfl, _, _, rfl, rfl, .inl ⟨by decide, by decide⟩, _, _, rfl, rfl, (by show 1 ≤ sizeLine; decide), fun st hst => ?_⟩
    have s1 := same_new hst (.lst [V.int (c + 59 * (0 + (i : Int)))])
    have hst1 : (upd Hc st (.lst [V.int (c + 59 * (0 + (i : Int)))])) st = some (.lst [V.int (c + 59 * (0 + (i : Int)))]) := upd_same
    refine ⟨Nat.zero_le _, fun l hl => ⟨(by show 4 ≤ sizeLine; decide), fun t ht => ?_⟩⟩
    have s2 := same_new hl (.lst [])
    have s3 := same_new ht (.tup [V.str "choose", V.int 0, V.int 0, V.ref l])
    have s23 := s2.trans s3
    have nt : t ≠ st := (ne_of_none (s2 _ _ hst1) ht).symm
    have nl : l ≠ st := (ne_of_none hst1 hl).symm
    refine ⟨_, rfl, st, 0, 99, rfl, .inl ⟨_, s23 _ _ hst1⟩, by decide, by decide, by decide, by decide, fun r H3 r0 r1 b3 w3 => ?_⟩
    have ht3 : H3 t = _ := b3 _ _ nt upd_same
    have hl3 : H3 l = _ := b3 _ _ nl (s3 _ _ upd_same)
    refine ⟨(by show 6 ≤ sizeLine; decide), fun L hL => ?_⟩
    have s4 := same_new hL (.lst [V.int 0, V.int 7, V.str "alone", V.ref t, V.non, V.int r])
    obtain ⟨xw, yw, zw, ew, _⟩ := id w3
    have nL : L ≠ st := (ne_of_none ew hL).symm
    refine ⟨_, rfl, st, 1, 6, rfl, .inr (w3.same s4), by decide, by decide, by decide, by decide, fun r2 H4 p0 p1 b4 w4 => ?_⟩
    have hL4 : H4 L = _ := b4 _ _ nL upd_same
    have ht4 : H4 t = _ := b4 _ _ nt (s4 _ _ ht3)
    have hl4 : H4 l = _ := b4 _ _ nl (s4 _ _ hl3)
    obtain ⟨v, d, hv, th⟩ : ∃ v d, atI [V.int 0, V.int 7, V.str "alone", V.ref t, V.non, V.int r] r2 = some v ∧ Th H4 v d := by
      have er : r2 = ((r2.toNat : Nat) : Int) := by omega
      have hr6 : r2.toNat < 6 := by omega
      rw [er]
      generalize r2.toNat = j at hr6
      rcases j with _ | _ | _ | _ | _ | _ | j
      · exact ⟨_, _, atI_nat rfl, .int 0⟩
      · exact ⟨_, _, atI_nat rfl, .int 7⟩
      · exact ⟨_, _, atI_nat rfl, .str⟩
      · exact ⟨_, _, atI_nat rfl, .tup ht4 hl4⟩
      · exact ⟨_, _, atI_nat rfl, .non⟩
      · exact ⟨_, _, atI_nat rfl, .int r⟩
      · omega
    refine ⟨L, _, _, v, rfl, rfl, SqL.of hL4, hv, ?_⟩
    refine ⟨(by show 3 ≤ sizeLine; decide), fun L2 hL2 => ?_⟩
    have s5 := same_new hL2 (.lst [V.str "", V.str "none", V.str "no such thing"])
    obtain ⟨xv, yv, zv, ev, _⟩ := id w4
    have nL2 : L2 ≠ st := (ne_of_none ev hL2).symm
    refine ⟨_, rfl, st, 2, 3, rfl, .inr (w4.same s5), by decide, by decide, by decide, by decide, fun r3 H6 p0' p1' b6 w6 => ?_⟩
    have hL6 : H6 L2 = _ := b6 _ _ nL2 upd_same
    obtain ⟨x, hx⟩ : ∃ x : Str, atI [V.str "", V.str "none", V.str "no such thing"] r3 = some (.str x) := by
      have er : r3 = ((r3.toNat : Nat) : Int) := by omega
      have hr6 : r3.toNat < 3 := by omega
      rw [er]
      generalize r3.toNat = j at hr6
      rcases j with _ | _ | _ | j
      · exact ⟨_, atI_nat rfl⟩
      · exact ⟨_, atI_nat rfl⟩
      · exact ⟨_, atI_nat rfl⟩
      · omega
    refine ⟨L2, _, _, _, rfl, rfl, SqL.of hL6, hx, ?_⟩
    have th6 : Th H6 v d := by
      cases th with
      | int n => exact .int n
      | str => exact .str
      | non => exact .non
      | tup e1 e2 =>
        have n1 := ne_of e1 ev (fun q => by cases q)
        have n2 := ne_of e2 ev (fun q => by cases q)
        exact .tup (b6 _ _ n1 (s5 _ _ e1)) (b6 _ _ n2 (s5 _ _ e2))
    have s06 : Same H H6 := by
      have a1 : Same Hc H3 := But.fresh (s1.trans s23) hst b3
      have a2 : Same Hc H4 := But.fresh (a1.trans s4) hst b4
      exact sc.trans (But.fresh (a2.trans s5) hst b6)
    refine ⟨_, rfl, _, rfl, x, v, rfl, fun p as H7 s7 hp he => ?_⟩
    have has := he.len
    have th7 := th6.mono s7
    refine ⟨p, _, rfl, SqL.of hp, for_turns 13 (fun j σ Hd => ∃ g5 g6 g7, σ = [some (.ref a), some (.int (0 + (i : Int))), some (.ref st), some v, some (.str x), g5, g6, g7] ∧ Same H7 Hd) ⟨_, _, _, rfl, Same.refl H7⟩ ?_ ?_⟩
    · rintro σ Hd ⟨g5, g6, g7, rfl, sd⟩
      refine ⟨⟨_, SqL.of (sd _ _ hp), by rw [List.length_map, has]; exact Nat.le_refl _⟩, ?_⟩
      have thd := th7.mono sd
      refine ⟨_, rfl, fun ma0 mu0 => ⟨ma0, v, rfl, upd_same, fun mx0 my0 mz0 => ⟨rfl, ma0, mx0, [("what", v)], v, rfl, upd_same, own_dict mz0, (by simp [List.lookup]), ?_⟩⟩⟩
      have ms0 := own_new (C := t0) (fs := [("what", v)]) mu0 my0
      refine ⟨_, rfl, fun ma1 mu1 => ⟨ma1, v, rfl, upd_same, fun mx1 my1 mz1 => ⟨rfl, ma1, mx1, [("bar", v)], v, rfl, upd_same, own_dict mz1, (by simp [List.lookup]), ?_⟩⟩⟩
      have ms1 := own_new (C := t1) (fs := [("bar", v)]) mu1 my1
      refine ⟨_, rfl, fun ma2 mu2 => ⟨ma2, v, rfl, upd_same, fun mx2 my2 mz2 => ⟨rfl, ma2, mx2, [("many", v)], v, rfl, upd_same, own_dict mz2, (by simp [List.lookup]), ?_⟩⟩⟩
      have ms2 := own_new (C := t2) (fs := [("many", v)]) mu2 my2
      refine ⟨(by show 3 ≤ sizeLine; decide), fun mp mhp => ?_⟩
      have ms3 := same_new mhp (.lst [v, v, v])
      refine ⟨_, rfl, (by show 1 ≤ sizeLine; decide), fun mq mhq => ?_⟩
      have ms4 := same_new mhq (.lst [v])
      refine ⟨mq, 3, _, rfl, rfl, upd_same, by decide, by decide, (by show 1 * 3 ≤ sizeLine; decide), fun mr mhr => ?_⟩
      have ms5 := same_new mhr (.lst [v, v, v])
      have mz := (((ms0.trans ms1).trans ms2).trans ms3).trans (ms4.trans ms5)
      have thm := thd.mono mz
      refine ⟨.list [d, d, d], .list [d, d, d], thm.three ((ms4.trans ms5) _ _ upd_same), thm.three upd_same, thd.shaped, thd.shaped, _, rfl, ?_⟩
      rw [eqv_self thd.shaped]
      refine iteF ?_
      refine ⟨_, rfl, fun na0 nu0 => ⟨na0, v, rfl, upd_same, fun nx0 ny0 nz0 => ⟨rfl, na0, nx0, [("what", v)], v, rfl, upd_same, own_dict nz0, (by simp [List.lookup]), ?_⟩⟩⟩
      have ns0 := own_new (C := t0) (fs := [("what", v)]) nu0 ny0
      refine ⟨_, rfl, fun na1 nu1 => ⟨na1, v, rfl, upd_same, fun nx1 ny1 nz1 => ⟨rfl, na1, nx1, [("bar", v)], v, rfl, upd_same, own_dict nz1, (by simp [List.lookup]), ?_⟩⟩⟩
      have ns1 := own_new (C := t1) (fs := [("bar", v)]) nu1 ny1
      refine ⟨_, rfl, fun na2 nu2 => ⟨na2, v, rfl, upd_same, fun nx2 ny2 nz2 => ⟨rfl, na2, nx2, [("many", v)], v, rfl, upd_same, own_dict nz2, (by simp [List.lookup]), ?_⟩⟩⟩
      have ns2 := own_new (C := t2) (fs := [("many", v)]) nu2 ny2
      refine ⟨(by show 3 ≤ sizeLine; decide), fun np nhp => ?_⟩
      have ns3 := same_new nhp (.lst [v, v, v])
      refine ⟨_, rfl, (by show 1 ≤ sizeLine; decide), fun nq nhq => ?_⟩
      have ns4 := same_new nhq (.lst [v])
      refine ⟨nq, 3, _, rfl, rfl, upd_same, by decide, by decide, (by show 1 * 3 ≤ sizeLine; decide), fun nr nhr => ?_⟩
      have ns5 := same_new nhr (.lst [v, v, v])
      have nz := (((ns0.trans ns1).trans ns2).trans ns3).trans (ns4.trans ns5)
      have thn2 := thm.mono nz
      refine ⟨.list [d, d, d], .list [d, d, d], thn2.three ((ns4.trans ns5) _ _ upd_same), thn2.three upd_same, thd.shaped, thd.shaped, _, rfl, ?_⟩
      rw [eqv_self thd.shaped]
      refine iteF ?_
      exact ⟨_, _, _, _, _, _, _, rfl, s06.trans (s7.trans (sd.trans (mz.trans nz)))⟩
    · rintro j σ Hd hj ⟨g5, g6, g7, rfl, sd⟩
      have hpd := sd _ _ hp
      have hjl : j < (as.map V.ref).length := by rw [List.length_map, has]; exact hj
      refine ⟨⟨_, _, SqL.of hpd, List.getElem?_eq_getElem hjl⟩, ?_⟩
      rintro y H' ⟨T0, y0, rfl, hT, rfl, hy⟩
      have hy1 := hy _ (SqL.of hpd)
      obtain ⟨b, D, rfl, hD, hat⟩ := he.get hy1
      have sT := same_new hT (.tup [V.int ((j : Nat) : Int), V.ref b])
      have hat2 := hat.mono (sd.trans sT)
      have hDm := List.mem_of_getElem? hD
      refine ⟨T0, _, rfl, SqT.of upd_same, rfl, _, _, rfl, _, _, rfl, rfl, ?_⟩
      refine ⟨_, rfl, b, D, j, rfl, hat2, hD, fun m Hm sm hm => ?_⟩
      have hat3 := hat2.mono sm
      have ec := Z.exc D hDm
      refine ⟨_, rfl, b, D, .ref A0, .ref A0, true, rfl, hat3, ec, (fun u r => r), zA D hDm, true, rfl, iteF ?_⟩
      refine ⟨_, rfl, b, D, .ty "ValueError", .type "ValueError", true, rfl, hat3, ec, (fun u r => r), zV D hDm, true, rfl, iteF ?_⟩
      refine ⟨_, rfl, .inl ⟨rfl, _, SqL.of hm⟩, m, _, .bl true, markD j, .bool true, rfl, rfl, SqL.of hm, mark_dp j, .bl true, mark_plain j hj, rfl, by decide, rfl, _, rfl, ?_⟩
      rw [mark_one j hj]
      refine iteF ⟨_, rfl, _, rfl, m, _, _, _, rfl, rfl, SqL.of hm, mark_at hj, true, rfl, iteF ?_⟩
      exact ⟨_, _, _, rfl, (sd.trans sT).trans sm⟩
  · rintro σ Hc ⟨g1, g2, g3, g4, g5, g6, g7, rfl, sc⟩
    exact q _
end
end TA

set_option Elab.async false
set_option maxRecDepth 100000
set_option maxHeartbeats 4000000
set_option linter.unusedVariables false
namespace TA
open PySem L2 PyProof.Rows
/-! what the top leaves, as tests that run -/
def excB (K : PySem.W.Frag) (D : Addr) : Bool :=
  decide (PySem.W.findIn K (.ref D) "__getattribute__" = some (some (.builtin "BaseException.__getattribute__"))) && (decide (PySem.W.findIn K (.ref D) "__getattr__" = some none) && (decide (PySem.W.subIn K (.ref D) (.type "BaseException") = some true) &&
  (PySem.W.hasDictIn K D && (decide (PySem.W.findIn K (.ref D) "__class__" = some (some (.builtin "object.__class__"))) && (decide (PySem.W.specialIn K (.builtin "object.__class__") "__get__" = some (some (.builtin "getset_descriptor.__get__"))) &&
  (decide (PySem.W.takesIn K (.builtin "object.__class__") = some true) && decide (PySem.W.mroIn K D (.type "object") = some true)))))))
theorem excB_ok {K : PySem.W.Frag} {D : Addr} (h : excB K D = true) : ExcC K D := by
  obtain ⟨a, h⟩ := Bool.and_eq_true_iff.mp h
  obtain ⟨b, h⟩ := Bool.and_eq_true_iff.mp h
  obtain ⟨c, h⟩ := Bool.and_eq_true_iff.mp h
  obtain ⟨d, h⟩ := Bool.and_eq_true_iff.mp h
  obtain ⟨e, h⟩ := Bool.and_eq_true_iff.mp h
  obtain ⟨f, h⟩ := Bool.and_eq_true_iff.mp h
  obtain ⟨g, h⟩ := Bool.and_eq_true_iff.mp h
  exact ⟨of_decide_eq_true a, of_decide_eq_true b, of_decide_eq_true c, d, of_decide_eq_true e, of_decide_eq_true f, of_decide_eq_true g, of_decide_eq_true h⟩
def kitRow (K : PySem.W.Frag) (D : Addr) (i : Nat) : Nat → List Addr → Bool
  | _, [] => true
  | j, E :: r => decide (PySem.W.kitOne K (.ref D) (.ref E) = some (decide (i = j))) && kitRow K D i (j + 1) r
def kitRows (K : PySem.W.Frag) (Ds : List Addr) : Nat → List Addr → Bool
  | _, [] => true
  | i, D :: r => kitRow K D i 0 Ds && kitRows K Ds (i + 1) r
theorem kitRow_ok {K : PySem.W.Frag} {D : Addr} {i : Nat} : ∀ {l : List Addr} {k j : Nat} {E : Addr}, kitRow K D i k l = true → l[j]? = some E → PySem.W.kitOne K (.ref D) (.ref E) = some (decide (i = k + j))
  | [], _, _, _, _, e => by simp at e
  | x :: r, k, 0, E, h, e => by
    obtain ⟨a, _⟩ := Bool.and_eq_true_iff.mp h
    have : x = E := by simpa using e
    subst this
    exact of_decide_eq_true a
  | x :: r, k, j + 1, E, h, e => by
    obtain ⟨_, b⟩ := Bool.and_eq_true_iff.mp h
    have := kitRow_ok (l := r) (k := k + 1) (j := j) (E := E) b (by simpa using e)
    rw [this, show k + 1 + j = k + (j + 1) by omega]
theorem kitRows_ok {K : PySem.W.Frag} {Ds : List Addr} : ∀ {l : List Addr} {k i : Nat} {D : Addr}, kitRows K Ds k l = true → l[i]? = some D → kitRow K D (k + i) 0 Ds = true
  | [], _, _, _, _, e => by simp at e
  | x :: r, k, 0, D, h, e => by
    obtain ⟨a, _⟩ := Bool.and_eq_true_iff.mp h
    have : x = D := by simpa using e
    subst this
    exact a
  | x :: r, k, i + 1, D, h, e => by
    obtain ⟨_, b⟩ := Bool.and_eq_true_iff.mp h
    have := kitRows_ok (l := r) (k := k + 1) (i := i) (D := D) b (by simpa using e)
    rw [show k + (i + 1) = k + 1 + i by omega]
    exact this
def kitTo (K : PySem.W.Frag) (t : Value) : List Addr → Bool
  | [] => true
  | D :: r => decide (PySem.W.kitOne K (.ref D) t = some true) && kitTo K t r
theorem kitTo_ok {K : PySem.W.Frag} {t : Value} : ∀ {l : List Addr}, kitTo K t l = true → ∀ D ∈ l, PySem.W.kitOne K (.ref D) t = some true
  | [], _, D, m => by cases m
  | x :: r, h, D, m => by
    obtain ⟨a, b⟩ := Bool.and_eq_true_iff.mp h
    rcases List.mem_cons.mp m with e | e
    · rw [e]; exact of_decide_eq_true a
    · exact kitTo_ok b D e
def excAll (K : PySem.W.Frag) : List Addr → Bool
  | [] => true
  | D :: r => excB K D && excAll K r
theorem excAll_ok {K : PySem.W.Frag} : ∀ {l : List Addr}, excAll K l = true → ∀ D ∈ l, ExcC K D
  | [], _, D, m => by cases m
  | x :: r, h, D, m => by
    obtain ⟨a, b⟩ := Bool.and_eq_true_iff.mp h
    rcases List.mem_cons.mp m with e | e
    · rw [e]; exact excB_ok a
    · exact excAll_ok b D e
def fromB (K : PySem.W.Frag) (A : Addr) : Bool := decide (PySem.W.specialIn K (.ref A) "__getattribute__" = some (some (.builtin "type.__getattribute__"))) && (decide (PySem.W.typeIn K (.ref A) = some (.type "type")) && PySem.W.readsIn K A (.type "type"))
theorem fromB_ok {K : PySem.W.Frag} {A : Addr} (h : fromB K A = true) (fi : PySem.W.findCls K (.ref A) (.type "type") "__init__" = some (.val (.builtin "ValueError.__init__"))) : FromVE K A := by
  obtain ⟨a, h⟩ := Bool.and_eq_true_iff.mp h
  obtain ⟨b, c⟩ := Bool.and_eq_true_iff.mp h
  exact ⟨of_decide_eq_true a, of_decide_eq_true b, c, fi⟩
def ownB (K : PySem.W.Frag) (C fI : Addr) (f : Str) : Bool := decide (PySem.W.findIn K (.ref C) "__setattr__" = some (some (.builtin "object.__setattr__"))) && (decide (PySem.W.subIn K (.ref C) (.type "BaseException") = some true) && (decide (PySem.W.typeIn K (.ref C) = some (.type "type")) &&
  (PySem.W.keepIn K (.ref C) && (decide (PySem.W.typeIn K (.ref fI) = some (.type "function")) && (xfB K C && decide (PySem.W.findIn K (.ref C) f = some none))))))
theorem ownB_ok {K : PySem.W.Frag} {mg : Str → Option Value} {n f : Str} {C fI : Addr} (h : ownB K C fI f = true) (m : mg n = some (.ref C)) (ini : PySem.W.findIn K (.ref C) "__init__" = some (some (.ref fI)))
    (cls : ∃ nm q N bs bm sn sub ab col dd k0 k1 k2 k3 k5, K.lookup C = some (excClassObj nm q C N bs bm true sn sub ab col dd k0 k1 k2 k3 k5 "ValueError.__new__") ∧ PySem.HandSPX.refsVE bm = true) : OwnC K mg n f C fI := by
  obtain ⟨a, h⟩ := Bool.and_eq_true_iff.mp h
  obtain ⟨b, h⟩ := Bool.and_eq_true_iff.mp h
  obtain ⟨c, h⟩ := Bool.and_eq_true_iff.mp h
  obtain ⟨d, h⟩ := Bool.and_eq_true_iff.mp h
  obtain ⟨e, h⟩ := Bool.and_eq_true_iff.mp h
  obtain ⟨g, i⟩ := Bool.and_eq_true_iff.mp h
  exact ⟨m, ⟨cls, of_decide_eq_true a, of_decide_eq_true b, of_decide_eq_true c, d⟩, ini, of_decide_eq_true e, xfB_ok g, of_decide_eq_true i⟩

theorem b_init0 {K : PySem.W.Frag} {g : Addr} {fd : FuncData} (F : Fun K "__init__" "NoTask.__init__" sI0 g fd) : (∀ (s : Shared) (a u : Value), BindsTo s fd ⟨[a, u], []⟩ ((["self", "what"] : List Str).zip [a, u])) ∧ ∀ (s : Shared) (a u : Value), BindsTo s fd ⟨[a], [("what", u)]⟩ ((["self", "what"] : List Str).zip [a, u]) := by
  obtain ⟨k1, k2, k3, k4, k5, k6, k7, k8, k9, rfl, _⟩ := F.ex
  exact ⟨fun s a u => .of_eq rfl, fun s a u => .of_eq rfl⟩

theorem b_init1 {K : PySem.W.Frag} {g : Addr} {fd : FuncData} (F : Fun K "__init__" "Barred.__init__" sI1 g fd) : (∀ (s : Shared) (a u : Value), BindsTo s fd ⟨[a, u], []⟩ ((["self", "bar"] : List Str).zip [a, u])) ∧ ∀ (s : Shared) (a u : Value), BindsTo s fd ⟨[a], [("bar", u)]⟩ ((["self", "bar"] : List Str).zip [a, u]) := by
  obtain ⟨k1, k2, k3, k4, k5, k6, k7, k8, k9, rfl, _⟩ := F.ex
  exact ⟨fun s a u => .of_eq rfl, fun s a u => .of_eq rfl⟩

theorem b_init2 {K : PySem.W.Frag} {g : Addr} {fd : FuncData} (F : Fun K "__init__" "TooMany.__init__" sI2 g fd) : (∀ (s : Shared) (a u : Value), BindsTo s fd ⟨[a, u], []⟩ ((["self", "many"] : List Str).zip [a, u])) ∧ ∀ (s : Shared) (a u : Value), BindsTo s fd ⟨[a], [("many", u)]⟩ ((["self", "many"] : List Str).zip [a, u]) := by
  obtain ⟨k1, k2, k3, k4, k5, k6, k7, k8, k9, rfl, _⟩ := F.ex
  exact ⟨fun s a u => .of_eq rfl, fun s a u => .of_eq rfl⟩

theorem all_mk {l : PySem.W.OpenLaw} {w : World} {K : PySem.W.Frag} {h : Heap} {mg : Str → Option Value} {fa f1 f2 f3 f4 f5 i0 i1 i2 A0 c0 c1 c2 c3 c4 c5 c6 c7 c8 c9 t0 t1 t2 M0 M1 M2 : Addr} (X : K.In h) (G : h.Ns mainGlobals mg) (hfa : mg "law" = some (.ref fa))
    {od1 an1 od2 an2 od3 an3 od4 an4 od5 an5 odi0 ani0 odi1 ani1 odi2 ani2 : Option Addr} {sl1 sl2 sl3 sl4 sl5 sli0 sli1 sli2 : Array (Option Value)} {oc1 kV1 dc1 pm1 cd1 ct1 oc2 kV2 dc2 pm2 cd2 ct2 oc3 kV3 dc3 pm3 cd3 ct3 oc4 kV4 dc4 pm4 cd4 ct4 oc5 kV5 dc5 pm5 cd5 ct5 oci0 kVi0 dci0 pmi0 cdi0 cti0 oci1 kVi1 dci1 pmi1 cdi1 cti1 oci2 kVi2 dci2 pmi2 cdi2 cti2 : Value}
    {nm0 qn0 : Str} {bs0 sub0 : List Value} {sn0 : List Str} {ab0 : Bool} {col0 : Option Bool} {dd0 : Option Addr} {ka0 kb0 kc0 ke0 kg0 : Option Value}
    {nm1 qn1 : Str} {bs1 sub1 : List Value} {sn1 : List Str} {ab1 : Bool} {col1 : Option Bool} {dd1 : Option Addr} {ka1 kb1 kc1 ke1 kg1 : Option Value}
    {nm2 qn2 : Str} {bs2 sub2 : List Value} {sn2 : List Str} {ab2 : Bool} {col2 : Option Bool} {dd2 : Option Addr} {ka2 kb2 kc2 ke2 kg2 : Option Value}
    (aA : PySem.W.nsIn K mainGlobals "AloneError" = some (some (.ref A0)))
    (n0 : PySem.W.nsIn K mainGlobals "NoHand" = some (some (.ref c0)))
    (n1 : PySem.W.nsIn K mainGlobals "NoJoint" = some (some (.ref c1)))
    (n2 : PySem.W.nsIn K mainGlobals "NoRounds" = some (some (.ref c2)))
    (n3 : PySem.W.nsIn K mainGlobals "NoInputs" = some (some (.ref c3)))
    (n4 : PySem.W.nsIn K mainGlobals "NoWeaving" = some (some (.ref c4)))
    (n5 : PySem.W.nsIn K mainGlobals "NoKnown" = some (some (.ref c5)))
    (n6 : PySem.W.nsIn K mainGlobals "NoProtocol" = some (some (.ref c6)))
    (n7 : PySem.W.nsIn K mainGlobals "NoChoice" = some (some (.ref c7)))
    (n8 : PySem.W.nsIn K mainGlobals "NoMade" = some (some (.ref c8)))
    (n9 : PySem.W.nsIn K mainGlobals "NoText" = some (some (.ref c9)))
    (n10 : PySem.W.nsIn K mainGlobals "NoTask" = some (some (.ref t0)))
    (n11 : PySem.W.nsIn K mainGlobals "Barred" = some (some (.ref t1)))
    (n12 : PySem.W.nsIn K mainGlobals "TooMany" = some (some (.ref t2)))
    (q0 : PySem.W.excIn K c0 veMro "ValueError.__new__" = true) (kk0 : PySem.W.keepIn K (.ref c0) = true)
    (q1 : PySem.W.excIn K c1 veMro "ValueError.__new__" = true) (kk1 : PySem.W.keepIn K (.ref c1) = true)
    (q2 : PySem.W.excIn K c2 veMro "ValueError.__new__" = true) (kk2 : PySem.W.keepIn K (.ref c2) = true)
    (q3 : PySem.W.excIn K c3 veMro "ValueError.__new__" = true) (kk3 : PySem.W.keepIn K (.ref c3) = true)
    (q4 : PySem.W.excIn K c4 veMro "ValueError.__new__" = true) (kk4 : PySem.W.keepIn K (.ref c4) = true)
    (q5 : PySem.W.excIn K c5 veMro "ValueError.__new__" = true) (kk5 : PySem.W.keepIn K (.ref c5) = true)
    (q6 : PySem.W.excIn K c6 veMro "ValueError.__new__" = true) (kk6 : PySem.W.keepIn K (.ref c6) = true)
    (q7 : PySem.W.excIn K c7 veMro "ValueError.__new__" = true) (kk7 : PySem.W.keepIn K (.ref c7) = true)
    (q8 : PySem.W.excIn K c8 veMro "ValueError.__new__" = true) (kk8 : PySem.W.keepIn K (.ref c8) = true)
    (q9 : PySem.W.excIn K c9 veMro "ValueError.__new__" = true) (kk9 : PySem.W.keepIn K (.ref c9) = true)
    (ti0 : PySem.W.findIn K (.ref t0) "__init__" = some (some (.ref i0))) (li0 : K.lookup i0 = some ⟨oci0, odi0, .func (PySem.W.fnOf "__init__" "NoTask.__init__" (defArgs sI0) (defBody sI0) (defScope sI0) .none kVi0 dci0 pmi0 ani0 cdi0 cti0), sli0⟩) (ci0 : PySem.W.codeIn K cdi0 "NoTask.__init__" = true) (ki0 : PySem.W.keepIn K (.ref i0) = true)
    (x0 : K.lookup t0 = some (excClassObj nm0 qn0 t0 M0 bs0 (.ref A0 :: veMro) true sn0 sub0 ab0 col0 dd0 ka0 kb0 kc0 ke0 kg0 "ValueError.__new__")) (ow0 : ownB K t0 i0 "what" = true)
    (ti1 : PySem.W.findIn K (.ref t1) "__init__" = some (some (.ref i1))) (li1 : K.lookup i1 = some ⟨oci1, odi1, .func (PySem.W.fnOf "__init__" "Barred.__init__" (defArgs sI1) (defBody sI1) (defScope sI1) .none kVi1 dci1 pmi1 ani1 cdi1 cti1), sli1⟩) (ci1 : PySem.W.codeIn K cdi1 "Barred.__init__" = true) (ki1 : PySem.W.keepIn K (.ref i1) = true)
    (x1 : K.lookup t1 = some (excClassObj nm1 qn1 t1 M1 bs1 (.ref A0 :: veMro) true sn1 sub1 ab1 col1 dd1 ka1 kb1 kc1 ke1 kg1 "ValueError.__new__")) (ow1 : ownB K t1 i1 "bar" = true)
    (ti2 : PySem.W.findIn K (.ref t2) "__init__" = some (some (.ref i2))) (li2 : K.lookup i2 = some ⟨oci2, odi2, .func (PySem.W.fnOf "__init__" "TooMany.__init__" (defArgs sI2) (defBody sI2) (defScope sI2) .none kVi2 dci2 pmi2 ani2 cdi2 cti2), sli2⟩) (ci2 : PySem.W.codeIn K cdi2 "TooMany.__init__" = true) (ki2 : PySem.W.keepIn K (.ref i2) = true)
    (x2 : K.lookup t2 = some (excClassObj nm2 qn2 t2 M2 bs2 (.ref A0 :: veMro) true sn2 sub2 ab2 col2 dd2 ka2 kb2 kc2 ke2 kg2 "ValueError.__new__")) (ow2 : ownB K t2 i2 "many" = true)
    (fA : PySem.W.findCls K (.ref A0) (.type "type") "__init__" = some (.val (.builtin "ValueError.__init__"))) (gA : fromB K A0 = true)
    (w1 : excAll K [c0, c1, c2, c3, c4, c5, c6, c7, c8, c9, t0, t1, t2] = true) (w2 : kitRows K [c0, c1, c2, c3, c4, c5, c6, c7, c8, c9, t0, t1, t2] 0 [c0, c1, c2, c3, c4, c5, c6, c7, c8, c9, t0, t1, t2] = true) (w3 : kitTo K (.ref A0) [c0, c1, c2, c3, c4, c5, c6, c7, c8, c9, t0, t1, t2] = true) (w4 : kitTo K (.type "ValueError") [c0, c1, c2, c3, c4, c5, c6, c7, c8, c9, t0, t1, t2] = true)
    (a1 : PySem.W.nsIn K mainGlobals "_law_cell_at" = some (some (.ref f1))) (l1 : K.lookup f1 = some ⟨oc1, od1, .func (PySem.W.fnOf "_law_cell_at" "_law_cell_at" (defArgs sCell) (defBody sCell) (defScope sCell) .none kV1 dc1 pm1 an1 cd1 ct1), sl1⟩) (co1 : PySem.W.codeIn K cd1 "_law_cell_at" = true) (k1 : PySem.W.keepIn K (.ref f1) = true)
    (a2 : PySem.W.nsIn K mainGlobals "_law_digit" = some (some (.ref f2))) (l2 : K.lookup f2 = some ⟨oc2, od2, .func (PySem.W.fnOf "_law_digit" "_law_digit" (defArgs sDigit) (defBody sDigit) (defScope sDigit) .none kV2 dc2 pm2 an2 cd2 ct2), sl2⟩) (co2 : PySem.W.codeIn K cd2 "_law_digit" = true) (k2 : PySem.W.keepIn K (.ref f2) = true)
    (a3 : PySem.W.nsIn K mainGlobals "_law_made" = some (some (.ref f3))) (l3 : K.lookup f3 = some ⟨oc3, od3, .func (PySem.W.fnOf "_law_made" "_law_made" (defArgs sMade) (defBody sMade) (defScope sMade) .none kV3 dc3 pm3 an3 cd3 ct3), sl3⟩) (co3 : PySem.W.codeIn K cd3 "_law_made" = true) (k3 : PySem.W.keepIn K (.ref f3) = true)
    (a4 : PySem.W.nsIn K mainGlobals "_law_marks" = some (some (.ref f4))) (l4 : K.lookup f4 = some ⟨oc4, od4, .func (PySem.W.fnOf "_law_marks" "_law_marks" (defArgs sMarks) (defBody sMarks) (defScope sMarks) .none kV4 dc4 pm4 an4 cd4 ct4), sl4⟩) (co4 : PySem.W.codeIn K cd4 "_law_marks" = true) (k4 : PySem.W.keepIn K (.ref f4) = true)
    (a5 : PySem.W.nsIn K mainGlobals "law" = some (some (.ref f5))) (l5 : K.lookup f5 = some ⟨oc5, od5, .func (PySem.W.fnOf "law" "law" (defArgs sLaw) (defBody sLaw) (defScope sLaw) .none kV5 dc5 pm5 an5 cd5 ct5), sl5⟩) (co5 : PySem.W.codeIn K cd5 "law" = true) (k5 : PySem.W.keepIn K (.ref f5) = true)
    (z0 : PySem.W.nsIn K mainGlobals "isinstance" = some none)
    (z1 : PySem.W.nsIn K mainGlobals "int" = some none)
    (z2 : PySem.W.nsIn K mainGlobals "len" = some none)
    (z3 : PySem.W.nsIn K mainGlobals "range" = some none)
    (z4 : PySem.W.nsIn K mainGlobals "max" = some none)
    (z5 : PySem.W.nsIn K mainGlobals "min" = some none)
    (z6 : PySem.W.nsIn K mainGlobals "enumerate" = some none)
    (z7 : PySem.W.nsIn K mainGlobals "ValueError" = some none)
    : ∃ fd : FuncData, (∀ (s : Shared) (v : Value), BindsTo s fd ⟨[v], []⟩ [("_law_script", v)]) ∧ ∀ base : Heap, K.In base → base.Ns mainGlobals mg → FnOk l.prog w K mg base CX0 4 fa fd ["_law_script"] (spLaw K) := by
  have e := hfa.symm.trans (PySem.W.mg_of X G a5)
  cases e
  have F1 := fun_mk (st := sCell) l1 co1 k1
  have b1 := F1.binds (ps := ["_law_script", "_law_k"]) fun _ _ _ _ _ _ us hl => match us, hl with | [_, _], _ => rfl
  have F2 := fun_mk (st := sDigit) l2 co2 k2
  have b2 := F2.binds (ps := ["_law_state", "_law_base"]) fun _ _ _ _ _ _ us hl => match us, hl with | [_, _], _ => rfl
  have F3 := fun_mk (st := sMade) l3 co3 k3
  have b3 := F3.binds (ps := ["_law_word", "_law_thing"]) fun _ _ _ _ _ _ us hl => match us, hl with | [_, _], _ => rfl
  have F4 := fun_mk (st := sMarks) l4 co4 k4
  have b4 := F4.binds (ps := ["_law_one"]) fun _ _ _ _ _ _ us hl => match us, hl with | [_], _ => rfl
  have F5 := fun_mk (st := sLaw) l5 co5 k5
  have m := fun {n : Str} {v : Value} (e : PySem.W.nsIn K mainGlobals n = some (some v)) => PySem.W.mg_of X G e
  have T : Txt K mg := ⟨PySem.W.mg_none_of X G z0, PySem.W.mg_none_of X G z1, PySem.W.mg_none_of X G z2, PySem.W.mg_none_of X G z3, PySem.W.mg_none_of X G z4, PySem.W.mg_none_of X G z5, PySem.W.mg_none_of X G z6, PySem.W.mg_none_of X G z7⟩
  have Z : Cls13 K [c0, c1, c2, c3, c4, c5, c6, c7, c8, c9, t0, t1, t2] := ⟨excAll_ok w1, fun i j D E hD hE => by
    have r := kitRow_ok (kitRows_ok w2 hD) hE
    rw [Nat.zero_add, Nat.zero_add] at r
    exact r⟩
  have B := fromB_ok gA fA
  have O0 := ownB_ok (mg := mg) (n := "NoTask") ow0 (m n10) ti0 ⟨_, _, _, _, _, _, _, _, _, _, _, _, _, _, _, x0, rfl⟩
  have J0 := fun_mk (st := sI0) li0 ci0 ki0
  have O1 := ownB_ok (mg := mg) (n := "Barred") ow1 (m n11) ti1 ⟨_, _, _, _, _, _, _, _, _, _, _, _, _, _, _, x1, rfl⟩
  have J1 := fun_mk (st := sI1) li1 ci1 ki1
  have O2 := ownB_ok (mg := mg) (n := "TooMany") ow2 (m n12) ti2 ⟨_, _, _, _, _, _, _, _, _, _, _, _, _, _, _, x2, rfl⟩
  have J2 := fun_mk (st := sI2) li2 ci2 ki2
  refine ⟨PySem.W.fnOf "law" "law" (defArgs sLaw) (defBody sLaw) (defScope sLaw) .none kV5 dc5 pm5 an5 cd5 ct5, fun s v => .of_eq rfl, fun base _ _ => ?_⟩
  have D0 : OwnD l.prog w K mg base "NoTask" "what" t0 i0 _ := ⟨O0, ok_init0 J0 B (m aA) O0, (b_init0 J0).1, (b_init0 J0).2⟩
  have D1 : OwnD l.prog w K mg base "Barred" "bar" t1 i1 _ := ⟨O1, ok_init1 J1 B (m aA) O1, (b_init1 J1).1, (b_init1 J1).2⟩
  have D2 : OwnD l.prog w K mg base "TooMany" "many" t2 i2 _ := ⟨O2, ok_init2 J2 B (m aA) O2, (b_init2 J2).1, (b_init2 J2).2⟩
  have G3 := ok_made F3 ⟨m n0, q0, kk0⟩ ⟨m n1, q1, kk1⟩ ⟨m n2, q2, kk2⟩ ⟨m n3, q3, kk3⟩ ⟨m n4, q4, kk4⟩ ⟨m n5, q5, kk5⟩ ⟨m n6, q6, kk6⟩ ⟨m n7, q7, kk7⟩ ⟨m n8, q8, kk8⟩ ⟨m n9, q9, kk9⟩ D0 D1 D2
  have G4 := ok_marks (P := l.prog) (w := w) (base := base) F4 T Z (m n0) (m n1) (m n2) (m n3) (m n4) (m n5) (m n6) (m n7) (m n8) (m n9) (m n10) (m n11) (m n12)
  exact ok_law F5 T Z (m aA) (kitTo_ok w3) (kitTo_ok w4) ⟨ok_cell F1 T, b1, k1, m a1⟩ ⟨ok_digit F2 T, b2, k2, m a2⟩ ⟨G3, b3, k3, m a3⟩ ⟨G4, b4, k4, m a4⟩ D0 D1 D2
theorem walk {l : PySem.W.OpenLaw} {q : Program} {loose : List Str} {XP : (Str → Option Value) → Heap → Prop} {YP : World → Heap → Prop} {d : DefRec} {K : Params → PySem.W.Frag} (hn : l.most = some 63) (hdf : d.params.defaults = [])
    (hY : ∀ (w : World) (h : Heap), YP w h → (K w.params).In h)
    (F : ∀ (w : World) (mg : Str → Option Value) (fa : Addr) (h : Heap), (K w.params).In h → h.Ns mainGlobals mg → mg d.name = some (.ref fa) →
      ∃ fd : FuncData, (∀ (s : Shared) (u : Value), BindsTo s fd ⟨[u], []⟩ [("_law_script", u)]) ∧ ∀ base : Heap, (K w.params).In base → base.Ns mainGlobals mg → FnOk l.prog w (K w.params) mg base CX0 4 fa fd ["_law_script"] (spLaw (K w.params))) :
    PySem.W.WalkO q loose XP YP l.row.toRowW d [] (fun f vs => PySem.call f vs) :=
  L2.walk_of (n := 63) (k := 4) (x := "_law_script") (CX := fun _ => CX0) (sp := fun w => spLaw (K w.params)) hn (by decide) hdf ⟨rfl, by decide, by decide⟩ hY F (fun _ _ a ns hl _ hS => ⟨a, ns, rfl, hS, hl, fun _ => rfl⟩) fun _ _ _ _ _ z => z
end TA
open PySem PySem.W PyProof.Rows
set_option maxRecDepth 100000 in
set_option maxHeartbeats 0 in
theorem PySem.Challenge.cw_twoalone_k05_refusals_apart_holds : PySem.Challenge.rw_twoalone_k05_refusals_apart.Holds := by
  w_on; o_law; k_head; (case hw => w_witness2)
  k_fill
  refine TA.walk (l := PySem.Challenge.rw_twoalone_k05_refusals_apart) rfl rfl (fun w h Y => PySem.W.kIn_of Y) ?F
  case F =>
    intro w mg fa h KX G hmg
    refine' TA.all_mk KX G hmg ?aA ?n0 ?n1 ?n2 ?n3 ?n4 ?n5 ?n6 ?n7 ?n8 ?n9 ?n10 ?n11 ?n12 ?q0 ?kk0 ?q1 ?kk1 ?q2 ?kk2 ?q3 ?kk3 ?q4 ?kk4 ?q5 ?kk5 ?q6 ?kk6 ?q7 ?kk7 ?q8 ?kk8 ?q9 ?kk9 ?ti0 ?li0 ?ci0 ?ki0 ?x0 ?ow0 ?ti1 ?li1 ?ci1 ?ki1 ?x1 ?ow1 ?ti2 ?li2 ?ci2 ?ki2 ?x2 ?ow2 ?fA ?gA ?w1 ?w2 ?w3 ?w4 ?a1 ?l1 ?co1 ?k1 ?a2 ?l2 ?co2 ?k2 ?a3 ?l3 ?co3 ?k3 ?a4 ?l4 ?co4 ?k4 ?a5 ?l5 ?co5 ?k5 ?z0 ?z1 ?z2 ?z3 ?z4 ?z5 ?z6 ?z7
    (case aA => k_is); (case n0 => k_is); (case n1 => k_is); (case n2 => k_is); (case n3 => k_is); (case n4 => k_is); (case n5 => k_is); (case n6 => k_is); (case n7 => k_is); (case n8 => k_is); (case n9 => k_is); (case n10 => k_is); (case n11 => k_is); (case n12 => k_is); (case q0 => k_exc); (case kk0 => k_is); (case q1 => k_exc); (case kk1 => k_is); (case q2 => k_exc); (case kk2 => k_is); (case q3 => k_exc); (case kk3 => k_is); (case q4 => k_exc); (case kk4 => k_is); (case q5 => k_exc); (case kk5 => k_is); (case q6 => k_exc); (case kk6 => k_is); (case q7 => k_exc); (case kk7 => k_is); (case q8 => k_exc); (case kk8 => k_is); (case q9 => k_exc); (case kk9 => k_is); (case ti0 => k_is); (case li0 => k_is); (case ci0 => k_is); (case ki0 => k_is); (case x0 => k_is); (case ow0 => kernel_rfl); (case ti1 => k_is); (case li1 => k_is); (case ci1 => k_is); (case ki1 => k_is); (case x1 => k_is); (case ow1 => kernel_rfl); (case ti2 => k_is); (case li2 => k_is); (case ci2 => k_is); (case ki2 => k_is); (case x2 => k_is); (case ow2 => kernel_rfl); (case fA => k_is); (case gA => kernel_rfl); (case w1 => kernel_rfl); (case w2 => kernel_rfl); (case w3 => kernel_rfl); (case w4 => kernel_rfl); (case a1 => k_is); (case l1 => k_is); (case co1 => k_is); (case k1 => k_is); (case a2 => k_is); (case l2 => k_is); (case co2 => k_is); (case k2 => k_is); (case a3 => k_is); (case l3 => k_is); (case co3 => k_is); (case k3 => k_is); (case a4 => k_is); (case l4 => k_is); (case co4 => k_is); (case k4 => k_is); (case a5 => k_is); (case l5 => k_is); (case co5 => k_is); (case k5 => k_is); (case z0 => k_is); (case z1 => k_is); (case z2 => k_is); (case z3 => k_is); (case z4 => k_is); (case z5 => k_is); (case z6 => k_is); (case z7 => k_is)

