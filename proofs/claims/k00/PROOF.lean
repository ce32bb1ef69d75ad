import PyProof.Rows.All
import Wide.All
import OpenK.AllK
import Wide.FinOn
import HandS.ForMost
import HandS.Deep
import HandS.Wide
import HandS.Evl
import HandS.ForExc
import HandS.ExcInit
import HandS.ExcField
import HandS.ExcIs
import HandS.ExcOwn
import HandS.ExcValue
import KE.KExcIs
import KE.KEqNest
import PyProof.NeKinds
import PyProof.Rows.EqBoolInt
import HandS.Head0
import HandS.Head1
import HandS.Head2
import HandS.HeadEnd
import HandS.HeadHook1
import PySem.Challenge.RW_bindspan_k00_errors
set_option Elab.async false
set_option linter.all false
set_option maxRecDepth 100000
set_option maxHeartbeats 4000000
/-! Rules and words that hold for any program. -/
namespace Own
open PySem PySem.Spec PyProof.Rows L2
/-- xs[i], read for xs[i] += e -/
def rGetL : V → V → Hp → VK → Prop := fun o i H Q => ∃ (p : Addr) (xs : List V) (j : Nat) (v : V), o = .ref p ∧ i = .int (j : Int) ∧ H p = some (.lst xs) ∧ xs[j]? = some v ∧ Q v H
theorem pget_list {X : Cx} : PGet X rGetL := by
  intro pins s σ H o i ov iv Q I ro ri h
  obtain ⟨p, xs, j, v, rfl, rfl, hp, hv, q⟩ := h
  cases ro
  obtain ⟨t, rfl⟩ := ri
  obtain ⟨its, n, r, ho, hz⟩ := I.lst hp
  obtain ⟨w, ew, rw'⟩ := r.get hv
  have hn := line63
  have hl := r.length
  have hj : j < its.length := (List.getElem?_eq_some_iff.mp ew).1
  refine wpAny_getItem_list (items := its.toArray) (x := w) ⟨_, ho, rfl, _, rfl⟩ ?_ ?_ ?_ ?_
  · omega
  · omega
  · simpa using ew
  · exact ⟨v, H, I, rw', q⟩

theorem cx_K {CX : CXT} {P : Program} {w : World} {K : PySem.W.Frag} {mg : Str → Option Value} {base : Heap} {N : List Str} {q : Str} {sc : Scope} {f : Addr} {cd : Value} {A : Around} {outer : List Env} {s : Shared} {H : Hp} {E : XK} : (cxOf CX P w K mg base N q sc f cd A outer s H E).nox.K = K := rfl
/-- a read of a list that stands at p -/
theorem ixL_go {K : PySem.W.Frag} {p : Addr} {xs : List V} {i : Int} {v : V} {H : Hp} {Q : VK} (h : SqL K H p xs) (e : atI xs i = some v) (q : Q v H) : rIxL K (.ref p) (.int i) H Q := ⟨p, xs, i, v, rfl, rfl, h, e, q⟩
theorem ixM_go {K : PySem.W.Frag} {p : Addr} {xs : List V} {i : Int} {v : V} {H : Hp} {Q : VK} (h : H p = some (.lst xs)) (e : atI xs i = some v) (q : Q v H) : rIxL K (.ref p) (.int i) H Q := ⟨p, xs, i, v, rfl, rfl, .inl (.inl h), e, q⟩
theorem setL_go {p : Addr} {xs : List V} {i : Int} {v : V} {j : Nat} {H : Hp} {Q : Hp → Prop} (h : H p = some (.lst xs)) (e : ixN xs.length i = some j) (q : Q (upd H p (.lst (xs.set j v)))) : rSetL (.ref p) (.int i) v H Q := ⟨p, xs, i, j, rfl, rfl, h, e, q⟩
theorem getL_go {p : Addr} {xs : List V} {j : Nat} {v : V} {H : Hp} {Q : VK} (h : H p = some (.lst xs)) (e : xs[j]? = some v) (q : Q v H) : rGetL (.ref p) (.int (j : Int)) H Q := ⟨p, xs, j, v, rfl, rfl, h, e, q⟩
theorem call_intI {X : Cx} : CallR X (.type "int") (fun xs H Q => ∃ i, xs = [V.int i] ∧ Q (.int i) H) := fun pins s σ H vs us Q I r h => call_int1 pins s σ H vs us Q I r (Or.inl h)
theorem call_intB {X : Cx} : CallR X (.type "int") (fun xs H Q => ∃ k, xs = [V.bl k] ∧ Q (.int (if k then 1 else 0)) H) := fun pins s σ H vs us Q I r h => call_int1 pins s σ H vs us Q I r (Or.inr h)
theorem fmod_bd {x m : Int} (h : 0 < m) : 0 ≤ x.fmod m ∧ x.fmod m < m := by
  rw [Int.fmod_eq_emod_of_nonneg x (Int.le_of_lt h)]
  exact ⟨Int.emod_nonneg x (by omega), Int.emod_lt_of_pos x h⟩
end Own

set_option Elab.async false
set_option linter.all false
set_option maxRecDepth 100000
set_option maxHeartbeats 4000000
/-! Exceptions held as values: made, asked for a field, asked for their class. -/
namespace Own
open PySem PySem.Spec PyProof.Rows L2
section
variable {X : Cx} {C fI : Addr} {e o : Expr} {es : List Expr} {ta : TA} {te : TE} {p pos : Pos}
/-- C(e, ..) as a value -/
def tMkE (C : Addr) (sp : Sp) (ta : TA) : TE := fun σ H Q => ta σ H fun vs H1 => vs.length ≤ 1000 ∧ ∀ a, H1 a = none → sp (.ref a :: vs) (upd H1 a (exo a C none)) (fun v H2 => v = .non ∧ Q (.ref a) H2) fun _ _ _ => False
theorem pe_mkE {CX : CXT} {x : Str} {k : Nat} {fd : FuncData} {ps : List Str} {sp : Sp} (T : OexC X.K C) (iC : PySem.W.findIn X.K (.ref C) "__init__" = some (some (.ref fI))) (tI : PySem.W.typeIn X.K (.ref fI) = some (.type "function"))
    (F1 : FnOk X.prog X.w X.K X.mg X.base CX k fI fd ps sp) (hr : Room (k + 1) X.A) (hb : Binds X.K fd ps []) (hx : Passes CX X (fun _ _ _ => False)) (hg : Gl X x) (hm : X.mg x = some (.ref C)) (ha : PA X (e :: es) ta)
    (hdb : (x == ("__debug__" : Str)) = false := by decide) (he : starEach (e :: es) X.env = (false, eval e X.env) :: starEach es X.env := by rfl) (hpl : (backTo pos (starEach es X.env)).any (·.1) = false := by rfl) :
    PE X (.Call (.Name x p) (e :: es) [] pos) (tMkE C sp ta) := by
  refine ⟨fun pins s σ H Q I h => ?_⟩
  obtain ⟨nm, q, N, bs, bm, sn, sub, ab, col, dd, k0, k1, k2, k3, k5, hC, hbm⟩ := T.cls
  refine wpAny_Call_Name_kw (ld_glob I hg hm ?_ hdb)
  refine PySem.W.callWith_K (h₀ := X.base) I.ok.mod.kin T.kC (thn (ha.run pos pins s σ H _ I h) fun us s1 ⟨vs, H1, I1, r1, hz, q1⟩ => ⟨I1.kIn, ?_⟩) he hpl
  show wpAny _ _ (call (.ref C) us) _ _ _
  obtain ⟨hp, g, dr, tk, os⟩ := s1
  have hn : H1 (hp.objs.size + 1) = none := I1.hok.fresh (Nat.le_succ _)
  have hq := q1 (hp.objs.size + 1) hn
  have old : ∀ b o, hp.get? b = some o → ((hp.push (PySem.W.kdv_tup us)).push (PySem.HandSPX.excO C hp.objs.size)).get? b = some o := fun b o z => Heap.get?_push_of_some _ (Heap.get?_push_of_some _ z)
  have now : ((hp.push (PySem.W.kdv_tup us)).push (PySem.HandSPX.excO C hp.objs.size)).get? (hp.objs.size + 1) = some (PySem.HandSPX.excO C hp.objs.size) := by heap_get
  have I2 : Inv X pins σ (upd H1 (hp.objs.size + 1) (exo (hp.objs.size + 1) C none)) ⟨(hp.push (PySem.W.kdv_tup us)).push (PySem.HandSPX.excO C hp.objs.size), g, dr, tk, os⟩ := I1.laid (t' := tk) old (Nat.le_succ _) (exo_ok now)
  have r2 : Vals (V.ref (hp.objs.size + 1) :: vs) (Value.ref (hp.objs.size + 1) :: us) := .cons rfl r1
  have hl : (Value.ref (hp.objs.size + 1) :: us).length = ps.length := by
    have z := r2.length
    rw [F1.len _ _ _ _ hq] at z
    exact z.symm
  have hus : us.length ≤ sizeLine := by
    rw [← Paired.length r1, sizeLine_eq]
    omega
  have hbb := hb ⟨(hp.push (PySem.W.kdv_tup us)).push (PySem.HandSPX.excO C hp.objs.size), g, dr, tk, os⟩ (Value.ref (hp.objs.size + 1) :: us) I2.kIn (by simpa using hl)
  rw [List.append_nil] at hbb
  refine wpAny_call (PySem.HandSPX.call_own F.excBase_ValueError (fun Y => PySem.HandSPX.refsVE_contains Y bm hbm) (I1.kIn _ _ hC) (PySem.W.looks_findIn I1.kIn iC) (fun self => PySem.W.bind_fn I1.kIn self tI) hus
    (codeAny_mono (F1.run _ X.stack _ _ ⟨Value.ref (hp.objs.size + 1) :: us, []⟩ (Value.ref (hp.objs.size + 1) :: us) _ _ (fun _ _ _ => False) (hr.make C us []) (I2.env0.make C us []) hbb r2 hq) fun r s' hq' => ?_))
  cases r with
  | error er => exact hx pins σ _ _ er s' I2 hq'
  | ok fl =>
    cases fl with
    | ret u =>
      obtain ⟨v, H2, I3, rv, ev, q2⟩ := I2.after hq'
      subst ev
      exact ⟨rv, ⟨V.ref (hp.objs.size + 1), H2, I3, rfl, q2⟩⟩
    | next => exact False.elim hq'
    | brk => exact False.elim hq'
    | cont => exact False.elim hq'
/-- C(), no __init__ of its own -/
def tMkE0 (C : Addr) : TE := fun _ H Q => ∀ a, H a = none → Q (.ref a) (upd H a (exo a C none))
theorem pe_mkE0 {bmB : List Value} {B newId initId : String} {x : Str} (F : ExcBaseFacts B newId initId bmB) (q : PySem.W.excIn X.K C bmB newId = true) (gC : X.mg x = some (.ref C)) (kC : PySem.W.keepIn X.K (.ref C) = true) (hg : Gl X x)
    (hdb : (x == ("__debug__" : Str)) = false := by decide) : PE X (.Call (.Name x p) [] [] pos) (tMkE0 C) := by
  refine ⟨fun pins s σ H Q I h => ?_⟩
  refine wpAny_Call_Name_kw (ld_glob I hg gC ?_ hdb)
  refine PySem.W.callWith_K0 I.kIn kC ?_
  obtain ⟨bm, N, nm, qn, bs, hdct, sn, sub, ab, col, dd, k0, k1, k2, k3, k5, mN, hC, hN, hni, T⟩ := exc_obj I.kIn q
  obtain ⟨hp, g, d, t, os⟩ := s
  refine wpAny_call_exc_subT F T hC hN hni (fun h' a hm => ?_) (by show 0 ≤ sizeLine; exact Nat.zero_le _)
  have hn : H a = none := I.hok.gone hm.new
  obtain ⟨t, ht, _, _⟩ := hm.there
  exact ⟨.ref a, upd H a (exo a C none), I.laidN (t' := _) hm.keeps hm.new hn (exo_ok ht), rfl, h a hn⟩
/-- o.f, o an exception at a with its dict at dd -/
def tExf (K : PySem.W.Frag) (f : Str) (te : TE) : TE := fun σ H Q => te σ H fun x H1 => ∃ (a C dd : Addr) (fs : List (Str × V)) (v : V), x = .ref a ∧ H1 a = some (exo a C (some dd)) ∧ H1 dd = some (exd dd fs) ∧ XfC K C ∧ PySem.W.findIn K (.ref C) f = some none ∧ fs.lookup f = some v ∧ Q v H1
theorem pe_exf {f : Str} (he : PE X e te) (hb : attributeBase e f X.env (eval e X.env) = eval e X.env := by rfl) : PE X (.Attribute e f pos) (tExf X.K f te) := by
  refine ⟨fun pins s σ H Q I h => ?_⟩
  refine attr_of hb (thn (he.run pins s σ H _ I h) fun u s1 hh => ?_)
  obtain ⟨x, H1, I1, rx, a, C, dd, fs, v, ex, ea, ed, T, hno, l, q⟩ := hh
  subst ex
  obtain rfl : u = Value.ref a := rx
  obtain ⟨t1, ho⟩ := exo_at I1.hok ea
  obtain ⟨mA, hns, hr⟩ := exd_at I1.hok ed
  obtain ⟨od, hod, hl⟩ := lookIn_ns hns
  obtain ⟨w, hu, ru⟩ := RelO.some_of (v := v) (o := mA f) (by rw [← l]; exact hr f)
  have J : PySem.W.InstAt s1.heap a _ C (some od) := ⟨ho, rfl, rfl, hod⟩
  exact HandSPX.exc_get I1.kIn J T.ga T.gg T.exC (PySem.W.findObj_own T.hdC hno rfl (by rw [hl, hu])) (handed_of ru) ⟨v, H1, I1.tok _, ru, q⟩
/-- an exception stands at a: of the class at D, with the fields fs -/
def ExAt (H : Hp) (a D : Addr) (fs : List (Str × V)) : Prop := (H a = some (exo a D none) ∧ fs = []) ∨ ∃ dd, H a = some (exo a D (some dd)) ∧ H dd = some (exd dd fs)
/-- isinstance(e, c), e an exception -/
def rIsV (K : PySem.W.Frag) : List V → Hp → VK → Prop := fun xs H Q => ∃ (a D : Addr) (fs : List (Str × V)) (c : V) (cv : Value) (b : Bool), xs = [.ref a, c] ∧ ExAt H a D fs ∧ ExcC K D ∧ (∀ u, RelV c u → u = cv) ∧ PySem.W.kitOne K (.ref D) cv = some b ∧ Q (.bl b) H
theorem call_isV : CallR X (.builtin "isinstance") (rIsV X.K) := by
  intro pins s σ H xs us Q I r h
  obtain ⟨a, D, fs, c, cv, b, rfl, ha, C, hcv, e, q⟩ := h
  cases r with
  | cons rx rr =>
    cases rr with
    | cons rt rr =>
      cases rr
      cases rx
      have ec := hcv _ rt
      subst ec
      have cl : (PySem.W.clsIn X.K D).isSome = true := by
        obtain ⟨cd, hc, _⟩ := PySem.W.any_some C.hd
        rw [hc]; rfl
      have J : ∃ ox od, PySem.W.InstAt s.heap a ox D od := by
        rcases ha with ⟨ha, _⟩ | ⟨dd, ha, hd⟩
        · obtain ⟨t1, ho⟩ := exo_at I.hok ha
          exact ⟨_, none, ⟨ho, rfl, rfl, trivial⟩⟩
        · obtain ⟨t1, ho⟩ := exo_at I.hok ha
          obtain ⟨mA, hns, _⟩ := exd_at I.hok hd
          obtain ⟨od, hod, _⟩ := lookIn_ns hns
          exact ⟨_, some od, ⟨ho, rfl, rfl, hod⟩⟩
      obtain ⟨ox, od, J⟩ := J
      exact PySem.W.kia_one (PySem.W.kitx_exc cl C.hg C.hk C.hs C.ha C.hn C.ht C.hm) I.kIn J e (fun z => nomatch z) fun tk => ⟨.bl b, H, I.kept (t' := tk) fun _ _ z => z, rfl, q⟩
theorem rel_ref {C : Addr} : ∀ u, RelV (.ref C) u → u = Value.ref C := fun _ r => r
theorem rel_ty {n : String} : ∀ u, RelV (.ty n) u → u = Value.type n := fun _ r => r
end
end Own

set_option Elab.async false
set_option linter.all false
set_option maxRecDepth 100000
set_option maxHeartbeats 4000000
/-! What the written part says of an own exception class, as one truth value. -/
namespace Own
open PySem PySem.Spec PyProof.Rows L2
def exCls (K : PySem.W.Frag) (C : Addr) : Bool := match K.lookup C with
  | some ⟨.type "type", _, .cls cd, sl⟩ => (match cd.mro, sl.toList with
    | .ref C' :: bm, [_, _, _, _, some (.builtin n), _] => C' == C && (n == "ValueError.__new__" && (!cd.hasDel && (cd.hasDict && PySem.HandSPX.refsVE bm)))
    | _, _ => false)
  | _ => false
theorem exCls_ok {K : PySem.W.Frag} {C : Addr} (q : exCls K C = true) : ∃ nm q N bs bm sn sub ab col dd k0 k1 k2 k3 k5, K.lookup C = some (excClassObj nm q C N bs bm true sn sub ab col dd k0 k1 k2 k3 k5 "ValueError.__new__") ∧ PySem.HandSPX.refsVE bm = true := by
  unfold exCls at q
  split at q
  · rename_i dd cd sl ho
    split at q
    · rename_i C' bm k0 k1 k2 k3 n k5 hm hs
      simp only [Bool.and_eq_true, beq_iff_eq, Bool.not_eq_true'] at q
      obtain ⟨rfl, rfl, hdel, hdc, hr⟩ := q
      obtain ⟨nm, bs, mro, ns, qn, hd, sn, sub, ab, col, del⟩ := cd
      dsimp only at hm hdel hdc
      subst hm hdel hdc
      have hsl : sl = #[k0, k1, k2, k3, some (.builtin "ValueError.__new__"), k5] := by
        obtain ⟨l⟩ := sl
        simp only at hs
        rw [hs]
      subst hsl
      exact ⟨nm, qn, ns, bs, bm, sn, sub, ab, col, dd, k0, k1, k2, k3, k5, ho, hr⟩
    · cases q
  · cases q
def exB (K : PySem.W.Frag) (C : Addr) : Bool :=
  exCls K C && (decide (PySem.W.findIn K (.ref C) "__setattr__" = some (some (.builtin "object.__setattr__"))) && (decide (PySem.W.subIn K (.ref C) (.type "BaseException") = some true) && (decide (PySem.W.typeIn K (.ref C) = some (.type "type")) &&
  (PySem.W.keepIn K (.ref C) && (decide (PySem.W.findIn K (.ref C) "__getattribute__" = some (some (.builtin "BaseException.__getattribute__"))) && (decide (PySem.W.findIn K (.ref C) "__getattr__" = some none) && (PySem.W.hasDictIn K C &&
  (decide (PySem.W.findIn K (.ref C) "__class__" = some (some (.builtin "object.__class__"))) && decide (PySem.W.mroIn K C (.type "object") = some true)))))))))
/-- what any own exception class needs of the built-in ones -/
def exG (K : PySem.W.Frag) : Bool := decide (PySem.W.specialIn K (.builtin "object.__class__") "__get__" = some (some (.builtin "getset_descriptor.__get__"))) && decide (PySem.W.takesIn K (.builtin "object.__class__") = some true)
structure ExK (K : PySem.W.Frag) (C : Addr) : Prop where
  ox : OexC K C
  xf : XfC K C
  ec : ExcC K C
theorem exK_of {K : PySem.W.Frag} {C : Addr} (g : exG K = true) (q : exB K C = true) : ExK K C := by
  simp only [exB, exG, Bool.and_eq_true, decide_eq_true_eq] at q g
  obtain ⟨a1, a2, a3, a4, a5, a6, a7, a8, a9, a10⟩ := q
  exact ⟨⟨exCls_ok a1, a2, a3, a4, a5⟩, ⟨a6, a7, a3, a8⟩, ⟨a6, a7, a3, a8, a9, g.1, g.2, a10⟩⟩
/-- its __init__ at fi, its fields' names free in the class -/
def exI (K : PySem.W.Frag) (C fi : Addr) (fs : List Str) : Bool := decide (PySem.W.findIn K (.ref C) "__init__" = some (some (.ref fi))) && (decide (PySem.W.typeIn K (.ref fi) = some (.type "function")) && fs.all fun f => decide (PySem.W.findIn K (.ref C) f = some none))
structure ExI (K : PySem.W.Frag) (C fi : Addr) (fs : List Str) : Prop where
  ini : PySem.W.findIn K (.ref C) "__init__" = some (some (.ref fi))
  ty : PySem.W.typeIn K (.ref fi) = some (.type "function")
  no : ∀ f ∈ fs, PySem.W.findIn K (.ref C) f = some none
theorem exI_of {K : PySem.W.Frag} {C fi : Addr} {fs : List Str} (q : exI K C fi fs = true) : ExI K C fi fs := by
  simp only [exI, Bool.and_eq_true, decide_eq_true_eq, List.all_eq_true] at q
  exact ⟨q.1, q.2.1, q.2.2⟩
/-- what an __init__ promises that stores its one parameter, its two -/
def spE1 (C : Addr) (f : Str) : Sp := fun vs H Q _ => ∃ (a : Addr) (v : V), vs = [.ref a, v] ∧ H a = some (exo a C none) ∧ ∀ dx, H dx = none → dx ≠ a → Q .non (upd (upd H dx (exd dx [(f, v)])) a (exo a C (some dx)))
def spE2 (C : Addr) (f g : Str) : Sp := fun vs H Q _ => ∃ (a : Addr) (v u : V), vs = [.ref a, v, u] ∧ H a = some (exo a C none) ∧ ∀ dx, H dx = none → dx ≠ a → Q .non (upd (upd (upd H dx (exd dx [(f, v)])) a (exo a C (some dx))) dx (exd dx [(g, u), (f, v)]))
end Own

set_option Elab.async false
set_option linter.all false
set_option maxRecDepth 100000
set_option maxHeartbeats 4000000
/-! == and != of values that are built alike, empty dicts and shared objects within. -/
namespace Own
open PySem PySem.Spec PyProof.Rows L2
def plainV : V → Bool
  | .flt _ => false
  | .byt _ => false
  | _ => true
inductive Alike (K : PySem.W.Frag) (H : Hp) : Nat → V → V → Prop
  | same {n : Nat} {v : V} : plainV v = true → Alike K H n v v
  | lst {n : Nat} {p q : Addr} {xs ys : List V} : SqL K H p xs → SqL K H q ys → xs.length = ys.length → (∀ (i : Nat) x y, xs[i]? = some x → ys[i]? = some y → Alike K H n x y) → Alike K H (n + 1) (.ref p) (.ref q)
  | tup {n : Nat} {p q : Addr} {xs ys : List V} : SqT K H p xs → SqT K H q ys → xs.length = ys.length → (∀ (i : Nat) x y, xs[i]? = some x → ys[i]? = some y → Alike K H n x y) → Alike K H (n + 1) (.ref p) (.ref q)
  | emp {n : Nat} {p q : Addr} : H p = some (.dK []) → H q = some (.dK []) → Alike K H (n + 1) (.ref p) (.ref q)
theorem emp_of {h : Heap} {P : Program} {w : World} {H : Hp} {a : Addr} (ok : HOk P w H h) (e : H a = some (.dK [])) : (a == sysModules) = false ∧ ∀ (P' : Program) (w' : World), h.DictOf (intKind P' w') a [] := by
  obtain ⟨_, hs, vs, kv, o, es, ep, e1, e2, e3, e4, e5⟩ := ok a _ e
  cases kv
  exact ⟨hs, fun P' w' => by
    have hes : es.toList = [] := by
      cases hl : es.toList with
      | nil => rfl
      | cons y ys =>
        rw [hl] at e5
        exact absurd e5.1 (by intro z; cases z)
    have he : es = #[] := by
      cases es
      simp at hes
      rw [hes]
    subst he
    exact ⟨o, #[], ep, e1, e2, e3, (fun _ z => by simp at z), .nil, List.nodup_nil⟩⟩
section
variable {X : Cx} {pins : List (Addr × Obj)} {σ : L2.St} {H : Hp} {s : Shared}
theorem Alike.run (I : Inv X pins σ H s) : ∀ (n : Nat) (A : Around), A.units + n < cLine → ∀ (x y : V) (v u : Value), Alike X.K H n x y → RelV x v → RelV y u → SeqAt.EqAt A s v u true := by
  intro n
  induction n with
  | zero =>
    intro A hu x y v u a rx ry
    cases a with
    | same hp =>
      cases x with
      | non => cases rx; cases ry; exact .same _
      | bl b => cases rx; cases ry; exact .same _
      | int i => obtain ⟨t, rfl⟩ := rx; obtain ⟨t', rfl⟩ := ry; simpa using SeqAt.EqAt.int_int (A := A) (s := s) i t i t'
      | str i => obtain ⟨t, rfl⟩ := rx; obtain ⟨t', rfl⟩ := ry; simpa using SeqAt.EqAt.str_str (A := A) (s := s) i t i t'
      | byt b => cases hp
      | flt b => cases hp
      | ref a => cases rx; cases ry; exact .same _
      | ty m => cases rx; cases ry; exact .same _
  | succ n ih =>
    intro A hu x y v u a rx ry
    have items : ∀ (xs ys : List V) (its its2 : List Value), Vals xs its → Vals ys its2 → xs.length = ys.length → (∀ (i : Nat) x y, xs[i]? = some x → ys[i]? = some y → Alike X.K H n x y) →
        its.toArray.size = its2.toArray.size ∧ ∀ j (h1 : j < its.toArray.size) (h2 : j < its2.toArray.size), SeqAt.EqAt A.in1 s its.toArray[j] its2.toArray[j] ((fun _ => true) j) := by
      intro xs ys its its2 r1 r2 hl hi
      have l1 := r1.length
      have l2 := r2.length
      refine ⟨by simp; omega, fun j h1 h2 => ?_⟩
      have j1 : j < xs.length := by simp at h1; omega
      have j2 : j < ys.length := by omega
      obtain ⟨w1, e1, g1⟩ := r1.get (List.getElem?_eq_getElem j1)
      obtain ⟨w2, e2, g2⟩ := r2.get (List.getElem?_eq_getElem j2)
      have z1 : its.toArray[j] = w1 := by
        rw [List.getElem?_eq_getElem (by simpa using h1)] at e1
        simpa using Option.some.inj e1
      have z2 : its2.toArray[j] = w2 := by
        rw [List.getElem?_eq_getElem (by simpa using h2)] at e2
        simpa using Option.some.inj e2
      rw [z1, z2]
      exact ih A.in1 (by show A.units + 1 + n < cLine; omega) _ _ _ _ (hi j _ _ (List.getElem?_eq_getElem j1) (List.getElem?_eq_getElem j2)) g1 g2
    cases a with
    | same hp =>
      cases x with
      | non => cases rx; cases ry; exact .same _
      | bl b => cases rx; cases ry; exact .same _
      | int i => obtain ⟨t, rfl⟩ := rx; obtain ⟨t', rfl⟩ := ry; simpa using SeqAt.EqAt.int_int (A := A) (s := s) i t i t'
      | str i => obtain ⟨t, rfl⟩ := rx; obtain ⟨t', rfl⟩ := ry; simpa using SeqAt.EqAt.str_str (A := A) (s := s) i t i t'
      | byt b => cases hp
      | flt b => cases hp
      | ref a => cases rx; cases ry; exact .same _
      | ty m => cases rx; cases ry; exact .same _
    | lst h1 h2 hl hi =>
      rename_i p q xs ys
      cases rx; cases ry
      by_cases e : p = q
      · subst e; exact .same _
      obtain ⟨its, r1, ⟨o1, n1, ho1, hc1, _, hd1⟩, _⟩ := I.list h1
      obtain ⟨its2, r2, ⟨o2, n2, ho2, hc2, _, hd2⟩, _⟩ := I.list h2
      obtain ⟨hz, he⟩ := items xs ys its its2 r1 r2 hl hi
      have z := SeqAt.RcAt.lists (A := A) (s := s) (l := p) (b := q) (items := its.toArray) (items2 := its2.toArray) (e := fun _ => true) ⟨o1, ho1, hc1, _, hd1⟩ ⟨o2, ho2, hc2, _, hd2⟩ hz (by omega) he
      have t : (List.range its.toArray.size).all (fun _ => true) = true := by simp
      rw [t] at z
      exact .of_refs e z
    | tup h1 h2 hl hi =>
      rename_i p q xs ys
      cases rx; cases ry
      by_cases e : p = q
      · subst e; exact .same _
      obtain ⟨its, r1, ⟨o1, ho1, hc1, n1, hd1⟩, _⟩ := I.tuple h1
      obtain ⟨its2, r2, ⟨o2, ho2, hc2, n2, hd2⟩, _⟩ := I.tuple h2
      obtain ⟨hz, he⟩ := items xs ys its its2 r1 r2 hl hi
      have z := SeqAt.RcAt.tuples (A := A) (s := s) (l := p) (b := q) (items := its.toArray) (items2 := its2.toArray) (e := fun _ => true) ⟨o1, ho1, hc1, _, hd1⟩ ⟨o2, ho2, hc2, _, hd2⟩ (by omega) he
      have t : ((List.range (min its.toArray.size its2.toArray.size)).all (fun _ => true) && its.toArray.size == its2.toArray.size) = true := by simp at hz ⊢; exact hz
      rw [t] at z
      exact .of_refs e z
    | emp h1 h2 =>
      rename_i p q
      cases rx; cases ry
      by_cases e : p = q
      · subst e; exact .same _
      obtain ⟨s1, d1⟩ := emp_of I.hok h1
      obtain ⟨s2, d2⟩ := emp_of I.hok h2
      intro P' w'
      have t : PySem.W.EqTree P' w' s (n + 1) (.ref p) (.ref q) (([] : List (Int × Value)).length == ([] : List (Int × Value)).length && ([] : List (Int × Value)).all fun k => (valueAt ([] : List (Int × Value)) k.1).isSome && (fun _ => true) k.1) :=
        .dicts (e := fun _ => true) e s1 s2 (d1 P' w') (d2 P' w') (fun k v y hm _ => by cases hm)
      exact t.at A hu
/-- xs == ys, xs != ys for two lists built alike -/
def rEqA (K : PySem.W.Frag) (r : Bool) : R2 := fun x y H Q => ∃ (n : Nat) (p q : Addr) (xs ys : List V), n ≤ 60 ∧ x = .ref p ∧ y = .ref q ∧ SqL K H p xs ∧ SqL K H q ys ∧ xs.length = ys.length ∧ (∀ (i : Nat) x y, xs[i]? = some x → ys[i]? = some y → Alike K H n x y) ∧ Q (.bl r) H
theorem op_neA (hu : X.A.units + 64 < cLine) : OpR X (compareOp .NotEq) (rEqA X.K false) := by
  intro pins s σ H x y v u Q I rx ry h
  obtain ⟨n, p, q, xs, ys, hn, rfl, rfl, h1, h2, hl, hi, k⟩ := h
  cases rx; cases ry
  obtain ⟨its, r1, ⟨o1, n1, ho1, hc1, _, hd1⟩, _⟩ := I.list h1
  obtain ⟨its2, r2, ⟨o2, n2, ho2, hc2, _, hd2⟩, _⟩ := I.list h2
  have l1 := r1.length
  have l2 := r2.length
  have hz : its.toArray.size = its2.toArray.size := by simp; omega
  have z := SeqAt.RcNeAt.lists (A := X.A) (s := s) (l := p) (b := q) (items := its.toArray) (items2 := its2.toArray) (e := fun _ => true) ⟨o1, ho1, hc1, _, hd1⟩ ⟨o2, ho2, hc2, _, hd2⟩ hz (by omega) (fun j h1 h2 => by
    have j1 : j < xs.length := by simp at h1; omega
    have j2 : j < ys.length := by omega
    obtain ⟨w1, e1, g1⟩ := r1.get (List.getElem?_eq_getElem j1)
    obtain ⟨w2, e2, g2⟩ := r2.get (List.getElem?_eq_getElem j2)
    have z1 : its.toArray[j] = w1 := by
      rw [List.getElem?_eq_getElem (by simpa using h1)] at e1
      simpa using Option.some.inj e1
    have z2 : its2.toArray[j] = w2 := by
      rw [List.getElem?_eq_getElem (by simpa using h2)] at e2
      simpa using Option.some.inj e2
    rw [z1, z2]
    exact Alike.run I n X.A.in1 (by show X.A.units + 1 + n < cLine; omega) _ _ _ _ (hi j _ _ (List.getElem?_eq_getElem j1) (List.getElem?_eq_getElem j2)) g1 g2)
  have t : (List.range its.toArray.size).all (fun _ => true) = true := by simp
  rw [t] at z
  exact PySem.EqBoolInt.of_rcne z ⟨.bl false, H, I, rfl, k⟩
end
end Own

set_option Elab.async false
set_option linter.all false
set_option maxRecDepth 100000
set_option maxHeartbeats 4000000
/-! Where the text's defs and classes stand; the tape that every law draws from. -/
namespace Own
open PySem PySem.Spec PyProof.Rows L2
/-- a def of the top -/
structure DfT (K : PySem.W.Frag) (mg : Str → Option Value) (x : Str) (st : Stmt) (ps : List Str) where
  a : Addr
  d : FuncData
  F : Fun K x x st a d
  g : mg x = some (.ref a)
  b : Binds K d ps []
/-- an own exception class with an __init__ -/
structure ClT (K : PySem.W.Frag) (mg : Str → Option Value) (x q : Str) (st : Stmt) (ps fs : List Str) where
  C : Addr
  f : Addr
  d : FuncData
  m : mg x = some (.ref C)
  e : ExK K C
  n : ExI K C f fs
  F : Fun K "__init__" q st f d
  b : Binds K d ps []
/-- one without -/
structure Cl0 (K : PySem.W.Frag) (mg : Str → Option Value) (x : Str) where
  C : Addr
  m : mg x = some (.ref C)
  e : ExK K C
  x : PySem.W.excIn K C [.type "ValueError", .type "Exception", .type "BaseException", .type "object"] "ValueError.__new__" = true
theorem call_lenL {X : Cx} : CallR X (.builtin "len") (fun xs H Q => ∃ p ys, xs = [V.ref p] ∧ SqL X.K H p ys ∧ Q (.int ys.length) H) := fun pins s σ H vs us Q I r ⟨p, ys, e, h, q⟩ => call_len_seq pins s σ H vs us Q I r ⟨p, ys, e, .inl h, q⟩
theorem call_lenT {X : Cx} : CallR X (.builtin "len") (fun xs H Q => ∃ p ys, xs = [V.ref p] ∧ SqT X.K H p ys ∧ Q (.int ys.length) H) := fun pins s σ H vs us Q I r ⟨p, ys, e, h, q⟩ => call_len_seq pins s σ H vs us Q I r ⟨p, ys, e, .inr h, q⟩
/-- a tape: the cell, how often it was drawn from, whether the cell is of common size, its number; n more draws may come -/
structure TapeOk (n : Nat) (c m f k : Int) : Prop where
  small : f = 0 ∨ (f = 1 ∧ 0 ≤ c ∧ c < 10 ^ 18)
  lo : 0 ≤ m
  hi : m + n ≤ 1000000000
  klo : 0 ≤ k
  khi : k ≤ 1000000
def Tape (H : Hp) (t : Addr) (n : Nat) : Prop := ∃ c m f k, H t = some (.lst [.int c, .int m, .int f, .int k]) ∧ TapeOk n c m f k
theorem Tape.mono {H : Hp} {t : Addr} {n m : Nat} (h : Tape H t n) (le : m ≤ n) : Tape H t m := by
  obtain ⟨c, j, f, k, e, o⟩ := h
  exact ⟨c, j, f, k, e, ⟨o.small, o.lo, by have := o.hi; omega, o.klo, o.khi⟩⟩
/-- all but t stays -/
def ExT (t : Addr) (H H' : Hp) : Prop := ∀ b o, b ≠ t → H b = some o → H' b = some o
theorem ExT.refl (t : Addr) (H : Hp) : ExT t H H := fun _ _ _ e => e
theorem ExT.trans {t : Addr} {H H1 H2 : Hp} (a : ExT t H H1) (b : ExT t H1 H2) : ExT t H H2 := fun c o n e => b c o n (a c o n e)
theorem Same.exT {t : Addr} {H H' : Hp} (a : Same H H') : ExT t H H' := fun c o _ e => a c o e
theorem same_new {H : Hp} {p : Addr} {o : HO} (h : H p = none) : Same H (upd H p o) := fun b x e => by
  rw [upd_ne (ne_of_none e h)]
  exact e
theorem scal_ii {a b : Int} : scal (.int a) (.int b) = true := rfl
theorem scal_ss {a b : Str} : scal (.str a) (.str b) = true := rfl
theorem scal_bb {a b : Bool} : scal (.bl a) (.bl b) = true := rfl
theorem scal_is {a : Int} {b : Str} : scal (.int a) (.str b) = true := rfl
theorem scal_si {a : Str} {b : Int} : scal (.str a) (.int b) = true := rfl
theorem scal_nn : scal .non .non = true := rfl
/-- a new list, tuple, dict -/
def NewL (xs : List V) (H : Hp) (Q : VK) : Prop := xs.length ≤ sizeLine ∧ ∀ p, H p = none → Q (.ref p) (upd H p (.lst xs))
def NewT (xs : List V) (H : Hp) (Q : VK) : Prop := xs.length ≤ sizeLine ∧ ∀ p, H p = none → Q (.ref p) (upd H p (.tup xs))
def NewD (H : Hp) (Q : VK) : Prop := ∀ p, H p = none → Q (.ref p) (upd H p (.dK []))
theorem tLst_eq {t : TA} : tLst t = fun σ H Q => t σ H fun xs H1 => NewL xs H1 Q := rfl
theorem tTup_eq {t : TA} : tTup t = fun σ H Q => t σ H fun xs H1 => NewT xs H1 Q := rfl
theorem tDNewK_eq : tDNewK = fun _ H Q => NewD H Q := rfl
theorem newL_go {xs : List V} {H : Hp} {Q : VK} (k : ∀ p H', H p = none → Same H H' → H' p = some (.lst xs) → Q (.ref p) H') (hz : xs.length ≤ 1000000 := by (simp only [List.length_cons, List.length_nil, List.length_append, List.length_map]; omega)) : NewL xs H Q := ⟨Nat.le_trans hz (by decide), fun p hp => k p _ hp (same_new hp) upd_same⟩
theorem newT_go {xs : List V} {H : Hp} {Q : VK} (k : ∀ p H', H p = none → Same H H' → H' p = some (.tup xs) → Q (.ref p) H') (hz : xs.length ≤ 1000000 := by (simp only [List.length_cons, List.length_nil, List.length_append, List.length_map]; omega)) : NewT xs H Q := ⟨Nat.le_trans hz (by decide), fun p hp => k p _ hp (same_new hp) upd_same⟩
theorem newD_go {H : Hp} {Q : VK} (k : ∀ p H', H p = none → Same H H' → H' p = some (.dK []) → Q (.ref p) H') : NewD H Q := fun p hp => k p _ hp (same_new hp) upd_same
theorem cat_go {l b : Addr} {xs zs : List V} {H : Hp} {Q : VK} (h1 : H l = some (.lst xs)) (h2 : H b = some (.lst zs)) (k : ∀ p H', H p = none → Same H H' → H' p = some (.lst (xs ++ zs)) → Q (.ref p) H')
    (hz : xs.length + zs.length ≤ 1000000 := by (simp only [List.length_cons, List.length_nil, List.length_append, List.length_map]; omega)) : rCat (.ref l) (.ref b) H Q :=
  ⟨l, b, xs, zs, rfl, rfl, h1, h2, Nat.le_trans hz (by decide), fun p hp => k p _ hp (same_new hp) upd_same⟩
def spDraw : Sp := fun vs H Q _ => ∃ (t : Addr) (n : Nat) (m : Int), vs = [.ref t, .int m] ∧ Tape H t (n + 1) ∧ 0 < m ∧ m.natAbs < 2 ^ 1000 ∧ ∀ x H', 0 ≤ x → x < m → Tape H' t n → ExT t H H' → Q (.int x) H'
def spTape (K : PySem.W.Frag) : Sp := fun vs H Q _ => ∃ (a : Addr) (ns : List Int) (k : Int), vs = [.ref a, .int k] ∧ SqL K H a (ns.map V.int) ∧ 0 ≤ k ∧ k ≤ 1000000 ∧ ∀ t H', H t = none → Tape H' t 1000000000 → Same H H' → Q (.ref t) H'
end Own

set_option Elab.async false
set_option linter.all false
set_option maxRecDepth 100000
set_option maxHeartbeats 4000000
/-! Steps for exceptions held as values; rows of rows. -/
namespace Own
open PySem PySem.Spec PyProof.Rows L2
theorem ExAt.same {H H' : Hp} {a D : Addr} {fs : List (Str × V)} (h : ExAt H a D fs) (s : Same H H') : ExAt H' a D fs := by
  rcases h with ⟨h, e⟩ | ⟨dd, h, e⟩
  · exact .inl ⟨s _ _ h, e⟩
  · exact .inr ⟨dd, s _ _ h, s _ _ e⟩
theorem mkE1_go {H : Hp} {C : Addr} {f : Str} {v : V} {Q : VK} {E : XK} (k : ∀ a H', H a = none → Same H H' → ExAt H' a C [(f, v)] → Q (.ref a) H') :
    [v].length ≤ 1000 ∧ ∀ a, H a = none → spE1 C f [.ref a, v] (upd H a (exo a C none)) (fun u H2 => u = .non ∧ Q (.ref a) H2) E := by
  refine ⟨by show 1 ≤ 1000; decide, fun a ha => ⟨a, v, rfl, upd_same, fun dx h1 h2 => ⟨rfl, k a _ ha (fun b o e => ?_) (.inr ⟨dx, upd_same, ?_⟩)⟩⟩⟩
  · have h3 := ne_of_none e ha
    rw [upd_ne h3]
    have h4 : b ≠ dx := fun z => by
      rw [z] at e
      rw [upd_ne h2, e] at h1
      cases h1
    rw [upd_ne h4, upd_ne h3]
    exact e
  · rw [upd_ne h2, upd_same]
theorem mkE2_go {H : Hp} {C : Addr} {f g : Str} {v u : V} {Q : VK} {E : XK} (k : ∀ a H', H a = none → Same H H' → ExAt H' a C [(g, u), (f, v)] → Q (.ref a) H') :
    [v, u].length ≤ 1000 ∧ ∀ a, H a = none → spE2 C f g [.ref a, v, u] (upd H a (exo a C none)) (fun z H2 => z = .non ∧ Q (.ref a) H2) E := by
  refine ⟨by show 2 ≤ 1000; decide, fun a ha => ⟨a, v, u, rfl, upd_same, fun dx h1 h2 => ⟨rfl, k a _ ha (fun b o e => ?_) (.inr ⟨dx, ?_, upd_same⟩)⟩⟩⟩
  · have h3 := ne_of_none e ha
    have h4 : b ≠ dx := fun z => by
      rw [z] at e
      rw [upd_ne h2, e] at h1
      cases h1
    rw [upd_ne h4, upd_ne h3, upd_ne h4, upd_ne h3]
    exact e
  · rw [upd_ne h2.symm, upd_same]
theorem mkE0_go {H : Hp} {C : Addr} {Q : VK} (k : ∀ a H', H a = none → Same H H' → ExAt H' a C [] → Q (.ref a) H') : ∀ a, H a = none → Q (.ref a) (upd H a (exo a C none)) :=
  fun a ha => k a _ ha (same_new ha) (.inl ⟨upd_same, rfl⟩)
theorem mkE1t {C : Addr} {f : Str} {te : TE} {σ : L2.St} {H : Hp} {Q : VK} (k : te σ H fun v H1 => ∀ a H', H1 a = none → Same H1 H' → ExAt H' a C [(f, v)] → Q (.ref a) H') (mono : ∀ (R R' : VK), (∀ v H1, R v H1 → R' v H1) → te σ H R → te σ H R') :
    tMkE C (spE1 C f) (tCons te tNil) σ H Q := mono _ _ (fun _ _ h => mkE1_go h) k
theorem mkE2t {C : Addr} {f g : Str} {te tu : TE} {σ : L2.St} {H : Hp} {Q : VK} (k : te σ H fun v H1 => tu σ H1 fun u H2 => ∀ a H', H2 a = none → Same H2 H' → ExAt H' a C [(g, u), (f, v)] → Q (.ref a) H')
    (mono : ∀ H (R R' : VK), (∀ v H1, R v H1 → R' v H1) → te σ H R → te σ H R') (mono2 : ∀ H (R R' : VK), (∀ v H1, R v H1 → R' v H1) → tu σ H R → tu σ H R') :
    tMkE C (spE2 C f g) (tCons te (tCons tu tNil)) σ H Q := mono _ _ _ (fun _ _ h => mono2 _ _ _ (fun _ _ h => mkE2_go h) h) k
theorem mkE1v {C : Addr} {f : Str} {i : Nat} {v : V} {σ : L2.St} {H : Hp} {Q : VK} (h : σ[i]? = some (some v)) (k : ∀ a H', H a = none → Same H H' → ExAt H' a C [(f, v)] → Q (.ref a) H') : tMkE C (spE1 C f) (tCons (tVar i) tNil) σ H Q := ⟨v, h, mkE1_go k⟩
theorem mkE2v {C : Addr} {f g : Str} {i j : Nat} {v u : V} {σ : L2.St} {H : Hp} {Q : VK} (h : σ[i]? = some (some v)) (h2 : σ[j]? = some (some u)) (k : ∀ a H', H a = none → Same H H' → ExAt H' a C [(g, u), (f, v)] → Q (.ref a) H') :
    tMkE C (spE2 C f g) (tCons (tVar i) (tCons (tVar j) tNil)) σ H Q := ⟨v, h, u, h2, mkE2_go k⟩
def MK1 (C : Addr) (f : Str) (v : V) (H : Hp) (Q : VK) : Prop := [v].length ≤ 1000 ∧ ∀ a, H a = none → spE1 C f [.ref a, v] (upd H a (exo a C none)) (fun u H2 => u = .non ∧ Q (.ref a) H2) fun _ _ _ => False
def MK2 (C : Addr) (f g : Str) (v u : V) (H : Hp) (Q : VK) : Prop := [v, u].length ≤ 1000 ∧ ∀ a, H a = none → spE2 C f g [.ref a, v, u] (upd H a (exo a C none)) (fun z H2 => z = .non ∧ Q (.ref a) H2) fun _ _ _ => False
theorem mkE1u {C : Addr} {f : Str} {te : TE} {σ : L2.St} {H : Hp} {Q : VK} (k : te σ H fun v H1 => MK1 C f v H1 Q) : tMkE C (spE1 C f) (tCons te tNil) σ H Q := k
theorem mkE2u {C : Addr} {f g : Str} {te tu : TE} {σ : L2.St} {H : Hp} {Q : VK} (k : te σ H fun v H1 => tu σ H1 fun u H2 => MK2 C f g v u H2 Q) : tMkE C (spE2 C f g) (tCons te (tCons tu tNil)) σ H Q := k
theorem mk1_go {C : Addr} {f : Str} {v : V} {H : Hp} {Q : VK} (k : ∀ a H', H a = none → Same H H' → ExAt H' a C [(f, v)] → Q (.ref a) H') : MK1 C f v H Q := mkE1_go k
theorem mk2_go {C : Addr} {f g : Str} {v u : V} {H : Hp} {Q : VK} (k : ∀ a H', H a = none → Same H H' → ExAt H' a C [(g, u), (f, v)] → Q (.ref a) H') : MK2 C f g v u H Q := mkE2_go k
theorem mkE0t {C : Addr} {σ : L2.St} {H : Hp} {Q : VK} (k : ∀ a H', H a = none → Same H H' → ExAt H' a C [] → Q (.ref a) H') : tMkE0 C σ H Q := mkE0_go k
/-- ("w", ("bind", a)) | (("call", w, {}, ()),) -/
def RowAt (H : Hp) (r : V) (w a : V) : Prop := ∃ r0 t, r = .ref r0 ∧ H r0 = some (.tup [w, .ref t]) ∧ H t = some (.tup [.str "bind", a])
def ScAt (H : Hp) (s : V) (w : V) : Prop := ∃ s0 m d u, s = .ref s0 ∧ H s0 = some (.tup [.ref m]) ∧ H m = some (.tup [.str "call", w, .ref d, .ref u]) ∧ H d = some (.dK []) ∧ H u = some (.tup [])
theorem RowAt.same {H H' : Hp} (e : Same H H') {r w a : V} (h : RowAt H r w a) : RowAt H' r w a := by
  obtain ⟨r0, t, h1, h2, h3⟩ := h
  exact ⟨r0, t, h1, e _ _ h2, e _ _ h3⟩
theorem ScAt.same {H H' : Hp} (e : Same H H') {s w : V} (h : ScAt H s w) : ScAt H' s w := by
  obtain ⟨s0, m, d, u, h1, h2, h3, h4, h5⟩ := h
  exact ⟨s0, m, d, u, h1, e _ _ h2, e _ _ h3, e _ _ h4, e _ _ h5⟩
theorem rCat_go {l b : Addr} {xs zs : List V} {H : Hp} {Q : VK} (h1 : H l = some (.lst xs)) (h2 : H b = some (.lst zs)) (hz : xs.length + zs.length ≤ 1000000) (q : ∀ p, H p = none → Q (.ref p) (upd H p (.lst (xs ++ zs)))) : rCat (.ref l) (.ref b) H Q :=
  ⟨l, b, xs, zs, rfl, rfl, h1, h2, Nat.le_trans hz (by decide), q⟩
def ExF (K : PySem.W.Frag) (f : Str) (x : V) (H1 : Hp) (Q : VK) : Prop := ∃ (a C dd : Addr) (fs : List (Str × V)) (v : V), x = .ref a ∧ H1 a = some (exo a C (some dd)) ∧ H1 dd = some (exd dd fs) ∧ XfC K C ∧ PySem.W.findIn K (.ref C) f = some none ∧ fs.lookup f = some v ∧ Q v H1
theorem tExf_eq {K : PySem.W.Frag} {f : Str} {te : TE} : tExf K f te = fun σ H Q => te σ H fun x H1 => ExF K f x H1 Q := rfl
theorem exf_go {K : PySem.W.Frag} {H : Hp} {a D : Addr} {fs : List (Str × V)} {f : Str} {v : V} {Q : VK} (h : ExAt H a D fs) (X : XfC K D) (no : PySem.W.findIn K (.ref D) f = some none) (l : fs.lookup f = some v) (q : Q v H) : ExF K f (.ref a) H Q := by
  rcases h with ⟨h, e⟩ | ⟨dd, h, e⟩
  · rw [e] at l
    cases l
  · exact ⟨a, D, dd, fs, v, rfl, h, e, X, no, l, q⟩
theorem look1 {f : Str} {v : V} {r : List (Str × V)} : ((f, v) :: r).lookup f = some v := by simp [List.lookup]
theorem look2 {f g : Str} {v u : V} {r : List (Str × V)} (h : (f == g) = false) : ((g, u) :: (f, v) :: r).lookup f = some v := by simp [List.lookup, h]
theorem isV_go {K : PySem.W.Frag} {H : Hp} {a D : Addr} {fs : List (Str × V)} {c : V} {cv : Value} {b : Bool} {Q : VK} (h : ExAt H a D fs) (X : ExcC K D) (hc : ∀ u, RelV c u → u = cv) (e : PySem.W.kitOne K (.ref D) cv = some b) (q : Q (.bl b) H) : rIsV K [.ref a, c] H Q :=
  ⟨a, D, fs, c, cv, b, rfl, h, X, hc, e, q⟩
/-- exceptions at these addresses, of these classes, with these fields -/
def Errs (H : Hp) : List Addr → List (Addr × List (Str × V)) → Prop := Paired fun a d => ExAt H a d.1 d.2
theorem Errs.same {H H' : Hp} (s : Same H H') : ∀ {as : List Addr} {ds : List (Addr × List (Str × V))}, Errs H as ds → Errs H' as ds
  | _, _, .nil => .nil
  | _, _, .cons a r => .cons (a.same s) (Errs.same s r)
theorem Errs.snoc {H : Hp} {a : Addr} {d : Addr × List (Str × V)} (x : ExAt H a d.1 d.2) : ∀ {as : List Addr} {ds : List (Addr × List (Str × V))}, Errs H as ds → Errs H (as ++ [a]) (ds ++ [d])
  | _, _, .nil => .cons x .nil
  | _, _, .cons y r => .cons y (Errs.snoc x r)
theorem Errs.append {H : Hp} : ∀ {as bs : List Addr} {ds es : List (Addr × List (Str × V))}, Errs H as ds → Errs H bs es → Errs H (as ++ bs) (ds ++ es)
  | _, _, _, _, .nil, s => s
  | _, _, _, _, .cons a r, s => .cons a (Errs.append r s)
theorem Errs.len {H : Hp} {as : List Addr} {ds : List (Addr × List (Str × V))} (h : Errs H as ds) : as.length = ds.length := Paired.length h
theorem Errs.get {H : Hp} : ∀ {as : List Addr} {ds : List (Addr × List (Str × V))} {i : Nat} {d : Addr × List (Str × V)}, Errs H as ds → ds[i]? = some d → ∃ a, as[i]? = some a ∧ ExAt H a d.1 d.2
  | _, _, _, _, .nil, e => by simp at e
  | _, _, 0, _, .cons a _, e => by simp at e; subst e; exact ⟨_, rfl, a⟩
  | _, _, i + 1, _, .cons _ r, e => by
    obtain ⟨b, h1, h2⟩ := Errs.get (i := i) r (by simpa using e)
    exact ⟨b, by simpa using h1, h2⟩
/-- lists at these addresses hold these rows -/
def Rows (H : Hp) : List Addr → List (List V) → Prop := Paired fun a vs => H a = some (.lst vs)
theorem Rows.same {H H' : Hp} (s : Same H H') : ∀ {as : List Addr} {ds : List (List V)}, Rows H as ds → Rows H' as ds
  | _, _, .nil => .nil
  | _, _, .cons a r => .cons (s _ _ a) (Rows.same s r)
theorem Rows.snoc {H : Hp} {a : Addr} {d : List V} (x : H a = some (.lst d)) : ∀ {as : List Addr} {ds : List (List V)}, Rows H as ds → Rows H (as ++ [a]) (ds ++ [d])
  | _, _, .nil => .cons x .nil
  | _, _, .cons y r => .cons y (Rows.snoc x r)
theorem Rows.append {H : Hp} : ∀ {as bs : List Addr} {ds es : List (List V)}, Rows H as ds → Rows H bs es → Rows H (as ++ bs) (ds ++ es)
  | _, _, _, _, .nil, s => s
  | _, _, _, _, .cons a r, s => .cons a (Rows.append r s)
theorem Rows.len {H : Hp} {as : List Addr} {ds : List (List V)} (h : Rows H as ds) : as.length = ds.length := Paired.length h
theorem Rows.get {H : Hp} : ∀ {as : List Addr} {ds : List (List V)} {i : Nat} {a : Addr}, Rows H as ds → as[i]? = some a → ∃ d, ds[i]? = some d ∧ H a = some (.lst d)
  | _, _, _, _, .nil, e => by simp at e
  | _, _, 0, _, .cons a _, e => by simp at e; subst e; exact ⟨_, rfl, a⟩
  | _, _, i + 1, _, .cons _ r, e => by
    obtain ⟨b, h1, h2⟩ := Rows.get (i := i) r (by simpa using e)
    exact ⟨b, by simpa using h1, h2⟩
/-- which own exception is of which class, told as one table -/
def kitTab (K : PySem.W.Frag) (Ds : List Addr) (Cs : List Value) (f : Nat → Nat → Bool) : Bool := (List.range Ds.length).all fun i => (List.range Cs.length).all fun j => PySem.W.kitOne K (.ref (Ds.getD i 0)) (Cs.getD j .none) == some (f i j)
theorem kitTab_of {K : PySem.W.Frag} {Ds : List Addr} {Cs : List Value} {f : Nat → Nat → Bool} (h : kitTab K Ds Cs f = true) {i j : Nat} {D : Addr} {c : Value} (hi : Ds[i]? = some D) (hj : Cs[j]? = some c) : PySem.W.kitOne K (.ref D) c = some (f i j) := by
  unfold kitTab at h
  rw [List.all_eq_true] at h
  have h1 := h i (List.mem_range.mpr (List.getElem?_eq_some_iff.mp hi).1)
  rw [List.all_eq_true] at h1
  have h2 := h1 j (List.mem_range.mpr (List.getElem?_eq_some_iff.mp hj).1)
  rw [beq_iff_eq] at h2
  rw [List.getD_eq_getElem?_getD, hi, List.getD_eq_getElem?_getD, hj] at h2
  exact h2
/-- [e for j in range(n)], e a value that changes nothing -/
theorem lcR_go {ta : TA} {j : Nat} {te : TE} {σ : L2.St} {H : Hp} {Q : VK} {n : Nat} (g : Nat → V) (ht : ∀ R : List V → Hp → Prop, R [.int (n : Int)] H → ta σ H R) (hn : n ≤ 100000) (hw : ∀ x, wipe ((wipe σ [j]).set j (some x)) [j] = wipe σ [j])
    (he : ∀ (i : Nat) H' (R : VK), i < n → R (g i) H' → te ((wipe σ [j]).set j (some (.int (i : Int)))) H' R) (q : ∀ D H', H D = none → Same H H' → H' D = some (.lst ((List.range n).map g)) → Q (.ref D) H') : tLc (iRng1 ta) (gName j) tYes te [j] σ H Q := by
  refine ht _ ⟨n, rfl, by omega, by omega, fun D hD => ?_⟩
  rw [Int.toNat_natCast]
  refine lc_range (lo := 0) (n := n) (fun i H' => H' = upd H D (.lst ((List.range i).map g))) rfl ?_ ?_
  · rintro i H' hi rfl
    rw [Int.zero_add]
    refine ⟨hw _, ?_⟩
    show te _ _ _
    refine he i _ _ hi ⟨(List.range i).map g, upd_same, ?_, ?_⟩
    · rw [List.length_map, List.length_range]
      exact Nat.lt_of_lt_of_le hi (Nat.le_trans hn (by decide))
    · rw [upd_upd, List.range_succ, List.map_append]
      rfl
  · rintro H' rfl
    exact q D _ hD (same_new hD) upd_same
/-- for j in range(n) -/
theorem forR_go {ta : TA} {j : Nat} {tb : TS} {D : Ends} {σ : L2.St} {H : Hp} {n : Nat} (ht : ∀ R : List V → Hp → Prop, R [.int (n : Int)] H → ta σ H R) (hn : n ≤ 100000) (Pv : Nat → L2.St → Hp → Prop) (h0 : Pv 0 σ H)
    (hs : ∀ (i : Nat) σ' H', i < n → Pv i σ' H' → tb { D with nx := Pv (i + 1), ct := Pv (i + 1), bk := D.nx } (σ'.set j (some (.int (i : Int)))) H') (hd : ∀ σ' H', Pv n σ' H' → D.nx σ' H') : tFor (iRng1 ta) (gName j) tb D σ H := by
  refine ht _ ⟨n, rfl, by omega, by omega, ?_⟩
  rw [Int.toNat_natCast]
  refine for_range (lo := 0) (n := n) Pv h0 (fun i σ' H' hi p => ?_) hd
  rw [Int.zero_add]
  exact hs i σ' H' hi p
theorem eqA_same {K : PySem.W.Frag} {p q : Addr} {xs : List V} {H : Hp} {r : Bool} {Q : VK} (h1 : H p = some (.lst xs)) (h2 : H q = some (.lst xs)) (hp : ∀ x ∈ xs, plainV x = true) (k : Q (.bl r) H) : rEqA K r (.ref p) (.ref q) H Q :=
  ⟨0, p, q, xs, xs, by decide, rfl, rfl, .inl (.inl h1), .inl (.inl h2), rfl, fun i x y e1 e2 => by
    rw [e1] at e2
    cases e2
    exact .same (hp x (List.mem_of_getElem? e1)), k⟩
theorem plain_bls {n : Nat} {f : Nat → Bool} : ∀ x ∈ (List.range n).map fun j => V.bl (f j), plainV x = true := by
  intro x hx
  obtain ⟨j, _, rfl⟩ := List.mem_map.mp hx
  rfl
theorem Tape.same {H H' : Hp} {t : Addr} {n : Nat} (h : Tape H t n) (s : Same H H') : Tape H' t n := by
  obtain ⟨c, j, f, k, e, o⟩ := h
  exact ⟨c, j, f, k, s _ _ e, o⟩
theorem Tape.ne {H : Hp} {t p : Addr} {n : Nat} (h : Tape H t n) (e : H p = none) : p ≠ t := by
  obtain ⟨c, j, f, k, e2, o⟩ := h
  exact (ne_of_none e2 e).symm
theorem atI_ex {α : Type} {l : List α} {x : Int} (h0 : 0 ≤ x) (h1 : x < l.length) : ∃ v, v ∈ l ∧ atI l x = some v := by
  obtain ⟨j, rfl⟩ : ∃ j : Nat, x = (j : Int) := ⟨x.toNat, by omega⟩
  have hj : j < l.length := by omega
  exact ⟨l[j], List.getElem_mem hj, atI_nat (List.getElem?_eq_getElem hj)⟩
theorem ixS_go {z : Str} {i : Int} {c : Nat} {H : Hp} {Q : VK} (hz : z.length ≤ 1000000) (e : atI z.cps.toList i = some c) (q : Q (.str ⟨#[c]⟩) H) : rIxS (.str z) (.int i) H Q := ⟨z, i, c, rfl, rfl, Nat.le_trans hz (by decide), e, q⟩
/-- rows built alike -/
def AlikeRows (K : PySem.W.Frag) (H : Hp) (n : Nat) : List (List V) → List (List V) → Prop := Paired fun a b => Paired (Alike K H n) a b
theorem paired_get {α β : Type} {R : α → β → Prop} : ∀ {l : List α} {m : List β} {i : Nat} {x : α} {y : β}, Paired R l m → l[i]? = some x → m[i]? = some y → R x y
  | _, _, _, _, _, .nil, e, _ => by simp at e
  | _, _, 0, _, _, .cons a _, e, f => by simp at e f; subst e; subst f; exact a
  | _, _, i + 1, _, _, .cons _ r, e, f => paired_get (i := i) r (by simpa using e) (by simpa using f)
theorem paired_app {α β : Type} {R : α → β → Prop} : ∀ {l l' : List α} {m m' : List β}, Paired R l m → Paired R l' m' → Paired R (l ++ l') (m ++ m')
  | _, _, _, _, .nil, s => s
  | _, _, _, _, .cons a r, s => .cons a (paired_app r s)
theorem alike_refl {K : PySem.W.Frag} {H : Hp} {n : Nat} : ∀ {l : List V}, (∀ x ∈ l, plainV x = true) → Paired (Alike K H n) l l
  | [], _ => .nil
  | x :: l, h => .cons (.same (h x (List.mem_cons_self ..))) (alike_refl fun y hy => h y (List.mem_cons_of_mem _ hy))
theorem alikeRows_refl {K : PySem.W.Frag} {H : Hp} {n : Nat} : ∀ {l : List (List V)}, (∀ r ∈ l, ∀ x ∈ r, plainV x = true) → AlikeRows K H n l l
  | [], _ => .nil
  | r :: l, h => .cons (alike_refl (h r (List.mem_cons_self ..))) (alikeRows_refl fun y hy => h y (List.mem_cons_of_mem _ hy))
theorem eqA_rows {K : PySem.W.Frag} {H : Hp} {n : Nat} {p q : Addr} {as bs : List Addr} {R R' : List (List V)} {r : Bool} {Q : VK} (hn : n ≤ 50) (h1 : H p = some (.lst (as.map V.ref))) (h2 : H q = some (.lst (bs.map V.ref))) (g1 : Rows H as R) (g2 : Rows H bs R') (a : AlikeRows K H n R R')
    (k : Q (.bl r) H) : rEqA K r (.ref p) (.ref q) H Q := by
  have l1 := g1.len
  have l2 := g2.len
  have l3 : R.length = R'.length := Paired.length a
  refine ⟨n + 1, p, q, _, _, by omega, rfl, rfl, .inl (.inl h1), .inl (.inl h2), by rw [List.length_map, List.length_map]; omega, fun i x y e1 e2 => ?_, k⟩
  rw [List.getElem?_map] at e1 e2
  obtain ⟨a1, ea, rfl⟩ := Option.map_eq_some_iff.mp e1
  obtain ⟨b1, eb, rfl⟩ := Option.map_eq_some_iff.mp e2
  obtain ⟨d1, f1, k1⟩ := g1.get ea
  obtain ⟨d2, f2, k2⟩ := g2.get eb
  have z := paired_get a f1 f2
  exact .lst (.inl (.inl k1)) (.inl (.inl k2)) (Paired.length z) fun j x y u v => paired_get z u v
theorem RowAt.alike {K : PySem.W.Frag} {H : Hp} {n : Nat} {r r' w a : V} (hw : plainV w = true) (ha : plainV a = true) (h1 : RowAt H r w a) (h2 : RowAt H r' w a) : Alike K H (n + 2) r r' := by
  obtain ⟨r0, t, rfl, e1, e2⟩ := h1
  obtain ⟨r1, t1, rfl, f1, f2⟩ := h2
  refine .tup (.inl (.inl e1)) (.inl (.inl f1)) rfl fun i x y u v => ?_
  have z : Paired (Alike K H (n + 1)) [w, V.ref t] [w, V.ref t1] := .cons (.same hw) (.cons (.tup (.inl (.inl e2)) (.inl (.inl f2)) rfl fun i x y u v => by
    rw [u] at v; cases v
    refine .same ?_
    have m := List.mem_of_getElem? u
    simp only [List.mem_cons, List.not_mem_nil, or_false] at m
    rcases m with rfl | rfl
    · rfl
    · exact ha) .nil)
  exact paired_get z u v
theorem ScAt.alike {K : PySem.W.Frag} {H : Hp} {n : Nat} {s s' w : V} (hw : plainV w = true) (h1 : ScAt H s w) (h2 : ScAt H s' w) : Alike K H (n + 3) s s' := by
  obtain ⟨s0, m, d, u, rfl, e1, e2, e3, e4⟩ := h1
  obtain ⟨s1, m1, d1, u1, rfl, f1, f2, f3, f4⟩ := h2
  refine .tup (.inl (.inl e1)) (.inl (.inl f1)) rfl fun i x y a b => ?_
  have z2 : Paired (Alike K H (n + 1)) [V.str "call", w, V.ref d, V.ref u] [V.str "call", w, V.ref d1, V.ref u1] :=
    .cons (.same rfl) (.cons (.same hw) (.cons (.emp e3 f3) (.cons (.tup (.inl (.inl e4)) (.inl (.inl f4)) rfl fun i x y a b => by simp at a) .nil)))
  have z : Paired (Alike K H (n + 2)) [V.ref m] [V.ref m1] := .cons (.tup (.inl (.inl e2)) (.inl (.inl f2)) rfl fun i x y a b => paired_get z2 a b) .nil
  exact paired_get z a b
theorem draw_go {t : Addr} {n : Nat} {m : Int} {H : Hp} {Q : VK} {E : XK} (ht : Tape H t (n + 1)) (m0 : 0 < m) (mb : m.natAbs < 2 ^ 1000) (k : ∀ x H', 0 ≤ x → x < m → Tape H' t n → ExT t H H' → Q (.int x) H') : spDraw [.ref t, .int m] H Q E := ⟨t, n, m, rfl, ht, m0, mb, k⟩
theorem disp1_go {i j : Nat} {x : Str} {v : V} {σ : L2.St} {H : Hp} {Q : VK} (hk : σ[i]? = some (some (.str x))) (hv : σ[j]? = some (some v)) (k : ∀ p H', H p = none → Same H H' → Q (.ref p) H') : tDisp [(tVar i, tVar j)] σ H Q := by
  intro p hp
  refine ⟨_, hk, _, hv, upd_same, [(Sum.inr x, v)], rfl, (by show 1 ≤ 15; decide), k p _ hp ?_⟩
  rw [upd_upd]
  exact same_new hp
theorem al1 {K : PySem.W.Frag} {H : Hp} {n : Nat} {x : V} (h : plainV x = true) : Paired (Alike K H n) [x] [x] := .cons (.same h) .nil
theorem al2 {K : PySem.W.Frag} {H : Hp} {n : Nat} {x y : V} (h : plainV x = true) (h2 : plainV y = true) : Paired (Alike K H n) [x, y] [x, y] := .cons (.same h) (.cons (.same h2) .nil)
theorem lst_cast {H : Hp} {p : Addr} {xs ys : List V} (h : H p = some (.lst xs)) (e : xs = ys) : H p = some (.lst ys) := by rw [h, e]
end Own

set_option Elab.async false
set_option linter.all false
set_option maxRecDepth 100000
set_option maxHeartbeats 4000000
/-! What the top has left, read by one look: a truth value over the written part, and the defs' function objects. -/
namespace Own
open PySem PySem.Spec PyProof.Rows L2
def obsM (chk : PySem.W.Frag → Bool) (fn : List He.FnD) (K : PySem.W.Frag) : He.Al := (chk K && fn.all fun d => (He.Fa.code d.at_ d.qual).ok K, fn.map fun d => He.fnObs K d.at_)
def hookM (chk : PySem.W.Frag → Bool) (fn : List He.FnD) : PySem.W.Hook where
  α := He.Al
  obs := fun s => obsM chk fn (He.frG s.heap.get? (List.range s.heap.objs.size))
  val := fun _ => He.valE fn
  says := fun _ h => ∃ K : PySem.W.Frag, K.In h ∧ obsM chk fn K = He.valE fn
  of := fun _ _ e => ⟨_, He.frG_in, e⟩
  keeps := fun _ _ _ ⟨K, hK, c⟩ k => ⟨K, PySem.W.Frag.In.keeps hK k, c⟩
def obM (chk : PySem.W.Frag → Bool) (fn : List He.FnD) (s : PySem.W.SharedT) : He.Al := obsM chk fn (He.frG (HandSHeadRun.getT s) (List.range s.n))
theorem obM_eq {chk : PySem.W.Frag → Bool} {fn : List He.FnD} (s : PySem.W.SharedT) : obM chk fn s = (hookM chk fn).obs s.abs := by
  have e : HandSHeadRun.getT s = s.abs.heap.get? := funext (HandSHeadRun.getT_eq s)
  have n : s.n = s.abs.heap.objs.size := (PySem.W.absHeap_size s.tree s.n s.life).symm
  show obsM chk fn (He.frG (HandSHeadRun.getT s) (List.range s.n)) = obsM chk fn (He.frG s.abs.heap.get? (List.range s.abs.heap.objs.size))
  rw [e, n]
section
variable {chk : PySem.W.Frag → Bool} {fn : List He.FnD} {K : PySem.W.Frag}
theorem saysM_chk (c : obsM chk fn K = He.valE fn) : chk K = true := (Bool.and_eq_true_iff.mp (show (chk K && fn.all fun d => (He.Fa.code d.at_ d.qual).ok K) = true from congrArg (fun z : He.Al => z.1) c)).1
/-- a def, as Fun wants it -/
theorem saysM_fun (c : obsM chk fn K = He.valE fn) (i : Nat) {d : He.FnD} (h : fn[i]? = some d) (kp : PySem.W.keepIn K (.ref (He.fAd K d.at_)) = true) :
    ∃ fd, ∃ (oc : Value) (od : Option Addr) (kV doc pm : Value) (an : Option Addr) (cdv ct : Value) (osl : Array (Option Value)), fd = PySem.W.fnOf d.name d.qual d.params d.body d.scope .none kV doc pm an cdv ct ∧ K.lookup (He.fAd K d.at_) = some ⟨oc, od, .func fd, osl⟩ ∧ PySem.W.codeIn K cdv d.qual = true ∧ PySem.W.keepIn K (.ref (He.fAd K d.at_)) = true := by
  have c2 := (Bool.and_eq_true_iff.mp (show (chk K && fn.all fun d => (He.Fa.code d.at_ d.qual).ok K) = true from congrArg (fun z : He.Al => z.1) c)).2
  have e : fn.map (fun d => He.fnObs K d.at_) = fn.map He.FnD.val := congrArg (fun z : He.Al => z.2) c
  have e2 : (fn.map fun d => He.fnObs K d.at_)[i]? = (fn.map He.FnD.val)[i]? := by rw [e]
  rw [List.getElem?_map, List.getElem?_map, h] at e2
  obtain ⟨oc, od, osl, kV, doc, pm, an, cdv, ct, l, cc⟩ := He.fn_ok (Option.some.inj e2) (List.all_eq_true.mp c2 d (List.mem_of_getElem? h))
  exact ⟨_, oc, od, kV, doc, pm, an, cdv, ct, osl, rfl, l, cc, kp⟩
end
/-- a def of the top by its name; a class's __init__ -/
def fnD (x : Str) (st : Stmt) : He.FnD := ⟨(x, none), x, x, defArgs st, defBody st, defScope st⟩
def inD (x qual : Str) (st : Stmt) : He.FnD := ⟨(x, some "__init__"), "__init__", qual, defArgs st, defBody st, defScope st⟩
theorem saysM_def {chk : PySem.W.Frag → Bool} {fn : List He.FnD} {K : PySem.W.Frag} (c : obsM chk fn K = He.valE fn) (i : Nat) {x : Str} {st : Stmt} (h : fn[i]? = some (fnD x st)) (kp : PySem.W.keepIn K (.ref (He.ga K x)) = true) : ∃ fd, Fun K x x st (He.ga K x) fd := by
  obtain ⟨fd, oc, od, kV, doc, pm, an, cdv, ct, osl, e, l, cc, k⟩ := saysM_fun c i h kp
  exact ⟨fd, ⟨oc, od, kV, doc, pm, an, cdv, ct, osl, e, l, cc⟩, k⟩
theorem saysM_ini {chk : PySem.W.Frag → Bool} {fn : List He.FnD} {K : PySem.W.Frag} (c : obsM chk fn K = He.valE fn) (i : Nat) {x qual : Str} {st : Stmt} (h : fn[i]? = some (inD x qual st)) (kp : PySem.W.keepIn K (.ref (He.ma K (He.ga K x) "__init__")) = true) :
    ∃ fd, Fun K "__init__" qual st (He.ma K (He.ga K x) "__init__") fd := by
  obtain ⟨fd, oc, od, kV, doc, pm, an, cdv, ct, osl, e, l, cc, k⟩ := saysM_fun c i h kp
  exact ⟨fd, ⟨oc, od, kV, doc, pm, an, cdv, ct, osl, e, l, cc⟩, k⟩
/-- the global x stands at its own address -/
def gloB (K : PySem.W.Frag) (x : Str) : Bool := decide (PySem.W.nsIn K mainGlobals x = some (some (.ref (He.ga K x))))
def freeB (K : PySem.W.Frag) (x : Str) : Bool := decide (PySem.W.nsIn K mainGlobals x = some none)
def ciB (K : PySem.W.Frag) (p : Str × List Str) : Bool := gloB K p.1 && (exB K (He.ga K p.1) && (exI K (He.ga K p.1) (He.ma K (He.ga K p.1) "__init__") p.2 && PySem.W.keepIn K (.ref (He.ma K (He.ga K p.1) "__init__"))))
def c0B (K : PySem.W.Frag) (x : Str) : Bool := gloB K x && (exB K (He.ga K x) && PySem.W.excIn K (He.ga K x) [.type "ValueError", .type "Exception", .type "BaseException", .type "object"] "ValueError.__new__")
def dfB (K : PySem.W.Frag) (x : Str) : Bool := gloB K x && PySem.W.keepIn K (.ref (He.ga K x))
theorem all_at {α : Type} {l : List α} {p : α → Bool} (h : l.all p = true) (i : Nat) {x : α} (e : l[i]? = some x) : p x = true := List.all_eq_true.mp h x (List.mem_of_getElem? e)
theorem and4 {a b c d : Bool} (h : (a && (b && (c && d))) = true) : a = true ∧ b = true ∧ c = true ∧ d = true := by
  simp only [Bool.and_eq_true] at h
  exact h
theorem and3 {a b c : Bool} (h : (a && (b && c)) = true) : a = true ∧ b = true ∧ c = true := by
  simp only [Bool.and_eq_true] at h
  exact h
theorem and2 {a b : Bool} (h : (a && b) = true) : a = true ∧ b = true := by
  simp only [Bool.and_eq_true] at h
  exact h
theorem glo_mg {K : PySem.W.Frag} {h : Heap} {mg : Str → Option Value} {x : Str} (X : K.In h) (G : h.Ns mainGlobals mg) (c : gloB K x = true) : mg x = some (.ref (He.ga K x)) := PySem.W.mg_of X G (of_decide_eq_true c)
theorem free_mg {K : PySem.W.Frag} {h : Heap} {mg : Str → Option Value} {x : Str} (X : K.In h) (G : h.Ns mainGlobals mg) (c : freeB K x = true) : mg x = none := PySem.W.mg_none_of X G (of_decide_eq_true c)
theorem saysM_all {chk : PySem.W.Frag → Bool} {fn : List He.FnD} {K : PySem.W.Frag} (c : obsM chk fn K = He.valE fn) : (fn.all fun d => (He.Fa.code d.at_ d.qual).ok K) = true := (Bool.and_eq_true_iff.mp (show (chk K && fn.all fun d => (He.Fa.code d.at_ d.qual).ok K) = true from congrArg (fun z : He.Al => z.1) c)).2
theorem obsM_join {c1 c2 : PySem.W.Frag → Bool} {f1 f2 : List He.FnD} {K : PySem.W.Frag} (a : obsM c1 f1 K = He.valE f1) (b : obsM c2 f2 K = He.valE f2) : obsM (fun K => c1 K && c2 K) (f1 ++ f2) K = He.valE (f1 ++ f2) := by
  have a1 := saysM_chk a
  have a2 := saysM_all a
  have a3 : f1.map (fun d => He.fnObs K d.at_) = f1.map He.FnD.val := congrArg (fun z : He.Al => z.2) a
  have b1 := saysM_chk b
  have b2 := saysM_all b
  have b3 : f2.map (fun d => He.fnObs K d.at_) = f2.map He.FnD.val := congrArg (fun z : He.Al => z.2) b
  refine Prod.ext ?_ ?_
  · show ((c1 K && c2 K) && (f1 ++ f2).all fun d => (He.Fa.code d.at_ d.qual).ok K) = true
    rw [List.all_append, a1, b1, a2, b2]
    rfl
  · show (f1 ++ f2).map (fun d => He.fnObs K d.at_) = (f1 ++ f2).map He.FnD.val
    rw [List.map_append, List.map_append, a3, b3]
/-- the run, looked at twice -/
theorem RJ {r : PySem.W.OpenRow} {q : Program} {c1 c2 : PySem.W.Frag → Bool} {f1 f2 : List He.FnD} {M : Nat} {loose : List Str} {w : World} (h1 : HandSHeadRun.RunEq r q (hookM c1 f1) (obM c1 f1) M loose w) (h2 : HandSHeadRun.RunEq r q (hookM c2 f2) (obM c2 f2) M loose w) : HandSHeadRun.RunEq r q (hookM (fun K => c1 K && c2 K) (f1 ++ f2)) (obM (fun K => c1 K && c2 K) (f1 ++ f2)) M loose w := by
  intro os
  have a := h1 os
  have b := h2 os
  revert a b
  generalize HandSHeadRun.endF _ _ _ _ _ = x
  intro a b
  cases x with
  | none => cases a
  | some s =>
    have a1 := Option.some.inj a
    have b1 := Option.some.inj b
    show some _ = some _
    exact congrArg some (Prod.ext (congrArg (fun z => z.1) a1) (Prod.ext (congrArg (fun z => z.2.1) a1) (obsM_join (congrArg (fun z => z.2.2) a1) (congrArg (fun z => z.2.2) b1))))
end Own

set_option Elab.async false
set_option linter.all false
set_option maxRecDepth 100000
set_option maxHeartbeats 4000000
namespace Own
open PySem PySem.Spec PyProof.Rows L2
def topS (i : Nat) : Stmt := PySem.Challenge.pw_bindspan_k00_errors.main.body.getD i (.Pass ⟨0, 0, 0, 0⟩)
abbrev s_l_tape : Stmt := topS 48
theorem sc_l_tape : FnScope ["_law_script", "_law_k", "_law_cell"] ["_law_script", "_law_k"] (defScope s_l_tape) := ⟨rfl, rfl, rfl, by decide +kernel, rfl, by decide +kernel, by decide +kernel⟩
abbrev s_l_draw : Stmt := topS 49
theorem sc_l_draw : FnScope ["_law_tape_here", "_law_many", "_law_digit", "_law_prime", "_law_base", "_law_mixed"] ["_law_tape_here", "_law_many"] (defScope s_l_draw) := ⟨rfl, rfl, rfl, by decide +kernel, rfl, by decide +kernel, by decide +kernel⟩
abbrev s_l_first : Stmt := topS 50
theorem sc_l_first : FnScope ["_law_a", "_law_w", "_law_v", "_law_found"] ["_law_a", "_law_w", "_law_v"] (defScope s_l_first) := ⟨rfl, rfl, rfl, by decide +kernel, rfl, by decide +kernel, by decide +kernel⟩
abbrev s_l_first_fields : Stmt := topS 51
theorem sc_l_first_fields : FnScope ["_law_m", "_law_found"] ["_law_m"] (defScope s_l_first_fields) := ⟨rfl, rfl, rfl, by decide +kernel, rfl, by decide +kernel, by decide +kernel⟩
abbrev s_l_second : Stmt := topS 52
theorem sc_l_second : FnScope ["_law_a", "_law_w", "_law_v", "_law_found"] ["_law_a", "_law_w", "_law_v"] (defScope s_l_second) := ⟨rfl, rfl, rfl, by decide +kernel, rfl, by decide +kernel, by decide +kernel⟩
abbrev s_l_second_fields : Stmt := topS 53
theorem sc_l_second_fields : FnScope ["_law_m", "_law_found"] ["_law_m"] (defScope s_l_second_fields) := ⟨rfl, rfl, rfl, by decide +kernel, rfl, by decide +kernel, by decide +kernel⟩
abbrev s_l_third : Stmt := topS 54
theorem sc_l_third : FnScope ["_law_a", "_law_w", "_law_v", "_law_guard", "_law_found"] ["_law_a", "_law_w", "_law_v", "_law_guard"] (defScope s_l_third) := ⟨rfl, rfl, rfl, by decide +kernel, rfl, by decide +kernel, by decide +kernel⟩
abbrev s_l_third_fields : Stmt := topS 55
theorem sc_l_third_fields : FnScope ["_law_m", "_law_found"] ["_law_m"] (defScope s_l_third_fields) := ⟨rfl, rfl, rfl, by decide +kernel, rfl, by decide +kernel, by decide +kernel⟩
abbrev s_l_kinds : Stmt := topS 56
theorem sc_l_kinds : FnScope ["_law_e", "_law_found"] ["_law_e"] (defScope s_l_kinds) := ⟨rfl, rfl, rfl, by decide +kernel, rfl, by decide +kernel, by decide +kernel⟩
abbrev s_l_families : Stmt := topS 57
theorem sc_l_families : FnScope ["_law_e", "_law_found"] ["_law_e"] (defScope s_l_families) := ⟨rfl, rfl, rfl, by decide +kernel, rfl, by decide +kernel, by decide +kernel⟩
abbrev s_l_due_fields : Stmt := topS 58
theorem sc_l_due_fields : FnScope ["_law_a", "_law_w", "_law_v", "_law_guard", "_law_first_here", "_law_second_here", "_law_third_here"] ["_law_a", "_law_w", "_law_v", "_law_guard"] (defScope s_l_due_fields) := ⟨rfl, rfl, rfl, by decide +kernel, rfl, by decide +kernel, by decide +kernel⟩
abbrev s_l_places_right : Stmt := topS 59
theorem sc_l_places_right : FnScope ["_law_errors", "_law_family", "_law_ends", "_law_k", "_law_due", "_law_j"] ["_law_errors"] (defScope s_l_places_right) := ⟨rfl, rfl, rfl, by decide +kernel, rfl, by decide +kernel, by decide +kernel⟩
abbrev s_law : Stmt := topS 60
theorem sc_law : FnScope ["_law_script", "_law_tape_here", "_law_turn", "_law_a", "_law_w", "_law_v", "_law_guard", "_law_third_here", "_law_fields", "_law_first_here", "_law_second_here"] ["_law_script"] (defScope s_law) := ⟨rfl, rfl, rfl, by decide +kernel, rfl, by decide +kernel, by decide +kernel⟩
abbrev s_BadTree : Stmt := inClass (topS 10) 0
theorem sc_BadTree : FnScope ["self", "place"] ["self", "place"] (defScope s_BadTree) := ⟨rfl, rfl, rfl, by decide +kernel, rfl, by decide +kernel, by decide +kernel⟩
abbrev s_Duplicate : Stmt := inClass (topS 11) 0
theorem sc_Duplicate : FnScope ["self", "line", "ident"] ["self", "line", "ident"] (defScope s_Duplicate) := ⟨rfl, rfl, rfl, by decide +kernel, rfl, by decide +kernel, by decide +kernel⟩
abbrev s_Unknown : Stmt := inClass (topS 12) 0
theorem sc_Unknown : FnScope ["self", "line", "ident"] ["self", "line", "ident"] (defScope s_Unknown) := ⟨rfl, rfl, rfl, by decide +kernel, rfl, by decide +kernel, by decide +kernel⟩
abbrev s_BadWord : Stmt := inClass (topS 13) 0
theorem sc_BadWord : FnScope ["self", "line", "word"] ["self", "line", "word"] (defScope s_BadWord) := ⟨rfl, rfl, rfl, by decide +kernel, rfl, by decide +kernel, by decide +kernel⟩
abbrev s_Repeated : Stmt := inClass (topS 14) 0
theorem sc_Repeated : FnScope ["self", "line", "ident"] ["self", "line", "ident"] (defScope s_Repeated) := ⟨rfl, rfl, rfl, by decide +kernel, rfl, by decide +kernel, by decide +kernel⟩
abbrev s_OutOfOrder : Stmt := inClass (topS 15) 0
theorem sc_OutOfOrder : FnScope ["self", "line", "ident"] ["self", "line", "ident"] (defScope s_OutOfOrder) := ⟨rfl, rfl, rfl, by decide +kernel, rfl, by decide +kernel, by decide +kernel⟩
abbrev s_BadLine : Stmt := inClass (topS 16) 0
theorem sc_BadLine : FnScope ["self", "line"] ["self", "line"] (defScope s_BadLine) := ⟨rfl, rfl, rfl, by decide +kernel, rfl, by decide +kernel, by decide +kernel⟩
abbrev s_TooDeep : Stmt := inClass (topS 17) 0
theorem sc_TooDeep : FnScope ["self", "line"] ["self", "line"] (defScope s_TooDeep) := ⟨rfl, rfl, rfl, by decide +kernel, rfl, by decide +kernel, by decide +kernel⟩
abbrev s_Unclosed : Stmt := inClass (topS 18) 0
theorem sc_Unclosed : FnScope ["self", "line"] ["self", "line"] (defScope s_Unclosed) := ⟨rfl, rfl, rfl, by decide +kernel, rfl, by decide +kernel, by decide +kernel⟩
abbrev s_BadPair : Stmt := inClass (topS 19) 0
theorem sc_BadPair : FnScope ["self", "pair"] ["self", "pair"] (defScope s_BadPair) := ⟨rfl, rfl, rfl, by decide +kernel, rfl, by decide +kernel, by decide +kernel⟩
abbrev s_NoKeeping : Stmt := inClass (topS 20) 0
theorem sc_NoKeeping : FnScope ["self", "number", "ident"] ["self", "number", "ident"] (defScope s_NoKeeping) := ⟨rfl, rfl, rfl, by decide +kernel, rfl, by decide +kernel, by decide +kernel⟩
abbrev s_TooMany : Stmt := inClass (topS 21) 0
theorem sc_TooMany : FnScope ["self", "many"] ["self", "many"] (defScope s_TooMany) := ⟨rfl, rfl, rfl, by decide +kernel, rfl, by decide +kernel, by decide +kernel⟩
abbrev s_NoLine : Stmt := inClass (topS 22) 0
theorem sc_NoLine : FnScope ["self", "line"] ["self", "line"] (defScope s_NoLine) := ⟨rfl, rfl, rfl, by decide +kernel, rfl, by decide +kernel, by decide +kernel⟩
abbrev s_NoStatement : Stmt := inClass (topS 23) 0
theorem sc_NoStatement : FnScope ["self", "line"] ["self", "line"] (defScope s_NoStatement) := ⟨rfl, rfl, rfl, by decide +kernel, rfl, by decide +kernel, by decide +kernel⟩
abbrev s_NoPart : Stmt := inClass (topS 24) 0
theorem sc_NoPart : FnScope ["self", "ident"] ["self", "ident"] (defScope s_NoPart) := ⟨rfl, rfl, rfl, by decide +kernel, rfl, by decide +kernel, by decide +kernel⟩
abbrev s_InUse : Stmt := inClass (topS 25) 0
theorem sc_InUse : FnScope ["self", "line", "ident"] ["self", "line", "ident"] (defScope s_InUse) := ⟨rfl, rfl, rfl, by decide +kernel, rfl, by decide +kernel, by decide +kernel⟩
abbrev s_NotWrapped : Stmt := inClass (topS 26) 0
theorem sc_NotWrapped : FnScope ["self", "line"] ["self", "line"] (defScope s_NotWrapped) := ⟨rfl, rfl, rfl, by decide +kernel, rfl, by decide +kernel, by decide +kernel⟩
abbrev s_NotCall : Stmt := inClass (topS 27) 0
theorem sc_NotCall : FnScope ["self", "line"] ["self", "line"] (defScope s_NotCall) := ⟨rfl, rfl, rfl, by decide +kernel, rfl, by decide +kernel, by decide +kernel⟩
abbrev s_BadIdent : Stmt := inClass (topS 28) 0
theorem sc_BadIdent : FnScope ["self", "ident"] ["self", "ident"] (defScope s_BadIdent) := ⟨rfl, rfl, rfl, by decide +kernel, rfl, by decide +kernel, by decide +kernel⟩
abbrev s_Taken : Stmt := inClass (topS 29) 0
theorem sc_Taken : FnScope ["self", "ident"] ["self", "ident"] (defScope s_Taken) := ⟨rfl, rfl, rfl, by decide +kernel, rfl, by decide +kernel, by decide +kernel⟩
abbrev s_NotBindings : Stmt := inClass (topS 30) 0
theorem sc_NotBindings : FnScope ["self", "value"] ["self", "value"] (defScope s_NotBindings) := ⟨rfl, rfl, rfl, by decide +kernel, rfl, by decide +kernel, by decide +kernel⟩
abbrev s_BadName : Stmt := inClass (topS 31) 0
theorem sc_BadName : FnScope ["self", "name"] ["self", "name"] (defScope s_BadName) := ⟨rfl, rfl, rfl, by decide +kernel, rfl, by decide +kernel, by decide +kernel⟩
abbrev s_BadValue : Stmt := inClass (topS 32) 0
theorem sc_BadValue : FnScope ["self", "value"] ["self", "value"] (defScope s_BadValue) := ⟨rfl, rfl, rfl, by decide +kernel, rfl, by decide +kernel, by decide +kernel⟩
abbrev s_UnknownName : Stmt := inClass (topS 33) 0
theorem sc_UnknownName : FnScope ["self", "name"] ["self", "name"] (defScope s_UnknownName) := ⟨rfl, rfl, rfl, by decide +kernel, rfl, by decide +kernel, by decide +kernel⟩
abbrev s_NoEngine : Stmt := inClass (topS 34) 0
theorem sc_NoEngine : FnScope ["self", "value"] ["self", "value"] (defScope s_NoEngine) := ⟨rfl, rfl, rfl, by decide +kernel, rfl, by decide +kernel, by decide +kernel⟩
abbrev s_BadScript : Stmt := inClass (topS 35) 0
theorem sc_BadScript : FnScope ["self", "number"] ["self", "number"] (defScope s_BadScript) := ⟨rfl, rfl, rfl, by decide +kernel, rfl, by decide +kernel, by decide +kernel⟩
abbrev s_NoTarget : Stmt := inClass (topS 36) 0
theorem sc_NoTarget : FnScope ["self", "target"] ["self", "target"] (defScope s_NoTarget) := ⟨rfl, rfl, rfl, by decide +kernel, rfl, by decide +kernel, by decide +kernel⟩
abbrev s_BadBinding : Stmt := inClass (topS 37) 0
theorem sc_BadBinding : FnScope ["self", "key"] ["self", "key"] (defScope s_BadBinding) := ⟨rfl, rfl, rfl, by decide +kernel, rfl, by decide +kernel, by decide +kernel⟩
abbrev s_NotComparable : Stmt := inClass (topS 38) 0
theorem sc_NotComparable : FnScope ["self", "what"] ["self", "what"] (defScope s_NotComparable) := ⟨rfl, rfl, rfl, by decide +kernel, rfl, by decide +kernel, by decide +kernel⟩
abbrev s_NotSeen : Stmt := inClass (topS 39) 0
theorem sc_NotSeen : FnScope ["self", "row"] ["self", "row"] (defScope s_NotSeen) := ⟨rfl, rfl, rfl, by decide +kernel, rfl, by decide +kernel, by decide +kernel⟩
abbrev s_GuardTwice : Stmt := inClass (topS 40) 0
theorem sc_GuardTwice : FnScope ["self", "guard"] ["self", "guard"] (defScope s_GuardTwice) := ⟨rfl, rfl, rfl, by decide +kernel, rfl, by decide +kernel, by decide +kernel⟩
abbrev s_NoGuard : Stmt := inClass (topS 41) 0
theorem sc_NoGuard : FnScope ["self", "number"] ["self", "number"] (defScope s_NoGuard) := ⟨rfl, rfl, rfl, by decide +kernel, rfl, by decide +kernel, by decide +kernel⟩
abbrev s_NoKind : Stmt := inClass (topS 42) 0
theorem sc_NoKind : FnScope ["self", "kind"] ["self", "kind"] (defScope s_NoKind) := ⟨rfl, rfl, rfl, by decide +kernel, rfl, by decide +kernel, by decide +kernel⟩
abbrev s_Broken : Stmt := inClass (topS 44) 0
theorem sc_Broken : FnScope ["self", "guard", "script"] ["self", "guard", "script"] (defScope s_Broken) := ⟨rfl, rfl, rfl, by decide +kernel, rfl, by decide +kernel, by decide +kernel⟩
abbrev s_MoveFailed : Stmt := inClass (topS 46) 0
theorem sc_MoveFailed : FnScope ["self", "number", "by"] ["self", "number", "by"] (defScope s_MoveFailed) := ⟨rfl, rfl, rfl, by decide +kernel, rfl, by decide +kernel, by decide +kernel⟩
def kindF (i j : Nat) : Bool := j == i || (j == 35 && i == 36)
def fam (i : Nat) : Nat := if i < 6 then 0 else if i < 9 then 1 else if i < 12 then 2 else if i < 20 then 3 else if i < 25 then 4 else if i < 28 then 5 else if i < 30 then 6 else if i < 35 then 7 else 8
def famF (i j : Nat) : Bool := j == fam i
structure Txt (K : PySem.W.Frag) (mg : Str → Option Value) where
  c_BadTree : ClT K mg "BadTree" "BadTree.__init__" s_BadTree ["self", "place"] ["place"]
  c_Duplicate : ClT K mg "Duplicate" "Duplicate.__init__" s_Duplicate ["self", "line", "ident"] ["line", "ident"]
  c_Unknown : ClT K mg "Unknown" "Unknown.__init__" s_Unknown ["self", "line", "ident"] ["line", "ident"]
  c_BadWord : ClT K mg "BadWord" "BadWord.__init__" s_BadWord ["self", "line", "word"] ["line", "word"]
  c_Repeated : ClT K mg "Repeated" "Repeated.__init__" s_Repeated ["self", "line", "ident"] ["line", "ident"]
  c_OutOfOrder : ClT K mg "OutOfOrder" "OutOfOrder.__init__" s_OutOfOrder ["self", "line", "ident"] ["line", "ident"]
  c_BadLine : ClT K mg "BadLine" "BadLine.__init__" s_BadLine ["self", "line"] ["line"]
  c_TooDeep : ClT K mg "TooDeep" "TooDeep.__init__" s_TooDeep ["self", "line"] ["line"]
  c_Unclosed : ClT K mg "Unclosed" "Unclosed.__init__" s_Unclosed ["self", "line"] ["line"]
  c_BadPair : ClT K mg "BadPair" "BadPair.__init__" s_BadPair ["self", "pair"] ["pair"]
  c_NoKeeping : ClT K mg "NoKeeping" "NoKeeping.__init__" s_NoKeeping ["self", "number", "ident"] ["number", "ident"]
  c_TooMany : ClT K mg "TooMany" "TooMany.__init__" s_TooMany ["self", "many"] ["many"]
  c_NoLine : ClT K mg "NoLine" "NoLine.__init__" s_NoLine ["self", "line"] ["line"]
  c_NoStatement : ClT K mg "NoStatement" "NoStatement.__init__" s_NoStatement ["self", "line"] ["line"]
  c_NoPart : ClT K mg "NoPart" "NoPart.__init__" s_NoPart ["self", "ident"] ["ident"]
  c_InUse : ClT K mg "InUse" "InUse.__init__" s_InUse ["self", "line", "ident"] ["line", "ident"]
  c_NotWrapped : ClT K mg "NotWrapped" "NotWrapped.__init__" s_NotWrapped ["self", "line"] ["line"]
  c_NotCall : ClT K mg "NotCall" "NotCall.__init__" s_NotCall ["self", "line"] ["line"]
  c_BadIdent : ClT K mg "BadIdent" "BadIdent.__init__" s_BadIdent ["self", "ident"] ["ident"]
  c_Taken : ClT K mg "Taken" "Taken.__init__" s_Taken ["self", "ident"] ["ident"]
  c_NotBindings : ClT K mg "NotBindings" "NotBindings.__init__" s_NotBindings ["self", "value"] ["value"]
  c_BadName : ClT K mg "BadName" "BadName.__init__" s_BadName ["self", "name"] ["name"]
  c_BadValue : ClT K mg "BadValue" "BadValue.__init__" s_BadValue ["self", "value"] ["value"]
  c_UnknownName : ClT K mg "UnknownName" "UnknownName.__init__" s_UnknownName ["self", "name"] ["name"]
  c_NoEngine : ClT K mg "NoEngine" "NoEngine.__init__" s_NoEngine ["self", "value"] ["value"]
  c_BadScript : ClT K mg "BadScript" "BadScript.__init__" s_BadScript ["self", "number"] ["number"]
  c_NoTarget : ClT K mg "NoTarget" "NoTarget.__init__" s_NoTarget ["self", "target"] ["target"]
  c_BadBinding : ClT K mg "BadBinding" "BadBinding.__init__" s_BadBinding ["self", "key"] ["key"]
  c_NotComparable : ClT K mg "NotComparable" "NotComparable.__init__" s_NotComparable ["self", "what"] ["what"]
  c_NotSeen : ClT K mg "NotSeen" "NotSeen.__init__" s_NotSeen ["self", "row"] ["row"]
  c_GuardTwice : ClT K mg "GuardTwice" "GuardTwice.__init__" s_GuardTwice ["self", "guard"] ["guard"]
  c_NoGuard : ClT K mg "NoGuard" "NoGuard.__init__" s_NoGuard ["self", "number"] ["number"]
  c_NoKind : ClT K mg "NoKind" "NoKind.__init__" s_NoKind ["self", "kind"] ["kind"]
  c_Broken : ClT K mg "Broken" "Broken.__init__" s_Broken ["self", "guard", "script"] ["guard", "script"]
  c_MoveFailed : ClT K mg "MoveFailed" "MoveFailed.__init__" s_MoveFailed ["self", "number", "by"] ["number", "by"]
  c_BindspanError : Cl0 K mg "BindspanError"
  c_BadModule : Cl0 K mg "BadModule"
  c_BadText : Cl0 K mg "BadText"
  c_BadCaptures : Cl0 K mg "BadCaptures"
  c_BadEdit : Cl0 K mg "BadEdit"
  c_BadScope : Cl0 K mg "BadScope"
  c_BadCaller : Cl0 K mg "BadCaller"
  c_BadQuestion : Cl0 K mg "BadQuestion"
  c_BadBench : Cl0 K mg "BadBench"
  c_NothingToUndo : Cl0 K mg "NothingToUndo"
  c_Failed : Cl0 K mg "Failed"
  d_l_tape : DfT K mg "_law_tape" s_l_tape ["_law_script", "_law_k"]
  d_l_draw : DfT K mg "_law_draw" s_l_draw ["_law_tape_here", "_law_many"]
  d_l_first : DfT K mg "_law_first" s_l_first ["_law_a", "_law_w", "_law_v"]
  d_l_first_fields : DfT K mg "_law_first_fields" s_l_first_fields ["_law_m"]
  d_l_second : DfT K mg "_law_second" s_l_second ["_law_a", "_law_w", "_law_v"]
  d_l_second_fields : DfT K mg "_law_second_fields" s_l_second_fields ["_law_m"]
  d_l_third : DfT K mg "_law_third" s_l_third ["_law_a", "_law_w", "_law_v", "_law_guard"]
  d_l_third_fields : DfT K mg "_law_third_fields" s_l_third_fields ["_law_m"]
  d_l_kinds : DfT K mg "_law_kinds" s_l_kinds ["_law_e"]
  d_l_families : DfT K mg "_law_families" s_l_families ["_law_e"]
  d_l_due_fields : DfT K mg "_law_due_fields" s_l_due_fields ["_law_a", "_law_w", "_law_v", "_law_guard"]
  d_l_places_right : DfT K mg "_law_places_right" s_l_places_right ["_law_errors"]
  d_law : DfT K mg "law" s_law ["_law_script"]
  z_len : mg "len" = none
  z_int : mg "int" = none
  z_range : mg "range" = none
  z_isinstance : mg "isinstance" = none
  z_ValueError : mg "ValueError" = none
  kt : kitTab K [c_BadTree.C, c_Duplicate.C, c_Unknown.C, c_BadWord.C, c_Repeated.C, c_OutOfOrder.C, c_BadLine.C, c_TooDeep.C, c_Unclosed.C, c_BadPair.C, c_NoKeeping.C, c_TooMany.C, c_NoLine.C, c_NoStatement.C, c_NoPart.C, c_InUse.C, c_NotWrapped.C, c_NotCall.C, c_BadIdent.C, c_Taken.C, c_NotBindings.C, c_BadName.C, c_BadValue.C, c_UnknownName.C, c_NoEngine.C, c_BadScript.C, c_NoTarget.C, c_BadBinding.C, c_NotComparable.C, c_NotSeen.C, c_GuardTwice.C, c_NoGuard.C, c_NoKind.C, c_NothingToUndo.C, c_Broken.C, c_Failed.C, c_MoveFailed.C] [.ref c_BadTree.C, .ref c_Duplicate.C, .ref c_Unknown.C, .ref c_BadWord.C, .ref c_Repeated.C, .ref c_OutOfOrder.C, .ref c_BadLine.C, .ref c_TooDeep.C, .ref c_Unclosed.C, .ref c_BadPair.C, .ref c_NoKeeping.C, .ref c_TooMany.C, .ref c_NoLine.C, .ref c_NoStatement.C, .ref c_NoPart.C, .ref c_InUse.C, .ref c_NotWrapped.C, .ref c_NotCall.C, .ref c_BadIdent.C, .ref c_Taken.C, .ref c_NotBindings.C, .ref c_BadName.C, .ref c_BadValue.C, .ref c_UnknownName.C, .ref c_NoEngine.C, .ref c_BadScript.C, .ref c_NoTarget.C, .ref c_BadBinding.C, .ref c_NotComparable.C, .ref c_NotSeen.C, .ref c_GuardTwice.C, .ref c_NoGuard.C, .ref c_NoKind.C, .ref c_NothingToUndo.C, .ref c_Broken.C, .ref c_Failed.C, .ref c_MoveFailed.C] kindF = true
  ft : kitTab K [c_BadTree.C, c_Duplicate.C, c_Unknown.C, c_BadWord.C, c_Repeated.C, c_OutOfOrder.C, c_BadLine.C, c_TooDeep.C, c_Unclosed.C, c_BadPair.C, c_NoKeeping.C, c_TooMany.C, c_NoLine.C, c_NoStatement.C, c_NoPart.C, c_InUse.C, c_NotWrapped.C, c_NotCall.C, c_BadIdent.C, c_Taken.C, c_NotBindings.C, c_BadName.C, c_BadValue.C, c_UnknownName.C, c_NoEngine.C, c_BadScript.C, c_NoTarget.C, c_BadBinding.C, c_NotComparable.C, c_NotSeen.C, c_GuardTwice.C, c_NoGuard.C, c_NoKind.C, c_NothingToUndo.C, c_Broken.C, c_Failed.C, c_MoveFailed.C] [.ref c_BadModule.C, .ref c_BadText.C, .ref c_BadCaptures.C, .ref c_BadEdit.C, .ref c_BadScope.C, .ref c_BadCaller.C, .ref c_BadQuestion.C, .ref c_BadBench.C, .ref c_Failed.C] famF = true
  bt : kitTab K [c_BadTree.C, c_Duplicate.C, c_Unknown.C, c_BadWord.C, c_Repeated.C, c_OutOfOrder.C, c_BadLine.C, c_TooDeep.C, c_Unclosed.C, c_BadPair.C, c_NoKeeping.C, c_TooMany.C, c_NoLine.C, c_NoStatement.C, c_NoPart.C, c_InUse.C, c_NotWrapped.C, c_NotCall.C, c_BadIdent.C, c_Taken.C, c_NotBindings.C, c_BadName.C, c_BadValue.C, c_UnknownName.C, c_NoEngine.C, c_BadScript.C, c_NoTarget.C, c_BadBinding.C, c_NotComparable.C, c_NotSeen.C, c_GuardTwice.C, c_NoGuard.C, c_NoKind.C, c_NothingToUndo.C, c_Broken.C, c_Failed.C, c_MoveFailed.C] [.ref c_BindspanError.C, .type "ValueError"] (fun _ _ => true) = true
def kinds {K : PySem.W.Frag} {mg : Str → Option Value} (T : Txt K mg) : List Addr := [T.c_BadTree.C, T.c_Duplicate.C, T.c_Unknown.C, T.c_BadWord.C, T.c_Repeated.C, T.c_OutOfOrder.C, T.c_BadLine.C, T.c_TooDeep.C, T.c_Unclosed.C, T.c_BadPair.C, T.c_NoKeeping.C, T.c_TooMany.C, T.c_NoLine.C, T.c_NoStatement.C, T.c_NoPart.C, T.c_InUse.C, T.c_NotWrapped.C, T.c_NotCall.C, T.c_BadIdent.C, T.c_Taken.C, T.c_NotBindings.C, T.c_BadName.C, T.c_BadValue.C, T.c_UnknownName.C, T.c_NoEngine.C, T.c_BadScript.C, T.c_NoTarget.C, T.c_BadBinding.C, T.c_NotComparable.C, T.c_NotSeen.C, T.c_GuardTwice.C, T.c_NoGuard.C, T.c_NoKind.C, T.c_NothingToUndo.C, T.c_Broken.C, T.c_Failed.C, T.c_MoveFailed.C]
theorem kindK {K : PySem.W.Frag} {mg : Str → Option Value} (T : Txt K mg) {i : Nat} {D : Addr} (h : (kinds T)[i]? = some D) : ExK K D := by
  have m := List.mem_of_getElem? h
  simp only [kinds, List.mem_cons, List.not_mem_nil, or_false] at m
  rcases m with rfl | rfl | rfl | rfl | rfl | rfl | rfl | rfl | rfl | rfl | rfl | rfl | rfl | rfl | rfl | rfl | rfl | rfl | rfl | rfl | rfl | rfl | rfl | rfl | rfl | rfl | rfl | rfl | rfl | rfl | rfl | rfl | rfl | rfl | rfl | rfl | rfl
  · exact T.c_BadTree.e
  · exact T.c_Duplicate.e
  · exact T.c_Unknown.e
  · exact T.c_BadWord.e
  · exact T.c_Repeated.e
  · exact T.c_OutOfOrder.e
  · exact T.c_BadLine.e
  · exact T.c_TooDeep.e
  · exact T.c_Unclosed.e
  · exact T.c_BadPair.e
  · exact T.c_NoKeeping.e
  · exact T.c_TooMany.e
  · exact T.c_NoLine.e
  · exact T.c_NoStatement.e
  · exact T.c_NoPart.e
  · exact T.c_InUse.e
  · exact T.c_NotWrapped.e
  · exact T.c_NotCall.e
  · exact T.c_BadIdent.e
  · exact T.c_Taken.e
  · exact T.c_NotBindings.e
  · exact T.c_BadName.e
  · exact T.c_BadValue.e
  · exact T.c_UnknownName.e
  · exact T.c_NoEngine.e
  · exact T.c_BadScript.e
  · exact T.c_NoTarget.e
  · exact T.c_BadBinding.e
  · exact T.c_NotComparable.e
  · exact T.c_NotSeen.e
  · exact T.c_GuardTwice.e
  · exact T.c_NoGuard.e
  · exact T.c_NoKind.e
  · exact T.c_NothingToUndo.e
  · exact T.c_Broken.e
  · exact T.c_Failed.e
  · exact T.c_MoveFailed.e
section
variable {P : Program} {w : World} {K : PySem.W.Frag} {mg : Str → Option Value} {base : Heap}
theorem ok_BadTree (T : Txt K mg) : FnOk P w K mg base CX0 1 T.c_BadTree.f T.c_BadTree.d ["self", "place"] (spE1 T.c_BadTree.C "place") := by
  refine T.c_BadTree.F.ok sc_BadTree (fun vs H Q E h => ?_) (fun cdv A outer s H vs Q E hr h => ?_)
  · obtain ⟨a, v, rfl, _⟩ := h
    rfl
  · obtain ⟨a, v, rfl, ha, q⟩ := h
    exact ⟨_, pss_one (ps_ost (pv 0) (pv 1)), ⟨v, rfl, .ref a, rfl, a, T.c_BadTree.C, rfl, T.c_BadTree.e.ox, T.c_BadTree.n.no _ (by simp), .inl ⟨ha, fun dx h1 h2 => q dx h1 h2⟩⟩⟩
theorem ok_Duplicate (T : Txt K mg) : FnOk P w K mg base CX0 1 T.c_Duplicate.f T.c_Duplicate.d ["self", "line", "ident"] (spE2 T.c_Duplicate.C "line" "ident") := by
  refine T.c_Duplicate.F.ok sc_Duplicate (fun vs H Q E h => ?_) (fun cdv A outer s H vs Q E hr h => ?_)
  · obtain ⟨a, v, u, rfl, _⟩ := h
    rfl
  · obtain ⟨a, v, u, rfl, ha, q⟩ := h
    exact ⟨_, pss_cons (ps_ost (pv 0) (pv 1)) (pss_one (ps_ost (pv 0) (pv 2))), ⟨v, rfl, .ref a, rfl, a, T.c_Duplicate.C, rfl, T.c_Duplicate.e.ox, T.c_Duplicate.n.no _ (by simp), .inl ⟨ha, fun dx h1 h2 => ⟨u, rfl, .ref a, rfl, a, T.c_Duplicate.C, rfl, T.c_Duplicate.e.ox, T.c_Duplicate.n.no _ (by simp), .inr ⟨dx, _, upd_same, by rw [upd_ne h2, upd_same], (by show 1 ≤ 900; decide), q dx h1 h2⟩⟩⟩⟩⟩
theorem ok_Unknown (T : Txt K mg) : FnOk P w K mg base CX0 1 T.c_Unknown.f T.c_Unknown.d ["self", "line", "ident"] (spE2 T.c_Unknown.C "line" "ident") := by
  refine T.c_Unknown.F.ok sc_Unknown (fun vs H Q E h => ?_) (fun cdv A outer s H vs Q E hr h => ?_)
  · obtain ⟨a, v, u, rfl, _⟩ := h
    rfl
  · obtain ⟨a, v, u, rfl, ha, q⟩ := h
    exact ⟨_, pss_cons (ps_ost (pv 0) (pv 1)) (pss_one (ps_ost (pv 0) (pv 2))), ⟨v, rfl, .ref a, rfl, a, T.c_Unknown.C, rfl, T.c_Unknown.e.ox, T.c_Unknown.n.no _ (by simp), .inl ⟨ha, fun dx h1 h2 => ⟨u, rfl, .ref a, rfl, a, T.c_Unknown.C, rfl, T.c_Unknown.e.ox, T.c_Unknown.n.no _ (by simp), .inr ⟨dx, _, upd_same, by rw [upd_ne h2, upd_same], (by show 1 ≤ 900; decide), q dx h1 h2⟩⟩⟩⟩⟩
theorem ok_BadWord (T : Txt K mg) : FnOk P w K mg base CX0 1 T.c_BadWord.f T.c_BadWord.d ["self", "line", "word"] (spE2 T.c_BadWord.C "line" "word") := by
  refine T.c_BadWord.F.ok sc_BadWord (fun vs H Q E h => ?_) (fun cdv A outer s H vs Q E hr h => ?_)
  · obtain ⟨a, v, u, rfl, _⟩ := h
    rfl
  · obtain ⟨a, v, u, rfl, ha, q⟩ := h
    exact ⟨_, pss_cons (ps_ost (pv 0) (pv 1)) (pss_one (ps_ost (pv 0) (pv 2))), ⟨v, rfl, .ref a, rfl, a, T.c_BadWord.C, rfl, T.c_BadWord.e.ox, T.c_BadWord.n.no _ (by simp), .inl ⟨ha, fun dx h1 h2 => ⟨u, rfl, .ref a, rfl, a, T.c_BadWord.C, rfl, T.c_BadWord.e.ox, T.c_BadWord.n.no _ (by simp), .inr ⟨dx, _, upd_same, by rw [upd_ne h2, upd_same], (by show 1 ≤ 900; decide), q dx h1 h2⟩⟩⟩⟩⟩
theorem ok_Repeated (T : Txt K mg) : FnOk P w K mg base CX0 1 T.c_Repeated.f T.c_Repeated.d ["self", "line", "ident"] (spE2 T.c_Repeated.C "line" "ident") := by
  refine T.c_Repeated.F.ok sc_Repeated (fun vs H Q E h => ?_) (fun cdv A outer s H vs Q E hr h => ?_)
  · obtain ⟨a, v, u, rfl, _⟩ := h
    rfl
  · obtain ⟨a, v, u, rfl, ha, q⟩ := h
    exact ⟨_, pss_cons (ps_ost (pv 0) (pv 1)) (pss_one (ps_ost (pv 0) (pv 2))), ⟨v, rfl, .ref a, rfl, a, T.c_Repeated.C, rfl, T.c_Repeated.e.ox, T.c_Repeated.n.no _ (by simp), .inl ⟨ha, fun dx h1 h2 => ⟨u, rfl, .ref a, rfl, a, T.c_Repeated.C, rfl, T.c_Repeated.e.ox, T.c_Repeated.n.no _ (by simp), .inr ⟨dx, _, upd_same, by rw [upd_ne h2, upd_same], (by show 1 ≤ 900; decide), q dx h1 h2⟩⟩⟩⟩⟩
theorem ok_OutOfOrder (T : Txt K mg) : FnOk P w K mg base CX0 1 T.c_OutOfOrder.f T.c_OutOfOrder.d ["self", "line", "ident"] (spE2 T.c_OutOfOrder.C "line" "ident") := by
  refine T.c_OutOfOrder.F.ok sc_OutOfOrder (fun vs H Q E h => ?_) (fun cdv A outer s H vs Q E hr h => ?_)
  · obtain ⟨a, v, u, rfl, _⟩ := h
    rfl
  · obtain ⟨a, v, u, rfl, ha, q⟩ := h
    exact ⟨_, pss_cons (ps_ost (pv 0) (pv 1)) (pss_one (ps_ost (pv 0) (pv 2))), ⟨v, rfl, .ref a, rfl, a, T.c_OutOfOrder.C, rfl, T.c_OutOfOrder.e.ox, T.c_OutOfOrder.n.no _ (by simp), .inl ⟨ha, fun dx h1 h2 => ⟨u, rfl, .ref a, rfl, a, T.c_OutOfOrder.C, rfl, T.c_OutOfOrder.e.ox, T.c_OutOfOrder.n.no _ (by simp), .inr ⟨dx, _, upd_same, by rw [upd_ne h2, upd_same], (by show 1 ≤ 900; decide), q dx h1 h2⟩⟩⟩⟩⟩
theorem ok_BadLine (T : Txt K mg) : FnOk P w K mg base CX0 1 T.c_BadLine.f T.c_BadLine.d ["self", "line"] (spE1 T.c_BadLine.C "line") := by
  refine T.c_BadLine.F.ok sc_BadLine (fun vs H Q E h => ?_) (fun cdv A outer s H vs Q E hr h => ?_)
  · obtain ⟨a, v, rfl, _⟩ := h
    rfl
  · obtain ⟨a, v, rfl, ha, q⟩ := h
    exact ⟨_, pss_one (ps_ost (pv 0) (pv 1)), ⟨v, rfl, .ref a, rfl, a, T.c_BadLine.C, rfl, T.c_BadLine.e.ox, T.c_BadLine.n.no _ (by simp), .inl ⟨ha, fun dx h1 h2 => q dx h1 h2⟩⟩⟩
theorem ok_TooDeep (T : Txt K mg) : FnOk P w K mg base CX0 1 T.c_TooDeep.f T.c_TooDeep.d ["self", "line"] (spE1 T.c_TooDeep.C "line") := by
  refine T.c_TooDeep.F.ok sc_TooDeep (fun vs H Q E h => ?_) (fun cdv A outer s H vs Q E hr h => ?_)
  · obtain ⟨a, v, rfl, _⟩ := h
    rfl
  · obtain ⟨a, v, rfl, ha, q⟩ := h
    exact ⟨_, pss_one (ps_ost (pv 0) (pv 1)), ⟨v, rfl, .ref a, rfl, a, T.c_TooDeep.C, rfl, T.c_TooDeep.e.ox, T.c_TooDeep.n.no _ (by simp), .inl ⟨ha, fun dx h1 h2 => q dx h1 h2⟩⟩⟩
theorem ok_Unclosed (T : Txt K mg) : FnOk P w K mg base CX0 1 T.c_Unclosed.f T.c_Unclosed.d ["self", "line"] (spE1 T.c_Unclosed.C "line") := by
  refine T.c_Unclosed.F.ok sc_Unclosed (fun vs H Q E h => ?_) (fun cdv A outer s H vs Q E hr h => ?_)
  · obtain ⟨a, v, rfl, _⟩ := h
    rfl
  · obtain ⟨a, v, rfl, ha, q⟩ := h
    exact ⟨_, pss_one (ps_ost (pv 0) (pv 1)), ⟨v, rfl, .ref a, rfl, a, T.c_Unclosed.C, rfl, T.c_Unclosed.e.ox, T.c_Unclosed.n.no _ (by simp), .inl ⟨ha, fun dx h1 h2 => q dx h1 h2⟩⟩⟩
theorem ok_BadPair (T : Txt K mg) : FnOk P w K mg base CX0 1 T.c_BadPair.f T.c_BadPair.d ["self", "pair"] (spE1 T.c_BadPair.C "pair") := by
  refine T.c_BadPair.F.ok sc_BadPair (fun vs H Q E h => ?_) (fun cdv A outer s H vs Q E hr h => ?_)
  · obtain ⟨a, v, rfl, _⟩ := h
    rfl
  · obtain ⟨a, v, rfl, ha, q⟩ := h
    exact ⟨_, pss_one (ps_ost (pv 0) (pv 1)), ⟨v, rfl, .ref a, rfl, a, T.c_BadPair.C, rfl, T.c_BadPair.e.ox, T.c_BadPair.n.no _ (by simp), .inl ⟨ha, fun dx h1 h2 => q dx h1 h2⟩⟩⟩
theorem ok_NoKeeping (T : Txt K mg) : FnOk P w K mg base CX0 1 T.c_NoKeeping.f T.c_NoKeeping.d ["self", "number", "ident"] (spE2 T.c_NoKeeping.C "number" "ident") := by
  refine T.c_NoKeeping.F.ok sc_NoKeeping (fun vs H Q E h => ?_) (fun cdv A outer s H vs Q E hr h => ?_)
  · obtain ⟨a, v, u, rfl, _⟩ := h
    rfl
  · obtain ⟨a, v, u, rfl, ha, q⟩ := h
    exact ⟨_, pss_cons (ps_ost (pv 0) (pv 1)) (pss_one (ps_ost (pv 0) (pv 2))), ⟨v, rfl, .ref a, rfl, a, T.c_NoKeeping.C, rfl, T.c_NoKeeping.e.ox, T.c_NoKeeping.n.no _ (by simp), .inl ⟨ha, fun dx h1 h2 => ⟨u, rfl, .ref a, rfl, a, T.c_NoKeeping.C, rfl, T.c_NoKeeping.e.ox, T.c_NoKeeping.n.no _ (by simp), .inr ⟨dx, _, upd_same, by rw [upd_ne h2, upd_same], (by show 1 ≤ 900; decide), q dx h1 h2⟩⟩⟩⟩⟩
theorem ok_TooMany (T : Txt K mg) : FnOk P w K mg base CX0 1 T.c_TooMany.f T.c_TooMany.d ["self", "many"] (spE1 T.c_TooMany.C "many") := by
  refine T.c_TooMany.F.ok sc_TooMany (fun vs H Q E h => ?_) (fun cdv A outer s H vs Q E hr h => ?_)
  · obtain ⟨a, v, rfl, _⟩ := h
    rfl
  · obtain ⟨a, v, rfl, ha, q⟩ := h
    exact ⟨_, pss_one (ps_ost (pv 0) (pv 1)), ⟨v, rfl, .ref a, rfl, a, T.c_TooMany.C, rfl, T.c_TooMany.e.ox, T.c_TooMany.n.no _ (by simp), .inl ⟨ha, fun dx h1 h2 => q dx h1 h2⟩⟩⟩
theorem ok_NoLine (T : Txt K mg) : FnOk P w K mg base CX0 1 T.c_NoLine.f T.c_NoLine.d ["self", "line"] (spE1 T.c_NoLine.C "line") := by
  refine T.c_NoLine.F.ok sc_NoLine (fun vs H Q E h => ?_) (fun cdv A outer s H vs Q E hr h => ?_)
  · obtain ⟨a, v, rfl, _⟩ := h
    rfl
  · obtain ⟨a, v, rfl, ha, q⟩ := h
    exact ⟨_, pss_one (ps_ost (pv 0) (pv 1)), ⟨v, rfl, .ref a, rfl, a, T.c_NoLine.C, rfl, T.c_NoLine.e.ox, T.c_NoLine.n.no _ (by simp), .inl ⟨ha, fun dx h1 h2 => q dx h1 h2⟩⟩⟩
theorem ok_NoStatement (T : Txt K mg) : FnOk P w K mg base CX0 1 T.c_NoStatement.f T.c_NoStatement.d ["self", "line"] (spE1 T.c_NoStatement.C "line") := by
  refine T.c_NoStatement.F.ok sc_NoStatement (fun vs H Q E h => ?_) (fun cdv A outer s H vs Q E hr h => ?_)
  · obtain ⟨a, v, rfl, _⟩ := h
    rfl
  · obtain ⟨a, v, rfl, ha, q⟩ := h
    exact ⟨_, pss_one (ps_ost (pv 0) (pv 1)), ⟨v, rfl, .ref a, rfl, a, T.c_NoStatement.C, rfl, T.c_NoStatement.e.ox, T.c_NoStatement.n.no _ (by simp), .inl ⟨ha, fun dx h1 h2 => q dx h1 h2⟩⟩⟩
theorem ok_NoPart (T : Txt K mg) : FnOk P w K mg base CX0 1 T.c_NoPart.f T.c_NoPart.d ["self", "ident"] (spE1 T.c_NoPart.C "ident") := by
  refine T.c_NoPart.F.ok sc_NoPart (fun vs H Q E h => ?_) (fun cdv A outer s H vs Q E hr h => ?_)
  · obtain ⟨a, v, rfl, _⟩ := h
    rfl
  · obtain ⟨a, v, rfl, ha, q⟩ := h
    exact ⟨_, pss_one (ps_ost (pv 0) (pv 1)), ⟨v, rfl, .ref a, rfl, a, T.c_NoPart.C, rfl, T.c_NoPart.e.ox, T.c_NoPart.n.no _ (by simp), .inl ⟨ha, fun dx h1 h2 => q dx h1 h2⟩⟩⟩
theorem ok_InUse (T : Txt K mg) : FnOk P w K mg base CX0 1 T.c_InUse.f T.c_InUse.d ["self", "line", "ident"] (spE2 T.c_InUse.C "line" "ident") := by
  refine T.c_InUse.F.ok sc_InUse (fun vs H Q E h => ?_) (fun cdv A outer s H vs Q E hr h => ?_)
  · obtain ⟨a, v, u, rfl, _⟩ := h
    rfl
  · obtain ⟨a, v, u, rfl, ha, q⟩ := h
    exact ⟨_, pss_cons (ps_ost (pv 0) (pv 1)) (pss_one (ps_ost (pv 0) (pv 2))), ⟨v, rfl, .ref a, rfl, a, T.c_InUse.C, rfl, T.c_InUse.e.ox, T.c_InUse.n.no _ (by simp), .inl ⟨ha, fun dx h1 h2 => ⟨u, rfl, .ref a, rfl, a, T.c_InUse.C, rfl, T.c_InUse.e.ox, T.c_InUse.n.no _ (by simp), .inr ⟨dx, _, upd_same, by rw [upd_ne h2, upd_same], (by show 1 ≤ 900; decide), q dx h1 h2⟩⟩⟩⟩⟩
theorem ok_NotWrapped (T : Txt K mg) : FnOk P w K mg base CX0 1 T.c_NotWrapped.f T.c_NotWrapped.d ["self", "line"] (spE1 T.c_NotWrapped.C "line") := by
  refine T.c_NotWrapped.F.ok sc_NotWrapped (fun vs H Q E h => ?_) (fun cdv A outer s H vs Q E hr h => ?_)
  · obtain ⟨a, v, rfl, _⟩ := h
    rfl
  · obtain ⟨a, v, rfl, ha, q⟩ := h
    exact ⟨_, pss_one (ps_ost (pv 0) (pv 1)), ⟨v, rfl, .ref a, rfl, a, T.c_NotWrapped.C, rfl, T.c_NotWrapped.e.ox, T.c_NotWrapped.n.no _ (by simp), .inl ⟨ha, fun dx h1 h2 => q dx h1 h2⟩⟩⟩
theorem ok_NotCall (T : Txt K mg) : FnOk P w K mg base CX0 1 T.c_NotCall.f T.c_NotCall.d ["self", "line"] (spE1 T.c_NotCall.C "line") := by
  refine T.c_NotCall.F.ok sc_NotCall (fun vs H Q E h => ?_) (fun cdv A outer s H vs Q E hr h => ?_)
  · obtain ⟨a, v, rfl, _⟩ := h
    rfl
  · obtain ⟨a, v, rfl, ha, q⟩ := h
    exact ⟨_, pss_one (ps_ost (pv 0) (pv 1)), ⟨v, rfl, .ref a, rfl, a, T.c_NotCall.C, rfl, T.c_NotCall.e.ox, T.c_NotCall.n.no _ (by simp), .inl ⟨ha, fun dx h1 h2 => q dx h1 h2⟩⟩⟩
theorem ok_BadIdent (T : Txt K mg) : FnOk P w K mg base CX0 1 T.c_BadIdent.f T.c_BadIdent.d ["self", "ident"] (spE1 T.c_BadIdent.C "ident") := by
  refine T.c_BadIdent.F.ok sc_BadIdent (fun vs H Q E h => ?_) (fun cdv A outer s H vs Q E hr h => ?_)
  · obtain ⟨a, v, rfl, _⟩ := h
    rfl
  · obtain ⟨a, v, rfl, ha, q⟩ := h
    exact ⟨_, pss_one (ps_ost (pv 0) (pv 1)), ⟨v, rfl, .ref a, rfl, a, T.c_BadIdent.C, rfl, T.c_BadIdent.e.ox, T.c_BadIdent.n.no _ (by simp), .inl ⟨ha, fun dx h1 h2 => q dx h1 h2⟩⟩⟩
theorem ok_Taken (T : Txt K mg) : FnOk P w K mg base CX0 1 T.c_Taken.f T.c_Taken.d ["self", "ident"] (spE1 T.c_Taken.C "ident") := by
  refine T.c_Taken.F.ok sc_Taken (fun vs H Q E h => ?_) (fun cdv A outer s H vs Q E hr h => ?_)
  · obtain ⟨a, v, rfl, _⟩ := h
    rfl
  · obtain ⟨a, v, rfl, ha, q⟩ := h
    exact ⟨_, pss_one (ps_ost (pv 0) (pv 1)), ⟨v, rfl, .ref a, rfl, a, T.c_Taken.C, rfl, T.c_Taken.e.ox, T.c_Taken.n.no _ (by simp), .inl ⟨ha, fun dx h1 h2 => q dx h1 h2⟩⟩⟩
theorem ok_NotBindings (T : Txt K mg) : FnOk P w K mg base CX0 1 T.c_NotBindings.f T.c_NotBindings.d ["self", "value"] (spE1 T.c_NotBindings.C "value") := by
  refine T.c_NotBindings.F.ok sc_NotBindings (fun vs H Q E h => ?_) (fun cdv A outer s H vs Q E hr h => ?_)
  · obtain ⟨a, v, rfl, _⟩ := h
    rfl
  · obtain ⟨a, v, rfl, ha, q⟩ := h
    exact ⟨_, pss_one (ps_ost (pv 0) (pv 1)), ⟨v, rfl, .ref a, rfl, a, T.c_NotBindings.C, rfl, T.c_NotBindings.e.ox, T.c_NotBindings.n.no _ (by simp), .inl ⟨ha, fun dx h1 h2 => q dx h1 h2⟩⟩⟩
theorem ok_BadName (T : Txt K mg) : FnOk P w K mg base CX0 1 T.c_BadName.f T.c_BadName.d ["self", "name"] (spE1 T.c_BadName.C "name") := by
  refine T.c_BadName.F.ok sc_BadName (fun vs H Q E h => ?_) (fun cdv A outer s H vs Q E hr h => ?_)
  · obtain ⟨a, v, rfl, _⟩ := h
    rfl
  · obtain ⟨a, v, rfl, ha, q⟩ := h
    exact ⟨_, pss_one (ps_ost (pv 0) (pv 1)), ⟨v, rfl, .ref a, rfl, a, T.c_BadName.C, rfl, T.c_BadName.e.ox, T.c_BadName.n.no _ (by simp), .inl ⟨ha, fun dx h1 h2 => q dx h1 h2⟩⟩⟩
theorem ok_BadValue (T : Txt K mg) : FnOk P w K mg base CX0 1 T.c_BadValue.f T.c_BadValue.d ["self", "value"] (spE1 T.c_BadValue.C "value") := by
  refine T.c_BadValue.F.ok sc_BadValue (fun vs H Q E h => ?_) (fun cdv A outer s H vs Q E hr h => ?_)
  · obtain ⟨a, v, rfl, _⟩ := h
    rfl
  · obtain ⟨a, v, rfl, ha, q⟩ := h
    exact ⟨_, pss_one (ps_ost (pv 0) (pv 1)), ⟨v, rfl, .ref a, rfl, a, T.c_BadValue.C, rfl, T.c_BadValue.e.ox, T.c_BadValue.n.no _ (by simp), .inl ⟨ha, fun dx h1 h2 => q dx h1 h2⟩⟩⟩
theorem ok_UnknownName (T : Txt K mg) : FnOk P w K mg base CX0 1 T.c_UnknownName.f T.c_UnknownName.d ["self", "name"] (spE1 T.c_UnknownName.C "name") := by
  refine T.c_UnknownName.F.ok sc_UnknownName (fun vs H Q E h => ?_) (fun cdv A outer s H vs Q E hr h => ?_)
  · obtain ⟨a, v, rfl, _⟩ := h
    rfl
  · obtain ⟨a, v, rfl, ha, q⟩ := h
    exact ⟨_, pss_one (ps_ost (pv 0) (pv 1)), ⟨v, rfl, .ref a, rfl, a, T.c_UnknownName.C, rfl, T.c_UnknownName.e.ox, T.c_UnknownName.n.no _ (by simp), .inl ⟨ha, fun dx h1 h2 => q dx h1 h2⟩⟩⟩
theorem ok_NoEngine (T : Txt K mg) : FnOk P w K mg base CX0 1 T.c_NoEngine.f T.c_NoEngine.d ["self", "value"] (spE1 T.c_NoEngine.C "value") := by
  refine T.c_NoEngine.F.ok sc_NoEngine (fun vs H Q E h => ?_) (fun cdv A outer s H vs Q E hr h => ?_)
  · obtain ⟨a, v, rfl, _⟩ := h
    rfl
  · obtain ⟨a, v, rfl, ha, q⟩ := h
    exact ⟨_, pss_one (ps_ost (pv 0) (pv 1)), ⟨v, rfl, .ref a, rfl, a, T.c_NoEngine.C, rfl, T.c_NoEngine.e.ox, T.c_NoEngine.n.no _ (by simp), .inl ⟨ha, fun dx h1 h2 => q dx h1 h2⟩⟩⟩
theorem ok_BadScript (T : Txt K mg) : FnOk P w K mg base CX0 1 T.c_BadScript.f T.c_BadScript.d ["self", "number"] (spE1 T.c_BadScript.C "number") := by
  refine T.c_BadScript.F.ok sc_BadScript (fun vs H Q E h => ?_) (fun cdv A outer s H vs Q E hr h => ?_)
  · obtain ⟨a, v, rfl, _⟩ := h
    rfl
  · obtain ⟨a, v, rfl, ha, q⟩ := h
    exact ⟨_, pss_one (ps_ost (pv 0) (pv 1)), ⟨v, rfl, .ref a, rfl, a, T.c_BadScript.C, rfl, T.c_BadScript.e.ox, T.c_BadScript.n.no _ (by simp), .inl ⟨ha, fun dx h1 h2 => q dx h1 h2⟩⟩⟩
theorem ok_NoTarget (T : Txt K mg) : FnOk P w K mg base CX0 1 T.c_NoTarget.f T.c_NoTarget.d ["self", "target"] (spE1 T.c_NoTarget.C "target") := by
  refine T.c_NoTarget.F.ok sc_NoTarget (fun vs H Q E h => ?_) (fun cdv A outer s H vs Q E hr h => ?_)
  · obtain ⟨a, v, rfl, _⟩ := h
    rfl
  · obtain ⟨a, v, rfl, ha, q⟩ := h
    exact ⟨_, pss_one (ps_ost (pv 0) (pv 1)), ⟨v, rfl, .ref a, rfl, a, T.c_NoTarget.C, rfl, T.c_NoTarget.e.ox, T.c_NoTarget.n.no _ (by simp), .inl ⟨ha, fun dx h1 h2 => q dx h1 h2⟩⟩⟩
theorem ok_BadBinding (T : Txt K mg) : FnOk P w K mg base CX0 1 T.c_BadBinding.f T.c_BadBinding.d ["self", "key"] (spE1 T.c_BadBinding.C "key") := by
  refine T.c_BadBinding.F.ok sc_BadBinding (fun vs H Q E h => ?_) (fun cdv A outer s H vs Q E hr h => ?_)
  · obtain ⟨a, v, rfl, _⟩ := h
    rfl
  · obtain ⟨a, v, rfl, ha, q⟩ := h
    exact ⟨_, pss_one (ps_ost (pv 0) (pv 1)), ⟨v, rfl, .ref a, rfl, a, T.c_BadBinding.C, rfl, T.c_BadBinding.e.ox, T.c_BadBinding.n.no _ (by simp), .inl ⟨ha, fun dx h1 h2 => q dx h1 h2⟩⟩⟩
theorem ok_NotComparable (T : Txt K mg) : FnOk P w K mg base CX0 1 T.c_NotComparable.f T.c_NotComparable.d ["self", "what"] (spE1 T.c_NotComparable.C "what") := by
  refine T.c_NotComparable.F.ok sc_NotComparable (fun vs H Q E h => ?_) (fun cdv A outer s H vs Q E hr h => ?_)
  · obtain ⟨a, v, rfl, _⟩ := h
    rfl
  · obtain ⟨a, v, rfl, ha, q⟩ := h
    exact ⟨_, pss_one (ps_ost (pv 0) (pv 1)), ⟨v, rfl, .ref a, rfl, a, T.c_NotComparable.C, rfl, T.c_NotComparable.e.ox, T.c_NotComparable.n.no _ (by simp), .inl ⟨ha, fun dx h1 h2 => q dx h1 h2⟩⟩⟩
theorem ok_NotSeen (T : Txt K mg) : FnOk P w K mg base CX0 1 T.c_NotSeen.f T.c_NotSeen.d ["self", "row"] (spE1 T.c_NotSeen.C "row") := by
  refine T.c_NotSeen.F.ok sc_NotSeen (fun vs H Q E h => ?_) (fun cdv A outer s H vs Q E hr h => ?_)
  · obtain ⟨a, v, rfl, _⟩ := h
    rfl
  · obtain ⟨a, v, rfl, ha, q⟩ := h
    exact ⟨_, pss_one (ps_ost (pv 0) (pv 1)), ⟨v, rfl, .ref a, rfl, a, T.c_NotSeen.C, rfl, T.c_NotSeen.e.ox, T.c_NotSeen.n.no _ (by simp), .inl ⟨ha, fun dx h1 h2 => q dx h1 h2⟩⟩⟩
theorem ok_GuardTwice (T : Txt K mg) : FnOk P w K mg base CX0 1 T.c_GuardTwice.f T.c_GuardTwice.d ["self", "guard"] (spE1 T.c_GuardTwice.C "guard") := by
  refine T.c_GuardTwice.F.ok sc_GuardTwice (fun vs H Q E h => ?_) (fun cdv A outer s H vs Q E hr h => ?_)
  · obtain ⟨a, v, rfl, _⟩ := h
    rfl
  · obtain ⟨a, v, rfl, ha, q⟩ := h
    exact ⟨_, pss_one (ps_ost (pv 0) (pv 1)), ⟨v, rfl, .ref a, rfl, a, T.c_GuardTwice.C, rfl, T.c_GuardTwice.e.ox, T.c_GuardTwice.n.no _ (by simp), .inl ⟨ha, fun dx h1 h2 => q dx h1 h2⟩⟩⟩
theorem ok_NoGuard (T : Txt K mg) : FnOk P w K mg base CX0 1 T.c_NoGuard.f T.c_NoGuard.d ["self", "number"] (spE1 T.c_NoGuard.C "number") := by
  refine T.c_NoGuard.F.ok sc_NoGuard (fun vs H Q E h => ?_) (fun cdv A outer s H vs Q E hr h => ?_)
  · obtain ⟨a, v, rfl, _⟩ := h
    rfl
  · obtain ⟨a, v, rfl, ha, q⟩ := h
    exact ⟨_, pss_one (ps_ost (pv 0) (pv 1)), ⟨v, rfl, .ref a, rfl, a, T.c_NoGuard.C, rfl, T.c_NoGuard.e.ox, T.c_NoGuard.n.no _ (by simp), .inl ⟨ha, fun dx h1 h2 => q dx h1 h2⟩⟩⟩
theorem ok_NoKind (T : Txt K mg) : FnOk P w K mg base CX0 1 T.c_NoKind.f T.c_NoKind.d ["self", "kind"] (spE1 T.c_NoKind.C "kind") := by
  refine T.c_NoKind.F.ok sc_NoKind (fun vs H Q E h => ?_) (fun cdv A outer s H vs Q E hr h => ?_)
  · obtain ⟨a, v, rfl, _⟩ := h
    rfl
  · obtain ⟨a, v, rfl, ha, q⟩ := h
    exact ⟨_, pss_one (ps_ost (pv 0) (pv 1)), ⟨v, rfl, .ref a, rfl, a, T.c_NoKind.C, rfl, T.c_NoKind.e.ox, T.c_NoKind.n.no _ (by simp), .inl ⟨ha, fun dx h1 h2 => q dx h1 h2⟩⟩⟩
theorem ok_Broken (T : Txt K mg) : FnOk P w K mg base CX0 1 T.c_Broken.f T.c_Broken.d ["self", "guard", "script"] (spE2 T.c_Broken.C "guard" "script") := by
  refine T.c_Broken.F.ok sc_Broken (fun vs H Q E h => ?_) (fun cdv A outer s H vs Q E hr h => ?_)
  · obtain ⟨a, v, u, rfl, _⟩ := h
    rfl
  · obtain ⟨a, v, u, rfl, ha, q⟩ := h
    exact ⟨_, pss_cons (ps_ost (pv 0) (pv 1)) (pss_one (ps_ost (pv 0) (pv 2))), ⟨v, rfl, .ref a, rfl, a, T.c_Broken.C, rfl, T.c_Broken.e.ox, T.c_Broken.n.no _ (by simp), .inl ⟨ha, fun dx h1 h2 => ⟨u, rfl, .ref a, rfl, a, T.c_Broken.C, rfl, T.c_Broken.e.ox, T.c_Broken.n.no _ (by simp), .inr ⟨dx, _, upd_same, by rw [upd_ne h2, upd_same], (by show 1 ≤ 900; decide), q dx h1 h2⟩⟩⟩⟩⟩
theorem ok_MoveFailed (T : Txt K mg) : FnOk P w K mg base CX0 1 T.c_MoveFailed.f T.c_MoveFailed.d ["self", "number", "by"] (spE2 T.c_MoveFailed.C "number" "by") := by
  refine T.c_MoveFailed.F.ok sc_MoveFailed (fun vs H Q E h => ?_) (fun cdv A outer s H vs Q E hr h => ?_)
  · obtain ⟨a, v, u, rfl, _⟩ := h
    rfl
  · obtain ⟨a, v, u, rfl, ha, q⟩ := h
    exact ⟨_, pss_cons (ps_ost (pv 0) (pv 1)) (pss_one (ps_ost (pv 0) (pv 2))), ⟨v, rfl, .ref a, rfl, a, T.c_MoveFailed.C, rfl, T.c_MoveFailed.e.ox, T.c_MoveFailed.n.no _ (by simp), .inl ⟨ha, fun dx h1 h2 => ⟨u, rfl, .ref a, rfl, a, T.c_MoveFailed.C, rfl, T.c_MoveFailed.e.ox, T.c_MoveFailed.n.no _ (by simp), .inr ⟨dx, _, upd_same, by rw [upd_ne h2, upd_same], (by show 1 ≤ 900; decide), q dx h1 h2⟩⟩⟩⟩⟩
theorem ok_l_draw (T : Txt K mg) : FnOk P w K mg base CX0 1 T.d_l_draw.a T.d_l_draw.d ["_law_tape_here", "_law_many"] spDraw := by
  refine T.d_l_draw.F.ok sc_l_draw (fun vs H Q E h => ?_) (fun cdv A outer s H vs Q E hr h => ?_)
  · obtain ⟨t, n, m, rfl, _⟩ := h
    rfl
  · obtain ⟨t, n, m, rfl, ⟨c, j, f, k, ht, ok⟩, m0, mb, q⟩ := h
    refine ⟨_, (pss_cons (ps_augS (pv 0) pe_int pget_list pe_int ip_add set_list)
      (pss_cons (ps_if (pt_cmpR op_eq (pe_ix ix_list (pv 0) pe_int (fun _ _ => rfl)) pe_int (nomark _)) (pss_cons (ps_set (i := 2) sc_l_draw.nd rfl (Or.inl rfl) (pe_op op_modN (pe_callTy call_intI (by rfl) T.z_int (by decide +kernel) (pa_cons (pe_ix ix_list (pv 0) pe_int (fun _ _ => rfl)) pa_nil)) (pv 1)))
      (pss_cons (ps_asg (pe_op op_fdivW (pe_callTy call_intI (by rfl) T.z_int (by decide +kernel) (pa_cons (pe_ix ix_list (pv 0) pe_int (fun _ _ => rfl)) pa_nil)) (pv 1)) (pg_sub (pv 0) pe_int set_list))
      (pss_one (ps_ret (pv 2))))) pss_nil)
      (pss_cons (ps_set (i := 3) sc_l_draw.nd rfl (Or.inl rfl) (pe_ix ix_list (pe_lst (pa_cons pe_int (pa_cons pe_int (pa_cons pe_int (pa_cons pe_int (pa_cons pe_int pa_nil)))))) (pe_op op_modN (pe_callTy call_intI (by rfl) T.z_int (by decide +kernel) (pa_cons (pe_ix ix_list (pv 0) pe_int (fun _ _ => rfl)) pa_nil)) pe_int) (fun _ _ => rfl)))
      (pss_cons (ps_set (i := 4) sc_l_draw.nd rfl (Or.inl rfl) (pe_op op_add (pe_ix ix_list (pv 0) pe_int (fun _ _ => rfl)) (pe_op op_mul (pe_ix ix_list (pv 0) pe_int (fun _ _ => rfl)) pe_int)))
      (pss_cons (ps_set (i := 5) sc_l_draw.nd rfl (Or.inl rfl) (pe_op op_modN (pe_callTy call_intI (by rfl) T.z_int (by decide +kernel) (pa_cons (pe_op op_pow (pe_op op_add (pe_op op_add (pv 4) (pe_op op_mul (pe_ix ix_list (pv 0) pe_int (fun _ _ => rfl)) pe_int)) pe_int) pe_int) pa_nil)) (pv 3)))
      (pss_one (ps_ret (pe_op op_modN (pe_callTy call_intI (by rfl) T.z_int (by decide +kernel) (pa_cons (pe_op op_fdivN (pv 5) pe_int) pa_nil)) (pv 1))))))))), ?_⟩
    (try simp only [tSeq, tIfS, tTest, tB, tOp, tUn, tVar, tC, tAsg, gName, tRet, tRetN, tCB, tCons, tNil, tLst, tTup, tNext, tPar, tAug, tAugS, tExf_eq, ipI, tChain, tCall, tDrop, tAnd, tOr, tNot, tAndV, tOrV, tNotV, tIf, tIsN, tNotN, rI, rI0, rU, rEq, rNe, gSub, cx_K, L2.start, wipe, scal_ii, scal_ss, scal_bb, scal_is, scal_si, scal_nn, List.map_cons, List.map_nil, List.length_cons, List.length_nil, List.cons_append, List.nil_append, List.append_nil, List.replicate, List.getElem?_cons_zero, List.getElem?_cons_succ, Option.some.injEq, exists_and_left, exists_eq_left', exists_eq_left, V.int.injEq, V.ref.injEq, V.str.injEq, V.bl.injEq, List.cons.injEq, and_true, true_and, false_and, exists_false, or_false, false_or, reduceCtorEq, List.set_cons_zero, List.set_cons_succ, Nat.reduceAdd, Nat.reduceSub, Int.reduceToNat, decide_eq_true_eq, if_true, if_false, Bool.false_eq_true, Bool.not_true, Bool.not_false, Bool.true_eq_false, ite_false, ite_true, ne_eq, not_false_eq_true, Int.reduceEq])
    refine getL_go ht rfl ?_
    (try simp only [tSeq, tIfS, tTest, tB, tOp, tUn, tVar, tC, tAsg, gName, tRet, tRetN, tCB, tCons, tNil, tLst, tTup, tNext, tPar, tAug, tAugS, tExf_eq, ipI, tChain, tCall, tDrop, tAnd, tOr, tNot, tAndV, tOrV, tNotV, tIf, tIsN, tNotN, rI, rI0, rU, rEq, rNe, gSub, cx_K, L2.start, wipe, scal_ii, scal_ss, scal_bb, scal_is, scal_si, scal_nn, List.map_cons, List.map_nil, List.length_cons, List.length_nil, List.cons_append, List.nil_append, List.append_nil, List.replicate, List.getElem?_cons_zero, List.getElem?_cons_succ, Option.some.injEq, exists_and_left, exists_eq_left', exists_eq_left, V.int.injEq, V.ref.injEq, V.str.injEq, V.bl.injEq, List.cons.injEq, and_true, true_and, false_and, exists_false, or_false, false_or, reduceCtorEq, List.set_cons_zero, List.set_cons_succ, Nat.reduceAdd, Nat.reduceSub, Int.reduceToNat, decide_eq_true_eq, if_true, if_false, Bool.false_eq_true, Bool.not_true, Bool.not_false, Bool.true_eq_false, ite_false, ite_true, ne_eq, not_false_eq_true, Int.reduceEq])
    refine setL_go ht rfl ?_
    (try simp only [tSeq, tIfS, tTest, tB, tOp, tUn, tVar, tC, tAsg, gName, tRet, tRetN, tCB, tCons, tNil, tLst, tTup, tNext, tPar, tAug, tAugS, tExf_eq, ipI, tChain, tCall, tDrop, tAnd, tOr, tNot, tAndV, tOrV, tNotV, tIf, tIsN, tNotN, rI, rI0, rU, rEq, rNe, gSub, cx_K, L2.start, wipe, scal_ii, scal_ss, scal_bb, scal_is, scal_si, scal_nn, List.map_cons, List.map_nil, List.length_cons, List.length_nil, List.cons_append, List.nil_append, List.append_nil, List.replicate, List.getElem?_cons_zero, List.getElem?_cons_succ, Option.some.injEq, exists_and_left, exists_eq_left', exists_eq_left, V.int.injEq, V.ref.injEq, V.str.injEq, V.bl.injEq, List.cons.injEq, and_true, true_and, false_and, exists_false, or_false, false_or, reduceCtorEq, List.set_cons_zero, List.set_cons_succ, Nat.reduceAdd, Nat.reduceSub, Int.reduceToNat, decide_eq_true_eq, if_true, if_false, Bool.false_eq_true, Bool.not_true, Bool.not_false, Bool.true_eq_false, ite_false, ite_true, ne_eq, not_false_eq_true, Int.reduceEq])
    refine ixM_go upd_same rfl ?_
    (try simp only [tSeq, tIfS, tTest, tB, tOp, tUn, tVar, tC, tAsg, gName, tRet, tRetN, tCB, tCons, tNil, tLst, tTup, tNext, tPar, tAug, tAugS, tExf_eq, ipI, tChain, tCall, tDrop, tAnd, tOr, tNot, tAndV, tOrV, tNotV, tIf, tIsN, tNotN, rI, rI0, rU, rEq, rNe, gSub, cx_K, L2.start, wipe, scal_ii, scal_ss, scal_bb, scal_is, scal_si, scal_nn, List.map_cons, List.map_nil, List.length_cons, List.length_nil, List.cons_append, List.nil_append, List.append_nil, List.replicate, List.getElem?_cons_zero, List.getElem?_cons_succ, Option.some.injEq, exists_and_left, exists_eq_left', exists_eq_left, V.int.injEq, V.ref.injEq, V.str.injEq, V.bl.injEq, List.cons.injEq, and_true, true_and, false_and, exists_false, or_false, false_or, reduceCtorEq, List.set_cons_zero, List.set_cons_succ, Nat.reduceAdd, Nat.reduceSub, Int.reduceToNat, decide_eq_true_eq, if_true, if_false, Bool.false_eq_true, Bool.not_true, Bool.not_false, Bool.true_eq_false, ite_false, ite_true, ne_eq, not_false_eq_true, Int.reduceEq])
    refine ite2 (fun h0 => ?_) (fun h0 => ?_)
    · refine ixM_go upd_same rfl ?_
      (try simp only [tSeq, tIfS, tTest, tB, tOp, tUn, tVar, tC, tAsg, gName, tRet, tRetN, tCB, tCons, tNil, tLst, tTup, tNext, tPar, tAug, tAugS, tExf_eq, ipI, tChain, tCall, tDrop, tAnd, tOr, tNot, tAndV, tOrV, tNotV, tIf, tIsN, tNotN, rI, rI0, rU, rEq, rNe, gSub, cx_K, L2.start, wipe, scal_ii, scal_ss, scal_bb, scal_is, scal_si, scal_nn, List.map_cons, List.map_nil, List.length_cons, List.length_nil, List.cons_append, List.nil_append, List.append_nil, List.replicate, List.getElem?_cons_zero, List.getElem?_cons_succ, Option.some.injEq, exists_and_left, exists_eq_left', exists_eq_left, V.int.injEq, V.ref.injEq, V.str.injEq, V.bl.injEq, List.cons.injEq, and_true, true_and, false_and, exists_false, or_false, false_or, reduceCtorEq, List.set_cons_zero, List.set_cons_succ, Nat.reduceAdd, Nat.reduceSub, Int.reduceToNat, decide_eq_true_eq, if_true, if_false, Bool.false_eq_true, Bool.not_true, Bool.not_false, Bool.true_eq_false, ite_false, ite_true, ne_eq, not_false_eq_true, Int.reduceEq])
      refine ⟨by omega, ixM_go upd_same rfl ?_⟩
      (try simp only [tSeq, tIfS, tTest, tB, tOp, tUn, tVar, tC, tAsg, gName, tRet, tRetN, tCB, tCons, tNil, tLst, tTup, tNext, tPar, tAug, tAugS, tExf_eq, ipI, tChain, tCall, tDrop, tAnd, tOr, tNot, tAndV, tOrV, tNotV, tIf, tIsN, tNotN, rI, rI0, rU, rEq, rNe, gSub, cx_K, L2.start, wipe, scal_ii, scal_ss, scal_bb, scal_is, scal_si, scal_nn, List.map_cons, List.map_nil, List.length_cons, List.length_nil, List.cons_append, List.nil_append, List.append_nil, List.replicate, List.getElem?_cons_zero, List.getElem?_cons_succ, Option.some.injEq, exists_and_left, exists_eq_left', exists_eq_left, V.int.injEq, V.ref.injEq, V.str.injEq, V.bl.injEq, List.cons.injEq, and_true, true_and, false_and, exists_false, or_false, false_or, reduceCtorEq, List.set_cons_zero, List.set_cons_succ, Nat.reduceAdd, Nat.reduceSub, Int.reduceToNat, decide_eq_true_eq, if_true, if_false, Bool.false_eq_true, Bool.not_true, Bool.not_false, Bool.true_eq_false, ite_false, ite_true, ne_eq, not_false_eq_true, Int.reduceEq])
      refine ⟨wide_div m0 mb (by decide) (by decide), setL_go upd_same rfl ?_⟩
      (try simp only [tSeq, tIfS, tTest, tB, tOp, tUn, tVar, tC, tAsg, gName, tRet, tRetN, tCB, tCons, tNil, tLst, tTup, tNext, tPar, tAug, tAugS, tExf_eq, ipI, tChain, tCall, tDrop, tAnd, tOr, tNot, tAndV, tOrV, tNotV, tIf, tIsN, tNotN, rI, rI0, rU, rEq, rNe, gSub, cx_K, L2.start, wipe, scal_ii, scal_ss, scal_bb, scal_is, scal_si, scal_nn, List.map_cons, List.map_nil, List.length_cons, List.length_nil, List.cons_append, List.nil_append, List.append_nil, List.replicate, List.getElem?_cons_zero, List.getElem?_cons_succ, Option.some.injEq, exists_and_left, exists_eq_left', exists_eq_left, V.int.injEq, V.ref.injEq, V.str.injEq, V.bl.injEq, List.cons.injEq, and_true, true_and, false_and, exists_false, or_false, false_or, reduceCtorEq, List.set_cons_zero, List.set_cons_succ, Nat.reduceAdd, Nat.reduceSub, Int.reduceToNat, decide_eq_true_eq, if_true, if_false, Bool.false_eq_true, Bool.not_true, Bool.not_false, Bool.true_eq_false, ite_false, ite_true, ne_eq, not_false_eq_true, Int.reduceEq, upd_upd])
      have b := fmod_bd (x := c) m0
      refine q _ _ b.1 b.2 ⟨c / m, j + 1, f, k, upd_same, ⟨.inl h0, ?_, ?_, ok.klo, ok.khi⟩⟩ fun b o hb e => by rw [upd_ne hb]; exact e
      · have := ok.lo; omega
      · have := ok.hi; omega
    · have hs : f = 1 ∧ 0 ≤ c ∧ c < 10 ^ 18 := ok.small.elim (fun z => absurd z h0) id
      obtain ⟨rfl, c0, c1⟩ := hs
      refine ⟨(by decide), fun p hp => ?_⟩
      have hpt : t ≠ p := fun z => by
        rw [← z, upd_same] at hp
        cases hp
      refine ixM_go (by rw [upd_ne hpt, upd_same]) rfl ?_
      (try simp only [tSeq, tIfS, tTest, tB, tOp, tUn, tVar, tC, tAsg, gName, tRet, tRetN, tCB, tCons, tNil, tLst, tTup, tNext, tPar, tAug, tAugS, tExf_eq, ipI, tChain, tCall, tDrop, tAnd, tOr, tNot, tAndV, tOrV, tNotV, tIf, tIsN, tNotN, rI, rI0, rU, rEq, rNe, gSub, cx_K, L2.start, wipe, scal_ii, scal_ss, scal_bb, scal_is, scal_si, scal_nn, List.map_cons, List.map_nil, List.length_cons, List.length_nil, List.cons_append, List.nil_append, List.append_nil, List.replicate, List.getElem?_cons_zero, List.getElem?_cons_succ, Option.some.injEq, exists_and_left, exists_eq_left', exists_eq_left, V.int.injEq, V.ref.injEq, V.str.injEq, V.bl.injEq, List.cons.injEq, and_true, true_and, false_and, exists_false, or_false, false_or, reduceCtorEq, List.set_cons_zero, List.set_cons_succ, Nat.reduceAdd, Nat.reduceSub, Int.reduceToNat, decide_eq_true_eq, if_true, if_false, Bool.false_eq_true, Bool.not_true, Bool.not_false, Bool.true_eq_false, ite_false, ite_true, ne_eq, not_false_eq_true, Int.reduceEq])
      have b5 := fmod_bd (x := j + 1) (m := 5) (by decide)
      obtain ⟨pr, hpr, hp1, hp2⟩ : ∃ pr : Int, atI [V.int 2147483647, V.int 2147483629, V.int 2147483587, V.int 2147483579, V.int 2147483563] ((j + 1).fmod 5) = some (V.int pr) ∧ 0 < pr ∧ pr < 2 ^ 32 := by
        generalize (j + 1).fmod 5 = z at b5
        have : z = 0 ∨ z = 1 ∨ z = 2 ∨ z = 3 ∨ z = 4 := by omega
        rcases this with rfl | rfl | rfl | rfl | rfl
        all_goals exact ⟨_, rfl, by decide, by decide⟩
      refine ixM_go upd_same hpr ?_
      (try simp only [tSeq, tIfS, tTest, tB, tOp, tUn, tVar, tC, tAsg, gName, tRet, tRetN, tCB, tCons, tNil, tLst, tTup, tNext, tPar, tAug, tAugS, tExf_eq, ipI, tChain, tCall, tDrop, tAnd, tOr, tNot, tAndV, tOrV, tNotV, tIf, tIsN, tNotN, rI, rI0, rU, rEq, rNe, gSub, cx_K, L2.start, wipe, scal_ii, scal_ss, scal_bb, scal_is, scal_si, scal_nn, List.map_cons, List.map_nil, List.length_cons, List.length_nil, List.cons_append, List.nil_append, List.append_nil, List.replicate, List.getElem?_cons_zero, List.getElem?_cons_succ, Option.some.injEq, exists_and_left, exists_eq_left', exists_eq_left, V.int.injEq, V.ref.injEq, V.str.injEq, V.bl.injEq, List.cons.injEq, and_true, true_and, false_and, exists_false, or_false, false_or, reduceCtorEq, List.set_cons_zero, List.set_cons_succ, Nat.reduceAdd, Nat.reduceSub, Int.reduceToNat, decide_eq_true_eq, if_true, if_false, Bool.false_eq_true, Bool.not_true, Bool.not_false, Bool.true_eq_false, ite_false, ite_true, ne_eq, not_false_eq_true, Int.reduceEq])
      refine ixM_go (by rw [upd_ne hpt, upd_same]) rfl (ixM_go (by rw [upd_ne hpt, upd_same]) rfl ?_)
      (try simp only [tSeq, tIfS, tTest, tB, tOp, tUn, tVar, tC, tAsg, gName, tRet, tRetN, tCB, tCons, tNil, tLst, tTup, tNext, tPar, tAug, tAugS, tExf_eq, ipI, tChain, tCall, tDrop, tAnd, tOr, tNot, tAndV, tOrV, tNotV, tIf, tIsN, tNotN, rI, rI0, rU, rEq, rNe, gSub, cx_K, L2.start, wipe, scal_ii, scal_ss, scal_bb, scal_is, scal_si, scal_nn, List.map_cons, List.map_nil, List.length_cons, List.length_nil, List.cons_append, List.nil_append, List.append_nil, List.replicate, List.getElem?_cons_zero, List.getElem?_cons_succ, Option.some.injEq, exists_and_left, exists_eq_left', exists_eq_left, V.int.injEq, V.ref.injEq, V.str.injEq, V.bl.injEq, List.cons.injEq, and_true, true_and, false_and, exists_false, or_false, false_or, reduceCtorEq, List.set_cons_zero, List.set_cons_succ, Nat.reduceAdd, Nat.reduceSub, Int.reduceToNat, decide_eq_true_eq, if_true, if_false, Bool.false_eq_true, Bool.not_true, Bool.not_false, Bool.true_eq_false, ite_false, ite_true, ne_eq, not_false_eq_true, Int.reduceEq])
      refine ⟨.inr (by decide), ixM_go (by rw [upd_ne hpt, upd_same]) rfl ?_⟩
      (try simp only [tSeq, tIfS, tTest, tB, tOp, tUn, tVar, tC, tAsg, gName, tRet, tRetN, tCB, tCons, tNil, tLst, tTup, tNext, tPar, tAug, tAugS, tExf_eq, ipI, tChain, tCall, tDrop, tAnd, tOr, tNot, tAndV, tOrV, tNotV, tIf, tIsN, tNotN, rI, rI0, rU, rEq, rNe, gSub, cx_K, L2.start, wipe, scal_ii, scal_ss, scal_bb, scal_is, scal_si, scal_nn, List.map_cons, List.map_nil, List.length_cons, List.length_nil, List.cons_append, List.nil_append, List.append_nil, List.replicate, List.getElem?_cons_zero, List.getElem?_cons_succ, Option.some.injEq, exists_and_left, exists_eq_left', exists_eq_left, V.int.injEq, V.ref.injEq, V.str.injEq, V.bl.injEq, List.cons.injEq, and_true, true_and, false_and, exists_false, or_false, false_or, reduceCtorEq, List.set_cons_zero, List.set_cons_succ, Nat.reduceAdd, Nat.reduceSub, Int.reduceToNat, decide_eq_true_eq, if_true, if_false, Bool.false_eq_true, Bool.not_true, Bool.not_false, Bool.true_eq_false, ite_false, ite_true, ne_eq, not_false_eq_true, Int.reduceEq])
      have hb : 0 ≤ c + (j + 1) * 48271 + k * 104729 + 40692 ∧ c + (j + 1) * 48271 + k * 104729 + 40692 < 2 ^ 62 := by
        have h1 := ok.lo; have h2 := ok.hi; have h3 := ok.klo; have h4 := ok.khi
        omega
      refine ⟨.inr (by decide), ⟨by decide, by decide, by omega⟩, by omega, ⟨by decide, by decide⟩, by omega, ?_⟩
      refine q _ _ (fmod_bd m0).1 (fmod_bd m0).2 ⟨c, j + 1, 1, k, by rw [upd_ne hpt, upd_same], ⟨.inr ⟨rfl, c0, c1⟩, ?_, ?_, ok.klo, ok.khi⟩⟩ fun b o hb e => ?_
      · have := ok.lo; omega
      · have := ok.hi; omega
      · have hbp : b ≠ p := fun z => by
          rw [z] at e
          rw [upd_ne (Ne.symm hpt), e] at hp
          cases hp
        rw [upd_ne hbp, upd_ne hb]
        exact e
theorem ok_l_tape (T : Txt K mg) : FnOk P w K mg base CX0 1 T.d_l_tape.a T.d_l_tape.d ["_law_script", "_law_k"] (spTape K) := by
  refine T.d_l_tape.F.ok sc_l_tape (fun vs H Q E h => ?_) (fun cdv A outer s H vs Q E hr h => ?_)
  · obtain ⟨t, n, m, rfl, _⟩ := h
    rfl
  · obtain ⟨a, ns, k, rfl, hs, k0, k1, q⟩ := h
    refine ⟨_, (pss_cons (ps_set (i := 2) sc_l_tape.nd rfl (Or.inl rfl) pe_int)
      (pss_cons (ps_if (pt_cmpR op_lt (pv 1) (pe_callB call_lenL (by rfl) T.z_len (by decide +kernel) (pa_cons (pv 0) pa_nil)) (nomark _)) (pss_one (ps_set (i := 2) sc_l_tape.nd rfl (Or.inl rfl) (pe_callTy call_intI (by rfl) T.z_int (by decide +kernel) (pa_cons (pe_ix ix_list (pv 0) (pv 1) (fun _ _ => rfl)) pa_nil)))) pss_nil)
      (pss_one (ps_ret (pe_lst (pa_cons (pv 2) (pa_cons pe_int (pa_cons (pe_callTy call_intB (by rfl) T.z_int (by decide +kernel) (pa_cons (pe_chain op_le op_lt pe_int (pv 2) (pe_op op_pow pe_int pe_int)) pa_nil)) (pa_cons (pv 1) pa_nil))))))))), ?_⟩
    (try simp only [tSeq, tIfS, tTest, tB, tOp, tUn, tVar, tC, tAsg, gName, tRet, tRetN, tCB, tCons, tNil, tLst, tTup, tNext, tPar, tAug, tAugS, tExf_eq, ipI, tChain, tCall, tDrop, tAnd, tOr, tNot, tAndV, tOrV, tNotV, tIf, tIsN, tNotN, rI, rI0, rU, rEq, rNe, gSub, cx_K, L2.start, wipe, scal_ii, scal_ss, scal_bb, scal_is, scal_si, scal_nn, List.map_cons, List.map_nil, List.length_cons, List.length_nil, List.cons_append, List.nil_append, List.append_nil, List.replicate, List.getElem?_cons_zero, List.getElem?_cons_succ, Option.some.injEq, exists_and_left, exists_eq_left', exists_eq_left, V.int.injEq, V.ref.injEq, V.str.injEq, V.bl.injEq, List.cons.injEq, and_true, true_and, false_and, exists_false, or_false, false_or, reduceCtorEq, List.set_cons_zero, List.set_cons_succ, Nat.reduceAdd, Nat.reduceSub, Int.reduceToNat, decide_eq_true_eq, if_true, if_false, Bool.false_eq_true, Bool.not_true, Bool.not_false, Bool.true_eq_false, ite_false, ite_true, ne_eq, not_false_eq_true, Int.reduceEq])
    have fin : ∀ c : Int, if 0 ≤ c then CPow 10 18 ∧ 4 ≤ sizeLine ∧ ∀ p, H p = none → Q (V.ref p) (upd H p (HO.lst [V.int c, V.int 0, V.int (if c < 10 ^ 18 then 1 else 0), V.int k]))
        else 4 ≤ sizeLine ∧ ∀ p, H p = none → Q (V.ref p) (upd H p (HO.lst [V.int c, V.int 0, V.int 0, V.int k])) := by
      intro c
      refine ite2 (fun h0 => ⟨⟨by decide, by decide, by decide⟩, by decide, fun p hp => ?_⟩) (fun h0 => ⟨by decide, fun p hp => ?_⟩)
      · refine q p _ hp ⟨c, 0, if c < 10 ^ 18 then 1 else 0, k, upd_same, ⟨?_, by decide, by decide, k0, k1⟩⟩ (same_new hp)
        by_cases h1 : c < 10 ^ 18
        · rw [if_pos h1]
          exact .inr ⟨rfl, h0, h1⟩
        · rw [if_neg h1]
          exact .inl rfl
      · exact q p _ hp ⟨c, 0, 0, k, upd_same, ⟨.inl rfl, by decide, by decide, k0, k1⟩⟩ (same_new hp)
    refine ⟨_, hs, ite2 (fun h1 => ?_) (fun _ => fin 0)⟩
    obtain ⟨j, rfl⟩ : ∃ j : Nat, k = (j : Int) := ⟨k.toNat, by omega⟩
    rw [List.length_map] at h1
    have hj : j < ns.length := by omega
    refine ixL_go hs (atI_nat (by rw [List.getElem?_map, List.getElem?_eq_getElem hj] <;> rfl)) ?_
    (try simp only [tSeq, tIfS, tTest, tB, tOp, tUn, tVar, tC, tAsg, gName, tRet, tRetN, tCB, tCons, tNil, tLst, tTup, tNext, tPar, tAug, tAugS, tExf_eq, ipI, tChain, tCall, tDrop, tAnd, tOr, tNot, tAndV, tOrV, tNotV, tIf, tIsN, tNotN, rI, rI0, rU, rEq, rNe, gSub, cx_K, L2.start, wipe, scal_ii, scal_ss, scal_bb, scal_is, scal_si, scal_nn, List.map_cons, List.map_nil, List.length_cons, List.length_nil, List.cons_append, List.nil_append, List.append_nil, List.replicate, List.getElem?_cons_zero, List.getElem?_cons_succ, Option.some.injEq, exists_and_left, exists_eq_left', exists_eq_left, V.int.injEq, V.ref.injEq, V.str.injEq, V.bl.injEq, List.cons.injEq, and_true, true_and, false_and, exists_false, or_false, false_or, reduceCtorEq, List.set_cons_zero, List.set_cons_succ, Nat.reduceAdd, Nat.reduceSub, Int.reduceToNat, decide_eq_true_eq, if_true, if_false, Bool.false_eq_true, Bool.not_true, Bool.not_false, Bool.true_eq_false, ite_false, ite_true, ne_eq, not_false_eq_true, Int.reduceEq])
    exact fin _

end
end Own

set_option Elab.async false
set_option linter.all false
set_option maxRecDepth 100000
set_option maxHeartbeats 4000000
namespace Own
open PySem PySem.Spec PyProof.Rows L2
section
variable {P : Program} {w : World} {K : PySem.W.Frag} {mg : Str → Option Value} {base : Heap}
def eFirst {K : PySem.W.Frag} {mg : Str → Option Value} (T : Txt K mg) (a w v : V) : List (Addr × List (Str × V)) := [(T.c_BadTree.C, [("place", a)]), (T.c_Duplicate.C, [("ident", w), ("line", a)]), (T.c_Unknown.C, [("ident", w), ("line", a)]), (T.c_BadWord.C, [("word", w), ("line", a)]), (T.c_Repeated.C, [("ident", w), ("line", a)]), (T.c_OutOfOrder.C, [("ident", w), ("line", a)]), (T.c_BadLine.C, [("line", a)]), (T.c_TooDeep.C, [("line", a)]), (T.c_Unclosed.C, [("line", a)]), (T.c_BadPair.C, [("pair", v)]), (T.c_NoKeeping.C, [("ident", w), ("number", a)]), (T.c_TooMany.C, [("many", a)])]
def spFirst {K : PySem.W.Frag} {mg : Str → Option Value} (T : Txt K mg) : Sp := fun vs H Q _ => ∃ a w v : V, vs = [a, w, v] ∧ ∀ p H' es, Same H H' → H' p = some (.lst (es.map V.ref)) → Errs H' es (eFirst T a w v) → Q (.ref p) H'
theorem ok_l_first (T : Txt K mg) : FnOk P w K mg base CX0 3 T.d_l_first.a T.d_l_first.d ["_law_a", "_law_w", "_law_v"] (spFirst T) := by
  refine T.d_l_first.F.ok sc_l_first (fun vs H Q E h => ?_) (fun cdv A outer s H vs Q E hr h => ?_)
  · obtain ⟨a, w, v, rfl, _⟩ := h
    rfl
  · obtain ⟨a, w, v, rfl, q⟩ := h
    refine ⟨_, (pss_cons (ps_set (i := 3) sc_l_first.nd rfl (Or.inl rfl) (pe_lst (pa_cons (pe_mkE T.c_BadTree.e.ox T.c_BadTree.n.ini T.c_BadTree.n.ty (ok_BadTree T) (hr.mono (by decide)) T.c_BadTree.b pass0 (by rfl) T.c_BadTree.m (pa_cons (pv 0) pa_nil)) (pa_cons (pe_mkE T.c_Duplicate.e.ox T.c_Duplicate.n.ini T.c_Duplicate.n.ty (ok_Duplicate T) (hr.mono (by decide)) T.c_Duplicate.b pass0 (by rfl) T.c_Duplicate.m (pa_cons (pv 0) (pa_cons (pv 1) pa_nil))) (pa_cons (pe_mkE T.c_Unknown.e.ox T.c_Unknown.n.ini T.c_Unknown.n.ty (ok_Unknown T) (hr.mono (by decide)) T.c_Unknown.b pass0 (by rfl) T.c_Unknown.m (pa_cons (pv 0) (pa_cons (pv 1) pa_nil))) (pa_cons (pe_mkE T.c_BadWord.e.ox T.c_BadWord.n.ini T.c_BadWord.n.ty (ok_BadWord T) (hr.mono (by decide)) T.c_BadWord.b pass0 (by rfl) T.c_BadWord.m (pa_cons (pv 0) (pa_cons (pv 1) pa_nil))) (pa_cons (pe_mkE T.c_Repeated.e.ox T.c_Repeated.n.ini T.c_Repeated.n.ty (ok_Repeated T) (hr.mono (by decide)) T.c_Repeated.b pass0 (by rfl) T.c_Repeated.m (pa_cons (pv 0) (pa_cons (pv 1) pa_nil))) (pa_cons (pe_mkE T.c_OutOfOrder.e.ox T.c_OutOfOrder.n.ini T.c_OutOfOrder.n.ty (ok_OutOfOrder T) (hr.mono (by decide)) T.c_OutOfOrder.b pass0 (by rfl) T.c_OutOfOrder.m (pa_cons (pv 0) (pa_cons (pv 1) pa_nil))) pa_nil))))))))
      (pss_one (ps_ret (pe_op op_cat (pv 3) (pe_lst (pa_cons (pe_mkE T.c_BadLine.e.ox T.c_BadLine.n.ini T.c_BadLine.n.ty (ok_BadLine T) (hr.mono (by decide)) T.c_BadLine.b pass0 (by rfl) T.c_BadLine.m (pa_cons (pv 0) pa_nil)) (pa_cons (pe_mkE T.c_TooDeep.e.ox T.c_TooDeep.n.ini T.c_TooDeep.n.ty (ok_TooDeep T) (hr.mono (by decide)) T.c_TooDeep.b pass0 (by rfl) T.c_TooDeep.m (pa_cons (pv 0) pa_nil)) (pa_cons (pe_mkE T.c_Unclosed.e.ox T.c_Unclosed.n.ini T.c_Unclosed.n.ty (ok_Unclosed T) (hr.mono (by decide)) T.c_Unclosed.b pass0 (by rfl) T.c_Unclosed.m (pa_cons (pv 0) pa_nil)) (pa_cons (pe_mkE T.c_BadPair.e.ox T.c_BadPair.n.ini T.c_BadPair.n.ty (ok_BadPair T) (hr.mono (by decide)) T.c_BadPair.b pass0 (by rfl) T.c_BadPair.m (pa_cons (pv 2) pa_nil)) (pa_cons (pe_mkE T.c_NoKeeping.e.ox T.c_NoKeeping.n.ini T.c_NoKeeping.n.ty (ok_NoKeeping T) (hr.mono (by decide)) T.c_NoKeeping.b pass0 (by rfl) T.c_NoKeeping.m (pa_cons (pv 0) (pa_cons (pv 1) pa_nil))) (pa_cons (pe_mkE T.c_TooMany.e.ox T.c_TooMany.n.ini T.c_TooMany.n.ty (ok_TooMany T) (hr.mono (by decide)) T.c_TooMany.b pass0 (by rfl) T.c_TooMany.m (pa_cons (pv 0) pa_nil)) pa_nil))))))))))), ?_⟩
    (try simp only [tSeq, tIfS, tTest, tB, tOp, tUn, tVar, tC, tAsg, gName, tRet, tRetN, tCB, tCons, tNil, tLst, tTup, tNext, tPar, tAug, tAugS, tExf_eq, ipI, tChain, tCall, tDrop, tAnd, tOr, tNot, tAndV, tOrV, tNotV, tIf, tIsN, tNotN, rI, rI0, rU, rEq, rNe, gSub, cx_K, L2.start, wipe, scal_ii, scal_ss, scal_bb, scal_is, scal_si, scal_nn, List.map_cons, List.map_nil, List.length_cons, List.length_nil, List.cons_append, List.nil_append, List.append_nil, List.replicate, List.getElem?_cons_zero, List.getElem?_cons_succ, Option.some.injEq, exists_and_left, exists_eq_left', exists_eq_left, V.int.injEq, V.ref.injEq, V.str.injEq, V.bl.injEq, List.cons.injEq, and_true, true_and, false_and, exists_false, or_false, false_or, reduceCtorEq, List.set_cons_zero, List.set_cons_succ, Nat.reduceAdd, Nat.reduceSub, Int.reduceToNat, decide_eq_true_eq, if_true, if_false, Bool.false_eq_true, Bool.not_true, Bool.not_false, Bool.true_eq_false, ite_false, ite_true, ne_eq, not_false_eq_true, Int.reduceEq])
    refine mkE1v rfl (fun xa1 xH1 xn1 xs1 xe1 => ?_)
    
    refine mkE2v rfl rfl (fun xa2 xH2 xn2 xs2 xe2 => ?_)
    
    refine mkE2v rfl rfl (fun xa3 xH3 xn3 xs3 xe3 => ?_)
    
    refine mkE2v rfl rfl (fun xa4 xH4 xn4 xs4 xe4 => ?_)
    
    refine mkE2v rfl rfl (fun xa5 xH5 xn5 xs5 xe5 => ?_)
    
    refine mkE2v rfl rfl (fun xa6 xH6 xn6 xs6 xe6 => ?_)
    
    have xt6 := Same.refl xH6
    have xt5 := xs6.trans xt6
    have xt4 := xs5.trans xt5
    have xt3 := xs4.trans xt4
    have xt2 := xs3.trans xt3
    have xt1 := xs2.trans xt2
    have xt0 := xs1.trans xt1
    have xE : Errs xH6 [xa1, xa2, xa3, xa4, xa5, xa6] [(T.c_BadTree.C, [("place", a)]), (T.c_Duplicate.C, [("ident", w), ("line", a)]), (T.c_Unknown.C, [("ident", w), ("line", a)]), (T.c_BadWord.C, [("word", w), ("line", a)]), (T.c_Repeated.C, [("ident", w), ("line", a)]), (T.c_OutOfOrder.C, [("ident", w), ("line", a)])] := .cons (xe1.same xt1) (.cons (xe2.same xt2) (.cons (xe3.same xt3) (.cons (xe4.same xt4) (.cons (xe5.same xt5) (.cons (xe6.same xt6) .nil)))))
    refine ⟨by decide, fun p hp => ?_⟩
    have sp := same_new (o := HO.lst [V.ref xa1, V.ref xa2, V.ref xa3, V.ref xa4, V.ref xa5, V.ref xa6]) hp
    refine mkE1v rfl (fun ya1 yH1 yn1 ys1 ye1 => ?_)
    
    refine mkE1v rfl (fun ya2 yH2 yn2 ys2 ye2 => ?_)
    
    refine mkE1v rfl (fun ya3 yH3 yn3 ys3 ye3 => ?_)
    
    refine mkE1v rfl (fun ya4 yH4 yn4 ys4 ye4 => ?_)
    
    refine mkE2v rfl rfl (fun ya5 yH5 yn5 ys5 ye5 => ?_)
    
    refine mkE1v rfl (fun ya6 yH6 yn6 ys6 ye6 => ?_)
    
    have yt6 := Same.refl yH6
    have yt5 := ys6.trans yt6
    have yt4 := ys5.trans yt5
    have yt3 := ys4.trans yt4
    have yt2 := ys3.trans yt3
    have yt1 := ys2.trans yt2
    have yt0 := ys1.trans yt1
    have yE : Errs yH6 [ya1, ya2, ya3, ya4, ya5, ya6] [(T.c_BadLine.C, [("line", a)]), (T.c_TooDeep.C, [("line", a)]), (T.c_Unclosed.C, [("line", a)]), (T.c_BadPair.C, [("pair", v)]), (T.c_NoKeeping.C, [("ident", w), ("number", a)]), (T.c_TooMany.C, [("many", a)])] := .cons (ye1.same yt1) (.cons (ye2.same yt2) (.cons (ye3.same yt3) (.cons (ye4.same yt4) (.cons (ye5.same yt5) (.cons (ye6.same yt6) .nil)))))
    refine ⟨by decide, fun p2 hp2 => ?_⟩
    have sp2 := same_new (o := HO.lst [V.ref ya1, V.ref ya2, V.ref ya3, V.ref ya4, V.ref ya5, V.ref ya6]) hp2
    refine rCat_go (sp2 _ _ (yt0 _ _ upd_same)) upd_same (by show 6 + 6 ≤ 1000000; decide) fun p3 hp3 => ?_
    have sp3 := same_new (o := HO.lst ([V.ref xa1, V.ref xa2, V.ref xa3, V.ref xa4, V.ref xa5, V.ref xa6] ++ [V.ref ya1, V.ref ya2, V.ref ya3, V.ref ya4, V.ref ya5, V.ref ya6])) hp3
    have fin := sp2.trans sp3
    exact q p3 _ ([xa1, xa2, xa3, xa4, xa5, xa6] ++ [ya1, ya2, ya3, ya4, ya5, ya6]) (xt0.trans (sp.trans (yt0.trans fin))) upd_same ((xE.same (sp.trans (yt0.trans fin))).append (yE.same fin))
end
end Own

set_option Elab.async false
set_option linter.all false
set_option maxRecDepth 100000
set_option maxHeartbeats 4000000
namespace Own
open PySem PySem.Spec PyProof.Rows L2
section
variable {P : Program} {w : World} {K : PySem.W.Frag} {mg : Str → Option Value} {base : Heap}
def eSecond {K : PySem.W.Frag} {mg : Str → Option Value} (T : Txt K mg) (a w v : V) : List (Addr × List (Str × V)) := [(T.c_NoLine.C, [("line", a)]), (T.c_NoStatement.C, [("line", a)]), (T.c_NoPart.C, [("ident", w)]), (T.c_InUse.C, [("ident", w), ("line", a)]), (T.c_NotWrapped.C, [("line", a)]), (T.c_NotCall.C, [("line", a)]), (T.c_BadIdent.C, [("ident", v)]), (T.c_Taken.C, [("ident", w)]), (T.c_NotBindings.C, [("value", v)]), (T.c_BadName.C, [("name", v)]), (T.c_BadValue.C, [("value", v)]), (T.c_UnknownName.C, [("name", v)]), (T.c_NoEngine.C, [("value", v)])]
def spSecond {K : PySem.W.Frag} {mg : Str → Option Value} (T : Txt K mg) : Sp := fun vs H Q _ => ∃ a w v : V, vs = [a, w, v] ∧ ∀ p H' es, Same H H' → H' p = some (.lst (es.map V.ref)) → Errs H' es (eSecond T a w v) → Q (.ref p) H'
theorem ok_l_second (T : Txt K mg) : FnOk P w K mg base CX0 3 T.d_l_second.a T.d_l_second.d ["_law_a", "_law_w", "_law_v"] (spSecond T) := by
  refine T.d_l_second.F.ok sc_l_second (fun vs H Q E h => ?_) (fun cdv A outer s H vs Q E hr h => ?_)
  · obtain ⟨a, w, v, rfl, _⟩ := h
    rfl
  · obtain ⟨a, w, v, rfl, q⟩ := h
    refine ⟨_, (pss_cons (ps_set (i := 3) sc_l_second.nd rfl (Or.inl rfl) (pe_lst (pa_cons (pe_mkE T.c_NoLine.e.ox T.c_NoLine.n.ini T.c_NoLine.n.ty (ok_NoLine T) (hr.mono (by decide)) T.c_NoLine.b pass0 (by rfl) T.c_NoLine.m (pa_cons (pv 0) pa_nil)) (pa_cons (pe_mkE T.c_NoStatement.e.ox T.c_NoStatement.n.ini T.c_NoStatement.n.ty (ok_NoStatement T) (hr.mono (by decide)) T.c_NoStatement.b pass0 (by rfl) T.c_NoStatement.m (pa_cons (pv 0) pa_nil)) (pa_cons (pe_mkE T.c_NoPart.e.ox T.c_NoPart.n.ini T.c_NoPart.n.ty (ok_NoPart T) (hr.mono (by decide)) T.c_NoPart.b pass0 (by rfl) T.c_NoPart.m (pa_cons (pv 1) pa_nil)) (pa_cons (pe_mkE T.c_InUse.e.ox T.c_InUse.n.ini T.c_InUse.n.ty (ok_InUse T) (hr.mono (by decide)) T.c_InUse.b pass0 (by rfl) T.c_InUse.m (pa_cons (pv 0) (pa_cons (pv 1) pa_nil))) (pa_cons (pe_mkE T.c_NotWrapped.e.ox T.c_NotWrapped.n.ini T.c_NotWrapped.n.ty (ok_NotWrapped T) (hr.mono (by decide)) T.c_NotWrapped.b pass0 (by rfl) T.c_NotWrapped.m (pa_cons (pv 0) pa_nil)) (pa_cons (pe_mkE T.c_NotCall.e.ox T.c_NotCall.n.ini T.c_NotCall.n.ty (ok_NotCall T) (hr.mono (by decide)) T.c_NotCall.b pass0 (by rfl) T.c_NotCall.m (pa_cons (pv 0) pa_nil)) (pa_cons (pe_mkE T.c_BadIdent.e.ox T.c_BadIdent.n.ini T.c_BadIdent.n.ty (ok_BadIdent T) (hr.mono (by decide)) T.c_BadIdent.b pass0 (by rfl) T.c_BadIdent.m (pa_cons (pv 2) pa_nil)) (pa_cons (pe_mkE T.c_Taken.e.ox T.c_Taken.n.ini T.c_Taken.n.ty (ok_Taken T) (hr.mono (by decide)) T.c_Taken.b pass0 (by rfl) T.c_Taken.m (pa_cons (pv 1) pa_nil)) pa_nil))))))))))
      (pss_one (ps_ret (pe_op op_cat (pv 3) (pe_lst (pa_cons (pe_mkE T.c_NotBindings.e.ox T.c_NotBindings.n.ini T.c_NotBindings.n.ty (ok_NotBindings T) (hr.mono (by decide)) T.c_NotBindings.b pass0 (by rfl) T.c_NotBindings.m (pa_cons (pv 2) pa_nil)) (pa_cons (pe_mkE T.c_BadName.e.ox T.c_BadName.n.ini T.c_BadName.n.ty (ok_BadName T) (hr.mono (by decide)) T.c_BadName.b pass0 (by rfl) T.c_BadName.m (pa_cons (pv 2) pa_nil)) (pa_cons (pe_mkE T.c_BadValue.e.ox T.c_BadValue.n.ini T.c_BadValue.n.ty (ok_BadValue T) (hr.mono (by decide)) T.c_BadValue.b pass0 (by rfl) T.c_BadValue.m (pa_cons (pv 2) pa_nil)) (pa_cons (pe_mkE T.c_UnknownName.e.ox T.c_UnknownName.n.ini T.c_UnknownName.n.ty (ok_UnknownName T) (hr.mono (by decide)) T.c_UnknownName.b pass0 (by rfl) T.c_UnknownName.m (pa_cons (pv 2) pa_nil)) (pa_cons (pe_mkE T.c_NoEngine.e.ox T.c_NoEngine.n.ini T.c_NoEngine.n.ty (ok_NoEngine T) (hr.mono (by decide)) T.c_NoEngine.b pass0 (by rfl) T.c_NoEngine.m (pa_cons (pv 2) pa_nil)) pa_nil)))))))))), ?_⟩
    (try simp only [tSeq, tIfS, tTest, tB, tOp, tUn, tVar, tC, tAsg, gName, tRet, tRetN, tCB, tCons, tNil, tLst, tTup, tNext, tPar, tAug, tAugS, tExf_eq, ipI, tChain, tCall, tDrop, tAnd, tOr, tNot, tAndV, tOrV, tNotV, tIf, tIsN, tNotN, rI, rI0, rU, rEq, rNe, gSub, cx_K, L2.start, wipe, scal_ii, scal_ss, scal_bb, scal_is, scal_si, scal_nn, List.map_cons, List.map_nil, List.length_cons, List.length_nil, List.cons_append, List.nil_append, List.append_nil, List.replicate, List.getElem?_cons_zero, List.getElem?_cons_succ, Option.some.injEq, exists_and_left, exists_eq_left', exists_eq_left, V.int.injEq, V.ref.injEq, V.str.injEq, V.bl.injEq, List.cons.injEq, and_true, true_and, false_and, exists_false, or_false, false_or, reduceCtorEq, List.set_cons_zero, List.set_cons_succ, Nat.reduceAdd, Nat.reduceSub, Int.reduceToNat, decide_eq_true_eq, if_true, if_false, Bool.false_eq_true, Bool.not_true, Bool.not_false, Bool.true_eq_false, ite_false, ite_true, ne_eq, not_false_eq_true, Int.reduceEq])
    refine mkE1v rfl (fun xa1 xH1 xn1 xs1 xe1 => ?_)
    
    refine mkE1v rfl (fun xa2 xH2 xn2 xs2 xe2 => ?_)
    
    refine mkE1v rfl (fun xa3 xH3 xn3 xs3 xe3 => ?_)
    
    refine mkE2v rfl rfl (fun xa4 xH4 xn4 xs4 xe4 => ?_)
    
    refine mkE1v rfl (fun xa5 xH5 xn5 xs5 xe5 => ?_)
    
    refine mkE1v rfl (fun xa6 xH6 xn6 xs6 xe6 => ?_)
    
    refine mkE1v rfl (fun xa7 xH7 xn7 xs7 xe7 => ?_)
    
    refine mkE1v rfl (fun xa8 xH8 xn8 xs8 xe8 => ?_)
    
    have xt8 := Same.refl xH8
    have xt7 := xs8.trans xt8
    have xt6 := xs7.trans xt7
    have xt5 := xs6.trans xt6
    have xt4 := xs5.trans xt5
    have xt3 := xs4.trans xt4
    have xt2 := xs3.trans xt3
    have xt1 := xs2.trans xt2
    have xt0 := xs1.trans xt1
    have xE : Errs xH8 [xa1, xa2, xa3, xa4, xa5, xa6, xa7, xa8] [(T.c_NoLine.C, [("line", a)]), (T.c_NoStatement.C, [("line", a)]), (T.c_NoPart.C, [("ident", w)]), (T.c_InUse.C, [("ident", w), ("line", a)]), (T.c_NotWrapped.C, [("line", a)]), (T.c_NotCall.C, [("line", a)]), (T.c_BadIdent.C, [("ident", v)]), (T.c_Taken.C, [("ident", w)])] := .cons (xe1.same xt1) (.cons (xe2.same xt2) (.cons (xe3.same xt3) (.cons (xe4.same xt4) (.cons (xe5.same xt5) (.cons (xe6.same xt6) (.cons (xe7.same xt7) (.cons (xe8.same xt8) .nil)))))))
    refine ⟨by decide, fun p hp => ?_⟩
    have sp := same_new (o := HO.lst [V.ref xa1, V.ref xa2, V.ref xa3, V.ref xa4, V.ref xa5, V.ref xa6, V.ref xa7, V.ref xa8]) hp
    refine mkE1v rfl (fun ya1 yH1 yn1 ys1 ye1 => ?_)
    
    refine mkE1v rfl (fun ya2 yH2 yn2 ys2 ye2 => ?_)
    
    refine mkE1v rfl (fun ya3 yH3 yn3 ys3 ye3 => ?_)
    
    refine mkE1v rfl (fun ya4 yH4 yn4 ys4 ye4 => ?_)
    
    refine mkE1v rfl (fun ya5 yH5 yn5 ys5 ye5 => ?_)
    
    have yt5 := Same.refl yH5
    have yt4 := ys5.trans yt5
    have yt3 := ys4.trans yt4
    have yt2 := ys3.trans yt3
    have yt1 := ys2.trans yt2
    have yt0 := ys1.trans yt1
    have yE : Errs yH5 [ya1, ya2, ya3, ya4, ya5] [(T.c_NotBindings.C, [("value", v)]), (T.c_BadName.C, [("name", v)]), (T.c_BadValue.C, [("value", v)]), (T.c_UnknownName.C, [("name", v)]), (T.c_NoEngine.C, [("value", v)])] := .cons (ye1.same yt1) (.cons (ye2.same yt2) (.cons (ye3.same yt3) (.cons (ye4.same yt4) (.cons (ye5.same yt5) .nil))))
    refine ⟨by decide, fun p2 hp2 => ?_⟩
    have sp2 := same_new (o := HO.lst [V.ref ya1, V.ref ya2, V.ref ya3, V.ref ya4, V.ref ya5]) hp2
    refine rCat_go (sp2 _ _ (yt0 _ _ upd_same)) upd_same (by show 8 + 5 ≤ 1000000; decide) fun p3 hp3 => ?_
    have sp3 := same_new (o := HO.lst ([V.ref xa1, V.ref xa2, V.ref xa3, V.ref xa4, V.ref xa5, V.ref xa6, V.ref xa7, V.ref xa8] ++ [V.ref ya1, V.ref ya2, V.ref ya3, V.ref ya4, V.ref ya5])) hp3
    have fin := sp2.trans sp3
    exact q p3 _ ([xa1, xa2, xa3, xa4, xa5, xa6, xa7, xa8] ++ [ya1, ya2, ya3, ya4, ya5]) (xt0.trans (sp.trans (yt0.trans fin))) upd_same ((xE.same (sp.trans (yt0.trans fin))).append (yE.same fin))
def eThird {K : PySem.W.Frag} {mg : Str → Option Value} (T : Txt K mg) (a w v g r s b : V) : List (Addr × List (Str × V)) := [(T.c_BadScript.C, [("number", a)]), (T.c_NoTarget.C, [("target", w)]), (T.c_BadBinding.C, [("key", v)]), (T.c_NotComparable.C, [("what", w)]), (T.c_NotSeen.C, [("row", r)]), (T.c_GuardTwice.C, [("guard", g)]), (T.c_NoGuard.C, [("number", a)]), (T.c_NoKind.C, [("kind", w)]), (T.c_NothingToUndo.C, []), (T.c_Broken.C, [("script", s), ("guard", g)]), (T.c_Failed.C, []), (T.c_MoveFailed.C, [("by", b), ("number", a)])]
def spThird {K : PySem.W.Frag} {mg : Str → Option Value} (T : Txt K mg) : Sp := fun vs H Q _ => ∃ (a : Int) (w v g : V), vs = [.int a, w, v, g] ∧ ∀ p H' es r s, Same H H' → H' p = some (.lst (es.map V.ref)) → RowAt H' r w (.int a) → ScAt H' s w → Errs H' es (eThird T (.int a) w v g r s (.int (a + 1))) → Q (.ref p) H'
theorem ok_l_third (T : Txt K mg) : FnOk P w K mg base CX0 3 T.d_l_third.a T.d_l_third.d ["_law_a", "_law_w", "_law_v", "_law_guard"] (spThird T) := by
  refine T.d_l_third.F.ok sc_l_third (fun vs H Q E h => ?_) (fun cdv A outer s H vs Q E hr h => ?_)
  · obtain ⟨a, w, v, g, rfl, _⟩ := h
    rfl
  · obtain ⟨a, w, v, g, rfl, q⟩ := h
    refine ⟨_, (pss_cons (ps_set (i := 4) sc_l_third.nd rfl (Or.inl rfl) (pe_lst (pa_cons (pe_mkE T.c_BadScript.e.ox T.c_BadScript.n.ini T.c_BadScript.n.ty (ok_BadScript T) (hr.mono (by decide)) T.c_BadScript.b pass0 (by rfl) T.c_BadScript.m (pa_cons (pv 0) pa_nil)) (pa_cons (pe_mkE T.c_NoTarget.e.ox T.c_NoTarget.n.ini T.c_NoTarget.n.ty (ok_NoTarget T) (hr.mono (by decide)) T.c_NoTarget.b pass0 (by rfl) T.c_NoTarget.m (pa_cons (pv 1) pa_nil)) (pa_cons (pe_mkE T.c_BadBinding.e.ox T.c_BadBinding.n.ini T.c_BadBinding.n.ty (ok_BadBinding T) (hr.mono (by decide)) T.c_BadBinding.b pass0 (by rfl) T.c_BadBinding.m (pa_cons (pv 2) pa_nil)) (pa_cons (pe_mkE T.c_NotComparable.e.ox T.c_NotComparable.n.ini T.c_NotComparable.n.ty (ok_NotComparable T) (hr.mono (by decide)) T.c_NotComparable.b pass0 (by rfl) T.c_NotComparable.m (pa_cons (pv 1) pa_nil)) (pa_cons (pe_mkE T.c_NotSeen.e.ox T.c_NotSeen.n.ini T.c_NotSeen.n.ty (ok_NotSeen T) (hr.mono (by decide)) T.c_NotSeen.b pass0 (by rfl) T.c_NotSeen.m (pa_cons (pe_tup (pa_cons (pv 1) (pa_cons (pe_tup (pa_cons pe_str (pa_cons (pv 0) pa_nil))) pa_nil))) pa_nil)) (pa_cons (pe_mkE T.c_GuardTwice.e.ox T.c_GuardTwice.n.ini T.c_GuardTwice.n.ty (ok_GuardTwice T) (hr.mono (by decide)) T.c_GuardTwice.b pass0 (by rfl) T.c_GuardTwice.m (pa_cons (pv 3) pa_nil)) pa_nil))))))))
      (pss_cons (ps_set (i := 4) sc_l_third.nd rfl (Or.inl rfl) (pe_op op_cat (pv 4) (pe_lst (pa_cons (pe_mkE T.c_NoGuard.e.ox T.c_NoGuard.n.ini T.c_NoGuard.n.ty (ok_NoGuard T) (hr.mono (by decide)) T.c_NoGuard.b pass0 (by rfl) T.c_NoGuard.m (pa_cons (pv 0) pa_nil)) (pa_cons (pe_mkE T.c_NoKind.e.ox T.c_NoKind.n.ini T.c_NoKind.n.ty (ok_NoKind T) (hr.mono (by decide)) T.c_NoKind.b pass0 (by rfl) T.c_NoKind.m (pa_cons (pv 1) pa_nil)) (pa_cons (pe_mkE0 PySem.F.excBase_ValueError T.c_NothingToUndo.x T.c_NothingToUndo.m T.c_NothingToUndo.e.ox.kC (by rfl)) (pa_cons (pe_mkE T.c_Broken.e.ox T.c_Broken.n.ini T.c_Broken.n.ty (ok_Broken T) (hr.mono (by decide)) T.c_Broken.b pass0 (by rfl) T.c_Broken.m (pa_cons (pv 3) (pa_cons (pe_tup (pa_cons (pe_tup (pa_cons pe_str (pa_cons (pv 1) (pa_cons pe_dnewK (pa_cons (pe_tup pa_nil) pa_nil))))) pa_nil)) pa_nil))) pa_nil)))))))
      (pss_one (ps_ret (pe_op op_cat (pv 4) (pe_lst (pa_cons (pe_mkE0 PySem.F.excBase_ValueError T.c_Failed.x T.c_Failed.m T.c_Failed.e.ox.kC (by rfl)) (pa_cons (pe_mkE T.c_MoveFailed.e.ox T.c_MoveFailed.n.ini T.c_MoveFailed.n.ty (ok_MoveFailed T) (hr.mono (by decide)) T.c_MoveFailed.b pass0 (by rfl) T.c_MoveFailed.m (pa_cons (pv 0) (pa_cons (pe_op op_add (pv 0) pe_int) pa_nil))) pa_nil)))))))), ?_⟩
    (try simp only [tSeq, tIfS, tTest, tB, tOp, tUn, tVar, tC, tAsg, gName, tRet, tRetN, tCB, tCons, tNil, tLst, tTup, tNext, tPar, tAug, tAugS, tExf_eq, ipI, tChain, tCall, tDrop, tAnd, tOr, tNot, tAndV, tOrV, tNotV, tIf, tIsN, tNotN, rI, rI0, rU, rEq, rNe, gSub, cx_K, L2.start, wipe, scal_ii, scal_ss, scal_bb, scal_is, scal_si, scal_nn, List.map_cons, List.map_nil, List.length_cons, List.length_nil, List.cons_append, List.nil_append, List.append_nil, List.replicate, List.getElem?_cons_zero, List.getElem?_cons_succ, Option.some.injEq, exists_and_left, exists_eq_left', exists_eq_left, V.int.injEq, V.ref.injEq, V.str.injEq, V.bl.injEq, List.cons.injEq, and_true, true_and, false_and, exists_false, or_false, false_or, reduceCtorEq, List.set_cons_zero, List.set_cons_succ, Nat.reduceAdd, Nat.reduceSub, Int.reduceToNat, decide_eq_true_eq, if_true, if_false, Bool.false_eq_true, Bool.not_true, Bool.not_false, Bool.true_eq_false, ite_false, ite_true, ne_eq, not_false_eq_true, Int.reduceEq])
    refine mkE1v rfl (fun xa1 xH1 xn1 xs1 xe1 => ?_)
    refine mkE1v rfl (fun xa2 xH2 xn2 xs2 xe2 => ?_)
    refine mkE1v rfl (fun xa3 xH3 xn3 xs3 xe3 => ?_)
    refine mkE1v rfl (fun xa4 xH4 xn4 xs4 xe4 => ?_)
    refine mkE1u ?_
    (try simp only [tSeq, tIfS, tTest, tB, tOp, tUn, tVar, tC, tAsg, gName, tRet, tRetN, tCB, tCons, tNil, tLst, tTup, tNext, tPar, tAug, tAugS, tExf_eq, ipI, tChain, tCall, tDrop, tAnd, tOr, tNot, tAndV, tOrV, tNotV, tIf, tIsN, tNotN, rI, rI0, rU, rEq, rNe, gSub, cx_K, L2.start, wipe, scal_ii, scal_ss, scal_bb, scal_is, scal_si, scal_nn, List.map_cons, List.map_nil, List.length_cons, List.length_nil, List.cons_append, List.nil_append, List.append_nil, List.replicate, List.getElem?_cons_zero, List.getElem?_cons_succ, Option.some.injEq, exists_and_left, exists_eq_left', exists_eq_left, V.int.injEq, V.ref.injEq, V.str.injEq, V.bl.injEq, List.cons.injEq, and_true, true_and, false_and, exists_false, or_false, false_or, reduceCtorEq, List.set_cons_zero, List.set_cons_succ, Nat.reduceAdd, Nat.reduceSub, Int.reduceToNat, decide_eq_true_eq, if_true, if_false, Bool.false_eq_true, Bool.not_true, Bool.not_false, Bool.true_eq_false, ite_false, ite_true, ne_eq, not_false_eq_true, Int.reduceEq])
    refine ⟨by decide, fun t1 ht1 => ⟨by decide, fun r0 hr0 => mk1_go fun xa5 xH5 xn5 xs5 xe5 => ?_⟩⟩
    have f1 : (upd (upd xH4 t1 (HO.tup [V.str "bind", V.int a])) r0 (HO.tup [w, V.ref t1])) r0 = some (.tup [w, V.ref t1]) := upd_same
    have f2 : (upd (upd xH4 t1 (HO.tup [V.str "bind", V.int a])) r0 (HO.tup [w, V.ref t1])) t1 = some (.tup [V.str "bind", V.int a]) := same_new hr0 _ _ upd_same
    have sR : Same xH4 (upd (upd xH4 t1 (HO.tup [V.str "bind", V.int a])) r0 (HO.tup [w, V.ref t1])) := (same_new ht1).trans (same_new hr0)
    refine mkE1v rfl (fun xa6 xH6 xn6 xs6 xe6 => ?_)
    refine ⟨by decide, fun p hp => ?_⟩
    have sp := same_new (o := HO.lst [V.ref xa1, V.ref xa2, V.ref xa3, V.ref xa4, V.ref xa5, V.ref xa6]) hp
    refine mkE1v rfl (fun ya1 yH1 yn1 ys1 ye1 => ?_)
    refine mkE1v rfl (fun ya2 yH2 yn2 ys2 ye2 => ?_)
    refine mkE0t (fun ya3 yH3 yn3 ys3 ye3 => ?_)
    refine mkE2u ?_
    (try simp only [tSeq, tIfS, tTest, tB, tOp, tUn, tVar, tC, tAsg, gName, tRet, tRetN, tCB, tCons, tNil, tLst, tTup, tNext, tPar, tAug, tAugS, tExf_eq, ipI, tChain, tCall, tDrop, tAnd, tOr, tNot, tAndV, tOrV, tNotV, tIf, tIsN, tNotN, rI, rI0, rU, rEq, rNe, gSub, cx_K, L2.start, wipe, scal_ii, scal_ss, scal_bb, scal_is, scal_si, scal_nn, List.map_cons, List.map_nil, List.length_cons, List.length_nil, List.cons_append, List.nil_append, List.append_nil, List.replicate, List.getElem?_cons_zero, List.getElem?_cons_succ, Option.some.injEq, exists_and_left, exists_eq_left', exists_eq_left, V.int.injEq, V.ref.injEq, V.str.injEq, V.bl.injEq, List.cons.injEq, and_true, true_and, false_and, exists_false, or_false, false_or, reduceCtorEq, List.set_cons_zero, List.set_cons_succ, Nat.reduceAdd, Nat.reduceSub, Int.reduceToNat, decide_eq_true_eq, if_true, if_false, Bool.false_eq_true, Bool.not_true, Bool.not_false, Bool.true_eq_false, ite_false, ite_true, ne_eq, not_false_eq_true, Int.reduceEq])
    simp only [tDNewK]
    refine fun d hd => ⟨by decide, fun u hu => ⟨by decide, fun m hm => ⟨by decide, fun s0 hs0 => mk2_go fun ya4 yH4 yn4 ys4 ye4 => ?_⟩⟩⟩
    have s1 := same_new (o := HO.dK []) hd
    have s2 := same_new (o := HO.tup []) hu
    have s3 := same_new (o := HO.tup [V.str "call", w, V.ref d, V.ref u]) hm
    have s4 := same_new (o := HO.tup [V.ref m]) hs0
    have g1 := s4 _ _ (s3 _ _ (s2 _ _ (show (upd yH3 d (HO.dK [])) d = _ from upd_same)))
    have g2 := s4 _ _ (s3 _ _ (show (upd (upd yH3 d (HO.dK [])) u (HO.tup [])) u = _ from upd_same))
    have g3 := s4 _ _ (show (upd (upd (upd yH3 d (HO.dK [])) u (HO.tup [])) m (HO.tup [V.str "call", w, V.ref d, V.ref u])) m = _ from upd_same)
    have g4 : (upd (upd (upd (upd yH3 d (HO.dK [])) u (HO.tup [])) m (HO.tup [V.str "call", w, V.ref d, V.ref u])) s0 (HO.tup [V.ref m])) s0 = some (.tup [V.ref m]) := upd_same
    refine ⟨by decide, fun p2 hp2 => ?_⟩
    have sp2 := same_new (o := HO.lst [V.ref ya1, V.ref ya2, V.ref ya3, V.ref ya4]) hp2
    have v6 := ys4
    have v5 := s1.trans (s2.trans (s3.trans (s4.trans v6)))
    have v4 := ys3.trans v5
    have v3 := ys2.trans v4
    have v2 := ys1.trans v3
    have v1 := sp.trans v2
    refine rCat_go (sp2 _ _ (v2 _ _ upd_same)) upd_same (by show 6 + 4 ≤ 1000000; decide) fun p3 hp3 => ?_
    have sp3 := same_new (o := HO.lst ([V.ref xa1, V.ref xa2, V.ref xa3, V.ref xa4, V.ref xa5, V.ref xa6] ++ [V.ref ya1, V.ref ya2, V.ref ya3, V.ref ya4])) hp3
    refine mkE0t (fun za1 zH1 zn1 zs1 ze1 => ?_)
    refine mkE2u ?_
    (try simp only [tSeq, tIfS, tTest, tB, tOp, tUn, tVar, tC, tAsg, gName, tRet, tRetN, tCB, tCons, tNil, tLst, tTup, tNext, tPar, tAug, tAugS, tExf_eq, ipI, tChain, tCall, tDrop, tAnd, tOr, tNot, tAndV, tOrV, tNotV, tIf, tIsN, tNotN, rI, rI0, rU, rEq, rNe, gSub, cx_K, L2.start, wipe, scal_ii, scal_ss, scal_bb, scal_is, scal_si, scal_nn, List.map_cons, List.map_nil, List.length_cons, List.length_nil, List.cons_append, List.nil_append, List.append_nil, List.replicate, List.getElem?_cons_zero, List.getElem?_cons_succ, Option.some.injEq, exists_and_left, exists_eq_left', exists_eq_left, V.int.injEq, V.ref.injEq, V.str.injEq, V.bl.injEq, List.cons.injEq, and_true, true_and, false_and, exists_false, or_false, false_or, reduceCtorEq, List.set_cons_zero, List.set_cons_succ, Nat.reduceAdd, Nat.reduceSub, Int.reduceToNat, decide_eq_true_eq, if_true, if_false, Bool.false_eq_true, Bool.not_true, Bool.not_false, Bool.true_eq_false, ite_false, ite_true, ne_eq, not_false_eq_true, Int.reduceEq])
    refine mk2_go (fun za2 zH2 zn2 zs2 ze2 => ?_)
    refine ⟨by decide, fun p4 hp4 => ?_⟩
    have sp4 := same_new (o := HO.lst [V.ref za1, V.ref za2]) hp4
    refine rCat_go (sp4 _ _ (zs2 _ _ (zs1 _ _ upd_same))) upd_same (by show 10 + 2 ≤ 1000000; decide) fun p5 hp5 => ?_
    have sp5 := same_new (o := HO.lst (([V.ref xa1, V.ref xa2, V.ref xa3, V.ref xa4, V.ref xa5, V.ref xa6] ++ [V.ref ya1, V.ref ya2, V.ref ya3, V.ref ya4]) ++ [V.ref za1, V.ref za2])) hp5
    have w1 := sp4.trans sp5
    have w0 := zs2.trans w1
    have wz := sp2.trans (sp3.trans (zs1.trans w0))
    have r6 := v1.trans wz
    have r5 := xs6.trans r6
    have r4 := xs5.trans r5
    have r3 := sR.trans r4
    have r2 := xs4.trans r3
    have r1 := xs3.trans r2
    have r0' := xs2.trans r1
    refine q p5 _ [xa1, xa2, xa3, xa4, xa5, xa6, ya1, ya2, ya3, ya4, za1, za2] (.ref r0) (.ref s0) (xs1.trans r0') upd_same ⟨r0, t1, rfl, r4 _ _ f1, r4 _ _ f2⟩ ⟨s0, m, d, u, rfl, (v6.trans wz) _ _ g4, (v6.trans wz) _ _ g3, (v6.trans wz) _ _ g1, (v6.trans wz) _ _ g2⟩ ?_
    exact .cons (xe1.same r0') (.cons (xe2.same r1) (.cons (xe3.same r2) (.cons (xe4.same r3) (.cons (xe5.same r5) (.cons (xe6.same r6) (.cons (ye1.same (v3.trans wz)) (.cons (ye2.same (v4.trans wz)) (.cons (ye3.same (v5.trans wz)) (.cons (ye4.same wz) (.cons (ze1.same w0) (.cons (ze2.same w1) .nil)))))))))))
end
end Own

set_option Elab.async false
set_option linter.all false
set_option maxRecDepth 100000
set_option maxHeartbeats 4000000
namespace Own
open PySem PySem.Spec PyProof.Rows L2
section
variable {P : Program} {w : World} {K : PySem.W.Frag} {mg : Str → Option Value} {base : Heap}
def rowsFirst (a w v : V) : List (List V) := [[a], [a, w], [a, w], [a, w], [a, w], [a, w], [a], [a], [a], [v], [a, w], [a]]
def sp_l_first_fields {K : PySem.W.Frag} {mg : Str → Option Value} (T : Txt K mg) : Sp := fun vs H Q _ => ∃ (l : Addr) (es : List Addr) (a w v : V), vs = [.ref l] ∧ H l = some (.lst (es.map V.ref)) ∧ Errs H es (eFirst T a w v) ∧ ∀ p H' qs, Same H H' → H' p = some (.lst (qs.map V.ref)) → Rows H' qs (rowsFirst a w v) → Q (.ref p) H'
theorem ok_l_first_fields (T : Txt K mg) : FnOk P w K mg base CX0 1 T.d_l_first_fields.a T.d_l_first_fields.d ["_law_m"] (sp_l_first_fields T) := by
  refine T.d_l_first_fields.F.ok sc_l_first_fields (fun vs H Q E h => ?_) (fun cdv A outer s H vs Q E hr h => ?_)
  · obtain ⟨l, es, a, w, v, rfl, _⟩ := h
    rfl
  · obtain ⟨l, es, a, w, v, rfl, hl, hE, q⟩ := h
    cases hE with | cons e0 hE =>
    rename_i x0 es
    cases hE with | cons e1 hE =>
    rename_i x1 es
    cases hE with | cons e2 hE =>
    rename_i x2 es
    cases hE with | cons e3 hE =>
    rename_i x3 es
    cases hE with | cons e4 hE =>
    rename_i x4 es
    cases hE with | cons e5 hE =>
    rename_i x5 es
    cases hE with | cons e6 hE =>
    rename_i x6 es
    cases hE with | cons e7 hE =>
    rename_i x7 es
    cases hE with | cons e8 hE =>
    rename_i x8 es
    cases hE with | cons e9 hE =>
    rename_i x9 es
    cases hE with | cons e10 hE =>
    rename_i x10 es
    cases hE with | cons e11 hE =>
    rename_i x11 es
    cases hE
    refine ⟨_, (pss_cons (ps_set (i := 1) sc_l_first_fields.nd rfl (Or.inl rfl) (pe_lst (pa_cons (pe_lst (pa_cons (pe_exf (pe_ix ix_list (pv 0) pe_int (fun _ _ => rfl))) pa_nil)) (pa_cons (pe_lst (pa_cons (pe_exf (pe_ix ix_list (pv 0) pe_int (fun _ _ => rfl))) (pa_cons (pe_exf (pe_ix ix_list (pv 0) pe_int (fun _ _ => rfl))) pa_nil))) (pa_cons (pe_lst (pa_cons (pe_exf (pe_ix ix_list (pv 0) pe_int (fun _ _ => rfl))) (pa_cons (pe_exf (pe_ix ix_list (pv 0) pe_int (fun _ _ => rfl))) pa_nil))) (pa_cons (pe_lst (pa_cons (pe_exf (pe_ix ix_list (pv 0) pe_int (fun _ _ => rfl))) (pa_cons (pe_exf (pe_ix ix_list (pv 0) pe_int (fun _ _ => rfl))) pa_nil))) pa_nil))))))
      (pss_cons (ps_set (i := 1) sc_l_first_fields.nd rfl (Or.inl rfl) (pe_op op_cat (pv 1) (pe_lst (pa_cons (pe_lst (pa_cons (pe_exf (pe_ix ix_list (pv 0) pe_int (fun _ _ => rfl))) (pa_cons (pe_exf (pe_ix ix_list (pv 0) pe_int (fun _ _ => rfl))) pa_nil))) (pa_cons (pe_lst (pa_cons (pe_exf (pe_ix ix_list (pv 0) pe_int (fun _ _ => rfl))) (pa_cons (pe_exf (pe_ix ix_list (pv 0) pe_int (fun _ _ => rfl))) pa_nil))) (pa_cons (pe_lst (pa_cons (pe_exf (pe_ix ix_list (pv 0) pe_int (fun _ _ => rfl))) pa_nil)) (pa_cons (pe_lst (pa_cons (pe_exf (pe_ix ix_list (pv 0) pe_int (fun _ _ => rfl))) pa_nil)) (pa_cons (pe_lst (pa_cons (pe_exf (pe_ix ix_list (pv 0) pe_int (fun _ _ => rfl))) pa_nil)) pa_nil))))))))
      (pss_one (ps_ret (pe_op op_cat (pv 1) (pe_lst (pa_cons (pe_lst (pa_cons (pe_exf (pe_ix ix_list (pv 0) pe_int (fun _ _ => rfl))) pa_nil)) (pa_cons (pe_lst (pa_cons (pe_exf (pe_ix ix_list (pv 0) pe_int (fun _ _ => rfl))) (pa_cons (pe_exf (pe_ix ix_list (pv 0) pe_int (fun _ _ => rfl))) pa_nil))) (pa_cons (pe_lst (pa_cons (pe_exf (pe_ix ix_list (pv 0) pe_int (fun _ _ => rfl))) pa_nil)) pa_nil))))))))), ?_⟩
    (try simp only [tSeq, tIfS, tTest, tB, tOp, tUn, tVar, tC, tAsg, gName, tRet, tRetN, tCB, tCons, tNil, tLst_eq, tTup_eq, tDNewK_eq, tNext, tPar, tAug, tAugS, tExf_eq, ipI, tChain, tCall, tDrop, tAnd, tOr, tNot, tAndV, tOrV, tNotV, tIf, tIsN, tNotN, rI, rI0, rU, rEq, rNe, gSub, cx_K, L2.start, wipe, scal_ii, scal_ss, scal_bb, scal_is, scal_si, scal_nn, List.map_cons, List.map_nil, List.length_cons, List.length_nil, List.cons_append, List.nil_append, List.append_nil, List.replicate, List.getElem?_cons_zero, List.getElem?_cons_succ, Option.some.injEq, exists_and_left, exists_eq_left', exists_eq_left, V.int.injEq, V.ref.injEq, V.str.injEq, V.bl.injEq, List.cons.injEq, and_true, true_and, false_and, exists_false, or_false, false_or, reduceCtorEq, List.set_cons_zero, List.set_cons_succ, Nat.reduceAdd, Nat.reduceSub, Int.reduceToNat, decide_eq_true_eq, if_true, if_false, Bool.false_eq_true, Bool.not_true, Bool.not_false, Bool.true_eq_false, ite_false, ite_true, ne_eq, not_false_eq_true, Int.reduceEq])
    have t0 := Same.refl H
    refine ixM_go (t0 _ _ hl) (atI_nat (j := 0) rfl) (exf_go (e0.same t0) T.c_BadTree.e.xf (T.c_BadTree.n.no _ (by simp)) look1 ?_)
    (try simp only [tSeq, tIfS, tTest, tB, tOp, tUn, tVar, tC, tAsg, gName, tRet, tRetN, tCB, tCons, tNil, tLst_eq, tTup_eq, tDNewK_eq, tNext, tPar, tAug, tAugS, tExf_eq, ipI, tChain, tCall, tDrop, tAnd, tOr, tNot, tAndV, tOrV, tNotV, tIf, tIsN, tNotN, rI, rI0, rU, rEq, rNe, gSub, cx_K, L2.start, wipe, scal_ii, scal_ss, scal_bb, scal_is, scal_si, scal_nn, List.map_cons, List.map_nil, List.length_cons, List.length_nil, List.cons_append, List.nil_append, List.append_nil, List.replicate, List.getElem?_cons_zero, List.getElem?_cons_succ, Option.some.injEq, exists_and_left, exists_eq_left', exists_eq_left, V.int.injEq, V.ref.injEq, V.str.injEq, V.bl.injEq, List.cons.injEq, and_true, true_and, false_and, exists_false, or_false, false_or, reduceCtorEq, List.set_cons_zero, List.set_cons_succ, Nat.reduceAdd, Nat.reduceSub, Int.reduceToNat, decide_eq_true_eq, if_true, if_false, Bool.false_eq_true, Bool.not_true, Bool.not_false, Bool.true_eq_false, ite_false, ite_true, ne_eq, not_false_eq_true, Int.reduceEq])
    refine newL_go fun p0 H0 hp0 s0 r0 => ?_
    have t1 := t0.trans s0
    refine ixM_go (t1 _ _ hl) (atI_nat (j := 1) rfl) (exf_go (e1.same t1) T.c_Duplicate.e.xf (T.c_Duplicate.n.no _ (by simp)) (look2 (by decide +kernel)) ?_)
    (try simp only [tSeq, tIfS, tTest, tB, tOp, tUn, tVar, tC, tAsg, gName, tRet, tRetN, tCB, tCons, tNil, tLst_eq, tTup_eq, tDNewK_eq, tNext, tPar, tAug, tAugS, tExf_eq, ipI, tChain, tCall, tDrop, tAnd, tOr, tNot, tAndV, tOrV, tNotV, tIf, tIsN, tNotN, rI, rI0, rU, rEq, rNe, gSub, cx_K, L2.start, wipe, scal_ii, scal_ss, scal_bb, scal_is, scal_si, scal_nn, List.map_cons, List.map_nil, List.length_cons, List.length_nil, List.cons_append, List.nil_append, List.append_nil, List.replicate, List.getElem?_cons_zero, List.getElem?_cons_succ, Option.some.injEq, exists_and_left, exists_eq_left', exists_eq_left, V.int.injEq, V.ref.injEq, V.str.injEq, V.bl.injEq, List.cons.injEq, and_true, true_and, false_and, exists_false, or_false, false_or, reduceCtorEq, List.set_cons_zero, List.set_cons_succ, Nat.reduceAdd, Nat.reduceSub, Int.reduceToNat, decide_eq_true_eq, if_true, if_false, Bool.false_eq_true, Bool.not_true, Bool.not_false, Bool.true_eq_false, ite_false, ite_true, ne_eq, not_false_eq_true, Int.reduceEq])
    refine ixM_go (t1 _ _ hl) (atI_nat (j := 1) rfl) (exf_go (e1.same t1) T.c_Duplicate.e.xf (T.c_Duplicate.n.no _ (by simp)) look1 ?_)
    (try simp only [tSeq, tIfS, tTest, tB, tOp, tUn, tVar, tC, tAsg, gName, tRet, tRetN, tCB, tCons, tNil, tLst_eq, tTup_eq, tDNewK_eq, tNext, tPar, tAug, tAugS, tExf_eq, ipI, tChain, tCall, tDrop, tAnd, tOr, tNot, tAndV, tOrV, tNotV, tIf, tIsN, tNotN, rI, rI0, rU, rEq, rNe, gSub, cx_K, L2.start, wipe, scal_ii, scal_ss, scal_bb, scal_is, scal_si, scal_nn, List.map_cons, List.map_nil, List.length_cons, List.length_nil, List.cons_append, List.nil_append, List.append_nil, List.replicate, List.getElem?_cons_zero, List.getElem?_cons_succ, Option.some.injEq, exists_and_left, exists_eq_left', exists_eq_left, V.int.injEq, V.ref.injEq, V.str.injEq, V.bl.injEq, List.cons.injEq, and_true, true_and, false_and, exists_false, or_false, false_or, reduceCtorEq, List.set_cons_zero, List.set_cons_succ, Nat.reduceAdd, Nat.reduceSub, Int.reduceToNat, decide_eq_true_eq, if_true, if_false, Bool.false_eq_true, Bool.not_true, Bool.not_false, Bool.true_eq_false, ite_false, ite_true, ne_eq, not_false_eq_true, Int.reduceEq])
    refine newL_go fun p1 H1 hp1 s1 r1 => ?_
    have t2 := t1.trans s1
    refine ixM_go (t2 _ _ hl) (atI_nat (j := 2) rfl) (exf_go (e2.same t2) T.c_Unknown.e.xf (T.c_Unknown.n.no _ (by simp)) (look2 (by decide +kernel)) ?_)
    (try simp only [tSeq, tIfS, tTest, tB, tOp, tUn, tVar, tC, tAsg, gName, tRet, tRetN, tCB, tCons, tNil, tLst_eq, tTup_eq, tDNewK_eq, tNext, tPar, tAug, tAugS, tExf_eq, ipI, tChain, tCall, tDrop, tAnd, tOr, tNot, tAndV, tOrV, tNotV, tIf, tIsN, tNotN, rI, rI0, rU, rEq, rNe, gSub, cx_K, L2.start, wipe, scal_ii, scal_ss, scal_bb, scal_is, scal_si, scal_nn, List.map_cons, List.map_nil, List.length_cons, List.length_nil, List.cons_append, List.nil_append, List.append_nil, List.replicate, List.getElem?_cons_zero, List.getElem?_cons_succ, Option.some.injEq, exists_and_left, exists_eq_left', exists_eq_left, V.int.injEq, V.ref.injEq, V.str.injEq, V.bl.injEq, List.cons.injEq, and_true, true_and, false_and, exists_false, or_false, false_or, reduceCtorEq, List.set_cons_zero, List.set_cons_succ, Nat.reduceAdd, Nat.reduceSub, Int.reduceToNat, decide_eq_true_eq, if_true, if_false, Bool.false_eq_true, Bool.not_true, Bool.not_false, Bool.true_eq_false, ite_false, ite_true, ne_eq, not_false_eq_true, Int.reduceEq])
    refine ixM_go (t2 _ _ hl) (atI_nat (j := 2) rfl) (exf_go (e2.same t2) T.c_Unknown.e.xf (T.c_Unknown.n.no _ (by simp)) look1 ?_)
    (try simp only [tSeq, tIfS, tTest, tB, tOp, tUn, tVar, tC, tAsg, gName, tRet, tRetN, tCB, tCons, tNil, tLst_eq, tTup_eq, tDNewK_eq, tNext, tPar, tAug, tAugS, tExf_eq, ipI, tChain, tCall, tDrop, tAnd, tOr, tNot, tAndV, tOrV, tNotV, tIf, tIsN, tNotN, rI, rI0, rU, rEq, rNe, gSub, cx_K, L2.start, wipe, scal_ii, scal_ss, scal_bb, scal_is, scal_si, scal_nn, List.map_cons, List.map_nil, List.length_cons, List.length_nil, List.cons_append, List.nil_append, List.append_nil, List.replicate, List.getElem?_cons_zero, List.getElem?_cons_succ, Option.some.injEq, exists_and_left, exists_eq_left', exists_eq_left, V.int.injEq, V.ref.injEq, V.str.injEq, V.bl.injEq, List.cons.injEq, and_true, true_and, false_and, exists_false, or_false, false_or, reduceCtorEq, List.set_cons_zero, List.set_cons_succ, Nat.reduceAdd, Nat.reduceSub, Int.reduceToNat, decide_eq_true_eq, if_true, if_false, Bool.false_eq_true, Bool.not_true, Bool.not_false, Bool.true_eq_false, ite_false, ite_true, ne_eq, not_false_eq_true, Int.reduceEq])
    refine newL_go fun p2 H2 hp2 s2 r2 => ?_
    have t3 := t2.trans s2
    refine ixM_go (t3 _ _ hl) (atI_nat (j := 3) rfl) (exf_go (e3.same t3) T.c_BadWord.e.xf (T.c_BadWord.n.no _ (by simp)) (look2 (by decide +kernel)) ?_)
    (try simp only [tSeq, tIfS, tTest, tB, tOp, tUn, tVar, tC, tAsg, gName, tRet, tRetN, tCB, tCons, tNil, tLst_eq, tTup_eq, tDNewK_eq, tNext, tPar, tAug, tAugS, tExf_eq, ipI, tChain, tCall, tDrop, tAnd, tOr, tNot, tAndV, tOrV, tNotV, tIf, tIsN, tNotN, rI, rI0, rU, rEq, rNe, gSub, cx_K, L2.start, wipe, scal_ii, scal_ss, scal_bb, scal_is, scal_si, scal_nn, List.map_cons, List.map_nil, List.length_cons, List.length_nil, List.cons_append, List.nil_append, List.append_nil, List.replicate, List.getElem?_cons_zero, List.getElem?_cons_succ, Option.some.injEq, exists_and_left, exists_eq_left', exists_eq_left, V.int.injEq, V.ref.injEq, V.str.injEq, V.bl.injEq, List.cons.injEq, and_true, true_and, false_and, exists_false, or_false, false_or, reduceCtorEq, List.set_cons_zero, List.set_cons_succ, Nat.reduceAdd, Nat.reduceSub, Int.reduceToNat, decide_eq_true_eq, if_true, if_false, Bool.false_eq_true, Bool.not_true, Bool.not_false, Bool.true_eq_false, ite_false, ite_true, ne_eq, not_false_eq_true, Int.reduceEq])
    refine ixM_go (t3 _ _ hl) (atI_nat (j := 3) rfl) (exf_go (e3.same t3) T.c_BadWord.e.xf (T.c_BadWord.n.no _ (by simp)) look1 ?_)
    (try simp only [tSeq, tIfS, tTest, tB, tOp, tUn, tVar, tC, tAsg, gName, tRet, tRetN, tCB, tCons, tNil, tLst_eq, tTup_eq, tDNewK_eq, tNext, tPar, tAug, tAugS, tExf_eq, ipI, tChain, tCall, tDrop, tAnd, tOr, tNot, tAndV, tOrV, tNotV, tIf, tIsN, tNotN, rI, rI0, rU, rEq, rNe, gSub, cx_K, L2.start, wipe, scal_ii, scal_ss, scal_bb, scal_is, scal_si, scal_nn, List.map_cons, List.map_nil, List.length_cons, List.length_nil, List.cons_append, List.nil_append, List.append_nil, List.replicate, List.getElem?_cons_zero, List.getElem?_cons_succ, Option.some.injEq, exists_and_left, exists_eq_left', exists_eq_left, V.int.injEq, V.ref.injEq, V.str.injEq, V.bl.injEq, List.cons.injEq, and_true, true_and, false_and, exists_false, or_false, false_or, reduceCtorEq, List.set_cons_zero, List.set_cons_succ, Nat.reduceAdd, Nat.reduceSub, Int.reduceToNat, decide_eq_true_eq, if_true, if_false, Bool.false_eq_true, Bool.not_true, Bool.not_false, Bool.true_eq_false, ite_false, ite_true, ne_eq, not_false_eq_true, Int.reduceEq])
    refine newL_go fun p3 H3 hp3 s3 r3 => ?_
    have t4 := t3.trans s3
    refine newL_go fun p4 H4 hp4 s4 r4 => ?_
    have t5 := t4.trans s4
    refine ixM_go (t5 _ _ hl) (atI_nat (j := 4) rfl) (exf_go (e4.same t5) T.c_Repeated.e.xf (T.c_Repeated.n.no _ (by simp)) (look2 (by decide +kernel)) ?_)
    (try simp only [tSeq, tIfS, tTest, tB, tOp, tUn, tVar, tC, tAsg, gName, tRet, tRetN, tCB, tCons, tNil, tLst_eq, tTup_eq, tDNewK_eq, tNext, tPar, tAug, tAugS, tExf_eq, ipI, tChain, tCall, tDrop, tAnd, tOr, tNot, tAndV, tOrV, tNotV, tIf, tIsN, tNotN, rI, rI0, rU, rEq, rNe, gSub, cx_K, L2.start, wipe, scal_ii, scal_ss, scal_bb, scal_is, scal_si, scal_nn, List.map_cons, List.map_nil, List.length_cons, List.length_nil, List.cons_append, List.nil_append, List.append_nil, List.replicate, List.getElem?_cons_zero, List.getElem?_cons_succ, Option.some.injEq, exists_and_left, exists_eq_left', exists_eq_left, V.int.injEq, V.ref.injEq, V.str.injEq, V.bl.injEq, List.cons.injEq, and_true, true_and, false_and, exists_false, or_false, false_or, reduceCtorEq, List.set_cons_zero, List.set_cons_succ, Nat.reduceAdd, Nat.reduceSub, Int.reduceToNat, decide_eq_true_eq, if_true, if_false, Bool.false_eq_true, Bool.not_true, Bool.not_false, Bool.true_eq_false, ite_false, ite_true, ne_eq, not_false_eq_true, Int.reduceEq])
    refine ixM_go (t5 _ _ hl) (atI_nat (j := 4) rfl) (exf_go (e4.same t5) T.c_Repeated.e.xf (T.c_Repeated.n.no _ (by simp)) look1 ?_)
    (try simp only [tSeq, tIfS, tTest, tB, tOp, tUn, tVar, tC, tAsg, gName, tRet, tRetN, tCB, tCons, tNil, tLst_eq, tTup_eq, tDNewK_eq, tNext, tPar, tAug, tAugS, tExf_eq, ipI, tChain, tCall, tDrop, tAnd, tOr, tNot, tAndV, tOrV, tNotV, tIf, tIsN, tNotN, rI, rI0, rU, rEq, rNe, gSub, cx_K, L2.start, wipe, scal_ii, scal_ss, scal_bb, scal_is, scal_si, scal_nn, List.map_cons, List.map_nil, List.length_cons, List.length_nil, List.cons_append, List.nil_append, List.append_nil, List.replicate, List.getElem?_cons_zero, List.getElem?_cons_succ, Option.some.injEq, exists_and_left, exists_eq_left', exists_eq_left, V.int.injEq, V.ref.injEq, V.str.injEq, V.bl.injEq, List.cons.injEq, and_true, true_and, false_and, exists_false, or_false, false_or, reduceCtorEq, List.set_cons_zero, List.set_cons_succ, Nat.reduceAdd, Nat.reduceSub, Int.reduceToNat, decide_eq_true_eq, if_true, if_false, Bool.false_eq_true, Bool.not_true, Bool.not_false, Bool.true_eq_false, ite_false, ite_true, ne_eq, not_false_eq_true, Int.reduceEq])
    refine newL_go fun p5 H5 hp5 s5 r5 => ?_
    have t6 := t5.trans s5
    refine ixM_go (t6 _ _ hl) (atI_nat (j := 5) rfl) (exf_go (e5.same t6) T.c_OutOfOrder.e.xf (T.c_OutOfOrder.n.no _ (by simp)) (look2 (by decide +kernel)) ?_)
    (try simp only [tSeq, tIfS, tTest, tB, tOp, tUn, tVar, tC, tAsg, gName, tRet, tRetN, tCB, tCons, tNil, tLst_eq, tTup_eq, tDNewK_eq, tNext, tPar, tAug, tAugS, tExf_eq, ipI, tChain, tCall, tDrop, tAnd, tOr, tNot, tAndV, tOrV, tNotV, tIf, tIsN, tNotN, rI, rI0, rU, rEq, rNe, gSub, cx_K, L2.start, wipe, scal_ii, scal_ss, scal_bb, scal_is, scal_si, scal_nn, List.map_cons, List.map_nil, List.length_cons, List.length_nil, List.cons_append, List.nil_append, List.append_nil, List.replicate, List.getElem?_cons_zero, List.getElem?_cons_succ, Option.some.injEq, exists_and_left, exists_eq_left', exists_eq_left, V.int.injEq, V.ref.injEq, V.str.injEq, V.bl.injEq, List.cons.injEq, and_true, true_and, false_and, exists_false, or_false, false_or, reduceCtorEq, List.set_cons_zero, List.set_cons_succ, Nat.reduceAdd, Nat.reduceSub, Int.reduceToNat, decide_eq_true_eq, if_true, if_false, Bool.false_eq_true, Bool.not_true, Bool.not_false, Bool.true_eq_false, ite_false, ite_true, ne_eq, not_false_eq_true, Int.reduceEq])
    refine ixM_go (t6 _ _ hl) (atI_nat (j := 5) rfl) (exf_go (e5.same t6) T.c_OutOfOrder.e.xf (T.c_OutOfOrder.n.no _ (by simp)) look1 ?_)
    (try simp only [tSeq, tIfS, tTest, tB, tOp, tUn, tVar, tC, tAsg, gName, tRet, tRetN, tCB, tCons, tNil, tLst_eq, tTup_eq, tDNewK_eq, tNext, tPar, tAug, tAugS, tExf_eq, ipI, tChain, tCall, tDrop, tAnd, tOr, tNot, tAndV, tOrV, tNotV, tIf, tIsN, tNotN, rI, rI0, rU, rEq, rNe, gSub, cx_K, L2.start, wipe, scal_ii, scal_ss, scal_bb, scal_is, scal_si, scal_nn, List.map_cons, List.map_nil, List.length_cons, List.length_nil, List.cons_append, List.nil_append, List.append_nil, List.replicate, List.getElem?_cons_zero, List.getElem?_cons_succ, Option.some.injEq, exists_and_left, exists_eq_left', exists_eq_left, V.int.injEq, V.ref.injEq, V.str.injEq, V.bl.injEq, List.cons.injEq, and_true, true_and, false_and, exists_false, or_false, false_or, reduceCtorEq, List.set_cons_zero, List.set_cons_succ, Nat.reduceAdd, Nat.reduceSub, Int.reduceToNat, decide_eq_true_eq, if_true, if_false, Bool.false_eq_true, Bool.not_true, Bool.not_false, Bool.true_eq_false, ite_false, ite_true, ne_eq, not_false_eq_true, Int.reduceEq])
    refine newL_go fun p6 H6 hp6 s6 r6 => ?_
    have t7 := t6.trans s6
    refine ixM_go (t7 _ _ hl) (atI_nat (j := 6) rfl) (exf_go (e6.same t7) T.c_BadLine.e.xf (T.c_BadLine.n.no _ (by simp)) look1 ?_)
    (try simp only [tSeq, tIfS, tTest, tB, tOp, tUn, tVar, tC, tAsg, gName, tRet, tRetN, tCB, tCons, tNil, tLst_eq, tTup_eq, tDNewK_eq, tNext, tPar, tAug, tAugS, tExf_eq, ipI, tChain, tCall, tDrop, tAnd, tOr, tNot, tAndV, tOrV, tNotV, tIf, tIsN, tNotN, rI, rI0, rU, rEq, rNe, gSub, cx_K, L2.start, wipe, scal_ii, scal_ss, scal_bb, scal_is, scal_si, scal_nn, List.map_cons, List.map_nil, List.length_cons, List.length_nil, List.cons_append, List.nil_append, List.append_nil, List.replicate, List.getElem?_cons_zero, List.getElem?_cons_succ, Option.some.injEq, exists_and_left, exists_eq_left', exists_eq_left, V.int.injEq, V.ref.injEq, V.str.injEq, V.bl.injEq, List.cons.injEq, and_true, true_and, false_and, exists_false, or_false, false_or, reduceCtorEq, List.set_cons_zero, List.set_cons_succ, Nat.reduceAdd, Nat.reduceSub, Int.reduceToNat, decide_eq_true_eq, if_true, if_false, Bool.false_eq_true, Bool.not_true, Bool.not_false, Bool.true_eq_false, ite_false, ite_true, ne_eq, not_false_eq_true, Int.reduceEq])
    refine newL_go fun p7 H7 hp7 s7 r7 => ?_
    have t8 := t7.trans s7
    refine ixM_go (t8 _ _ hl) (atI_nat (j := 7) rfl) (exf_go (e7.same t8) T.c_TooDeep.e.xf (T.c_TooDeep.n.no _ (by simp)) look1 ?_)
    (try simp only [tSeq, tIfS, tTest, tB, tOp, tUn, tVar, tC, tAsg, gName, tRet, tRetN, tCB, tCons, tNil, tLst_eq, tTup_eq, tDNewK_eq, tNext, tPar, tAug, tAugS, tExf_eq, ipI, tChain, tCall, tDrop, tAnd, tOr, tNot, tAndV, tOrV, tNotV, tIf, tIsN, tNotN, rI, rI0, rU, rEq, rNe, gSub, cx_K, L2.start, wipe, scal_ii, scal_ss, scal_bb, scal_is, scal_si, scal_nn, List.map_cons, List.map_nil, List.length_cons, List.length_nil, List.cons_append, List.nil_append, List.append_nil, List.replicate, List.getElem?_cons_zero, List.getElem?_cons_succ, Option.some.injEq, exists_and_left, exists_eq_left', exists_eq_left, V.int.injEq, V.ref.injEq, V.str.injEq, V.bl.injEq, List.cons.injEq, and_true, true_and, false_and, exists_false, or_false, false_or, reduceCtorEq, List.set_cons_zero, List.set_cons_succ, Nat.reduceAdd, Nat.reduceSub, Int.reduceToNat, decide_eq_true_eq, if_true, if_false, Bool.false_eq_true, Bool.not_true, Bool.not_false, Bool.true_eq_false, ite_false, ite_true, ne_eq, not_false_eq_true, Int.reduceEq])
    refine newL_go fun p8 H8 hp8 s8 r8 => ?_
    have t9 := t8.trans s8
    refine ixM_go (t9 _ _ hl) (atI_nat (j := 8) rfl) (exf_go (e8.same t9) T.c_Unclosed.e.xf (T.c_Unclosed.n.no _ (by simp)) look1 ?_)
    (try simp only [tSeq, tIfS, tTest, tB, tOp, tUn, tVar, tC, tAsg, gName, tRet, tRetN, tCB, tCons, tNil, tLst_eq, tTup_eq, tDNewK_eq, tNext, tPar, tAug, tAugS, tExf_eq, ipI, tChain, tCall, tDrop, tAnd, tOr, tNot, tAndV, tOrV, tNotV, tIf, tIsN, tNotN, rI, rI0, rU, rEq, rNe, gSub, cx_K, L2.start, wipe, scal_ii, scal_ss, scal_bb, scal_is, scal_si, scal_nn, List.map_cons, List.map_nil, List.length_cons, List.length_nil, List.cons_append, List.nil_append, List.append_nil, List.replicate, List.getElem?_cons_zero, List.getElem?_cons_succ, Option.some.injEq, exists_and_left, exists_eq_left', exists_eq_left, V.int.injEq, V.ref.injEq, V.str.injEq, V.bl.injEq, List.cons.injEq, and_true, true_and, false_and, exists_false, or_false, false_or, reduceCtorEq, List.set_cons_zero, List.set_cons_succ, Nat.reduceAdd, Nat.reduceSub, Int.reduceToNat, decide_eq_true_eq, if_true, if_false, Bool.false_eq_true, Bool.not_true, Bool.not_false, Bool.true_eq_false, ite_false, ite_true, ne_eq, not_false_eq_true, Int.reduceEq])
    refine newL_go fun p9 H9 hp9 s9 r9 => ?_
    have t10 := t9.trans s9
    refine newL_go fun p10 H10 hp10 s10 r10 => ?_
    have t11 := t10.trans s10
    refine cat_go (s10 _ _ (s9 _ _ (s8 _ _ (s7 _ _ (s6 _ _ (s5 _ _ r4)))))) r10 fun p11 H11 hp11 s11 r11 => ?_
    have t12 := t11.trans s11
    (try simp only [tSeq, tIfS, tTest, tB, tOp, tUn, tVar, tC, tAsg, gName, tRet, tRetN, tCB, tCons, tNil, tLst_eq, tTup_eq, tDNewK_eq, tNext, tPar, tAug, tAugS, tExf_eq, ipI, tChain, tCall, tDrop, tAnd, tOr, tNot, tAndV, tOrV, tNotV, tIf, tIsN, tNotN, rI, rI0, rU, rEq, rNe, gSub, cx_K, L2.start, wipe, scal_ii, scal_ss, scal_bb, scal_is, scal_si, scal_nn, List.map_cons, List.map_nil, List.length_cons, List.length_nil, List.cons_append, List.nil_append, List.append_nil, List.replicate, List.getElem?_cons_zero, List.getElem?_cons_succ, Option.some.injEq, exists_and_left, exists_eq_left', exists_eq_left, V.int.injEq, V.ref.injEq, V.str.injEq, V.bl.injEq, List.cons.injEq, and_true, true_and, false_and, exists_false, or_false, false_or, reduceCtorEq, List.set_cons_zero, List.set_cons_succ, Nat.reduceAdd, Nat.reduceSub, Int.reduceToNat, decide_eq_true_eq, if_true, if_false, Bool.false_eq_true, Bool.not_true, Bool.not_false, Bool.true_eq_false, ite_false, ite_true, ne_eq, not_false_eq_true, Int.reduceEq])
    refine ixM_go (t12 _ _ hl) (atI_nat (j := 9) rfl) (exf_go (e9.same t12) T.c_BadPair.e.xf (T.c_BadPair.n.no _ (by simp)) look1 ?_)
    (try simp only [tSeq, tIfS, tTest, tB, tOp, tUn, tVar, tC, tAsg, gName, tRet, tRetN, tCB, tCons, tNil, tLst_eq, tTup_eq, tDNewK_eq, tNext, tPar, tAug, tAugS, tExf_eq, ipI, tChain, tCall, tDrop, tAnd, tOr, tNot, tAndV, tOrV, tNotV, tIf, tIsN, tNotN, rI, rI0, rU, rEq, rNe, gSub, cx_K, L2.start, wipe, scal_ii, scal_ss, scal_bb, scal_is, scal_si, scal_nn, List.map_cons, List.map_nil, List.length_cons, List.length_nil, List.cons_append, List.nil_append, List.append_nil, List.replicate, List.getElem?_cons_zero, List.getElem?_cons_succ, Option.some.injEq, exists_and_left, exists_eq_left', exists_eq_left, V.int.injEq, V.ref.injEq, V.str.injEq, V.bl.injEq, List.cons.injEq, and_true, true_and, false_and, exists_false, or_false, false_or, reduceCtorEq, List.set_cons_zero, List.set_cons_succ, Nat.reduceAdd, Nat.reduceSub, Int.reduceToNat, decide_eq_true_eq, if_true, if_false, Bool.false_eq_true, Bool.not_true, Bool.not_false, Bool.true_eq_false, ite_false, ite_true, ne_eq, not_false_eq_true, Int.reduceEq])
    refine newL_go fun p12 H12 hp12 s12 r12 => ?_
    have t13 := t12.trans s12
    refine ixM_go (t13 _ _ hl) (atI_nat (j := 10) rfl) (exf_go (e10.same t13) T.c_NoKeeping.e.xf (T.c_NoKeeping.n.no _ (by simp)) (look2 (by decide +kernel)) ?_)
    (try simp only [tSeq, tIfS, tTest, tB, tOp, tUn, tVar, tC, tAsg, gName, tRet, tRetN, tCB, tCons, tNil, tLst_eq, tTup_eq, tDNewK_eq, tNext, tPar, tAug, tAugS, tExf_eq, ipI, tChain, tCall, tDrop, tAnd, tOr, tNot, tAndV, tOrV, tNotV, tIf, tIsN, tNotN, rI, rI0, rU, rEq, rNe, gSub, cx_K, L2.start, wipe, scal_ii, scal_ss, scal_bb, scal_is, scal_si, scal_nn, List.map_cons, List.map_nil, List.length_cons, List.length_nil, List.cons_append, List.nil_append, List.append_nil, List.replicate, List.getElem?_cons_zero, List.getElem?_cons_succ, Option.some.injEq, exists_and_left, exists_eq_left', exists_eq_left, V.int.injEq, V.ref.injEq, V.str.injEq, V.bl.injEq, List.cons.injEq, and_true, true_and, false_and, exists_false, or_false, false_or, reduceCtorEq, List.set_cons_zero, List.set_cons_succ, Nat.reduceAdd, Nat.reduceSub, Int.reduceToNat, decide_eq_true_eq, if_true, if_false, Bool.false_eq_true, Bool.not_true, Bool.not_false, Bool.true_eq_false, ite_false, ite_true, ne_eq, not_false_eq_true, Int.reduceEq])
    refine ixM_go (t13 _ _ hl) (atI_nat (j := 10) rfl) (exf_go (e10.same t13) T.c_NoKeeping.e.xf (T.c_NoKeeping.n.no _ (by simp)) look1 ?_)
    (try simp only [tSeq, tIfS, tTest, tB, tOp, tUn, tVar, tC, tAsg, gName, tRet, tRetN, tCB, tCons, tNil, tLst_eq, tTup_eq, tDNewK_eq, tNext, tPar, tAug, tAugS, tExf_eq, ipI, tChain, tCall, tDrop, tAnd, tOr, tNot, tAndV, tOrV, tNotV, tIf, tIsN, tNotN, rI, rI0, rU, rEq, rNe, gSub, cx_K, L2.start, wipe, scal_ii, scal_ss, scal_bb, scal_is, scal_si, scal_nn, List.map_cons, List.map_nil, List.length_cons, List.length_nil, List.cons_append, List.nil_append, List.append_nil, List.replicate, List.getElem?_cons_zero, List.getElem?_cons_succ, Option.some.injEq, exists_and_left, exists_eq_left', exists_eq_left, V.int.injEq, V.ref.injEq, V.str.injEq, V.bl.injEq, List.cons.injEq, and_true, true_and, false_and, exists_false, or_false, false_or, reduceCtorEq, List.set_cons_zero, List.set_cons_succ, Nat.reduceAdd, Nat.reduceSub, Int.reduceToNat, decide_eq_true_eq, if_true, if_false, Bool.false_eq_true, Bool.not_true, Bool.not_false, Bool.true_eq_false, ite_false, ite_true, ne_eq, not_false_eq_true, Int.reduceEq])
    refine newL_go fun p13 H13 hp13 s13 r13 => ?_
    have t14 := t13.trans s13
    refine ixM_go (t14 _ _ hl) (atI_nat (j := 11) rfl) (exf_go (e11.same t14) T.c_TooMany.e.xf (T.c_TooMany.n.no _ (by simp)) look1 ?_)
    (try simp only [tSeq, tIfS, tTest, tB, tOp, tUn, tVar, tC, tAsg, gName, tRet, tRetN, tCB, tCons, tNil, tLst_eq, tTup_eq, tDNewK_eq, tNext, tPar, tAug, tAugS, tExf_eq, ipI, tChain, tCall, tDrop, tAnd, tOr, tNot, tAndV, tOrV, tNotV, tIf, tIsN, tNotN, rI, rI0, rU, rEq, rNe, gSub, cx_K, L2.start, wipe, scal_ii, scal_ss, scal_bb, scal_is, scal_si, scal_nn, List.map_cons, List.map_nil, List.length_cons, List.length_nil, List.cons_append, List.nil_append, List.append_nil, List.replicate, List.getElem?_cons_zero, List.getElem?_cons_succ, Option.some.injEq, exists_and_left, exists_eq_left', exists_eq_left, V.int.injEq, V.ref.injEq, V.str.injEq, V.bl.injEq, List.cons.injEq, and_true, true_and, false_and, exists_false, or_false, false_or, reduceCtorEq, List.set_cons_zero, List.set_cons_succ, Nat.reduceAdd, Nat.reduceSub, Int.reduceToNat, decide_eq_true_eq, if_true, if_false, Bool.false_eq_true, Bool.not_true, Bool.not_false, Bool.true_eq_false, ite_false, ite_true, ne_eq, not_false_eq_true, Int.reduceEq])
    refine newL_go fun p14 H14 hp14 s14 r14 => ?_
    have t15 := t14.trans s14
    refine newL_go fun p15 H15 hp15 s15 r15 => ?_
    have t16 := t15.trans s15
    refine cat_go (s15 _ _ (s14 _ _ (s13 _ _ (s12 _ _ r11)))) r15 fun p16 H16 hp16 s16 r16 => ?_
    have t17 := t16.trans s16
    (try simp only [tSeq, tIfS, tTest, tB, tOp, tUn, tVar, tC, tAsg, gName, tRet, tRetN, tCB, tCons, tNil, tLst_eq, tTup_eq, tDNewK_eq, tNext, tPar, tAug, tAugS, tExf_eq, ipI, tChain, tCall, tDrop, tAnd, tOr, tNot, tAndV, tOrV, tNotV, tIf, tIsN, tNotN, rI, rI0, rU, rEq, rNe, gSub, cx_K, L2.start, wipe, scal_ii, scal_ss, scal_bb, scal_is, scal_si, scal_nn, List.map_cons, List.map_nil, List.length_cons, List.length_nil, List.cons_append, List.nil_append, List.append_nil, List.replicate, List.getElem?_cons_zero, List.getElem?_cons_succ, Option.some.injEq, exists_and_left, exists_eq_left', exists_eq_left, V.int.injEq, V.ref.injEq, V.str.injEq, V.bl.injEq, List.cons.injEq, and_true, true_and, false_and, exists_false, or_false, false_or, reduceCtorEq, List.set_cons_zero, List.set_cons_succ, Nat.reduceAdd, Nat.reduceSub, Int.reduceToNat, decide_eq_true_eq, if_true, if_false, Bool.false_eq_true, Bool.not_true, Bool.not_false, Bool.true_eq_false, ite_false, ite_true, ne_eq, not_false_eq_true, Int.reduceEq])
    refine q p16 _ [p0, p1, p2, p3, p5, p6, p7, p8, p9, p12, p13, p14] t17 r16 ?_
    exact .cons (s16 _ _ (s15 _ _ (s14 _ _ (s13 _ _ (s12 _ _ (s11 _ _ (s10 _ _ (s9 _ _ (s8 _ _ (s7 _ _ (s6 _ _ (s5 _ _ (s4 _ _ (s3 _ _ (s2 _ _ (s1 _ _ r0)))))))))))))))) (.cons (s16 _ _ (s15 _ _ (s14 _ _ (s13 _ _ (s12 _ _ (s11 _ _ (s10 _ _ (s9 _ _ (s8 _ _ (s7 _ _ (s6 _ _ (s5 _ _ (s4 _ _ (s3 _ _ (s2 _ _ r1))))))))))))))) (.cons (s16 _ _ (s15 _ _ (s14 _ _ (s13 _ _ (s12 _ _ (s11 _ _ (s10 _ _ (s9 _ _ (s8 _ _ (s7 _ _ (s6 _ _ (s5 _ _ (s4 _ _ (s3 _ _ r2)))))))))))))) (.cons (s16 _ _ (s15 _ _ (s14 _ _ (s13 _ _ (s12 _ _ (s11 _ _ (s10 _ _ (s9 _ _ (s8 _ _ (s7 _ _ (s6 _ _ (s5 _ _ (s4 _ _ r3))))))))))))) (.cons (s16 _ _ (s15 _ _ (s14 _ _ (s13 _ _ (s12 _ _ (s11 _ _ (s10 _ _ (s9 _ _ (s8 _ _ (s7 _ _ (s6 _ _ r5))))))))))) (.cons (s16 _ _ (s15 _ _ (s14 _ _ (s13 _ _ (s12 _ _ (s11 _ _ (s10 _ _ (s9 _ _ (s8 _ _ (s7 _ _ r6)))))))))) (.cons (s16 _ _ (s15 _ _ (s14 _ _ (s13 _ _ (s12 _ _ (s11 _ _ (s10 _ _ (s9 _ _ (s8 _ _ r7))))))))) (.cons (s16 _ _ (s15 _ _ (s14 _ _ (s13 _ _ (s12 _ _ (s11 _ _ (s10 _ _ (s9 _ _ r8)))))))) (.cons (s16 _ _ (s15 _ _ (s14 _ _ (s13 _ _ (s12 _ _ (s11 _ _ (s10 _ _ r9))))))) (.cons (s16 _ _ (s15 _ _ (s14 _ _ (s13 _ _ r12)))) (.cons (s16 _ _ (s15 _ _ (s14 _ _ r13))) (.cons (s16 _ _ (s15 _ _ r14)) .nil)))))))))))
end
end Own

set_option Elab.async false
set_option linter.all false
set_option maxRecDepth 100000
set_option maxHeartbeats 4000000
namespace Own
open PySem PySem.Spec PyProof.Rows L2
section
variable {P : Program} {w : World} {K : PySem.W.Frag} {mg : Str → Option Value} {base : Heap}
def rowsSecond (a w v : V) : List (List V) := [[a], [a], [w], [a, w], [a], [a], [v], [w], [v], [v], [v], [v], [v]]
def sp_l_second_fields {K : PySem.W.Frag} {mg : Str → Option Value} (T : Txt K mg) : Sp := fun vs H Q _ => ∃ (l : Addr) (es : List Addr) (a w v : V), vs = [.ref l] ∧ H l = some (.lst (es.map V.ref)) ∧ Errs H es (eSecond T a w v) ∧ ∀ p H' qs, Same H H' → H' p = some (.lst (qs.map V.ref)) → Rows H' qs (rowsSecond a w v) → Q (.ref p) H'
theorem ok_l_second_fields (T : Txt K mg) : FnOk P w K mg base CX0 1 T.d_l_second_fields.a T.d_l_second_fields.d ["_law_m"] (sp_l_second_fields T) := by
  refine T.d_l_second_fields.F.ok sc_l_second_fields (fun vs H Q E h => ?_) (fun cdv A outer s H vs Q E hr h => ?_)
  · obtain ⟨l, es, a, w, v, rfl, _⟩ := h
    rfl
  · obtain ⟨l, es, a, w, v, rfl, hl, hE, q⟩ := h
    cases hE with | cons e0 hE =>
    rename_i x0 es
    cases hE with | cons e1 hE =>
    rename_i x1 es
    cases hE with | cons e2 hE =>
    rename_i x2 es
    cases hE with | cons e3 hE =>
    rename_i x3 es
    cases hE with | cons e4 hE =>
    rename_i x4 es
    cases hE with | cons e5 hE =>
    rename_i x5 es
    cases hE with | cons e6 hE =>
    rename_i x6 es
    cases hE with | cons e7 hE =>
    rename_i x7 es
    cases hE with | cons e8 hE =>
    rename_i x8 es
    cases hE with | cons e9 hE =>
    rename_i x9 es
    cases hE with | cons e10 hE =>
    rename_i x10 es
    cases hE with | cons e11 hE =>
    rename_i x11 es
    cases hE with | cons e12 hE =>
    rename_i x12 es
    cases hE
    refine ⟨_, (pss_cons (ps_set (i := 1) sc_l_second_fields.nd rfl (Or.inl rfl) (pe_lst (pa_cons (pe_lst (pa_cons (pe_exf (pe_ix ix_list (pv 0) pe_int (fun _ _ => rfl))) pa_nil)) (pa_cons (pe_lst (pa_cons (pe_exf (pe_ix ix_list (pv 0) pe_int (fun _ _ => rfl))) pa_nil)) (pa_cons (pe_lst (pa_cons (pe_exf (pe_ix ix_list (pv 0) pe_int (fun _ _ => rfl))) pa_nil)) (pa_cons (pe_lst (pa_cons (pe_exf (pe_ix ix_list (pv 0) pe_int (fun _ _ => rfl))) (pa_cons (pe_exf (pe_ix ix_list (pv 0) pe_int (fun _ _ => rfl))) pa_nil))) (pa_cons (pe_lst (pa_cons (pe_exf (pe_ix ix_list (pv 0) pe_int (fun _ _ => rfl))) pa_nil)) (pa_cons (pe_lst (pa_cons (pe_exf (pe_ix ix_list (pv 0) pe_int (fun _ _ => rfl))) pa_nil)) (pa_cons (pe_lst (pa_cons (pe_exf (pe_ix ix_list (pv 0) pe_int (fun _ _ => rfl))) pa_nil)) pa_nil)))))))))
      (pss_one (ps_ret (pe_op op_cat (pv 1) (pe_lst (pa_cons (pe_lst (pa_cons (pe_exf (pe_ix ix_list (pv 0) pe_int (fun _ _ => rfl))) pa_nil)) (pa_cons (pe_lst (pa_cons (pe_exf (pe_ix ix_list (pv 0) pe_int (fun _ _ => rfl))) pa_nil)) (pa_cons (pe_lst (pa_cons (pe_exf (pe_ix ix_list (pv 0) pe_int (fun _ _ => rfl))) pa_nil)) (pa_cons (pe_lst (pa_cons (pe_exf (pe_ix ix_list (pv 0) pe_int (fun _ _ => rfl))) pa_nil)) (pa_cons (pe_lst (pa_cons (pe_exf (pe_ix ix_list (pv 0) pe_int (fun _ _ => rfl))) pa_nil)) (pa_cons (pe_lst (pa_cons (pe_exf (pe_ix ix_list (pv 0) pe_int (fun _ _ => rfl))) pa_nil)) pa_nil))))))))))), ?_⟩
    (try simp only [tSeq, tIfS, tTest, tB, tOp, tUn, tVar, tC, tAsg, gName, tRet, tRetN, tCB, tCons, tNil, tLst_eq, tTup_eq, tDNewK_eq, tNext, tPar, tAug, tAugS, tExf_eq, ipI, tChain, tCall, tDrop, tAnd, tOr, tNot, tAndV, tOrV, tNotV, tIf, tIsN, tNotN, rI, rI0, rU, rEq, rNe, gSub, cx_K, L2.start, wipe, scal_ii, scal_ss, scal_bb, scal_is, scal_si, scal_nn, List.map_cons, List.map_nil, List.length_cons, List.length_nil, List.cons_append, List.nil_append, List.append_nil, List.replicate, List.getElem?_cons_zero, List.getElem?_cons_succ, Option.some.injEq, exists_and_left, exists_eq_left', exists_eq_left, V.int.injEq, V.ref.injEq, V.str.injEq, V.bl.injEq, List.cons.injEq, and_true, true_and, false_and, exists_false, or_false, false_or, reduceCtorEq, List.set_cons_zero, List.set_cons_succ, Nat.reduceAdd, Nat.reduceSub, Int.reduceToNat, decide_eq_true_eq, if_true, if_false, Bool.false_eq_true, Bool.not_true, Bool.not_false, Bool.true_eq_false, ite_false, ite_true, ne_eq, not_false_eq_true, Int.reduceEq])
    have t0 := Same.refl H
    refine ixM_go (t0 _ _ hl) (atI_nat (j := 0) rfl) (exf_go (e0.same t0) T.c_NoLine.e.xf (T.c_NoLine.n.no _ (by simp)) look1 ?_)
    (try simp only [tSeq, tIfS, tTest, tB, tOp, tUn, tVar, tC, tAsg, gName, tRet, tRetN, tCB, tCons, tNil, tLst_eq, tTup_eq, tDNewK_eq, tNext, tPar, tAug, tAugS, tExf_eq, ipI, tChain, tCall, tDrop, tAnd, tOr, tNot, tAndV, tOrV, tNotV, tIf, tIsN, tNotN, rI, rI0, rU, rEq, rNe, gSub, cx_K, L2.start, wipe, scal_ii, scal_ss, scal_bb, scal_is, scal_si, scal_nn, List.map_cons, List.map_nil, List.length_cons, List.length_nil, List.cons_append, List.nil_append, List.append_nil, List.replicate, List.getElem?_cons_zero, List.getElem?_cons_succ, Option.some.injEq, exists_and_left, exists_eq_left', exists_eq_left, V.int.injEq, V.ref.injEq, V.str.injEq, V.bl.injEq, List.cons.injEq, and_true, true_and, false_and, exists_false, or_false, false_or, reduceCtorEq, List.set_cons_zero, List.set_cons_succ, Nat.reduceAdd, Nat.reduceSub, Int.reduceToNat, decide_eq_true_eq, if_true, if_false, Bool.false_eq_true, Bool.not_true, Bool.not_false, Bool.true_eq_false, ite_false, ite_true, ne_eq, not_false_eq_true, Int.reduceEq])
    refine newL_go fun p0 H0 hp0 s0 r0 => ?_
    have t1 := t0.trans s0
    refine ixM_go (t1 _ _ hl) (atI_nat (j := 1) rfl) (exf_go (e1.same t1) T.c_NoStatement.e.xf (T.c_NoStatement.n.no _ (by simp)) look1 ?_)
    (try simp only [tSeq, tIfS, tTest, tB, tOp, tUn, tVar, tC, tAsg, gName, tRet, tRetN, tCB, tCons, tNil, tLst_eq, tTup_eq, tDNewK_eq, tNext, tPar, tAug, tAugS, tExf_eq, ipI, tChain, tCall, tDrop, tAnd, tOr, tNot, tAndV, tOrV, tNotV, tIf, tIsN, tNotN, rI, rI0, rU, rEq, rNe, gSub, cx_K, L2.start, wipe, scal_ii, scal_ss, scal_bb, scal_is, scal_si, scal_nn, List.map_cons, List.map_nil, List.length_cons, List.length_nil, List.cons_append, List.nil_append, List.append_nil, List.replicate, List.getElem?_cons_zero, List.getElem?_cons_succ, Option.some.injEq, exists_and_left, exists_eq_left', exists_eq_left, V.int.injEq, V.ref.injEq, V.str.injEq, V.bl.injEq, List.cons.injEq, and_true, true_and, false_and, exists_false, or_false, false_or, reduceCtorEq, List.set_cons_zero, List.set_cons_succ, Nat.reduceAdd, Nat.reduceSub, Int.reduceToNat, decide_eq_true_eq, if_true, if_false, Bool.false_eq_true, Bool.not_true, Bool.not_false, Bool.true_eq_false, ite_false, ite_true, ne_eq, not_false_eq_true, Int.reduceEq])
    refine newL_go fun p1 H1 hp1 s1 r1 => ?_
    have t2 := t1.trans s1
    refine ixM_go (t2 _ _ hl) (atI_nat (j := 2) rfl) (exf_go (e2.same t2) T.c_NoPart.e.xf (T.c_NoPart.n.no _ (by simp)) look1 ?_)
    (try simp only [tSeq, tIfS, tTest, tB, tOp, tUn, tVar, tC, tAsg, gName, tRet, tRetN, tCB, tCons, tNil, tLst_eq, tTup_eq, tDNewK_eq, tNext, tPar, tAug, tAugS, tExf_eq, ipI, tChain, tCall, tDrop, tAnd, tOr, tNot, tAndV, tOrV, tNotV, tIf, tIsN, tNotN, rI, rI0, rU, rEq, rNe, gSub, cx_K, L2.start, wipe, scal_ii, scal_ss, scal_bb, scal_is, scal_si, scal_nn, List.map_cons, List.map_nil, List.length_cons, List.length_nil, List.cons_append, List.nil_append, List.append_nil, List.replicate, List.getElem?_cons_zero, List.getElem?_cons_succ, Option.some.injEq, exists_and_left, exists_eq_left', exists_eq_left, V.int.injEq, V.ref.injEq, V.str.injEq, V.bl.injEq, List.cons.injEq, and_true, true_and, false_and, exists_false, or_false, false_or, reduceCtorEq, List.set_cons_zero, List.set_cons_succ, Nat.reduceAdd, Nat.reduceSub, Int.reduceToNat, decide_eq_true_eq, if_true, if_false, Bool.false_eq_true, Bool.not_true, Bool.not_false, Bool.true_eq_false, ite_false, ite_true, ne_eq, not_false_eq_true, Int.reduceEq])
    refine newL_go fun p2 H2 hp2 s2 r2 => ?_
    have t3 := t2.trans s2
    refine ixM_go (t3 _ _ hl) (atI_nat (j := 3) rfl) (exf_go (e3.same t3) T.c_InUse.e.xf (T.c_InUse.n.no _ (by simp)) (look2 (by decide +kernel)) ?_)
    (try simp only [tSeq, tIfS, tTest, tB, tOp, tUn, tVar, tC, tAsg, gName, tRet, tRetN, tCB, tCons, tNil, tLst_eq, tTup_eq, tDNewK_eq, tNext, tPar, tAug, tAugS, tExf_eq, ipI, tChain, tCall, tDrop, tAnd, tOr, tNot, tAndV, tOrV, tNotV, tIf, tIsN, tNotN, rI, rI0, rU, rEq, rNe, gSub, cx_K, L2.start, wipe, scal_ii, scal_ss, scal_bb, scal_is, scal_si, scal_nn, List.map_cons, List.map_nil, List.length_cons, List.length_nil, List.cons_append, List.nil_append, List.append_nil, List.replicate, List.getElem?_cons_zero, List.getElem?_cons_succ, Option.some.injEq, exists_and_left, exists_eq_left', exists_eq_left, V.int.injEq, V.ref.injEq, V.str.injEq, V.bl.injEq, List.cons.injEq, and_true, true_and, false_and, exists_false, or_false, false_or, reduceCtorEq, List.set_cons_zero, List.set_cons_succ, Nat.reduceAdd, Nat.reduceSub, Int.reduceToNat, decide_eq_true_eq, if_true, if_false, Bool.false_eq_true, Bool.not_true, Bool.not_false, Bool.true_eq_false, ite_false, ite_true, ne_eq, not_false_eq_true, Int.reduceEq])
    refine ixM_go (t3 _ _ hl) (atI_nat (j := 3) rfl) (exf_go (e3.same t3) T.c_InUse.e.xf (T.c_InUse.n.no _ (by simp)) look1 ?_)
    (try simp only [tSeq, tIfS, tTest, tB, tOp, tUn, tVar, tC, tAsg, gName, tRet, tRetN, tCB, tCons, tNil, tLst_eq, tTup_eq, tDNewK_eq, tNext, tPar, tAug, tAugS, tExf_eq, ipI, tChain, tCall, tDrop, tAnd, tOr, tNot, tAndV, tOrV, tNotV, tIf, tIsN, tNotN, rI, rI0, rU, rEq, rNe, gSub, cx_K, L2.start, wipe, scal_ii, scal_ss, scal_bb, scal_is, scal_si, scal_nn, List.map_cons, List.map_nil, List.length_cons, List.length_nil, List.cons_append, List.nil_append, List.append_nil, List.replicate, List.getElem?_cons_zero, List.getElem?_cons_succ, Option.some.injEq, exists_and_left, exists_eq_left', exists_eq_left, V.int.injEq, V.ref.injEq, V.str.injEq, V.bl.injEq, List.cons.injEq, and_true, true_and, false_and, exists_false, or_false, false_or, reduceCtorEq, List.set_cons_zero, List.set_cons_succ, Nat.reduceAdd, Nat.reduceSub, Int.reduceToNat, decide_eq_true_eq, if_true, if_false, Bool.false_eq_true, Bool.not_true, Bool.not_false, Bool.true_eq_false, ite_false, ite_true, ne_eq, not_false_eq_true, Int.reduceEq])
    refine newL_go fun p3 H3 hp3 s3 r3 => ?_
    have t4 := t3.trans s3
    refine ixM_go (t4 _ _ hl) (atI_nat (j := 4) rfl) (exf_go (e4.same t4) T.c_NotWrapped.e.xf (T.c_NotWrapped.n.no _ (by simp)) look1 ?_)
    (try simp only [tSeq, tIfS, tTest, tB, tOp, tUn, tVar, tC, tAsg, gName, tRet, tRetN, tCB, tCons, tNil, tLst_eq, tTup_eq, tDNewK_eq, tNext, tPar, tAug, tAugS, tExf_eq, ipI, tChain, tCall, tDrop, tAnd, tOr, tNot, tAndV, tOrV, tNotV, tIf, tIsN, tNotN, rI, rI0, rU, rEq, rNe, gSub, cx_K, L2.start, wipe, scal_ii, scal_ss, scal_bb, scal_is, scal_si, scal_nn, List.map_cons, List.map_nil, List.length_cons, List.length_nil, List.cons_append, List.nil_append, List.append_nil, List.replicate, List.getElem?_cons_zero, List.getElem?_cons_succ, Option.some.injEq, exists_and_left, exists_eq_left', exists_eq_left, V.int.injEq, V.ref.injEq, V.str.injEq, V.bl.injEq, List.cons.injEq, and_true, true_and, false_and, exists_false, or_false, false_or, reduceCtorEq, List.set_cons_zero, List.set_cons_succ, Nat.reduceAdd, Nat.reduceSub, Int.reduceToNat, decide_eq_true_eq, if_true, if_false, Bool.false_eq_true, Bool.not_true, Bool.not_false, Bool.true_eq_false, ite_false, ite_true, ne_eq, not_false_eq_true, Int.reduceEq])
    refine newL_go fun p4 H4 hp4 s4 r4 => ?_
    have t5 := t4.trans s4
    refine ixM_go (t5 _ _ hl) (atI_nat (j := 5) rfl) (exf_go (e5.same t5) T.c_NotCall.e.xf (T.c_NotCall.n.no _ (by simp)) look1 ?_)
    (try simp only [tSeq, tIfS, tTest, tB, tOp, tUn, tVar, tC, tAsg, gName, tRet, tRetN, tCB, tCons, tNil, tLst_eq, tTup_eq, tDNewK_eq, tNext, tPar, tAug, tAugS, tExf_eq, ipI, tChain, tCall, tDrop, tAnd, tOr, tNot, tAndV, tOrV, tNotV, tIf, tIsN, tNotN, rI, rI0, rU, rEq, rNe, gSub, cx_K, L2.start, wipe, scal_ii, scal_ss, scal_bb, scal_is, scal_si, scal_nn, List.map_cons, List.map_nil, List.length_cons, List.length_nil, List.cons_append, List.nil_append, List.append_nil, List.replicate, List.getElem?_cons_zero, List.getElem?_cons_succ, Option.some.injEq, exists_and_left, exists_eq_left', exists_eq_left, V.int.injEq, V.ref.injEq, V.str.injEq, V.bl.injEq, List.cons.injEq, and_true, true_and, false_and, exists_false, or_false, false_or, reduceCtorEq, List.set_cons_zero, List.set_cons_succ, Nat.reduceAdd, Nat.reduceSub, Int.reduceToNat, decide_eq_true_eq, if_true, if_false, Bool.false_eq_true, Bool.not_true, Bool.not_false, Bool.true_eq_false, ite_false, ite_true, ne_eq, not_false_eq_true, Int.reduceEq])
    refine newL_go fun p5 H5 hp5 s5 r5 => ?_
    have t6 := t5.trans s5
    refine ixM_go (t6 _ _ hl) (atI_nat (j := 6) rfl) (exf_go (e6.same t6) T.c_BadIdent.e.xf (T.c_BadIdent.n.no _ (by simp)) look1 ?_)
    (try simp only [tSeq, tIfS, tTest, tB, tOp, tUn, tVar, tC, tAsg, gName, tRet, tRetN, tCB, tCons, tNil, tLst_eq, tTup_eq, tDNewK_eq, tNext, tPar, tAug, tAugS, tExf_eq, ipI, tChain, tCall, tDrop, tAnd, tOr, tNot, tAndV, tOrV, tNotV, tIf, tIsN, tNotN, rI, rI0, rU, rEq, rNe, gSub, cx_K, L2.start, wipe, scal_ii, scal_ss, scal_bb, scal_is, scal_si, scal_nn, List.map_cons, List.map_nil, List.length_cons, List.length_nil, List.cons_append, List.nil_append, List.append_nil, List.replicate, List.getElem?_cons_zero, List.getElem?_cons_succ, Option.some.injEq, exists_and_left, exists_eq_left', exists_eq_left, V.int.injEq, V.ref.injEq, V.str.injEq, V.bl.injEq, List.cons.injEq, and_true, true_and, false_and, exists_false, or_false, false_or, reduceCtorEq, List.set_cons_zero, List.set_cons_succ, Nat.reduceAdd, Nat.reduceSub, Int.reduceToNat, decide_eq_true_eq, if_true, if_false, Bool.false_eq_true, Bool.not_true, Bool.not_false, Bool.true_eq_false, ite_false, ite_true, ne_eq, not_false_eq_true, Int.reduceEq])
    refine newL_go fun p6 H6 hp6 s6 r6 => ?_
    have t7 := t6.trans s6
    refine newL_go fun p7 H7 hp7 s7 r7 => ?_
    have t8 := t7.trans s7
    refine ixM_go (t8 _ _ hl) (atI_nat (j := 7) rfl) (exf_go (e7.same t8) T.c_Taken.e.xf (T.c_Taken.n.no _ (by simp)) look1 ?_)
    (try simp only [tSeq, tIfS, tTest, tB, tOp, tUn, tVar, tC, tAsg, gName, tRet, tRetN, tCB, tCons, tNil, tLst_eq, tTup_eq, tDNewK_eq, tNext, tPar, tAug, tAugS, tExf_eq, ipI, tChain, tCall, tDrop, tAnd, tOr, tNot, tAndV, tOrV, tNotV, tIf, tIsN, tNotN, rI, rI0, rU, rEq, rNe, gSub, cx_K, L2.start, wipe, scal_ii, scal_ss, scal_bb, scal_is, scal_si, scal_nn, List.map_cons, List.map_nil, List.length_cons, List.length_nil, List.cons_append, List.nil_append, List.append_nil, List.replicate, List.getElem?_cons_zero, List.getElem?_cons_succ, Option.some.injEq, exists_and_left, exists_eq_left', exists_eq_left, V.int.injEq, V.ref.injEq, V.str.injEq, V.bl.injEq, List.cons.injEq, and_true, true_and, false_and, exists_false, or_false, false_or, reduceCtorEq, List.set_cons_zero, List.set_cons_succ, Nat.reduceAdd, Nat.reduceSub, Int.reduceToNat, decide_eq_true_eq, if_true, if_false, Bool.false_eq_true, Bool.not_true, Bool.not_false, Bool.true_eq_false, ite_false, ite_true, ne_eq, not_false_eq_true, Int.reduceEq])
    refine newL_go fun p8 H8 hp8 s8 r8 => ?_
    have t9 := t8.trans s8
    refine ixM_go (t9 _ _ hl) (atI_nat (j := 8) rfl) (exf_go (e8.same t9) T.c_NotBindings.e.xf (T.c_NotBindings.n.no _ (by simp)) look1 ?_)
    (try simp only [tSeq, tIfS, tTest, tB, tOp, tUn, tVar, tC, tAsg, gName, tRet, tRetN, tCB, tCons, tNil, tLst_eq, tTup_eq, tDNewK_eq, tNext, tPar, tAug, tAugS, tExf_eq, ipI, tChain, tCall, tDrop, tAnd, tOr, tNot, tAndV, tOrV, tNotV, tIf, tIsN, tNotN, rI, rI0, rU, rEq, rNe, gSub, cx_K, L2.start, wipe, scal_ii, scal_ss, scal_bb, scal_is, scal_si, scal_nn, List.map_cons, List.map_nil, List.length_cons, List.length_nil, List.cons_append, List.nil_append, List.append_nil, List.replicate, List.getElem?_cons_zero, List.getElem?_cons_succ, Option.some.injEq, exists_and_left, exists_eq_left', exists_eq_left, V.int.injEq, V.ref.injEq, V.str.injEq, V.bl.injEq, List.cons.injEq, and_true, true_and, false_and, exists_false, or_false, false_or, reduceCtorEq, List.set_cons_zero, List.set_cons_succ, Nat.reduceAdd, Nat.reduceSub, Int.reduceToNat, decide_eq_true_eq, if_true, if_false, Bool.false_eq_true, Bool.not_true, Bool.not_false, Bool.true_eq_false, ite_false, ite_true, ne_eq, not_false_eq_true, Int.reduceEq])
    refine newL_go fun p9 H9 hp9 s9 r9 => ?_
    have t10 := t9.trans s9
    refine ixM_go (t10 _ _ hl) (atI_nat (j := 9) rfl) (exf_go (e9.same t10) T.c_BadName.e.xf (T.c_BadName.n.no _ (by simp)) look1 ?_)
    (try simp only [tSeq, tIfS, tTest, tB, tOp, tUn, tVar, tC, tAsg, gName, tRet, tRetN, tCB, tCons, tNil, tLst_eq, tTup_eq, tDNewK_eq, tNext, tPar, tAug, tAugS, tExf_eq, ipI, tChain, tCall, tDrop, tAnd, tOr, tNot, tAndV, tOrV, tNotV, tIf, tIsN, tNotN, rI, rI0, rU, rEq, rNe, gSub, cx_K, L2.start, wipe, scal_ii, scal_ss, scal_bb, scal_is, scal_si, scal_nn, List.map_cons, List.map_nil, List.length_cons, List.length_nil, List.cons_append, List.nil_append, List.append_nil, List.replicate, List.getElem?_cons_zero, List.getElem?_cons_succ, Option.some.injEq, exists_and_left, exists_eq_left', exists_eq_left, V.int.injEq, V.ref.injEq, V.str.injEq, V.bl.injEq, List.cons.injEq, and_true, true_and, false_and, exists_false, or_false, false_or, reduceCtorEq, List.set_cons_zero, List.set_cons_succ, Nat.reduceAdd, Nat.reduceSub, Int.reduceToNat, decide_eq_true_eq, if_true, if_false, Bool.false_eq_true, Bool.not_true, Bool.not_false, Bool.true_eq_false, ite_false, ite_true, ne_eq, not_false_eq_true, Int.reduceEq])
    refine newL_go fun p10 H10 hp10 s10 r10 => ?_
    have t11 := t10.trans s10
    refine ixM_go (t11 _ _ hl) (atI_nat (j := 10) rfl) (exf_go (e10.same t11) T.c_BadValue.e.xf (T.c_BadValue.n.no _ (by simp)) look1 ?_)
    (try simp only [tSeq, tIfS, tTest, tB, tOp, tUn, tVar, tC, tAsg, gName, tRet, tRetN, tCB, tCons, tNil, tLst_eq, tTup_eq, tDNewK_eq, tNext, tPar, tAug, tAugS, tExf_eq, ipI, tChain, tCall, tDrop, tAnd, tOr, tNot, tAndV, tOrV, tNotV, tIf, tIsN, tNotN, rI, rI0, rU, rEq, rNe, gSub, cx_K, L2.start, wipe, scal_ii, scal_ss, scal_bb, scal_is, scal_si, scal_nn, List.map_cons, List.map_nil, List.length_cons, List.length_nil, List.cons_append, List.nil_append, List.append_nil, List.replicate, List.getElem?_cons_zero, List.getElem?_cons_succ, Option.some.injEq, exists_and_left, exists_eq_left', exists_eq_left, V.int.injEq, V.ref.injEq, V.str.injEq, V.bl.injEq, List.cons.injEq, and_true, true_and, false_and, exists_false, or_false, false_or, reduceCtorEq, List.set_cons_zero, List.set_cons_succ, Nat.reduceAdd, Nat.reduceSub, Int.reduceToNat, decide_eq_true_eq, if_true, if_false, Bool.false_eq_true, Bool.not_true, Bool.not_false, Bool.true_eq_false, ite_false, ite_true, ne_eq, not_false_eq_true, Int.reduceEq])
    refine newL_go fun p11 H11 hp11 s11 r11 => ?_
    have t12 := t11.trans s11
    refine ixM_go (t12 _ _ hl) (atI_nat (j := 11) rfl) (exf_go (e11.same t12) T.c_UnknownName.e.xf (T.c_UnknownName.n.no _ (by simp)) look1 ?_)
    (try simp only [tSeq, tIfS, tTest, tB, tOp, tUn, tVar, tC, tAsg, gName, tRet, tRetN, tCB, tCons, tNil, tLst_eq, tTup_eq, tDNewK_eq, tNext, tPar, tAug, tAugS, tExf_eq, ipI, tChain, tCall, tDrop, tAnd, tOr, tNot, tAndV, tOrV, tNotV, tIf, tIsN, tNotN, rI, rI0, rU, rEq, rNe, gSub, cx_K, L2.start, wipe, scal_ii, scal_ss, scal_bb, scal_is, scal_si, scal_nn, List.map_cons, List.map_nil, List.length_cons, List.length_nil, List.cons_append, List.nil_append, List.append_nil, List.replicate, List.getElem?_cons_zero, List.getElem?_cons_succ, Option.some.injEq, exists_and_left, exists_eq_left', exists_eq_left, V.int.injEq, V.ref.injEq, V.str.injEq, V.bl.injEq, List.cons.injEq, and_true, true_and, false_and, exists_false, or_false, false_or, reduceCtorEq, List.set_cons_zero, List.set_cons_succ, Nat.reduceAdd, Nat.reduceSub, Int.reduceToNat, decide_eq_true_eq, if_true, if_false, Bool.false_eq_true, Bool.not_true, Bool.not_false, Bool.true_eq_false, ite_false, ite_true, ne_eq, not_false_eq_true, Int.reduceEq])
    refine newL_go fun p12 H12 hp12 s12 r12 => ?_
    have t13 := t12.trans s12
    refine ixM_go (t13 _ _ hl) (atI_nat (j := 12) rfl) (exf_go (e12.same t13) T.c_NoEngine.e.xf (T.c_NoEngine.n.no _ (by simp)) look1 ?_)
    (try simp only [tSeq, tIfS, tTest, tB, tOp, tUn, tVar, tC, tAsg, gName, tRet, tRetN, tCB, tCons, tNil, tLst_eq, tTup_eq, tDNewK_eq, tNext, tPar, tAug, tAugS, tExf_eq, ipI, tChain, tCall, tDrop, tAnd, tOr, tNot, tAndV, tOrV, tNotV, tIf, tIsN, tNotN, rI, rI0, rU, rEq, rNe, gSub, cx_K, L2.start, wipe, scal_ii, scal_ss, scal_bb, scal_is, scal_si, scal_nn, List.map_cons, List.map_nil, List.length_cons, List.length_nil, List.cons_append, List.nil_append, List.append_nil, List.replicate, List.getElem?_cons_zero, List.getElem?_cons_succ, Option.some.injEq, exists_and_left, exists_eq_left', exists_eq_left, V.int.injEq, V.ref.injEq, V.str.injEq, V.bl.injEq, List.cons.injEq, and_true, true_and, false_and, exists_false, or_false, false_or, reduceCtorEq, List.set_cons_zero, List.set_cons_succ, Nat.reduceAdd, Nat.reduceSub, Int.reduceToNat, decide_eq_true_eq, if_true, if_false, Bool.false_eq_true, Bool.not_true, Bool.not_false, Bool.true_eq_false, ite_false, ite_true, ne_eq, not_false_eq_true, Int.reduceEq])
    refine newL_go fun p13 H13 hp13 s13 r13 => ?_
    have t14 := t13.trans s13
    refine newL_go fun p14 H14 hp14 s14 r14 => ?_
    have t15 := t14.trans s14
    refine cat_go (s14 _ _ (s13 _ _ (s12 _ _ (s11 _ _ (s10 _ _ (s9 _ _ (s8 _ _ r7))))))) r14 fun p15 H15 hp15 s15 r15 => ?_
    have t16 := t15.trans s15
    (try simp only [tSeq, tIfS, tTest, tB, tOp, tUn, tVar, tC, tAsg, gName, tRet, tRetN, tCB, tCons, tNil, tLst_eq, tTup_eq, tDNewK_eq, tNext, tPar, tAug, tAugS, tExf_eq, ipI, tChain, tCall, tDrop, tAnd, tOr, tNot, tAndV, tOrV, tNotV, tIf, tIsN, tNotN, rI, rI0, rU, rEq, rNe, gSub, cx_K, L2.start, wipe, scal_ii, scal_ss, scal_bb, scal_is, scal_si, scal_nn, List.map_cons, List.map_nil, List.length_cons, List.length_nil, List.cons_append, List.nil_append, List.append_nil, List.replicate, List.getElem?_cons_zero, List.getElem?_cons_succ, Option.some.injEq, exists_and_left, exists_eq_left', exists_eq_left, V.int.injEq, V.ref.injEq, V.str.injEq, V.bl.injEq, List.cons.injEq, and_true, true_and, false_and, exists_false, or_false, false_or, reduceCtorEq, List.set_cons_zero, List.set_cons_succ, Nat.reduceAdd, Nat.reduceSub, Int.reduceToNat, decide_eq_true_eq, if_true, if_false, Bool.false_eq_true, Bool.not_true, Bool.not_false, Bool.true_eq_false, ite_false, ite_true, ne_eq, not_false_eq_true, Int.reduceEq])
    refine q p15 _ [p0, p1, p2, p3, p4, p5, p6, p8, p9, p10, p11, p12, p13] t16 r15 ?_
    exact .cons (s15 _ _ (s14 _ _ (s13 _ _ (s12 _ _ (s11 _ _ (s10 _ _ (s9 _ _ (s8 _ _ (s7 _ _ (s6 _ _ (s5 _ _ (s4 _ _ (s3 _ _ (s2 _ _ (s1 _ _ r0))))))))))))))) (.cons (s15 _ _ (s14 _ _ (s13 _ _ (s12 _ _ (s11 _ _ (s10 _ _ (s9 _ _ (s8 _ _ (s7 _ _ (s6 _ _ (s5 _ _ (s4 _ _ (s3 _ _ (s2 _ _ r1)))))))))))))) (.cons (s15 _ _ (s14 _ _ (s13 _ _ (s12 _ _ (s11 _ _ (s10 _ _ (s9 _ _ (s8 _ _ (s7 _ _ (s6 _ _ (s5 _ _ (s4 _ _ (s3 _ _ r2))))))))))))) (.cons (s15 _ _ (s14 _ _ (s13 _ _ (s12 _ _ (s11 _ _ (s10 _ _ (s9 _ _ (s8 _ _ (s7 _ _ (s6 _ _ (s5 _ _ (s4 _ _ r3)))))))))))) (.cons (s15 _ _ (s14 _ _ (s13 _ _ (s12 _ _ (s11 _ _ (s10 _ _ (s9 _ _ (s8 _ _ (s7 _ _ (s6 _ _ (s5 _ _ r4))))))))))) (.cons (s15 _ _ (s14 _ _ (s13 _ _ (s12 _ _ (s11 _ _ (s10 _ _ (s9 _ _ (s8 _ _ (s7 _ _ (s6 _ _ r5)))))))))) (.cons (s15 _ _ (s14 _ _ (s13 _ _ (s12 _ _ (s11 _ _ (s10 _ _ (s9 _ _ (s8 _ _ (s7 _ _ r6))))))))) (.cons (s15 _ _ (s14 _ _ (s13 _ _ (s12 _ _ (s11 _ _ (s10 _ _ (s9 _ _ r8))))))) (.cons (s15 _ _ (s14 _ _ (s13 _ _ (s12 _ _ (s11 _ _ (s10 _ _ r9)))))) (.cons (s15 _ _ (s14 _ _ (s13 _ _ (s12 _ _ (s11 _ _ r10))))) (.cons (s15 _ _ (s14 _ _ (s13 _ _ (s12 _ _ r11)))) (.cons (s15 _ _ (s14 _ _ (s13 _ _ r12))) (.cons (s15 _ _ (s14 _ _ r13)) .nil))))))))))))
end
end Own

set_option Elab.async false
set_option linter.all false
set_option maxRecDepth 100000
set_option maxHeartbeats 4000000
namespace Own
open PySem PySem.Spec PyProof.Rows L2
section
variable {P : Program} {w : World} {K : PySem.W.Frag} {mg : Str → Option Value} {base : Heap}
def rowsThird (a w v g r s b : V) : List (List V) := [[a], [w], [v], [w], [r], [g], [a], [w], [], [g, s], [], [a, b]]
def sp_l_third_fields {K : PySem.W.Frag} {mg : Str → Option Value} (T : Txt K mg) : Sp := fun vs H Q _ => ∃ (l : Addr) (es : List Addr) (a w v g r s b : V), vs = [.ref l] ∧ H l = some (.lst (es.map V.ref)) ∧ Errs H es (eThird T a w v g r s b) ∧ ∀ p H' qs, Same H H' → H' p = some (.lst (qs.map V.ref)) → Rows H' qs (rowsThird a w v g r s b) → Q (.ref p) H'
theorem ok_l_third_fields (T : Txt K mg) : FnOk P w K mg base CX0 1 T.d_l_third_fields.a T.d_l_third_fields.d ["_law_m"] (sp_l_third_fields T) := by
  refine T.d_l_third_fields.F.ok sc_l_third_fields (fun vs H Q E h => ?_) (fun cdv A outer s H vs Q E hr h => ?_)
  · obtain ⟨l, es, a, w, v, g, r, s, b, rfl, _⟩ := h
    rfl
  · obtain ⟨l, es, a, w, v, g, r, s, b, rfl, hl, hE, q⟩ := h
    cases hE with | cons e0 hE =>
    rename_i x0 es
    cases hE with | cons e1 hE =>
    rename_i x1 es
    cases hE with | cons e2 hE =>
    rename_i x2 es
    cases hE with | cons e3 hE =>
    rename_i x3 es
    cases hE with | cons e4 hE =>
    rename_i x4 es
    cases hE with | cons e5 hE =>
    rename_i x5 es
    cases hE with | cons e6 hE =>
    rename_i x6 es
    cases hE with | cons e7 hE =>
    rename_i x7 es
    cases hE with | cons e8 hE =>
    rename_i x8 es
    cases hE with | cons e9 hE =>
    rename_i x9 es
    cases hE with | cons e10 hE =>
    rename_i x10 es
    cases hE with | cons e11 hE =>
    rename_i x11 es
    cases hE
    refine ⟨_, (pss_cons (ps_set (i := 1) sc_l_third_fields.nd rfl (Or.inl rfl) (pe_lst (pa_cons (pe_lst (pa_cons (pe_exf (pe_ix ix_list (pv 0) pe_int (fun _ _ => rfl))) pa_nil)) (pa_cons (pe_lst (pa_cons (pe_exf (pe_ix ix_list (pv 0) pe_int (fun _ _ => rfl))) pa_nil)) (pa_cons (pe_lst (pa_cons (pe_exf (pe_ix ix_list (pv 0) pe_int (fun _ _ => rfl))) pa_nil)) (pa_cons (pe_lst (pa_cons (pe_exf (pe_ix ix_list (pv 0) pe_int (fun _ _ => rfl))) pa_nil)) (pa_cons (pe_lst (pa_cons (pe_exf (pe_ix ix_list (pv 0) pe_int (fun _ _ => rfl))) pa_nil)) (pa_cons (pe_lst (pa_cons (pe_exf (pe_ix ix_list (pv 0) pe_int (fun _ _ => rfl))) pa_nil)) (pa_cons (pe_lst (pa_cons (pe_exf (pe_ix ix_list (pv 0) pe_int (fun _ _ => rfl))) pa_nil)) pa_nil)))))))))
      (pss_one (ps_ret (pe_op op_cat (pv 1) (pe_lst (pa_cons (pe_lst (pa_cons (pe_exf (pe_ix ix_list (pv 0) pe_int (fun _ _ => rfl))) pa_nil)) (pa_cons (pe_lst pa_nil) (pa_cons (pe_lst (pa_cons (pe_exf (pe_ix ix_list (pv 0) pe_int (fun _ _ => rfl))) (pa_cons (pe_exf (pe_ix ix_list (pv 0) pe_int (fun _ _ => rfl))) pa_nil))) (pa_cons (pe_lst pa_nil) (pa_cons (pe_lst (pa_cons (pe_exf (pe_ix ix_list (pv 0) pe_int (fun _ _ => rfl))) (pa_cons (pe_exf (pe_ix ix_list (pv 0) pe_int (fun _ _ => rfl))) pa_nil))) pa_nil)))))))))), ?_⟩
    (try simp only [tSeq, tIfS, tTest, tB, tOp, tUn, tVar, tC, tAsg, gName, tRet, tRetN, tCB, tCons, tNil, tLst_eq, tTup_eq, tDNewK_eq, tNext, tPar, tAug, tAugS, tExf_eq, ipI, tChain, tCall, tDrop, tAnd, tOr, tNot, tAndV, tOrV, tNotV, tIf, tIsN, tNotN, rI, rI0, rU, rEq, rNe, gSub, cx_K, L2.start, wipe, scal_ii, scal_ss, scal_bb, scal_is, scal_si, scal_nn, List.map_cons, List.map_nil, List.length_cons, List.length_nil, List.cons_append, List.nil_append, List.append_nil, List.replicate, List.getElem?_cons_zero, List.getElem?_cons_succ, Option.some.injEq, exists_and_left, exists_eq_left', exists_eq_left, V.int.injEq, V.ref.injEq, V.str.injEq, V.bl.injEq, List.cons.injEq, and_true, true_and, false_and, exists_false, or_false, false_or, reduceCtorEq, List.set_cons_zero, List.set_cons_succ, Nat.reduceAdd, Nat.reduceSub, Int.reduceToNat, decide_eq_true_eq, if_true, if_false, Bool.false_eq_true, Bool.not_true, Bool.not_false, Bool.true_eq_false, ite_false, ite_true, ne_eq, not_false_eq_true, Int.reduceEq])
    have t0 := Same.refl H
    refine ixM_go (t0 _ _ hl) (atI_nat (j := 0) rfl) (exf_go (e0.same t0) T.c_BadScript.e.xf (T.c_BadScript.n.no _ (by simp)) look1 ?_)
    (try simp only [tSeq, tIfS, tTest, tB, tOp, tUn, tVar, tC, tAsg, gName, tRet, tRetN, tCB, tCons, tNil, tLst_eq, tTup_eq, tDNewK_eq, tNext, tPar, tAug, tAugS, tExf_eq, ipI, tChain, tCall, tDrop, tAnd, tOr, tNot, tAndV, tOrV, tNotV, tIf, tIsN, tNotN, rI, rI0, rU, rEq, rNe, gSub, cx_K, L2.start, wipe, scal_ii, scal_ss, scal_bb, scal_is, scal_si, scal_nn, List.map_cons, List.map_nil, List.length_cons, List.length_nil, List.cons_append, List.nil_append, List.append_nil, List.replicate, List.getElem?_cons_zero, List.getElem?_cons_succ, Option.some.injEq, exists_and_left, exists_eq_left', exists_eq_left, V.int.injEq, V.ref.injEq, V.str.injEq, V.bl.injEq, List.cons.injEq, and_true, true_and, false_and, exists_false, or_false, false_or, reduceCtorEq, List.set_cons_zero, List.set_cons_succ, Nat.reduceAdd, Nat.reduceSub, Int.reduceToNat, decide_eq_true_eq, if_true, if_false, Bool.false_eq_true, Bool.not_true, Bool.not_false, Bool.true_eq_false, ite_false, ite_true, ne_eq, not_false_eq_true, Int.reduceEq])
    refine newL_go fun p0 H0 hp0 s0 r0 => ?_
    have t1 := t0.trans s0
    refine ixM_go (t1 _ _ hl) (atI_nat (j := 1) rfl) (exf_go (e1.same t1) T.c_NoTarget.e.xf (T.c_NoTarget.n.no _ (by simp)) look1 ?_)
    (try simp only [tSeq, tIfS, tTest, tB, tOp, tUn, tVar, tC, tAsg, gName, tRet, tRetN, tCB, tCons, tNil, tLst_eq, tTup_eq, tDNewK_eq, tNext, tPar, tAug, tAugS, tExf_eq, ipI, tChain, tCall, tDrop, tAnd, tOr, tNot, tAndV, tOrV, tNotV, tIf, tIsN, tNotN, rI, rI0, rU, rEq, rNe, gSub, cx_K, L2.start, wipe, scal_ii, scal_ss, scal_bb, scal_is, scal_si, scal_nn, List.map_cons, List.map_nil, List.length_cons, List.length_nil, List.cons_append, List.nil_append, List.append_nil, List.replicate, List.getElem?_cons_zero, List.getElem?_cons_succ, Option.some.injEq, exists_and_left, exists_eq_left', exists_eq_left, V.int.injEq, V.ref.injEq, V.str.injEq, V.bl.injEq, List.cons.injEq, and_true, true_and, false_and, exists_false, or_false, false_or, reduceCtorEq, List.set_cons_zero, List.set_cons_succ, Nat.reduceAdd, Nat.reduceSub, Int.reduceToNat, decide_eq_true_eq, if_true, if_false, Bool.false_eq_true, Bool.not_true, Bool.not_false, Bool.true_eq_false, ite_false, ite_true, ne_eq, not_false_eq_true, Int.reduceEq])
    refine newL_go fun p1 H1 hp1 s1 r1 => ?_
    have t2 := t1.trans s1
    refine ixM_go (t2 _ _ hl) (atI_nat (j := 2) rfl) (exf_go (e2.same t2) T.c_BadBinding.e.xf (T.c_BadBinding.n.no _ (by simp)) look1 ?_)
    (try simp only [tSeq, tIfS, tTest, tB, tOp, tUn, tVar, tC, tAsg, gName, tRet, tRetN, tCB, tCons, tNil, tLst_eq, tTup_eq, tDNewK_eq, tNext, tPar, tAug, tAugS, tExf_eq, ipI, tChain, tCall, tDrop, tAnd, tOr, tNot, tAndV, tOrV, tNotV, tIf, tIsN, tNotN, rI, rI0, rU, rEq, rNe, gSub, cx_K, L2.start, wipe, scal_ii, scal_ss, scal_bb, scal_is, scal_si, scal_nn, List.map_cons, List.map_nil, List.length_cons, List.length_nil, List.cons_append, List.nil_append, List.append_nil, List.replicate, List.getElem?_cons_zero, List.getElem?_cons_succ, Option.some.injEq, exists_and_left, exists_eq_left', exists_eq_left, V.int.injEq, V.ref.injEq, V.str.injEq, V.bl.injEq, List.cons.injEq, and_true, true_and, false_and, exists_false, or_false, false_or, reduceCtorEq, List.set_cons_zero, List.set_cons_succ, Nat.reduceAdd, Nat.reduceSub, Int.reduceToNat, decide_eq_true_eq, if_true, if_false, Bool.false_eq_true, Bool.not_true, Bool.not_false, Bool.true_eq_false, ite_false, ite_true, ne_eq, not_false_eq_true, Int.reduceEq])
    refine newL_go fun p2 H2 hp2 s2 r2 => ?_
    have t3 := t2.trans s2
    refine ixM_go (t3 _ _ hl) (atI_nat (j := 3) rfl) (exf_go (e3.same t3) T.c_NotComparable.e.xf (T.c_NotComparable.n.no _ (by simp)) look1 ?_)
    (try simp only [tSeq, tIfS, tTest, tB, tOp, tUn, tVar, tC, tAsg, gName, tRet, tRetN, tCB, tCons, tNil, tLst_eq, tTup_eq, tDNewK_eq, tNext, tPar, tAug, tAugS, tExf_eq, ipI, tChain, tCall, tDrop, tAnd, tOr, tNot, tAndV, tOrV, tNotV, tIf, tIsN, tNotN, rI, rI0, rU, rEq, rNe, gSub, cx_K, L2.start, wipe, scal_ii, scal_ss, scal_bb, scal_is, scal_si, scal_nn, List.map_cons, List.map_nil, List.length_cons, List.length_nil, List.cons_append, List.nil_append, List.append_nil, List.replicate, List.getElem?_cons_zero, List.getElem?_cons_succ, Option.some.injEq, exists_and_left, exists_eq_left', exists_eq_left, V.int.injEq, V.ref.injEq, V.str.injEq, V.bl.injEq, List.cons.injEq, and_true, true_and, false_and, exists_false, or_false, false_or, reduceCtorEq, List.set_cons_zero, List.set_cons_succ, Nat.reduceAdd, Nat.reduceSub, Int.reduceToNat, decide_eq_true_eq, if_true, if_false, Bool.false_eq_true, Bool.not_true, Bool.not_false, Bool.true_eq_false, ite_false, ite_true, ne_eq, not_false_eq_true, Int.reduceEq])
    refine newL_go fun p3 H3 hp3 s3 r3 => ?_
    have t4 := t3.trans s3
    refine ixM_go (t4 _ _ hl) (atI_nat (j := 4) rfl) (exf_go (e4.same t4) T.c_NotSeen.e.xf (T.c_NotSeen.n.no _ (by simp)) look1 ?_)
    (try simp only [tSeq, tIfS, tTest, tB, tOp, tUn, tVar, tC, tAsg, gName, tRet, tRetN, tCB, tCons, tNil, tLst_eq, tTup_eq, tDNewK_eq, tNext, tPar, tAug, tAugS, tExf_eq, ipI, tChain, tCall, tDrop, tAnd, tOr, tNot, tAndV, tOrV, tNotV, tIf, tIsN, tNotN, rI, rI0, rU, rEq, rNe, gSub, cx_K, L2.start, wipe, scal_ii, scal_ss, scal_bb, scal_is, scal_si, scal_nn, List.map_cons, List.map_nil, List.length_cons, List.length_nil, List.cons_append, List.nil_append, List.append_nil, List.replicate, List.getElem?_cons_zero, List.getElem?_cons_succ, Option.some.injEq, exists_and_left, exists_eq_left', exists_eq_left, V.int.injEq, V.ref.injEq, V.str.injEq, V.bl.injEq, List.cons.injEq, and_true, true_and, false_and, exists_false, or_false, false_or, reduceCtorEq, List.set_cons_zero, List.set_cons_succ, Nat.reduceAdd, Nat.reduceSub, Int.reduceToNat, decide_eq_true_eq, if_true, if_false, Bool.false_eq_true, Bool.not_true, Bool.not_false, Bool.true_eq_false, ite_false, ite_true, ne_eq, not_false_eq_true, Int.reduceEq])
    refine newL_go fun p4 H4 hp4 s4 r4 => ?_
    have t5 := t4.trans s4
    refine ixM_go (t5 _ _ hl) (atI_nat (j := 5) rfl) (exf_go (e5.same t5) T.c_GuardTwice.e.xf (T.c_GuardTwice.n.no _ (by simp)) look1 ?_)
    (try simp only [tSeq, tIfS, tTest, tB, tOp, tUn, tVar, tC, tAsg, gName, tRet, tRetN, tCB, tCons, tNil, tLst_eq, tTup_eq, tDNewK_eq, tNext, tPar, tAug, tAugS, tExf_eq, ipI, tChain, tCall, tDrop, tAnd, tOr, tNot, tAndV, tOrV, tNotV, tIf, tIsN, tNotN, rI, rI0, rU, rEq, rNe, gSub, cx_K, L2.start, wipe, scal_ii, scal_ss, scal_bb, scal_is, scal_si, scal_nn, List.map_cons, List.map_nil, List.length_cons, List.length_nil, List.cons_append, List.nil_append, List.append_nil, List.replicate, List.getElem?_cons_zero, List.getElem?_cons_succ, Option.some.injEq, exists_and_left, exists_eq_left', exists_eq_left, V.int.injEq, V.ref.injEq, V.str.injEq, V.bl.injEq, List.cons.injEq, and_true, true_and, false_and, exists_false, or_false, false_or, reduceCtorEq, List.set_cons_zero, List.set_cons_succ, Nat.reduceAdd, Nat.reduceSub, Int.reduceToNat, decide_eq_true_eq, if_true, if_false, Bool.false_eq_true, Bool.not_true, Bool.not_false, Bool.true_eq_false, ite_false, ite_true, ne_eq, not_false_eq_true, Int.reduceEq])
    refine newL_go fun p5 H5 hp5 s5 r5 => ?_
    have t6 := t5.trans s5
    refine ixM_go (t6 _ _ hl) (atI_nat (j := 6) rfl) (exf_go (e6.same t6) T.c_NoGuard.e.xf (T.c_NoGuard.n.no _ (by simp)) look1 ?_)
    (try simp only [tSeq, tIfS, tTest, tB, tOp, tUn, tVar, tC, tAsg, gName, tRet, tRetN, tCB, tCons, tNil, tLst_eq, tTup_eq, tDNewK_eq, tNext, tPar, tAug, tAugS, tExf_eq, ipI, tChain, tCall, tDrop, tAnd, tOr, tNot, tAndV, tOrV, tNotV, tIf, tIsN, tNotN, rI, rI0, rU, rEq, rNe, gSub, cx_K, L2.start, wipe, scal_ii, scal_ss, scal_bb, scal_is, scal_si, scal_nn, List.map_cons, List.map_nil, List.length_cons, List.length_nil, List.cons_append, List.nil_append, List.append_nil, List.replicate, List.getElem?_cons_zero, List.getElem?_cons_succ, Option.some.injEq, exists_and_left, exists_eq_left', exists_eq_left, V.int.injEq, V.ref.injEq, V.str.injEq, V.bl.injEq, List.cons.injEq, and_true, true_and, false_and, exists_false, or_false, false_or, reduceCtorEq, List.set_cons_zero, List.set_cons_succ, Nat.reduceAdd, Nat.reduceSub, Int.reduceToNat, decide_eq_true_eq, if_true, if_false, Bool.false_eq_true, Bool.not_true, Bool.not_false, Bool.true_eq_false, ite_false, ite_true, ne_eq, not_false_eq_true, Int.reduceEq])
    refine newL_go fun p6 H6 hp6 s6 r6 => ?_
    have t7 := t6.trans s6
    refine newL_go fun p7 H7 hp7 s7 r7 => ?_
    have t8 := t7.trans s7
    refine ixM_go (t8 _ _ hl) (atI_nat (j := 7) rfl) (exf_go (e7.same t8) T.c_NoKind.e.xf (T.c_NoKind.n.no _ (by simp)) look1 ?_)
    (try simp only [tSeq, tIfS, tTest, tB, tOp, tUn, tVar, tC, tAsg, gName, tRet, tRetN, tCB, tCons, tNil, tLst_eq, tTup_eq, tDNewK_eq, tNext, tPar, tAug, tAugS, tExf_eq, ipI, tChain, tCall, tDrop, tAnd, tOr, tNot, tAndV, tOrV, tNotV, tIf, tIsN, tNotN, rI, rI0, rU, rEq, rNe, gSub, cx_K, L2.start, wipe, scal_ii, scal_ss, scal_bb, scal_is, scal_si, scal_nn, List.map_cons, List.map_nil, List.length_cons, List.length_nil, List.cons_append, List.nil_append, List.append_nil, List.replicate, List.getElem?_cons_zero, List.getElem?_cons_succ, Option.some.injEq, exists_and_left, exists_eq_left', exists_eq_left, V.int.injEq, V.ref.injEq, V.str.injEq, V.bl.injEq, List.cons.injEq, and_true, true_and, false_and, exists_false, or_false, false_or, reduceCtorEq, List.set_cons_zero, List.set_cons_succ, Nat.reduceAdd, Nat.reduceSub, Int.reduceToNat, decide_eq_true_eq, if_true, if_false, Bool.false_eq_true, Bool.not_true, Bool.not_false, Bool.true_eq_false, ite_false, ite_true, ne_eq, not_false_eq_true, Int.reduceEq])
    refine newL_go fun p8 H8 hp8 s8 r8 => ?_
    have t9 := t8.trans s8
    refine newL_go fun p9 H9 hp9 s9 r9 => ?_
    have t10 := t9.trans s9
    refine ixM_go (t10 _ _ hl) (atI_nat (j := 9) rfl) (exf_go (e9.same t10) T.c_Broken.e.xf (T.c_Broken.n.no _ (by simp)) (look2 (by decide +kernel)) ?_)
    (try simp only [tSeq, tIfS, tTest, tB, tOp, tUn, tVar, tC, tAsg, gName, tRet, tRetN, tCB, tCons, tNil, tLst_eq, tTup_eq, tDNewK_eq, tNext, tPar, tAug, tAugS, tExf_eq, ipI, tChain, tCall, tDrop, tAnd, tOr, tNot, tAndV, tOrV, tNotV, tIf, tIsN, tNotN, rI, rI0, rU, rEq, rNe, gSub, cx_K, L2.start, wipe, scal_ii, scal_ss, scal_bb, scal_is, scal_si, scal_nn, List.map_cons, List.map_nil, List.length_cons, List.length_nil, List.cons_append, List.nil_append, List.append_nil, List.replicate, List.getElem?_cons_zero, List.getElem?_cons_succ, Option.some.injEq, exists_and_left, exists_eq_left', exists_eq_left, V.int.injEq, V.ref.injEq, V.str.injEq, V.bl.injEq, List.cons.injEq, and_true, true_and, false_and, exists_false, or_false, false_or, reduceCtorEq, List.set_cons_zero, List.set_cons_succ, Nat.reduceAdd, Nat.reduceSub, Int.reduceToNat, decide_eq_true_eq, if_true, if_false, Bool.false_eq_true, Bool.not_true, Bool.not_false, Bool.true_eq_false, ite_false, ite_true, ne_eq, not_false_eq_true, Int.reduceEq])
    refine ixM_go (t10 _ _ hl) (atI_nat (j := 9) rfl) (exf_go (e9.same t10) T.c_Broken.e.xf (T.c_Broken.n.no _ (by simp)) look1 ?_)
    (try simp only [tSeq, tIfS, tTest, tB, tOp, tUn, tVar, tC, tAsg, gName, tRet, tRetN, tCB, tCons, tNil, tLst_eq, tTup_eq, tDNewK_eq, tNext, tPar, tAug, tAugS, tExf_eq, ipI, tChain, tCall, tDrop, tAnd, tOr, tNot, tAndV, tOrV, tNotV, tIf, tIsN, tNotN, rI, rI0, rU, rEq, rNe, gSub, cx_K, L2.start, wipe, scal_ii, scal_ss, scal_bb, scal_is, scal_si, scal_nn, List.map_cons, List.map_nil, List.length_cons, List.length_nil, List.cons_append, List.nil_append, List.append_nil, List.replicate, List.getElem?_cons_zero, List.getElem?_cons_succ, Option.some.injEq, exists_and_left, exists_eq_left', exists_eq_left, V.int.injEq, V.ref.injEq, V.str.injEq, V.bl.injEq, List.cons.injEq, and_true, true_and, false_and, exists_false, or_false, false_or, reduceCtorEq, List.set_cons_zero, List.set_cons_succ, Nat.reduceAdd, Nat.reduceSub, Int.reduceToNat, decide_eq_true_eq, if_true, if_false, Bool.false_eq_true, Bool.not_true, Bool.not_false, Bool.true_eq_false, ite_false, ite_true, ne_eq, not_false_eq_true, Int.reduceEq])
    refine newL_go fun p10 H10 hp10 s10 r10 => ?_
    have t11 := t10.trans s10
    refine newL_go fun p11 H11 hp11 s11 r11 => ?_
    have t12 := t11.trans s11
    refine ixM_go (t12 _ _ hl) (atI_nat (j := 11) rfl) (exf_go (e11.same t12) T.c_MoveFailed.e.xf (T.c_MoveFailed.n.no _ (by simp)) (look2 (by decide +kernel)) ?_)
    (try simp only [tSeq, tIfS, tTest, tB, tOp, tUn, tVar, tC, tAsg, gName, tRet, tRetN, tCB, tCons, tNil, tLst_eq, tTup_eq, tDNewK_eq, tNext, tPar, tAug, tAugS, tExf_eq, ipI, tChain, tCall, tDrop, tAnd, tOr, tNot, tAndV, tOrV, tNotV, tIf, tIsN, tNotN, rI, rI0, rU, rEq, rNe, gSub, cx_K, L2.start, wipe, scal_ii, scal_ss, scal_bb, scal_is, scal_si, scal_nn, List.map_cons, List.map_nil, List.length_cons, List.length_nil, List.cons_append, List.nil_append, List.append_nil, List.replicate, List.getElem?_cons_zero, List.getElem?_cons_succ, Option.some.injEq, exists_and_left, exists_eq_left', exists_eq_left, V.int.injEq, V.ref.injEq, V.str.injEq, V.bl.injEq, List.cons.injEq, and_true, true_and, false_and, exists_false, or_false, false_or, reduceCtorEq, List.set_cons_zero, List.set_cons_succ, Nat.reduceAdd, Nat.reduceSub, Int.reduceToNat, decide_eq_true_eq, if_true, if_false, Bool.false_eq_true, Bool.not_true, Bool.not_false, Bool.true_eq_false, ite_false, ite_true, ne_eq, not_false_eq_true, Int.reduceEq])
    refine ixM_go (t12 _ _ hl) (atI_nat (j := 11) rfl) (exf_go (e11.same t12) T.c_MoveFailed.e.xf (T.c_MoveFailed.n.no _ (by simp)) look1 ?_)
    (try simp only [tSeq, tIfS, tTest, tB, tOp, tUn, tVar, tC, tAsg, gName, tRet, tRetN, tCB, tCons, tNil, tLst_eq, tTup_eq, tDNewK_eq, tNext, tPar, tAug, tAugS, tExf_eq, ipI, tChain, tCall, tDrop, tAnd, tOr, tNot, tAndV, tOrV, tNotV, tIf, tIsN, tNotN, rI, rI0, rU, rEq, rNe, gSub, cx_K, L2.start, wipe, scal_ii, scal_ss, scal_bb, scal_is, scal_si, scal_nn, List.map_cons, List.map_nil, List.length_cons, List.length_nil, List.cons_append, List.nil_append, List.append_nil, List.replicate, List.getElem?_cons_zero, List.getElem?_cons_succ, Option.some.injEq, exists_and_left, exists_eq_left', exists_eq_left, V.int.injEq, V.ref.injEq, V.str.injEq, V.bl.injEq, List.cons.injEq, and_true, true_and, false_and, exists_false, or_false, false_or, reduceCtorEq, List.set_cons_zero, List.set_cons_succ, Nat.reduceAdd, Nat.reduceSub, Int.reduceToNat, decide_eq_true_eq, if_true, if_false, Bool.false_eq_true, Bool.not_true, Bool.not_false, Bool.true_eq_false, ite_false, ite_true, ne_eq, not_false_eq_true, Int.reduceEq])
    refine newL_go fun p12 H12 hp12 s12 r12 => ?_
    have t13 := t12.trans s12
    refine newL_go fun p13 H13 hp13 s13 r13 => ?_
    have t14 := t13.trans s13
    refine cat_go (s13 _ _ (s12 _ _ (s11 _ _ (s10 _ _ (s9 _ _ (s8 _ _ r7)))))) r13 fun p14 H14 hp14 s14 r14 => ?_
    have t15 := t14.trans s14
    (try simp only [tSeq, tIfS, tTest, tB, tOp, tUn, tVar, tC, tAsg, gName, tRet, tRetN, tCB, tCons, tNil, tLst_eq, tTup_eq, tDNewK_eq, tNext, tPar, tAug, tAugS, tExf_eq, ipI, tChain, tCall, tDrop, tAnd, tOr, tNot, tAndV, tOrV, tNotV, tIf, tIsN, tNotN, rI, rI0, rU, rEq, rNe, gSub, cx_K, L2.start, wipe, scal_ii, scal_ss, scal_bb, scal_is, scal_si, scal_nn, List.map_cons, List.map_nil, List.length_cons, List.length_nil, List.cons_append, List.nil_append, List.append_nil, List.replicate, List.getElem?_cons_zero, List.getElem?_cons_succ, Option.some.injEq, exists_and_left, exists_eq_left', exists_eq_left, V.int.injEq, V.ref.injEq, V.str.injEq, V.bl.injEq, List.cons.injEq, and_true, true_and, false_and, exists_false, or_false, false_or, reduceCtorEq, List.set_cons_zero, List.set_cons_succ, Nat.reduceAdd, Nat.reduceSub, Int.reduceToNat, decide_eq_true_eq, if_true, if_false, Bool.false_eq_true, Bool.not_true, Bool.not_false, Bool.true_eq_false, ite_false, ite_true, ne_eq, not_false_eq_true, Int.reduceEq])
    refine q p14 _ [p0, p1, p2, p3, p4, p5, p6, p8, p9, p10, p11, p12] t15 r14 ?_
    exact .cons (s14 _ _ (s13 _ _ (s12 _ _ (s11 _ _ (s10 _ _ (s9 _ _ (s8 _ _ (s7 _ _ (s6 _ _ (s5 _ _ (s4 _ _ (s3 _ _ (s2 _ _ (s1 _ _ r0)))))))))))))) (.cons (s14 _ _ (s13 _ _ (s12 _ _ (s11 _ _ (s10 _ _ (s9 _ _ (s8 _ _ (s7 _ _ (s6 _ _ (s5 _ _ (s4 _ _ (s3 _ _ (s2 _ _ r1))))))))))))) (.cons (s14 _ _ (s13 _ _ (s12 _ _ (s11 _ _ (s10 _ _ (s9 _ _ (s8 _ _ (s7 _ _ (s6 _ _ (s5 _ _ (s4 _ _ (s3 _ _ r2)))))))))))) (.cons (s14 _ _ (s13 _ _ (s12 _ _ (s11 _ _ (s10 _ _ (s9 _ _ (s8 _ _ (s7 _ _ (s6 _ _ (s5 _ _ (s4 _ _ r3))))))))))) (.cons (s14 _ _ (s13 _ _ (s12 _ _ (s11 _ _ (s10 _ _ (s9 _ _ (s8 _ _ (s7 _ _ (s6 _ _ (s5 _ _ r4)))))))))) (.cons (s14 _ _ (s13 _ _ (s12 _ _ (s11 _ _ (s10 _ _ (s9 _ _ (s8 _ _ (s7 _ _ (s6 _ _ r5))))))))) (.cons (s14 _ _ (s13 _ _ (s12 _ _ (s11 _ _ (s10 _ _ (s9 _ _ (s8 _ _ (s7 _ _ r6)))))))) (.cons (s14 _ _ (s13 _ _ (s12 _ _ (s11 _ _ (s10 _ _ (s9 _ _ r8)))))) (.cons (s14 _ _ (s13 _ _ (s12 _ _ (s11 _ _ (s10 _ _ r9))))) (.cons (s14 _ _ (s13 _ _ (s12 _ _ (s11 _ _ r10)))) (.cons (s14 _ _ (s13 _ _ (s12 _ _ r11))) (.cons (s14 _ _ (s13 _ _ r12)) .nil)))))))))))
end
end Own

set_option Elab.async false
set_option linter.all false
set_option maxRecDepth 100000
set_option maxHeartbeats 4000000
namespace Own
open PySem PySem.Spec PyProof.Rows L2
section
variable {P : Program} {w : World} {K : PySem.W.Frag} {mg : Str → Option Value} {base : Heap}
def spDue : Sp := fun vs H Q _ => ∃ (a : Int) (w v g : V), vs = [.int a, w, v, g] ∧ ∀ p H' qs r s, Same H H' → H' p = some (.lst (qs.map V.ref)) → RowAt H' r w (.int a) → ScAt H' s w → Rows H' qs (rowsFirst (.int a) w v ++ rowsSecond (.int a) w v ++ rowsThird (.int a) w v g r s (.int (a + 1))) → Q (.ref p) H'
theorem ok_l_due_fields (T : Txt K mg) : FnOk P w K mg base CX0 1 T.d_l_due_fields.a T.d_l_due_fields.d ["_law_a", "_law_w", "_law_v", "_law_guard"] spDue := by
  refine T.d_l_due_fields.F.ok sc_l_due_fields (fun vs H Q E h => ?_) (fun cdv A outer s H vs Q E hr h => ?_)
  · obtain ⟨a, w, v, g, rfl, _⟩ := h
    rfl
  · obtain ⟨a, w, v, g, rfl, q⟩ := h
    refine ⟨_, (pss_cons (ps_set (i := 4) sc_l_due_fields.nd rfl (Or.inl rfl) (pe_lst (pa_cons (pe_lst (pa_cons (pv 0) pa_nil)) (pa_cons (pe_lst (pa_cons (pv 0) (pa_cons (pv 1) pa_nil))) (pa_cons (pe_lst (pa_cons (pv 0) (pa_cons (pv 1) pa_nil))) (pa_cons (pe_lst (pa_cons (pv 0) (pa_cons (pv 1) pa_nil))) (pa_cons (pe_lst (pa_cons (pv 0) (pa_cons (pv 1) pa_nil))) (pa_cons (pe_lst (pa_cons (pv 0) (pa_cons (pv 1) pa_nil))) (pa_cons (pe_lst (pa_cons (pv 0) pa_nil)) (pa_cons (pe_lst (pa_cons (pv 0) pa_nil)) (pa_cons (pe_lst (pa_cons (pv 0) pa_nil)) (pa_cons (pe_lst (pa_cons (pv 2) pa_nil)) (pa_cons (pe_lst (pa_cons (pv 0) (pa_cons (pv 1) pa_nil))) (pa_cons (pe_lst (pa_cons (pv 0) pa_nil)) pa_nil))))))))))))))
      (pss_cons (ps_set (i := 5) sc_l_due_fields.nd rfl (Or.inl rfl) (pe_lst (pa_cons (pe_lst (pa_cons (pv 0) pa_nil)) (pa_cons (pe_lst (pa_cons (pv 0) pa_nil)) (pa_cons (pe_lst (pa_cons (pv 1) pa_nil)) (pa_cons (pe_lst (pa_cons (pv 0) (pa_cons (pv 1) pa_nil))) (pa_cons (pe_lst (pa_cons (pv 0) pa_nil)) (pa_cons (pe_lst (pa_cons (pv 0) pa_nil)) (pa_cons (pe_lst (pa_cons (pv 2) pa_nil)) (pa_cons (pe_lst (pa_cons (pv 1) pa_nil)) (pa_cons (pe_lst (pa_cons (pv 2) pa_nil)) (pa_cons (pe_lst (pa_cons (pv 2) pa_nil)) (pa_cons (pe_lst (pa_cons (pv 2) pa_nil)) (pa_cons (pe_lst (pa_cons (pv 2) pa_nil)) (pa_cons (pe_lst (pa_cons (pv 2) pa_nil)) pa_nil)))))))))))))))
      (pss_cons (ps_set (i := 6) sc_l_due_fields.nd rfl (Or.inl rfl) (pe_lst (pa_cons (pe_lst (pa_cons (pv 0) pa_nil)) (pa_cons (pe_lst (pa_cons (pv 1) pa_nil)) (pa_cons (pe_lst (pa_cons (pv 2) pa_nil)) (pa_cons (pe_lst (pa_cons (pv 1) pa_nil)) (pa_cons (pe_lst (pa_cons (pe_tup (pa_cons (pv 1) (pa_cons (pe_tup (pa_cons pe_str (pa_cons (pv 0) pa_nil))) pa_nil))) pa_nil)) (pa_cons (pe_lst (pa_cons (pv 3) pa_nil)) (pa_cons (pe_lst (pa_cons (pv 0) pa_nil)) (pa_cons (pe_lst (pa_cons (pv 1) pa_nil)) (pa_cons (pe_lst pa_nil) pa_nil)))))))))))
      (pss_one (ps_ret (pe_op op_cat (pe_op op_cat (pe_op op_cat (pv 4) (pv 5)) (pv 6)) (pe_lst (pa_cons (pe_lst (pa_cons (pv 3) (pa_cons (pe_tup (pa_cons (pe_tup (pa_cons pe_str (pa_cons (pv 1) (pa_cons pe_dnewK (pa_cons (pe_tup pa_nil) pa_nil))))) pa_nil)) pa_nil))) (pa_cons (pe_lst pa_nil) (pa_cons (pe_lst (pa_cons (pv 0) (pa_cons (pe_op op_add (pv 0) pe_int) pa_nil))) pa_nil)))))))))), ?_⟩
    (try simp only [tSeq, tIfS, tTest, tB, tOp, tUn, tVar, tC, tAsg, gName, tRet, tRetN, tCB, tCons, tNil, tLst_eq, tTup_eq, tDNewK_eq, tNext, tPar, tAug, tAugS, tExf_eq, ipI, tChain, tCall, tDrop, tAnd, tOr, tNot, tAndV, tOrV, tNotV, tIf, tIsN, tNotN, rI, rI0, rU, rEq, rNe, gSub, cx_K, L2.start, wipe, scal_ii, scal_ss, scal_bb, scal_is, scal_si, scal_nn, List.map_cons, List.map_nil, List.length_cons, List.length_nil, List.cons_append, List.nil_append, List.append_nil, List.replicate, List.getElem?_cons_zero, List.getElem?_cons_succ, Option.some.injEq, exists_and_left, exists_eq_left', exists_eq_left, V.int.injEq, V.ref.injEq, V.str.injEq, V.bl.injEq, List.cons.injEq, and_true, true_and, false_and, exists_false, or_false, false_or, reduceCtorEq, List.set_cons_zero, List.set_cons_succ, Nat.reduceAdd, Nat.reduceSub, Int.reduceToNat, decide_eq_true_eq, if_true, if_false, Bool.false_eq_true, Bool.not_true, Bool.not_false, Bool.true_eq_false, ite_false, ite_true, ne_eq, not_false_eq_true, Int.reduceEq])
    have t0 := Same.refl H
    refine newL_go fun p0 H0 hp0 s0 r0 => ?_
    have t1 := t0.trans s0
    refine newL_go fun p1 H1 hp1 s1 r1 => ?_
    have t2 := t1.trans s1
    refine newL_go fun p2 H2 hp2 s2 r2 => ?_
    have t3 := t2.trans s2
    refine newL_go fun p3 H3 hp3 s3 r3 => ?_
    have t4 := t3.trans s3
    refine newL_go fun p4 H4 hp4 s4 r4 => ?_
    have t5 := t4.trans s4
    refine newL_go fun p5 H5 hp5 s5 r5 => ?_
    have t6 := t5.trans s5
    refine newL_go fun p6 H6 hp6 s6 r6 => ?_
    have t7 := t6.trans s6
    refine newL_go fun p7 H7 hp7 s7 r7 => ?_
    have t8 := t7.trans s7
    refine newL_go fun p8 H8 hp8 s8 r8 => ?_
    have t9 := t8.trans s8
    refine newL_go fun p9 H9 hp9 s9 r9 => ?_
    have t10 := t9.trans s9
    refine newL_go fun p10 H10 hp10 s10 r10 => ?_
    have t11 := t10.trans s10
    refine newL_go fun p11 H11 hp11 s11 r11 => ?_
    have t12 := t11.trans s11
    refine newL_go fun p12 H12 hp12 s12 r12 => ?_
    have t13 := t12.trans s12
    (try simp only [tSeq, tIfS, tTest, tB, tOp, tUn, tVar, tC, tAsg, gName, tRet, tRetN, tCB, tCons, tNil, tLst_eq, tTup_eq, tDNewK_eq, tNext, tPar, tAug, tAugS, tExf_eq, ipI, tChain, tCall, tDrop, tAnd, tOr, tNot, tAndV, tOrV, tNotV, tIf, tIsN, tNotN, rI, rI0, rU, rEq, rNe, gSub, cx_K, L2.start, wipe, scal_ii, scal_ss, scal_bb, scal_is, scal_si, scal_nn, List.map_cons, List.map_nil, List.length_cons, List.length_nil, List.cons_append, List.nil_append, List.append_nil, List.replicate, List.getElem?_cons_zero, List.getElem?_cons_succ, Option.some.injEq, exists_and_left, exists_eq_left', exists_eq_left, V.int.injEq, V.ref.injEq, V.str.injEq, V.bl.injEq, List.cons.injEq, and_true, true_and, false_and, exists_false, or_false, false_or, reduceCtorEq, List.set_cons_zero, List.set_cons_succ, Nat.reduceAdd, Nat.reduceSub, Int.reduceToNat, decide_eq_true_eq, if_true, if_false, Bool.false_eq_true, Bool.not_true, Bool.not_false, Bool.true_eq_false, ite_false, ite_true, ne_eq, not_false_eq_true, Int.reduceEq])
    refine newL_go fun p13 H13 hp13 s13 r13 => ?_
    have t14 := t13.trans s13
    refine newL_go fun p14 H14 hp14 s14 r14 => ?_
    have t15 := t14.trans s14
    refine newL_go fun p15 H15 hp15 s15 r15 => ?_
    have t16 := t15.trans s15
    refine newL_go fun p16 H16 hp16 s16 r16 => ?_
    have t17 := t16.trans s16
    refine newL_go fun p17 H17 hp17 s17 r17 => ?_
    have t18 := t17.trans s17
    refine newL_go fun p18 H18 hp18 s18 r18 => ?_
    have t19 := t18.trans s18
    refine newL_go fun p19 H19 hp19 s19 r19 => ?_
    have t20 := t19.trans s19
    refine newL_go fun p20 H20 hp20 s20 r20 => ?_
    have t21 := t20.trans s20
    refine newL_go fun p21 H21 hp21 s21 r21 => ?_
    have t22 := t21.trans s21
    refine newL_go fun p22 H22 hp22 s22 r22 => ?_
    have t23 := t22.trans s22
    refine newL_go fun p23 H23 hp23 s23 r23 => ?_
    have t24 := t23.trans s23
    refine newL_go fun p24 H24 hp24 s24 r24 => ?_
    have t25 := t24.trans s24
    refine newL_go fun p25 H25 hp25 s25 r25 => ?_
    have t26 := t25.trans s25
    refine newL_go fun p26 H26 hp26 s26 r26 => ?_
    have t27 := t26.trans s26
    (try simp only [tSeq, tIfS, tTest, tB, tOp, tUn, tVar, tC, tAsg, gName, tRet, tRetN, tCB, tCons, tNil, tLst_eq, tTup_eq, tDNewK_eq, tNext, tPar, tAug, tAugS, tExf_eq, ipI, tChain, tCall, tDrop, tAnd, tOr, tNot, tAndV, tOrV, tNotV, tIf, tIsN, tNotN, rI, rI0, rU, rEq, rNe, gSub, cx_K, L2.start, wipe, scal_ii, scal_ss, scal_bb, scal_is, scal_si, scal_nn, List.map_cons, List.map_nil, List.length_cons, List.length_nil, List.cons_append, List.nil_append, List.append_nil, List.replicate, List.getElem?_cons_zero, List.getElem?_cons_succ, Option.some.injEq, exists_and_left, exists_eq_left', exists_eq_left, V.int.injEq, V.ref.injEq, V.str.injEq, V.bl.injEq, List.cons.injEq, and_true, true_and, false_and, exists_false, or_false, false_or, reduceCtorEq, List.set_cons_zero, List.set_cons_succ, Nat.reduceAdd, Nat.reduceSub, Int.reduceToNat, decide_eq_true_eq, if_true, if_false, Bool.false_eq_true, Bool.not_true, Bool.not_false, Bool.true_eq_false, ite_false, ite_true, ne_eq, not_false_eq_true, Int.reduceEq])
    refine newL_go fun p27 H27 hp27 s27 r27 => ?_
    have t28 := t27.trans s27
    refine newL_go fun p28 H28 hp28 s28 r28 => ?_
    have t29 := t28.trans s28
    refine newL_go fun p29 H29 hp29 s29 r29 => ?_
    have t30 := t29.trans s29
    refine newL_go fun p30 H30 hp30 s30 r30 => ?_
    have t31 := t30.trans s30
    refine newT_go fun p31 H31 hp31 s31 r31 => ?_
    have t32 := t31.trans s31
    refine newT_go fun p32 H32 hp32 s32 r32 => ?_
    have t33 := t32.trans s32
    refine newL_go fun p33 H33 hp33 s33 r33 => ?_
    have t34 := t33.trans s33
    refine newL_go fun p34 H34 hp34 s34 r34 => ?_
    have t35 := t34.trans s34
    refine newL_go fun p35 H35 hp35 s35 r35 => ?_
    have t36 := t35.trans s35
    refine newL_go fun p36 H36 hp36 s36 r36 => ?_
    have t37 := t36.trans s36
    refine newL_go fun p37 H37 hp37 s37 r37 => ?_
    have t38 := t37.trans s37
    refine newL_go fun p38 H38 hp38 s38 r38 => ?_
    have t39 := t38.trans s38
    (try simp only [tSeq, tIfS, tTest, tB, tOp, tUn, tVar, tC, tAsg, gName, tRet, tRetN, tCB, tCons, tNil, tLst_eq, tTup_eq, tDNewK_eq, tNext, tPar, tAug, tAugS, tExf_eq, ipI, tChain, tCall, tDrop, tAnd, tOr, tNot, tAndV, tOrV, tNotV, tIf, tIsN, tNotN, rI, rI0, rU, rEq, rNe, gSub, cx_K, L2.start, wipe, scal_ii, scal_ss, scal_bb, scal_is, scal_si, scal_nn, List.map_cons, List.map_nil, List.length_cons, List.length_nil, List.cons_append, List.nil_append, List.append_nil, List.replicate, List.getElem?_cons_zero, List.getElem?_cons_succ, Option.some.injEq, exists_and_left, exists_eq_left', exists_eq_left, V.int.injEq, V.ref.injEq, V.str.injEq, V.bl.injEq, List.cons.injEq, and_true, true_and, false_and, exists_false, or_false, false_or, reduceCtorEq, List.set_cons_zero, List.set_cons_succ, Nat.reduceAdd, Nat.reduceSub, Int.reduceToNat, decide_eq_true_eq, if_true, if_false, Bool.false_eq_true, Bool.not_true, Bool.not_false, Bool.true_eq_false, ite_false, ite_true, ne_eq, not_false_eq_true, Int.reduceEq])
    refine cat_go (s38 _ _ (s37 _ _ (s36 _ _ (s35 _ _ (s34 _ _ (s33 _ _ (s32 _ _ (s31 _ _ (s30 _ _ (s29 _ _ (s28 _ _ (s27 _ _ (s26 _ _ (s25 _ _ (s24 _ _ (s23 _ _ (s22 _ _ (s21 _ _ (s20 _ _ (s19 _ _ (s18 _ _ (s17 _ _ (s16 _ _ (s15 _ _ (s14 _ _ (s13 _ _ r12)))))))))))))))))))))))))) (s38 _ _ (s37 _ _ (s36 _ _ (s35 _ _ (s34 _ _ (s33 _ _ (s32 _ _ (s31 _ _ (s30 _ _ (s29 _ _ (s28 _ _ (s27 _ _ r26)))))))))))) fun p39 H39 hp39 s39 r39 => ?_
    have t40 := t39.trans s39
    refine cat_go r39 (s39 _ _ r38) fun p40 H40 hp40 s40 r40 => ?_
    have t41 := t40.trans s40
    refine newD_go fun p41 H41 hp41 s41 r41 => ?_
    have t42 := t41.trans s41
    refine newT_go fun p42 H42 hp42 s42 r42 => ?_
    have t43 := t42.trans s42
    refine newT_go fun p43 H43 hp43 s43 r43 => ?_
    have t44 := t43.trans s43
    refine newT_go fun p44 H44 hp44 s44 r44 => ?_
    have t45 := t44.trans s44
    refine newL_go fun p45 H45 hp45 s45 r45 => ?_
    have t46 := t45.trans s45
    refine newL_go fun p46 H46 hp46 s46 r46 => ?_
    have t47 := t46.trans s46
    refine newL_go fun p47 H47 hp47 s47 r47 => ?_
    have t48 := t47.trans s47
    refine newL_go fun p48 H48 hp48 s48 r48 => ?_
    have t49 := t48.trans s48
    refine cat_go (s48 _ _ (s47 _ _ (s46 _ _ (s45 _ _ (s44 _ _ (s43 _ _ (s42 _ _ (s41 _ _ r40)))))))) r48 fun p49 H49 hp49 s49 r49 => ?_
    have t50 := t49.trans s49
    refine q p49 _ [p0, p1, p2, p3, p4, p5, p6, p7, p8, p9, p10, p11, p13, p14, p15, p16, p17, p18, p19, p20, p21, p22, p23, p24, p25, p27, p28, p29, p30, p33, p34, p35, p36, p37, p45, p46, p47] (.ref p32) (.ref p44) t50 r49 ⟨p32, p31, rfl, (s49 _ _ (s48 _ _ (s47 _ _ (s46 _ _ (s45 _ _ (s44 _ _ (s43 _ _ (s42 _ _ (s41 _ _ (s40 _ _ (s39 _ _ (s38 _ _ (s37 _ _ (s36 _ _ (s35 _ _ (s34 _ _ (s33 _ _ r32))))))))))))))))), (s49 _ _ (s48 _ _ (s47 _ _ (s46 _ _ (s45 _ _ (s44 _ _ (s43 _ _ (s42 _ _ (s41 _ _ (s40 _ _ (s39 _ _ (s38 _ _ (s37 _ _ (s36 _ _ (s35 _ _ (s34 _ _ (s33 _ _ (s32 _ _ r31))))))))))))))))))⟩ ⟨p44, p43, p41, p42, rfl, (s49 _ _ (s48 _ _ (s47 _ _ (s46 _ _ (s45 _ _ r44))))), (s49 _ _ (s48 _ _ (s47 _ _ (s46 _ _ (s45 _ _ (s44 _ _ r43)))))), (s49 _ _ (s48 _ _ (s47 _ _ (s46 _ _ (s45 _ _ (s44 _ _ (s43 _ _ (s42 _ _ r41)))))))), (s49 _ _ (s48 _ _ (s47 _ _ (s46 _ _ (s45 _ _ (s44 _ _ (s43 _ _ r42)))))))⟩ ?_
    exact .cons (s49 _ _ (s48 _ _ (s47 _ _ (s46 _ _ (s45 _ _ (s44 _ _ (s43 _ _ (s42 _ _ (s41 _ _ (s40 _ _ (s39 _ _ (s38 _ _ (s37 _ _ (s36 _ _ (s35 _ _ (s34 _ _ (s33 _ _ (s32 _ _ (s31 _ _ (s30 _ _ (s29 _ _ (s28 _ _ (s27 _ _ (s26 _ _ (s25 _ _ (s24 _ _ (s23 _ _ (s22 _ _ (s21 _ _ (s20 _ _ (s19 _ _ (s18 _ _ (s17 _ _ (s16 _ _ (s15 _ _ (s14 _ _ (s13 _ _ (s12 _ _ (s11 _ _ (s10 _ _ (s9 _ _ (s8 _ _ (s7 _ _ (s6 _ _ (s5 _ _ (s4 _ _ (s3 _ _ (s2 _ _ (s1 _ _ r0))))))))))))))))))))))))))))))))))))))))))))))))) (.cons (s49 _ _ (s48 _ _ (s47 _ _ (s46 _ _ (s45 _ _ (s44 _ _ (s43 _ _ (s42 _ _ (s41 _ _ (s40 _ _ (s39 _ _ (s38 _ _ (s37 _ _ (s36 _ _ (s35 _ _ (s34 _ _ (s33 _ _ (s32 _ _ (s31 _ _ (s30 _ _ (s29 _ _ (s28 _ _ (s27 _ _ (s26 _ _ (s25 _ _ (s24 _ _ (s23 _ _ (s22 _ _ (s21 _ _ (s20 _ _ (s19 _ _ (s18 _ _ (s17 _ _ (s16 _ _ (s15 _ _ (s14 _ _ (s13 _ _ (s12 _ _ (s11 _ _ (s10 _ _ (s9 _ _ (s8 _ _ (s7 _ _ (s6 _ _ (s5 _ _ (s4 _ _ (s3 _ _ (s2 _ _ r1)))))))))))))))))))))))))))))))))))))))))))))))) (.cons (s49 _ _ (s48 _ _ (s47 _ _ (s46 _ _ (s45 _ _ (s44 _ _ (s43 _ _ (s42 _ _ (s41 _ _ (s40 _ _ (s39 _ _ (s38 _ _ (s37 _ _ (s36 _ _ (s35 _ _ (s34 _ _ (s33 _ _ (s32 _ _ (s31 _ _ (s30 _ _ (s29 _ _ (s28 _ _ (s27 _ _ (s26 _ _ (s25 _ _ (s24 _ _ (s23 _ _ (s22 _ _ (s21 _ _ (s20 _ _ (s19 _ _ (s18 _ _ (s17 _ _ (s16 _ _ (s15 _ _ (s14 _ _ (s13 _ _ (s12 _ _ (s11 _ _ (s10 _ _ (s9 _ _ (s8 _ _ (s7 _ _ (s6 _ _ (s5 _ _ (s4 _ _ (s3 _ _ r2))))))))))))))))))))))))))))))))))))))))))))))) (.cons (s49 _ _ (s48 _ _ (s47 _ _ (s46 _ _ (s45 _ _ (s44 _ _ (s43 _ _ (s42 _ _ (s41 _ _ (s40 _ _ (s39 _ _ (s38 _ _ (s37 _ _ (s36 _ _ (s35 _ _ (s34 _ _ (s33 _ _ (s32 _ _ (s31 _ _ (s30 _ _ (s29 _ _ (s28 _ _ (s27 _ _ (s26 _ _ (s25 _ _ (s24 _ _ (s23 _ _ (s22 _ _ (s21 _ _ (s20 _ _ (s19 _ _ (s18 _ _ (s17 _ _ (s16 _ _ (s15 _ _ (s14 _ _ (s13 _ _ (s12 _ _ (s11 _ _ (s10 _ _ (s9 _ _ (s8 _ _ (s7 _ _ (s6 _ _ (s5 _ _ (s4 _ _ r3)))))))))))))))))))))))))))))))))))))))))))))) (.cons (s49 _ _ (s48 _ _ (s47 _ _ (s46 _ _ (s45 _ _ (s44 _ _ (s43 _ _ (s42 _ _ (s41 _ _ (s40 _ _ (s39 _ _ (s38 _ _ (s37 _ _ (s36 _ _ (s35 _ _ (s34 _ _ (s33 _ _ (s32 _ _ (s31 _ _ (s30 _ _ (s29 _ _ (s28 _ _ (s27 _ _ (s26 _ _ (s25 _ _ (s24 _ _ (s23 _ _ (s22 _ _ (s21 _ _ (s20 _ _ (s19 _ _ (s18 _ _ (s17 _ _ (s16 _ _ (s15 _ _ (s14 _ _ (s13 _ _ (s12 _ _ (s11 _ _ (s10 _ _ (s9 _ _ (s8 _ _ (s7 _ _ (s6 _ _ (s5 _ _ r4))))))))))))))))))))))))))))))))))))))))))))) (.cons (s49 _ _ (s48 _ _ (s47 _ _ (s46 _ _ (s45 _ _ (s44 _ _ (s43 _ _ (s42 _ _ (s41 _ _ (s40 _ _ (s39 _ _ (s38 _ _ (s37 _ _ (s36 _ _ (s35 _ _ (s34 _ _ (s33 _ _ (s32 _ _ (s31 _ _ (s30 _ _ (s29 _ _ (s28 _ _ (s27 _ _ (s26 _ _ (s25 _ _ (s24 _ _ (s23 _ _ (s22 _ _ (s21 _ _ (s20 _ _ (s19 _ _ (s18 _ _ (s17 _ _ (s16 _ _ (s15 _ _ (s14 _ _ (s13 _ _ (s12 _ _ (s11 _ _ (s10 _ _ (s9 _ _ (s8 _ _ (s7 _ _ (s6 _ _ r5)))))))))))))))))))))))))))))))))))))))))))) (.cons (s49 _ _ (s48 _ _ (s47 _ _ (s46 _ _ (s45 _ _ (s44 _ _ (s43 _ _ (s42 _ _ (s41 _ _ (s40 _ _ (s39 _ _ (s38 _ _ (s37 _ _ (s36 _ _ (s35 _ _ (s34 _ _ (s33 _ _ (s32 _ _ (s31 _ _ (s30 _ _ (s29 _ _ (s28 _ _ (s27 _ _ (s26 _ _ (s25 _ _ (s24 _ _ (s23 _ _ (s22 _ _ (s21 _ _ (s20 _ _ (s19 _ _ (s18 _ _ (s17 _ _ (s16 _ _ (s15 _ _ (s14 _ _ (s13 _ _ (s12 _ _ (s11 _ _ (s10 _ _ (s9 _ _ (s8 _ _ (s7 _ _ r6))))))))))))))))))))))))))))))))))))))))))) (.cons (s49 _ _ (s48 _ _ (s47 _ _ (s46 _ _ (s45 _ _ (s44 _ _ (s43 _ _ (s42 _ _ (s41 _ _ (s40 _ _ (s39 _ _ (s38 _ _ (s37 _ _ (s36 _ _ (s35 _ _ (s34 _ _ (s33 _ _ (s32 _ _ (s31 _ _ (s30 _ _ (s29 _ _ (s28 _ _ (s27 _ _ (s26 _ _ (s25 _ _ (s24 _ _ (s23 _ _ (s22 _ _ (s21 _ _ (s20 _ _ (s19 _ _ (s18 _ _ (s17 _ _ (s16 _ _ (s15 _ _ (s14 _ _ (s13 _ _ (s12 _ _ (s11 _ _ (s10 _ _ (s9 _ _ (s8 _ _ r7)))))))))))))))))))))))))))))))))))))))))) (.cons (s49 _ _ (s48 _ _ (s47 _ _ (s46 _ _ (s45 _ _ (s44 _ _ (s43 _ _ (s42 _ _ (s41 _ _ (s40 _ _ (s39 _ _ (s38 _ _ (s37 _ _ (s36 _ _ (s35 _ _ (s34 _ _ (s33 _ _ (s32 _ _ (s31 _ _ (s30 _ _ (s29 _ _ (s28 _ _ (s27 _ _ (s26 _ _ (s25 _ _ (s24 _ _ (s23 _ _ (s22 _ _ (s21 _ _ (s20 _ _ (s19 _ _ (s18 _ _ (s17 _ _ (s16 _ _ (s15 _ _ (s14 _ _ (s13 _ _ (s12 _ _ (s11 _ _ (s10 _ _ (s9 _ _ r8))))))))))))))))))))))))))))))))))))))))) (.cons (s49 _ _ (s48 _ _ (s47 _ _ (s46 _ _ (s45 _ _ (s44 _ _ (s43 _ _ (s42 _ _ (s41 _ _ (s40 _ _ (s39 _ _ (s38 _ _ (s37 _ _ (s36 _ _ (s35 _ _ (s34 _ _ (s33 _ _ (s32 _ _ (s31 _ _ (s30 _ _ (s29 _ _ (s28 _ _ (s27 _ _ (s26 _ _ (s25 _ _ (s24 _ _ (s23 _ _ (s22 _ _ (s21 _ _ (s20 _ _ (s19 _ _ (s18 _ _ (s17 _ _ (s16 _ _ (s15 _ _ (s14 _ _ (s13 _ _ (s12 _ _ (s11 _ _ (s10 _ _ r9)))))))))))))))))))))))))))))))))))))))) (.cons (s49 _ _ (s48 _ _ (s47 _ _ (s46 _ _ (s45 _ _ (s44 _ _ (s43 _ _ (s42 _ _ (s41 _ _ (s40 _ _ (s39 _ _ (s38 _ _ (s37 _ _ (s36 _ _ (s35 _ _ (s34 _ _ (s33 _ _ (s32 _ _ (s31 _ _ (s30 _ _ (s29 _ _ (s28 _ _ (s27 _ _ (s26 _ _ (s25 _ _ (s24 _ _ (s23 _ _ (s22 _ _ (s21 _ _ (s20 _ _ (s19 _ _ (s18 _ _ (s17 _ _ (s16 _ _ (s15 _ _ (s14 _ _ (s13 _ _ (s12 _ _ (s11 _ _ r10))))))))))))))))))))))))))))))))))))))) (.cons (s49 _ _ (s48 _ _ (s47 _ _ (s46 _ _ (s45 _ _ (s44 _ _ (s43 _ _ (s42 _ _ (s41 _ _ (s40 _ _ (s39 _ _ (s38 _ _ (s37 _ _ (s36 _ _ (s35 _ _ (s34 _ _ (s33 _ _ (s32 _ _ (s31 _ _ (s30 _ _ (s29 _ _ (s28 _ _ (s27 _ _ (s26 _ _ (s25 _ _ (s24 _ _ (s23 _ _ (s22 _ _ (s21 _ _ (s20 _ _ (s19 _ _ (s18 _ _ (s17 _ _ (s16 _ _ (s15 _ _ (s14 _ _ (s13 _ _ (s12 _ _ r11)))))))))))))))))))))))))))))))))))))) (.cons (s49 _ _ (s48 _ _ (s47 _ _ (s46 _ _ (s45 _ _ (s44 _ _ (s43 _ _ (s42 _ _ (s41 _ _ (s40 _ _ (s39 _ _ (s38 _ _ (s37 _ _ (s36 _ _ (s35 _ _ (s34 _ _ (s33 _ _ (s32 _ _ (s31 _ _ (s30 _ _ (s29 _ _ (s28 _ _ (s27 _ _ (s26 _ _ (s25 _ _ (s24 _ _ (s23 _ _ (s22 _ _ (s21 _ _ (s20 _ _ (s19 _ _ (s18 _ _ (s17 _ _ (s16 _ _ (s15 _ _ (s14 _ _ r13)))))))))))))))))))))))))))))))))))) (.cons (s49 _ _ (s48 _ _ (s47 _ _ (s46 _ _ (s45 _ _ (s44 _ _ (s43 _ _ (s42 _ _ (s41 _ _ (s40 _ _ (s39 _ _ (s38 _ _ (s37 _ _ (s36 _ _ (s35 _ _ (s34 _ _ (s33 _ _ (s32 _ _ (s31 _ _ (s30 _ _ (s29 _ _ (s28 _ _ (s27 _ _ (s26 _ _ (s25 _ _ (s24 _ _ (s23 _ _ (s22 _ _ (s21 _ _ (s20 _ _ (s19 _ _ (s18 _ _ (s17 _ _ (s16 _ _ (s15 _ _ r14))))))))))))))))))))))))))))))))))) (.cons (s49 _ _ (s48 _ _ (s47 _ _ (s46 _ _ (s45 _ _ (s44 _ _ (s43 _ _ (s42 _ _ (s41 _ _ (s40 _ _ (s39 _ _ (s38 _ _ (s37 _ _ (s36 _ _ (s35 _ _ (s34 _ _ (s33 _ _ (s32 _ _ (s31 _ _ (s30 _ _ (s29 _ _ (s28 _ _ (s27 _ _ (s26 _ _ (s25 _ _ (s24 _ _ (s23 _ _ (s22 _ _ (s21 _ _ (s20 _ _ (s19 _ _ (s18 _ _ (s17 _ _ (s16 _ _ r15)))))))))))))))))))))))))))))))))) (.cons (s49 _ _ (s48 _ _ (s47 _ _ (s46 _ _ (s45 _ _ (s44 _ _ (s43 _ _ (s42 _ _ (s41 _ _ (s40 _ _ (s39 _ _ (s38 _ _ (s37 _ _ (s36 _ _ (s35 _ _ (s34 _ _ (s33 _ _ (s32 _ _ (s31 _ _ (s30 _ _ (s29 _ _ (s28 _ _ (s27 _ _ (s26 _ _ (s25 _ _ (s24 _ _ (s23 _ _ (s22 _ _ (s21 _ _ (s20 _ _ (s19 _ _ (s18 _ _ (s17 _ _ r16))))))))))))))))))))))))))))))))) (.cons (s49 _ _ (s48 _ _ (s47 _ _ (s46 _ _ (s45 _ _ (s44 _ _ (s43 _ _ (s42 _ _ (s41 _ _ (s40 _ _ (s39 _ _ (s38 _ _ (s37 _ _ (s36 _ _ (s35 _ _ (s34 _ _ (s33 _ _ (s32 _ _ (s31 _ _ (s30 _ _ (s29 _ _ (s28 _ _ (s27 _ _ (s26 _ _ (s25 _ _ (s24 _ _ (s23 _ _ (s22 _ _ (s21 _ _ (s20 _ _ (s19 _ _ (s18 _ _ r17)))))))))))))))))))))))))))))))) (.cons (s49 _ _ (s48 _ _ (s47 _ _ (s46 _ _ (s45 _ _ (s44 _ _ (s43 _ _ (s42 _ _ (s41 _ _ (s40 _ _ (s39 _ _ (s38 _ _ (s37 _ _ (s36 _ _ (s35 _ _ (s34 _ _ (s33 _ _ (s32 _ _ (s31 _ _ (s30 _ _ (s29 _ _ (s28 _ _ (s27 _ _ (s26 _ _ (s25 _ _ (s24 _ _ (s23 _ _ (s22 _ _ (s21 _ _ (s20 _ _ (s19 _ _ r18))))))))))))))))))))))))))))))) (.cons (s49 _ _ (s48 _ _ (s47 _ _ (s46 _ _ (s45 _ _ (s44 _ _ (s43 _ _ (s42 _ _ (s41 _ _ (s40 _ _ (s39 _ _ (s38 _ _ (s37 _ _ (s36 _ _ (s35 _ _ (s34 _ _ (s33 _ _ (s32 _ _ (s31 _ _ (s30 _ _ (s29 _ _ (s28 _ _ (s27 _ _ (s26 _ _ (s25 _ _ (s24 _ _ (s23 _ _ (s22 _ _ (s21 _ _ (s20 _ _ r19)))))))))))))))))))))))))))))) (.cons (s49 _ _ (s48 _ _ (s47 _ _ (s46 _ _ (s45 _ _ (s44 _ _ (s43 _ _ (s42 _ _ (s41 _ _ (s40 _ _ (s39 _ _ (s38 _ _ (s37 _ _ (s36 _ _ (s35 _ _ (s34 _ _ (s33 _ _ (s32 _ _ (s31 _ _ (s30 _ _ (s29 _ _ (s28 _ _ (s27 _ _ (s26 _ _ (s25 _ _ (s24 _ _ (s23 _ _ (s22 _ _ (s21 _ _ r20))))))))))))))))))))))))))))) (.cons (s49 _ _ (s48 _ _ (s47 _ _ (s46 _ _ (s45 _ _ (s44 _ _ (s43 _ _ (s42 _ _ (s41 _ _ (s40 _ _ (s39 _ _ (s38 _ _ (s37 _ _ (s36 _ _ (s35 _ _ (s34 _ _ (s33 _ _ (s32 _ _ (s31 _ _ (s30 _ _ (s29 _ _ (s28 _ _ (s27 _ _ (s26 _ _ (s25 _ _ (s24 _ _ (s23 _ _ (s22 _ _ r21)))))))))))))))))))))))))))) (.cons (s49 _ _ (s48 _ _ (s47 _ _ (s46 _ _ (s45 _ _ (s44 _ _ (s43 _ _ (s42 _ _ (s41 _ _ (s40 _ _ (s39 _ _ (s38 _ _ (s37 _ _ (s36 _ _ (s35 _ _ (s34 _ _ (s33 _ _ (s32 _ _ (s31 _ _ (s30 _ _ (s29 _ _ (s28 _ _ (s27 _ _ (s26 _ _ (s25 _ _ (s24 _ _ (s23 _ _ r22))))))))))))))))))))))))))) (.cons (s49 _ _ (s48 _ _ (s47 _ _ (s46 _ _ (s45 _ _ (s44 _ _ (s43 _ _ (s42 _ _ (s41 _ _ (s40 _ _ (s39 _ _ (s38 _ _ (s37 _ _ (s36 _ _ (s35 _ _ (s34 _ _ (s33 _ _ (s32 _ _ (s31 _ _ (s30 _ _ (s29 _ _ (s28 _ _ (s27 _ _ (s26 _ _ (s25 _ _ (s24 _ _ r23)))))))))))))))))))))))))) (.cons (s49 _ _ (s48 _ _ (s47 _ _ (s46 _ _ (s45 _ _ (s44 _ _ (s43 _ _ (s42 _ _ (s41 _ _ (s40 _ _ (s39 _ _ (s38 _ _ (s37 _ _ (s36 _ _ (s35 _ _ (s34 _ _ (s33 _ _ (s32 _ _ (s31 _ _ (s30 _ _ (s29 _ _ (s28 _ _ (s27 _ _ (s26 _ _ (s25 _ _ r24))))))))))))))))))))))))) (.cons (s49 _ _ (s48 _ _ (s47 _ _ (s46 _ _ (s45 _ _ (s44 _ _ (s43 _ _ (s42 _ _ (s41 _ _ (s40 _ _ (s39 _ _ (s38 _ _ (s37 _ _ (s36 _ _ (s35 _ _ (s34 _ _ (s33 _ _ (s32 _ _ (s31 _ _ (s30 _ _ (s29 _ _ (s28 _ _ (s27 _ _ (s26 _ _ r25)))))))))))))))))))))))) (.cons (s49 _ _ (s48 _ _ (s47 _ _ (s46 _ _ (s45 _ _ (s44 _ _ (s43 _ _ (s42 _ _ (s41 _ _ (s40 _ _ (s39 _ _ (s38 _ _ (s37 _ _ (s36 _ _ (s35 _ _ (s34 _ _ (s33 _ _ (s32 _ _ (s31 _ _ (s30 _ _ (s29 _ _ (s28 _ _ r27)))))))))))))))))))))) (.cons (s49 _ _ (s48 _ _ (s47 _ _ (s46 _ _ (s45 _ _ (s44 _ _ (s43 _ _ (s42 _ _ (s41 _ _ (s40 _ _ (s39 _ _ (s38 _ _ (s37 _ _ (s36 _ _ (s35 _ _ (s34 _ _ (s33 _ _ (s32 _ _ (s31 _ _ (s30 _ _ (s29 _ _ r28))))))))))))))))))))) (.cons (s49 _ _ (s48 _ _ (s47 _ _ (s46 _ _ (s45 _ _ (s44 _ _ (s43 _ _ (s42 _ _ (s41 _ _ (s40 _ _ (s39 _ _ (s38 _ _ (s37 _ _ (s36 _ _ (s35 _ _ (s34 _ _ (s33 _ _ (s32 _ _ (s31 _ _ (s30 _ _ r29)))))))))))))))))))) (.cons (s49 _ _ (s48 _ _ (s47 _ _ (s46 _ _ (s45 _ _ (s44 _ _ (s43 _ _ (s42 _ _ (s41 _ _ (s40 _ _ (s39 _ _ (s38 _ _ (s37 _ _ (s36 _ _ (s35 _ _ (s34 _ _ (s33 _ _ (s32 _ _ (s31 _ _ r30))))))))))))))))))) (.cons (s49 _ _ (s48 _ _ (s47 _ _ (s46 _ _ (s45 _ _ (s44 _ _ (s43 _ _ (s42 _ _ (s41 _ _ (s40 _ _ (s39 _ _ (s38 _ _ (s37 _ _ (s36 _ _ (s35 _ _ (s34 _ _ r33)))))))))))))))) (.cons (s49 _ _ (s48 _ _ (s47 _ _ (s46 _ _ (s45 _ _ (s44 _ _ (s43 _ _ (s42 _ _ (s41 _ _ (s40 _ _ (s39 _ _ (s38 _ _ (s37 _ _ (s36 _ _ (s35 _ _ r34))))))))))))))) (.cons (s49 _ _ (s48 _ _ (s47 _ _ (s46 _ _ (s45 _ _ (s44 _ _ (s43 _ _ (s42 _ _ (s41 _ _ (s40 _ _ (s39 _ _ (s38 _ _ (s37 _ _ (s36 _ _ r35)))))))))))))) (.cons (s49 _ _ (s48 _ _ (s47 _ _ (s46 _ _ (s45 _ _ (s44 _ _ (s43 _ _ (s42 _ _ (s41 _ _ (s40 _ _ (s39 _ _ (s38 _ _ (s37 _ _ r36))))))))))))) (.cons (s49 _ _ (s48 _ _ (s47 _ _ (s46 _ _ (s45 _ _ (s44 _ _ (s43 _ _ (s42 _ _ (s41 _ _ (s40 _ _ (s39 _ _ (s38 _ _ r37)))))))))))) (.cons (s49 _ _ (s48 _ _ (s47 _ _ (s46 _ _ r45)))) (.cons (s49 _ _ (s48 _ _ (s47 _ _ r46))) (.cons (s49 _ _ (s48 _ _ r47)) .nil))))))))))))))))))))))))))))))))))))
end
end Own

set_option Elab.async false
set_option linter.all false
set_option maxRecDepth 100000
set_option maxHeartbeats 4000000
namespace Own
open PySem PySem.Spec PyProof.Rows L2
section
variable {P : Program} {w : World} {K : PySem.W.Frag} {mg : Str → Option Value} {base : Heap}
def sp_l_kinds {K : PySem.W.Frag} {mg : Str → Option Value} (T : Txt K mg) : Sp := fun vs H Q _ => ∃ (a : Addr) (i : Nat) (D : Addr) (fs : List (Str × V)), vs = [.ref a] ∧ (kinds T)[i]? = some D ∧ ExAt H a D fs ∧ ∀ p H', Same H H' → H' p = some (.lst ((List.range 37).map fun j => V.bl (kindF i j))) → Q (.ref p) H'
theorem ok_l_kinds (T : Txt K mg) : FnOk P w K mg base CX0 1 T.d_l_kinds.a T.d_l_kinds.d ["_law_e"] (sp_l_kinds T) := by
  refine T.d_l_kinds.F.ok sc_l_kinds (fun vs H Q E h => ?_) (fun cdv A outer s H vs Q E hr h => ?_)
  · obtain ⟨a, i, D, fs, rfl, _⟩ := h
    rfl
  · obtain ⟨a, i, D, fs, rfl, hi, hE, q⟩ := h
    have X := (kindK T hi).ec
    refine ⟨_, (pss_cons (ps_set (i := 1) sc_l_kinds.nd rfl (Or.inl rfl) (pe_lst (pa_cons (pe_callB call_isV (by rfl) T.z_isinstance (by decide +kernel) (pa_cons (pv 0) (pa_cons (pe_glob (v := .ref T.c_BadTree.C) rfl T.c_BadTree.m rfl) pa_nil))) (pa_cons (pe_callB call_isV (by rfl) T.z_isinstance (by decide +kernel) (pa_cons (pv 0) (pa_cons (pe_glob (v := .ref T.c_Duplicate.C) rfl T.c_Duplicate.m rfl) pa_nil))) (pa_cons (pe_callB call_isV (by rfl) T.z_isinstance (by decide +kernel) (pa_cons (pv 0) (pa_cons (pe_glob (v := .ref T.c_Unknown.C) rfl T.c_Unknown.m rfl) pa_nil))) (pa_cons (pe_callB call_isV (by rfl) T.z_isinstance (by decide +kernel) (pa_cons (pv 0) (pa_cons (pe_glob (v := .ref T.c_BadWord.C) rfl T.c_BadWord.m rfl) pa_nil))) pa_nil))))))
      (pss_cons (ps_set (i := 1) sc_l_kinds.nd rfl (Or.inl rfl) (pe_op op_cat (pv 1) (pe_lst (pa_cons (pe_callB call_isV (by rfl) T.z_isinstance (by decide +kernel) (pa_cons (pv 0) (pa_cons (pe_glob (v := .ref T.c_Repeated.C) rfl T.c_Repeated.m rfl) pa_nil))) (pa_cons (pe_callB call_isV (by rfl) T.z_isinstance (by decide +kernel) (pa_cons (pv 0) (pa_cons (pe_glob (v := .ref T.c_OutOfOrder.C) rfl T.c_OutOfOrder.m rfl) pa_nil))) (pa_cons (pe_callB call_isV (by rfl) T.z_isinstance (by decide +kernel) (pa_cons (pv 0) (pa_cons (pe_glob (v := .ref T.c_BadLine.C) rfl T.c_BadLine.m rfl) pa_nil))) pa_nil))))))
      (pss_cons (ps_set (i := 1) sc_l_kinds.nd rfl (Or.inl rfl) (pe_op op_cat (pv 1) (pe_lst (pa_cons (pe_callB call_isV (by rfl) T.z_isinstance (by decide +kernel) (pa_cons (pv 0) (pa_cons (pe_glob (v := .ref T.c_TooDeep.C) rfl T.c_TooDeep.m rfl) pa_nil))) (pa_cons (pe_callB call_isV (by rfl) T.z_isinstance (by decide +kernel) (pa_cons (pv 0) (pa_cons (pe_glob (v := .ref T.c_Unclosed.C) rfl T.c_Unclosed.m rfl) pa_nil))) (pa_cons (pe_callB call_isV (by rfl) T.z_isinstance (by decide +kernel) (pa_cons (pv 0) (pa_cons (pe_glob (v := .ref T.c_BadPair.C) rfl T.c_BadPair.m rfl) pa_nil))) pa_nil))))))
      (pss_cons (ps_set (i := 1) sc_l_kinds.nd rfl (Or.inl rfl) (pe_op op_cat (pv 1) (pe_lst (pa_cons (pe_callB call_isV (by rfl) T.z_isinstance (by decide +kernel) (pa_cons (pv 0) (pa_cons (pe_glob (v := .ref T.c_NoKeeping.C) rfl T.c_NoKeeping.m rfl) pa_nil))) (pa_cons (pe_callB call_isV (by rfl) T.z_isinstance (by decide +kernel) (pa_cons (pv 0) (pa_cons (pe_glob (v := .ref T.c_TooMany.C) rfl T.c_TooMany.m rfl) pa_nil))) (pa_cons (pe_callB call_isV (by rfl) T.z_isinstance (by decide +kernel) (pa_cons (pv 0) (pa_cons (pe_glob (v := .ref T.c_NoLine.C) rfl T.c_NoLine.m rfl) pa_nil))) pa_nil))))))
      (pss_cons (ps_set (i := 1) sc_l_kinds.nd rfl (Or.inl rfl) (pe_op op_cat (pv 1) (pe_lst (pa_cons (pe_callB call_isV (by rfl) T.z_isinstance (by decide +kernel) (pa_cons (pv 0) (pa_cons (pe_glob (v := .ref T.c_NoStatement.C) rfl T.c_NoStatement.m rfl) pa_nil))) (pa_cons (pe_callB call_isV (by rfl) T.z_isinstance (by decide +kernel) (pa_cons (pv 0) (pa_cons (pe_glob (v := .ref T.c_NoPart.C) rfl T.c_NoPart.m rfl) pa_nil))) (pa_cons (pe_callB call_isV (by rfl) T.z_isinstance (by decide +kernel) (pa_cons (pv 0) (pa_cons (pe_glob (v := .ref T.c_InUse.C) rfl T.c_InUse.m rfl) pa_nil))) pa_nil))))))
      (pss_cons (ps_set (i := 1) sc_l_kinds.nd rfl (Or.inl rfl) (pe_op op_cat (pv 1) (pe_lst (pa_cons (pe_callB call_isV (by rfl) T.z_isinstance (by decide +kernel) (pa_cons (pv 0) (pa_cons (pe_glob (v := .ref T.c_NotWrapped.C) rfl T.c_NotWrapped.m rfl) pa_nil))) (pa_cons (pe_callB call_isV (by rfl) T.z_isinstance (by decide +kernel) (pa_cons (pv 0) (pa_cons (pe_glob (v := .ref T.c_NotCall.C) rfl T.c_NotCall.m rfl) pa_nil))) (pa_cons (pe_callB call_isV (by rfl) T.z_isinstance (by decide +kernel) (pa_cons (pv 0) (pa_cons (pe_glob (v := .ref T.c_BadIdent.C) rfl T.c_BadIdent.m rfl) pa_nil))) (pa_cons (pe_callB call_isV (by rfl) T.z_isinstance (by decide +kernel) (pa_cons (pv 0) (pa_cons (pe_glob (v := .ref T.c_Taken.C) rfl T.c_Taken.m rfl) pa_nil))) pa_nil)))))))
      (pss_cons (ps_set (i := 1) sc_l_kinds.nd rfl (Or.inl rfl) (pe_op op_cat (pv 1) (pe_lst (pa_cons (pe_callB call_isV (by rfl) T.z_isinstance (by decide +kernel) (pa_cons (pv 0) (pa_cons (pe_glob (v := .ref T.c_NotBindings.C) rfl T.c_NotBindings.m rfl) pa_nil))) (pa_cons (pe_callB call_isV (by rfl) T.z_isinstance (by decide +kernel) (pa_cons (pv 0) (pa_cons (pe_glob (v := .ref T.c_BadName.C) rfl T.c_BadName.m rfl) pa_nil))) (pa_cons (pe_callB call_isV (by rfl) T.z_isinstance (by decide +kernel) (pa_cons (pv 0) (pa_cons (pe_glob (v := .ref T.c_BadValue.C) rfl T.c_BadValue.m rfl) pa_nil))) pa_nil))))))
      (pss_cons (ps_set (i := 1) sc_l_kinds.nd rfl (Or.inl rfl) (pe_op op_cat (pv 1) (pe_lst (pa_cons (pe_callB call_isV (by rfl) T.z_isinstance (by decide +kernel) (pa_cons (pv 0) (pa_cons (pe_glob (v := .ref T.c_UnknownName.C) rfl T.c_UnknownName.m rfl) pa_nil))) (pa_cons (pe_callB call_isV (by rfl) T.z_isinstance (by decide +kernel) (pa_cons (pv 0) (pa_cons (pe_glob (v := .ref T.c_NoEngine.C) rfl T.c_NoEngine.m rfl) pa_nil))) (pa_cons (pe_callB call_isV (by rfl) T.z_isinstance (by decide +kernel) (pa_cons (pv 0) (pa_cons (pe_glob (v := .ref T.c_BadScript.C) rfl T.c_BadScript.m rfl) pa_nil))) pa_nil))))))
      (pss_cons (ps_set (i := 1) sc_l_kinds.nd rfl (Or.inl rfl) (pe_op op_cat (pv 1) (pe_lst (pa_cons (pe_callB call_isV (by rfl) T.z_isinstance (by decide +kernel) (pa_cons (pv 0) (pa_cons (pe_glob (v := .ref T.c_NoTarget.C) rfl T.c_NoTarget.m rfl) pa_nil))) (pa_cons (pe_callB call_isV (by rfl) T.z_isinstance (by decide +kernel) (pa_cons (pv 0) (pa_cons (pe_glob (v := .ref T.c_BadBinding.C) rfl T.c_BadBinding.m rfl) pa_nil))) (pa_cons (pe_callB call_isV (by rfl) T.z_isinstance (by decide +kernel) (pa_cons (pv 0) (pa_cons (pe_glob (v := .ref T.c_NotComparable.C) rfl T.c_NotComparable.m rfl) pa_nil))) pa_nil))))))
      (pss_cons (ps_set (i := 1) sc_l_kinds.nd rfl (Or.inl rfl) (pe_op op_cat (pv 1) (pe_lst (pa_cons (pe_callB call_isV (by rfl) T.z_isinstance (by decide +kernel) (pa_cons (pv 0) (pa_cons (pe_glob (v := .ref T.c_NotSeen.C) rfl T.c_NotSeen.m rfl) pa_nil))) (pa_cons (pe_callB call_isV (by rfl) T.z_isinstance (by decide +kernel) (pa_cons (pv 0) (pa_cons (pe_glob (v := .ref T.c_GuardTwice.C) rfl T.c_GuardTwice.m rfl) pa_nil))) (pa_cons (pe_callB call_isV (by rfl) T.z_isinstance (by decide +kernel) (pa_cons (pv 0) (pa_cons (pe_glob (v := .ref T.c_NoGuard.C) rfl T.c_NoGuard.m rfl) pa_nil))) (pa_cons (pe_callB call_isV (by rfl) T.z_isinstance (by decide +kernel) (pa_cons (pv 0) (pa_cons (pe_glob (v := .ref T.c_NoKind.C) rfl T.c_NoKind.m rfl) pa_nil))) pa_nil)))))))
      (pss_cons (ps_set (i := 1) sc_l_kinds.nd rfl (Or.inl rfl) (pe_op op_cat (pv 1) (pe_lst (pa_cons (pe_callB call_isV (by rfl) T.z_isinstance (by decide +kernel) (pa_cons (pv 0) (pa_cons (pe_glob (v := .ref T.c_NothingToUndo.C) rfl T.c_NothingToUndo.m rfl) pa_nil))) (pa_cons (pe_callB call_isV (by rfl) T.z_isinstance (by decide +kernel) (pa_cons (pv 0) (pa_cons (pe_glob (v := .ref T.c_Broken.C) rfl T.c_Broken.m rfl) pa_nil))) pa_nil)))))
      (pss_one (ps_ret (pe_op op_cat (pv 1) (pe_lst (pa_cons (pe_callB call_isV (by rfl) T.z_isinstance (by decide +kernel) (pa_cons (pv 0) (pa_cons (pe_glob (v := .ref T.c_Failed.C) rfl T.c_Failed.m rfl) pa_nil))) (pa_cons (pe_callB call_isV (by rfl) T.z_isinstance (by decide +kernel) (pa_cons (pv 0) (pa_cons (pe_glob (v := .ref T.c_MoveFailed.C) rfl T.c_MoveFailed.m rfl) pa_nil))) pa_nil))))))))))))))))), ?_⟩
    (try simp only [tSeq, tIfS, tTest, tB, tOp, tUn, tVar, tC, tAsg, gName, tRet, tRetN, tCB, tCons, tNil, tLst_eq, tTup_eq, tDNewK_eq, tNext, tPar, tAug, tAugS, tExf_eq, ipI, tChain, tCall, tDrop, tAnd, tOr, tNot, tAndV, tOrV, tNotV, tIf, tIsN, tNotN, rI, rI0, rU, rEq, rNe, gSub, cx_K, L2.start, wipe, scal_ii, scal_ss, scal_bb, scal_is, scal_si, scal_nn, List.map_cons, List.map_nil, List.length_cons, List.length_nil, List.cons_append, List.nil_append, List.append_nil, List.replicate, List.getElem?_cons_zero, List.getElem?_cons_succ, Option.some.injEq, exists_and_left, exists_eq_left', exists_eq_left, V.int.injEq, V.ref.injEq, V.str.injEq, V.bl.injEq, List.cons.injEq, and_true, true_and, false_and, exists_false, or_false, false_or, reduceCtorEq, List.set_cons_zero, List.set_cons_succ, Nat.reduceAdd, Nat.reduceSub, Int.reduceToNat, decide_eq_true_eq, if_true, if_false, Bool.false_eq_true, Bool.not_true, Bool.not_false, Bool.true_eq_false, ite_false, ite_true, ne_eq, not_false_eq_true, Int.reduceEq])
    have t0 := Same.refl H
    refine isV_go (hE.same t0) X rel_ref (kitTab_of T.kt hi (j := 0) rfl) ?_
    refine isV_go (hE.same t0) X rel_ref (kitTab_of T.kt hi (j := 1) rfl) ?_
    refine isV_go (hE.same t0) X rel_ref (kitTab_of T.kt hi (j := 2) rfl) ?_
    refine isV_go (hE.same t0) X rel_ref (kitTab_of T.kt hi (j := 3) rfl) ?_
    refine newL_go fun p0 H0 hp0 s0 r0 => ?_
    have t1 := t0.trans s0
    (try simp only [tSeq, tIfS, tTest, tB, tOp, tUn, tVar, tC, tAsg, gName, tRet, tRetN, tCB, tCons, tNil, tLst_eq, tTup_eq, tDNewK_eq, tNext, tPar, tAug, tAugS, tExf_eq, ipI, tChain, tCall, tDrop, tAnd, tOr, tNot, tAndV, tOrV, tNotV, tIf, tIsN, tNotN, rI, rI0, rU, rEq, rNe, gSub, cx_K, L2.start, wipe, scal_ii, scal_ss, scal_bb, scal_is, scal_si, scal_nn, List.map_cons, List.map_nil, List.length_cons, List.length_nil, List.cons_append, List.nil_append, List.append_nil, List.replicate, List.getElem?_cons_zero, List.getElem?_cons_succ, Option.some.injEq, exists_and_left, exists_eq_left', exists_eq_left, V.int.injEq, V.ref.injEq, V.str.injEq, V.bl.injEq, List.cons.injEq, and_true, true_and, false_and, exists_false, or_false, false_or, reduceCtorEq, List.set_cons_zero, List.set_cons_succ, Nat.reduceAdd, Nat.reduceSub, Int.reduceToNat, decide_eq_true_eq, if_true, if_false, Bool.false_eq_true, Bool.not_true, Bool.not_false, Bool.true_eq_false, ite_false, ite_true, ne_eq, not_false_eq_true, Int.reduceEq])
    refine isV_go (hE.same t1) X rel_ref (kitTab_of T.kt hi (j := 4) rfl) ?_
    refine isV_go (hE.same t1) X rel_ref (kitTab_of T.kt hi (j := 5) rfl) ?_
    refine isV_go (hE.same t1) X rel_ref (kitTab_of T.kt hi (j := 6) rfl) ?_
    refine newL_go fun p1 H1 hp1 s1 r1 => ?_
    have t2 := t1.trans s1
    refine cat_go (s1 _ _ r0) r1 fun p2 H2 hp2 s2 r2 => ?_
    have t3 := t2.trans s2
    (try simp only [tSeq, tIfS, tTest, tB, tOp, tUn, tVar, tC, tAsg, gName, tRet, tRetN, tCB, tCons, tNil, tLst_eq, tTup_eq, tDNewK_eq, tNext, tPar, tAug, tAugS, tExf_eq, ipI, tChain, tCall, tDrop, tAnd, tOr, tNot, tAndV, tOrV, tNotV, tIf, tIsN, tNotN, rI, rI0, rU, rEq, rNe, gSub, cx_K, L2.start, wipe, scal_ii, scal_ss, scal_bb, scal_is, scal_si, scal_nn, List.map_cons, List.map_nil, List.length_cons, List.length_nil, List.cons_append, List.nil_append, List.append_nil, List.replicate, List.getElem?_cons_zero, List.getElem?_cons_succ, Option.some.injEq, exists_and_left, exists_eq_left', exists_eq_left, V.int.injEq, V.ref.injEq, V.str.injEq, V.bl.injEq, List.cons.injEq, and_true, true_and, false_and, exists_false, or_false, false_or, reduceCtorEq, List.set_cons_zero, List.set_cons_succ, Nat.reduceAdd, Nat.reduceSub, Int.reduceToNat, decide_eq_true_eq, if_true, if_false, Bool.false_eq_true, Bool.not_true, Bool.not_false, Bool.true_eq_false, ite_false, ite_true, ne_eq, not_false_eq_true, Int.reduceEq])
    refine isV_go (hE.same t3) X rel_ref (kitTab_of T.kt hi (j := 7) rfl) ?_
    refine isV_go (hE.same t3) X rel_ref (kitTab_of T.kt hi (j := 8) rfl) ?_
    refine isV_go (hE.same t3) X rel_ref (kitTab_of T.kt hi (j := 9) rfl) ?_
    refine newL_go fun p3 H3 hp3 s3 r3 => ?_
    have t4 := t3.trans s3
    refine cat_go (s3 _ _ r2) r3 fun p4 H4 hp4 s4 r4 => ?_
    have t5 := t4.trans s4
    (try simp only [tSeq, tIfS, tTest, tB, tOp, tUn, tVar, tC, tAsg, gName, tRet, tRetN, tCB, tCons, tNil, tLst_eq, tTup_eq, tDNewK_eq, tNext, tPar, tAug, tAugS, tExf_eq, ipI, tChain, tCall, tDrop, tAnd, tOr, tNot, tAndV, tOrV, tNotV, tIf, tIsN, tNotN, rI, rI0, rU, rEq, rNe, gSub, cx_K, L2.start, wipe, scal_ii, scal_ss, scal_bb, scal_is, scal_si, scal_nn, List.map_cons, List.map_nil, List.length_cons, List.length_nil, List.cons_append, List.nil_append, List.append_nil, List.replicate, List.getElem?_cons_zero, List.getElem?_cons_succ, Option.some.injEq, exists_and_left, exists_eq_left', exists_eq_left, V.int.injEq, V.ref.injEq, V.str.injEq, V.bl.injEq, List.cons.injEq, and_true, true_and, false_and, exists_false, or_false, false_or, reduceCtorEq, List.set_cons_zero, List.set_cons_succ, Nat.reduceAdd, Nat.reduceSub, Int.reduceToNat, decide_eq_true_eq, if_true, if_false, Bool.false_eq_true, Bool.not_true, Bool.not_false, Bool.true_eq_false, ite_false, ite_true, ne_eq, not_false_eq_true, Int.reduceEq])
    refine isV_go (hE.same t5) X rel_ref (kitTab_of T.kt hi (j := 10) rfl) ?_
    refine isV_go (hE.same t5) X rel_ref (kitTab_of T.kt hi (j := 11) rfl) ?_
    refine isV_go (hE.same t5) X rel_ref (kitTab_of T.kt hi (j := 12) rfl) ?_
    refine newL_go fun p5 H5 hp5 s5 r5 => ?_
    have t6 := t5.trans s5
    refine cat_go (s5 _ _ r4) r5 fun p6 H6 hp6 s6 r6 => ?_
    have t7 := t6.trans s6
    (try simp only [tSeq, tIfS, tTest, tB, tOp, tUn, tVar, tC, tAsg, gName, tRet, tRetN, tCB, tCons, tNil, tLst_eq, tTup_eq, tDNewK_eq, tNext, tPar, tAug, tAugS, tExf_eq, ipI, tChain, tCall, tDrop, tAnd, tOr, tNot, tAndV, tOrV, tNotV, tIf, tIsN, tNotN, rI, rI0, rU, rEq, rNe, gSub, cx_K, L2.start, wipe, scal_ii, scal_ss, scal_bb, scal_is, scal_si, scal_nn, List.map_cons, List.map_nil, List.length_cons, List.length_nil, List.cons_append, List.nil_append, List.append_nil, List.replicate, List.getElem?_cons_zero, List.getElem?_cons_succ, Option.some.injEq, exists_and_left, exists_eq_left', exists_eq_left, V.int.injEq, V.ref.injEq, V.str.injEq, V.bl.injEq, List.cons.injEq, and_true, true_and, false_and, exists_false, or_false, false_or, reduceCtorEq, List.set_cons_zero, List.set_cons_succ, Nat.reduceAdd, Nat.reduceSub, Int.reduceToNat, decide_eq_true_eq, if_true, if_false, Bool.false_eq_true, Bool.not_true, Bool.not_false, Bool.true_eq_false, ite_false, ite_true, ne_eq, not_false_eq_true, Int.reduceEq])
    refine isV_go (hE.same t7) X rel_ref (kitTab_of T.kt hi (j := 13) rfl) ?_
    refine isV_go (hE.same t7) X rel_ref (kitTab_of T.kt hi (j := 14) rfl) ?_
    refine isV_go (hE.same t7) X rel_ref (kitTab_of T.kt hi (j := 15) rfl) ?_
    refine newL_go fun p7 H7 hp7 s7 r7 => ?_
    have t8 := t7.trans s7
    refine cat_go (s7 _ _ r6) r7 fun p8 H8 hp8 s8 r8 => ?_
    have t9 := t8.trans s8
    (try simp only [tSeq, tIfS, tTest, tB, tOp, tUn, tVar, tC, tAsg, gName, tRet, tRetN, tCB, tCons, tNil, tLst_eq, tTup_eq, tDNewK_eq, tNext, tPar, tAug, tAugS, tExf_eq, ipI, tChain, tCall, tDrop, tAnd, tOr, tNot, tAndV, tOrV, tNotV, tIf, tIsN, tNotN, rI, rI0, rU, rEq, rNe, gSub, cx_K, L2.start, wipe, scal_ii, scal_ss, scal_bb, scal_is, scal_si, scal_nn, List.map_cons, List.map_nil, List.length_cons, List.length_nil, List.cons_append, List.nil_append, List.append_nil, List.replicate, List.getElem?_cons_zero, List.getElem?_cons_succ, Option.some.injEq, exists_and_left, exists_eq_left', exists_eq_left, V.int.injEq, V.ref.injEq, V.str.injEq, V.bl.injEq, List.cons.injEq, and_true, true_and, false_and, exists_false, or_false, false_or, reduceCtorEq, List.set_cons_zero, List.set_cons_succ, Nat.reduceAdd, Nat.reduceSub, Int.reduceToNat, decide_eq_true_eq, if_true, if_false, Bool.false_eq_true, Bool.not_true, Bool.not_false, Bool.true_eq_false, ite_false, ite_true, ne_eq, not_false_eq_true, Int.reduceEq])
    refine isV_go (hE.same t9) X rel_ref (kitTab_of T.kt hi (j := 16) rfl) ?_
    refine isV_go (hE.same t9) X rel_ref (kitTab_of T.kt hi (j := 17) rfl) ?_
    refine isV_go (hE.same t9) X rel_ref (kitTab_of T.kt hi (j := 18) rfl) ?_
    refine isV_go (hE.same t9) X rel_ref (kitTab_of T.kt hi (j := 19) rfl) ?_
    refine newL_go fun p9 H9 hp9 s9 r9 => ?_
    have t10 := t9.trans s9
    refine cat_go (s9 _ _ r8) r9 fun p10 H10 hp10 s10 r10 => ?_
    have t11 := t10.trans s10
    (try simp only [tSeq, tIfS, tTest, tB, tOp, tUn, tVar, tC, tAsg, gName, tRet, tRetN, tCB, tCons, tNil, tLst_eq, tTup_eq, tDNewK_eq, tNext, tPar, tAug, tAugS, tExf_eq, ipI, tChain, tCall, tDrop, tAnd, tOr, tNot, tAndV, tOrV, tNotV, tIf, tIsN, tNotN, rI, rI0, rU, rEq, rNe, gSub, cx_K, L2.start, wipe, scal_ii, scal_ss, scal_bb, scal_is, scal_si, scal_nn, List.map_cons, List.map_nil, List.length_cons, List.length_nil, List.cons_append, List.nil_append, List.append_nil, List.replicate, List.getElem?_cons_zero, List.getElem?_cons_succ, Option.some.injEq, exists_and_left, exists_eq_left', exists_eq_left, V.int.injEq, V.ref.injEq, V.str.injEq, V.bl.injEq, List.cons.injEq, and_true, true_and, false_and, exists_false, or_false, false_or, reduceCtorEq, List.set_cons_zero, List.set_cons_succ, Nat.reduceAdd, Nat.reduceSub, Int.reduceToNat, decide_eq_true_eq, if_true, if_false, Bool.false_eq_true, Bool.not_true, Bool.not_false, Bool.true_eq_false, ite_false, ite_true, ne_eq, not_false_eq_true, Int.reduceEq])
    refine isV_go (hE.same t11) X rel_ref (kitTab_of T.kt hi (j := 20) rfl) ?_
    refine isV_go (hE.same t11) X rel_ref (kitTab_of T.kt hi (j := 21) rfl) ?_
    refine isV_go (hE.same t11) X rel_ref (kitTab_of T.kt hi (j := 22) rfl) ?_
    refine newL_go fun p11 H11 hp11 s11 r11 => ?_
    have t12 := t11.trans s11
    refine cat_go (s11 _ _ r10) r11 fun p12 H12 hp12 s12 r12 => ?_
    have t13 := t12.trans s12
    (try simp only [tSeq, tIfS, tTest, tB, tOp, tUn, tVar, tC, tAsg, gName, tRet, tRetN, tCB, tCons, tNil, tLst_eq, tTup_eq, tDNewK_eq, tNext, tPar, tAug, tAugS, tExf_eq, ipI, tChain, tCall, tDrop, tAnd, tOr, tNot, tAndV, tOrV, tNotV, tIf, tIsN, tNotN, rI, rI0, rU, rEq, rNe, gSub, cx_K, L2.start, wipe, scal_ii, scal_ss, scal_bb, scal_is, scal_si, scal_nn, List.map_cons, List.map_nil, List.length_cons, List.length_nil, List.cons_append, List.nil_append, List.append_nil, List.replicate, List.getElem?_cons_zero, List.getElem?_cons_succ, Option.some.injEq, exists_and_left, exists_eq_left', exists_eq_left, V.int.injEq, V.ref.injEq, V.str.injEq, V.bl.injEq, List.cons.injEq, and_true, true_and, false_and, exists_false, or_false, false_or, reduceCtorEq, List.set_cons_zero, List.set_cons_succ, Nat.reduceAdd, Nat.reduceSub, Int.reduceToNat, decide_eq_true_eq, if_true, if_false, Bool.false_eq_true, Bool.not_true, Bool.not_false, Bool.true_eq_false, ite_false, ite_true, ne_eq, not_false_eq_true, Int.reduceEq])
    refine isV_go (hE.same t13) X rel_ref (kitTab_of T.kt hi (j := 23) rfl) ?_
    refine isV_go (hE.same t13) X rel_ref (kitTab_of T.kt hi (j := 24) rfl) ?_
    refine isV_go (hE.same t13) X rel_ref (kitTab_of T.kt hi (j := 25) rfl) ?_
    refine newL_go fun p13 H13 hp13 s13 r13 => ?_
    have t14 := t13.trans s13
    refine cat_go (s13 _ _ r12) r13 fun p14 H14 hp14 s14 r14 => ?_
    have t15 := t14.trans s14
    (try simp only [tSeq, tIfS, tTest, tB, tOp, tUn, tVar, tC, tAsg, gName, tRet, tRetN, tCB, tCons, tNil, tLst_eq, tTup_eq, tDNewK_eq, tNext, tPar, tAug, tAugS, tExf_eq, ipI, tChain, tCall, tDrop, tAnd, tOr, tNot, tAndV, tOrV, tNotV, tIf, tIsN, tNotN, rI, rI0, rU, rEq, rNe, gSub, cx_K, L2.start, wipe, scal_ii, scal_ss, scal_bb, scal_is, scal_si, scal_nn, List.map_cons, List.map_nil, List.length_cons, List.length_nil, List.cons_append, List.nil_append, List.append_nil, List.replicate, List.getElem?_cons_zero, List.getElem?_cons_succ, Option.some.injEq, exists_and_left, exists_eq_left', exists_eq_left, V.int.injEq, V.ref.injEq, V.str.injEq, V.bl.injEq, List.cons.injEq, and_true, true_and, false_and, exists_false, or_false, false_or, reduceCtorEq, List.set_cons_zero, List.set_cons_succ, Nat.reduceAdd, Nat.reduceSub, Int.reduceToNat, decide_eq_true_eq, if_true, if_false, Bool.false_eq_true, Bool.not_true, Bool.not_false, Bool.true_eq_false, ite_false, ite_true, ne_eq, not_false_eq_true, Int.reduceEq])
    refine isV_go (hE.same t15) X rel_ref (kitTab_of T.kt hi (j := 26) rfl) ?_
    refine isV_go (hE.same t15) X rel_ref (kitTab_of T.kt hi (j := 27) rfl) ?_
    refine isV_go (hE.same t15) X rel_ref (kitTab_of T.kt hi (j := 28) rfl) ?_
    refine newL_go fun p15 H15 hp15 s15 r15 => ?_
    have t16 := t15.trans s15
    refine cat_go (s15 _ _ r14) r15 fun p16 H16 hp16 s16 r16 => ?_
    have t17 := t16.trans s16
    (try simp only [tSeq, tIfS, tTest, tB, tOp, tUn, tVar, tC, tAsg, gName, tRet, tRetN, tCB, tCons, tNil, tLst_eq, tTup_eq, tDNewK_eq, tNext, tPar, tAug, tAugS, tExf_eq, ipI, tChain, tCall, tDrop, tAnd, tOr, tNot, tAndV, tOrV, tNotV, tIf, tIsN, tNotN, rI, rI0, rU, rEq, rNe, gSub, cx_K, L2.start, wipe, scal_ii, scal_ss, scal_bb, scal_is, scal_si, scal_nn, List.map_cons, List.map_nil, List.length_cons, List.length_nil, List.cons_append, List.nil_append, List.append_nil, List.replicate, List.getElem?_cons_zero, List.getElem?_cons_succ, Option.some.injEq, exists_and_left, exists_eq_left', exists_eq_left, V.int.injEq, V.ref.injEq, V.str.injEq, V.bl.injEq, List.cons.injEq, and_true, true_and, false_and, exists_false, or_false, false_or, reduceCtorEq, List.set_cons_zero, List.set_cons_succ, Nat.reduceAdd, Nat.reduceSub, Int.reduceToNat, decide_eq_true_eq, if_true, if_false, Bool.false_eq_true, Bool.not_true, Bool.not_false, Bool.true_eq_false, ite_false, ite_true, ne_eq, not_false_eq_true, Int.reduceEq])
    refine isV_go (hE.same t17) X rel_ref (kitTab_of T.kt hi (j := 29) rfl) ?_
    refine isV_go (hE.same t17) X rel_ref (kitTab_of T.kt hi (j := 30) rfl) ?_
    refine isV_go (hE.same t17) X rel_ref (kitTab_of T.kt hi (j := 31) rfl) ?_
    refine isV_go (hE.same t17) X rel_ref (kitTab_of T.kt hi (j := 32) rfl) ?_
    refine newL_go fun p17 H17 hp17 s17 r17 => ?_
    have t18 := t17.trans s17
    refine cat_go (s17 _ _ r16) r17 fun p18 H18 hp18 s18 r18 => ?_
    have t19 := t18.trans s18
    (try simp only [tSeq, tIfS, tTest, tB, tOp, tUn, tVar, tC, tAsg, gName, tRet, tRetN, tCB, tCons, tNil, tLst_eq, tTup_eq, tDNewK_eq, tNext, tPar, tAug, tAugS, tExf_eq, ipI, tChain, tCall, tDrop, tAnd, tOr, tNot, tAndV, tOrV, tNotV, tIf, tIsN, tNotN, rI, rI0, rU, rEq, rNe, gSub, cx_K, L2.start, wipe, scal_ii, scal_ss, scal_bb, scal_is, scal_si, scal_nn, List.map_cons, List.map_nil, List.length_cons, List.length_nil, List.cons_append, List.nil_append, List.append_nil, List.replicate, List.getElem?_cons_zero, List.getElem?_cons_succ, Option.some.injEq, exists_and_left, exists_eq_left', exists_eq_left, V.int.injEq, V.ref.injEq, V.str.injEq, V.bl.injEq, List.cons.injEq, and_true, true_and, false_and, exists_false, or_false, false_or, reduceCtorEq, List.set_cons_zero, List.set_cons_succ, Nat.reduceAdd, Nat.reduceSub, Int.reduceToNat, decide_eq_true_eq, if_true, if_false, Bool.false_eq_true, Bool.not_true, Bool.not_false, Bool.true_eq_false, ite_false, ite_true, ne_eq, not_false_eq_true, Int.reduceEq])
    refine isV_go (hE.same t19) X rel_ref (kitTab_of T.kt hi (j := 33) rfl) ?_
    refine isV_go (hE.same t19) X rel_ref (kitTab_of T.kt hi (j := 34) rfl) ?_
    refine newL_go fun p19 H19 hp19 s19 r19 => ?_
    have t20 := t19.trans s19
    refine cat_go (s19 _ _ r18) r19 fun p20 H20 hp20 s20 r20 => ?_
    have t21 := t20.trans s20
    (try simp only [tSeq, tIfS, tTest, tB, tOp, tUn, tVar, tC, tAsg, gName, tRet, tRetN, tCB, tCons, tNil, tLst_eq, tTup_eq, tDNewK_eq, tNext, tPar, tAug, tAugS, tExf_eq, ipI, tChain, tCall, tDrop, tAnd, tOr, tNot, tAndV, tOrV, tNotV, tIf, tIsN, tNotN, rI, rI0, rU, rEq, rNe, gSub, cx_K, L2.start, wipe, scal_ii, scal_ss, scal_bb, scal_is, scal_si, scal_nn, List.map_cons, List.map_nil, List.length_cons, List.length_nil, List.cons_append, List.nil_append, List.append_nil, List.replicate, List.getElem?_cons_zero, List.getElem?_cons_succ, Option.some.injEq, exists_and_left, exists_eq_left', exists_eq_left, V.int.injEq, V.ref.injEq, V.str.injEq, V.bl.injEq, List.cons.injEq, and_true, true_and, false_and, exists_false, or_false, false_or, reduceCtorEq, List.set_cons_zero, List.set_cons_succ, Nat.reduceAdd, Nat.reduceSub, Int.reduceToNat, decide_eq_true_eq, if_true, if_false, Bool.false_eq_true, Bool.not_true, Bool.not_false, Bool.true_eq_false, ite_false, ite_true, ne_eq, not_false_eq_true, Int.reduceEq])
    refine isV_go (hE.same t21) X rel_ref (kitTab_of T.kt hi (j := 35) rfl) ?_
    refine isV_go (hE.same t21) X rel_ref (kitTab_of T.kt hi (j := 36) rfl) ?_
    refine newL_go fun p21 H21 hp21 s21 r21 => ?_
    have t22 := t21.trans s21
    refine cat_go (s21 _ _ r20) r21 fun p22 H22 hp22 s22 r22 => ?_
    have t23 := t22.trans s22
    (try simp only [tSeq, tIfS, tTest, tB, tOp, tUn, tVar, tC, tAsg, gName, tRet, tRetN, tCB, tCons, tNil, tLst_eq, tTup_eq, tDNewK_eq, tNext, tPar, tAug, tAugS, tExf_eq, ipI, tChain, tCall, tDrop, tAnd, tOr, tNot, tAndV, tOrV, tNotV, tIf, tIsN, tNotN, rI, rI0, rU, rEq, rNe, gSub, cx_K, L2.start, wipe, scal_ii, scal_ss, scal_bb, scal_is, scal_si, scal_nn, List.map_cons, List.map_nil, List.length_cons, List.length_nil, List.cons_append, List.nil_append, List.append_nil, List.replicate, List.getElem?_cons_zero, List.getElem?_cons_succ, Option.some.injEq, exists_and_left, exists_eq_left', exists_eq_left, V.int.injEq, V.ref.injEq, V.str.injEq, V.bl.injEq, List.cons.injEq, and_true, true_and, false_and, exists_false, or_false, false_or, reduceCtorEq, List.set_cons_zero, List.set_cons_succ, Nat.reduceAdd, Nat.reduceSub, Int.reduceToNat, decide_eq_true_eq, if_true, if_false, Bool.false_eq_true, Bool.not_true, Bool.not_false, Bool.true_eq_false, ite_false, ite_true, ne_eq, not_false_eq_true, Int.reduceEq])
    exact q p22 _ t23 r22
def sp_l_families {K : PySem.W.Frag} {mg : Str → Option Value} (T : Txt K mg) : Sp := fun vs H Q _ => ∃ (a : Addr) (i : Nat) (D : Addr) (fs : List (Str × V)), vs = [.ref a] ∧ (kinds T)[i]? = some D ∧ ExAt H a D fs ∧ ∀ p H', Same H H' → H' p = some (.lst ((List.range 9).map fun j => V.bl (famF i j))) → Q (.ref p) H'
theorem ok_l_families (T : Txt K mg) : FnOk P w K mg base CX0 1 T.d_l_families.a T.d_l_families.d ["_law_e"] (sp_l_families T) := by
  refine T.d_l_families.F.ok sc_l_families (fun vs H Q E h => ?_) (fun cdv A outer s H vs Q E hr h => ?_)
  · obtain ⟨a, i, D, fs, rfl, _⟩ := h
    rfl
  · obtain ⟨a, i, D, fs, rfl, hi, hE, q⟩ := h
    have X := (kindK T hi).ec
    refine ⟨_, (pss_cons (ps_set (i := 1) sc_l_families.nd rfl (Or.inl rfl) (pe_lst (pa_cons (pe_callB call_isV (by rfl) T.z_isinstance (by decide +kernel) (pa_cons (pv 0) (pa_cons (pe_glob (v := .ref T.c_BadModule.C) rfl T.c_BadModule.m rfl) pa_nil))) (pa_cons (pe_callB call_isV (by rfl) T.z_isinstance (by decide +kernel) (pa_cons (pv 0) (pa_cons (pe_glob (v := .ref T.c_BadText.C) rfl T.c_BadText.m rfl) pa_nil))) (pa_cons (pe_callB call_isV (by rfl) T.z_isinstance (by decide +kernel) (pa_cons (pv 0) (pa_cons (pe_glob (v := .ref T.c_BadCaptures.C) rfl T.c_BadCaptures.m rfl) pa_nil))) (pa_cons (pe_callB call_isV (by rfl) T.z_isinstance (by decide +kernel) (pa_cons (pv 0) (pa_cons (pe_glob (v := .ref T.c_BadEdit.C) rfl T.c_BadEdit.m rfl) pa_nil))) pa_nil))))))
      (pss_cons (ps_set (i := 1) sc_l_families.nd rfl (Or.inl rfl) (pe_op op_cat (pv 1) (pe_lst (pa_cons (pe_callB call_isV (by rfl) T.z_isinstance (by decide +kernel) (pa_cons (pv 0) (pa_cons (pe_glob (v := .ref T.c_BadScope.C) rfl T.c_BadScope.m rfl) pa_nil))) (pa_cons (pe_callB call_isV (by rfl) T.z_isinstance (by decide +kernel) (pa_cons (pv 0) (pa_cons (pe_glob (v := .ref T.c_BadCaller.C) rfl T.c_BadCaller.m rfl) pa_nil))) (pa_cons (pe_callB call_isV (by rfl) T.z_isinstance (by decide +kernel) (pa_cons (pv 0) (pa_cons (pe_glob (v := .ref T.c_BadQuestion.C) rfl T.c_BadQuestion.m rfl) pa_nil))) pa_nil))))))
      (pss_one (ps_ret (pe_op op_cat (pv 1) (pe_lst (pa_cons (pe_callB call_isV (by rfl) T.z_isinstance (by decide +kernel) (pa_cons (pv 0) (pa_cons (pe_glob (v := .ref T.c_BadBench.C) rfl T.c_BadBench.m rfl) pa_nil))) (pa_cons (pe_callB call_isV (by rfl) T.z_isinstance (by decide +kernel) (pa_cons (pv 0) (pa_cons (pe_glob (v := .ref T.c_Failed.C) rfl T.c_Failed.m rfl) pa_nil))) pa_nil)))))))), ?_⟩
    (try simp only [tSeq, tIfS, tTest, tB, tOp, tUn, tVar, tC, tAsg, gName, tRet, tRetN, tCB, tCons, tNil, tLst_eq, tTup_eq, tDNewK_eq, tNext, tPar, tAug, tAugS, tExf_eq, ipI, tChain, tCall, tDrop, tAnd, tOr, tNot, tAndV, tOrV, tNotV, tIf, tIsN, tNotN, rI, rI0, rU, rEq, rNe, gSub, cx_K, L2.start, wipe, scal_ii, scal_ss, scal_bb, scal_is, scal_si, scal_nn, List.map_cons, List.map_nil, List.length_cons, List.length_nil, List.cons_append, List.nil_append, List.append_nil, List.replicate, List.getElem?_cons_zero, List.getElem?_cons_succ, Option.some.injEq, exists_and_left, exists_eq_left', exists_eq_left, V.int.injEq, V.ref.injEq, V.str.injEq, V.bl.injEq, List.cons.injEq, and_true, true_and, false_and, exists_false, or_false, false_or, reduceCtorEq, List.set_cons_zero, List.set_cons_succ, Nat.reduceAdd, Nat.reduceSub, Int.reduceToNat, decide_eq_true_eq, if_true, if_false, Bool.false_eq_true, Bool.not_true, Bool.not_false, Bool.true_eq_false, ite_false, ite_true, ne_eq, not_false_eq_true, Int.reduceEq])
    have t0 := Same.refl H
    refine isV_go (hE.same t0) X rel_ref (kitTab_of T.ft hi (j := 0) rfl) ?_
    refine isV_go (hE.same t0) X rel_ref (kitTab_of T.ft hi (j := 1) rfl) ?_
    refine isV_go (hE.same t0) X rel_ref (kitTab_of T.ft hi (j := 2) rfl) ?_
    refine isV_go (hE.same t0) X rel_ref (kitTab_of T.ft hi (j := 3) rfl) ?_
    refine newL_go fun p0 H0 hp0 s0 r0 => ?_
    have t1 := t0.trans s0
    (try simp only [tSeq, tIfS, tTest, tB, tOp, tUn, tVar, tC, tAsg, gName, tRet, tRetN, tCB, tCons, tNil, tLst_eq, tTup_eq, tDNewK_eq, tNext, tPar, tAug, tAugS, tExf_eq, ipI, tChain, tCall, tDrop, tAnd, tOr, tNot, tAndV, tOrV, tNotV, tIf, tIsN, tNotN, rI, rI0, rU, rEq, rNe, gSub, cx_K, L2.start, wipe, scal_ii, scal_ss, scal_bb, scal_is, scal_si, scal_nn, List.map_cons, List.map_nil, List.length_cons, List.length_nil, List.cons_append, List.nil_append, List.append_nil, List.replicate, List.getElem?_cons_zero, List.getElem?_cons_succ, Option.some.injEq, exists_and_left, exists_eq_left', exists_eq_left, V.int.injEq, V.ref.injEq, V.str.injEq, V.bl.injEq, List.cons.injEq, and_true, true_and, false_and, exists_false, or_false, false_or, reduceCtorEq, List.set_cons_zero, List.set_cons_succ, Nat.reduceAdd, Nat.reduceSub, Int.reduceToNat, decide_eq_true_eq, if_true, if_false, Bool.false_eq_true, Bool.not_true, Bool.not_false, Bool.true_eq_false, ite_false, ite_true, ne_eq, not_false_eq_true, Int.reduceEq])
    refine isV_go (hE.same t1) X rel_ref (kitTab_of T.ft hi (j := 4) rfl) ?_
    refine isV_go (hE.same t1) X rel_ref (kitTab_of T.ft hi (j := 5) rfl) ?_
    refine isV_go (hE.same t1) X rel_ref (kitTab_of T.ft hi (j := 6) rfl) ?_
    refine newL_go fun p1 H1 hp1 s1 r1 => ?_
    have t2 := t1.trans s1
    refine cat_go (s1 _ _ r0) r1 fun p2 H2 hp2 s2 r2 => ?_
    have t3 := t2.trans s2
    (try simp only [tSeq, tIfS, tTest, tB, tOp, tUn, tVar, tC, tAsg, gName, tRet, tRetN, tCB, tCons, tNil, tLst_eq, tTup_eq, tDNewK_eq, tNext, tPar, tAug, tAugS, tExf_eq, ipI, tChain, tCall, tDrop, tAnd, tOr, tNot, tAndV, tOrV, tNotV, tIf, tIsN, tNotN, rI, rI0, rU, rEq, rNe, gSub, cx_K, L2.start, wipe, scal_ii, scal_ss, scal_bb, scal_is, scal_si, scal_nn, List.map_cons, List.map_nil, List.length_cons, List.length_nil, List.cons_append, List.nil_append, List.append_nil, List.replicate, List.getElem?_cons_zero, List.getElem?_cons_succ, Option.some.injEq, exists_and_left, exists_eq_left', exists_eq_left, V.int.injEq, V.ref.injEq, V.str.injEq, V.bl.injEq, List.cons.injEq, and_true, true_and, false_and, exists_false, or_false, false_or, reduceCtorEq, List.set_cons_zero, List.set_cons_succ, Nat.reduceAdd, Nat.reduceSub, Int.reduceToNat, decide_eq_true_eq, if_true, if_false, Bool.false_eq_true, Bool.not_true, Bool.not_false, Bool.true_eq_false, ite_false, ite_true, ne_eq, not_false_eq_true, Int.reduceEq])
    refine isV_go (hE.same t3) X rel_ref (kitTab_of T.ft hi (j := 7) rfl) ?_
    refine isV_go (hE.same t3) X rel_ref (kitTab_of T.ft hi (j := 8) rfl) ?_
    refine newL_go fun p3 H3 hp3 s3 r3 => ?_
    have t4 := t3.trans s3
    refine cat_go (s3 _ _ r2) r3 fun p4 H4 hp4 s4 r4 => ?_
    have t5 := t4.trans s4
    (try simp only [tSeq, tIfS, tTest, tB, tOp, tUn, tVar, tC, tAsg, gName, tRet, tRetN, tCB, tCons, tNil, tLst_eq, tTup_eq, tDNewK_eq, tNext, tPar, tAug, tAugS, tExf_eq, ipI, tChain, tCall, tDrop, tAnd, tOr, tNot, tAndV, tOrV, tNotV, tIf, tIsN, tNotN, rI, rI0, rU, rEq, rNe, gSub, cx_K, L2.start, wipe, scal_ii, scal_ss, scal_bb, scal_is, scal_si, scal_nn, List.map_cons, List.map_nil, List.length_cons, List.length_nil, List.cons_append, List.nil_append, List.append_nil, List.replicate, List.getElem?_cons_zero, List.getElem?_cons_succ, Option.some.injEq, exists_and_left, exists_eq_left', exists_eq_left, V.int.injEq, V.ref.injEq, V.str.injEq, V.bl.injEq, List.cons.injEq, and_true, true_and, false_and, exists_false, or_false, false_or, reduceCtorEq, List.set_cons_zero, List.set_cons_succ, Nat.reduceAdd, Nat.reduceSub, Int.reduceToNat, decide_eq_true_eq, if_true, if_false, Bool.false_eq_true, Bool.not_true, Bool.not_false, Bool.true_eq_false, ite_false, ite_true, ne_eq, not_false_eq_true, Int.reduceEq])
    exact q p4 _ t5 r4
end
end Own

set_option Elab.async false
set_option linter.all false
set_option maxRecDepth 100000
set_option maxHeartbeats 4000000
namespace Own
open PySem PySem.Spec PyProof.Rows L2
section
variable {P : Program} {w : World} {K : PySem.W.Frag} {mg : Str → Option Value} {base : Heap}
def endsN (f : Nat) : Nat := [6, 9, 12, 20, 25, 28, 30, 35, 37].getD f 0
theorem ends_at (f : Nat) (h : f < 9) : atI [V.int 6, V.int 9, V.int 12, V.int 20, V.int 25, V.int 28, V.int 30, V.int 35, V.int 37] (f : Int) = some (.int (endsN f : Nat)) := by
  refine atI_nat ?_
  match f, h with
  | 0, _ => rfl
  | 1, _ => rfl
  | 2, _ => rfl
  | 3, _ => rfl
  | 4, _ => rfl
  | 5, _ => rfl
  | 6, _ => rfl
  | 7, _ => rfl
  | 8, _ => rfl
theorem kindF_go {i j : Nat} {R : VK} {H : Hp} (r : R (.bl (kindF i j)) H) : if (j : Int) = (i : Int) then R (.bl true) H else if (j : Int) = 35 then R (.bl (decide ((i : Int) = 36))) H else R (.bl false) H := by
  refine ite2 (fun a => ?_) (fun a => ite2 (fun b => ?_) (fun b => ?_))
  · have e : kindF i j = true := by
      have : j = i := by omega
      simp [kindF, this]
    rw [e] at r; exact r
  · have e : kindF i j = decide ((i : Int) = 36) := by
      have h1 : j = 35 := by omega
      subst h1
      by_cases h : i = 36
      · subst h; rfl
      · have h2 : ¬ (i : Int) = 36 := by omega
        have h3 : ¬ 35 = i := by omega
        simp [kindF, h, h2, h3]
    rw [e] at r; exact r
  · have e : kindF i j = false := by
      have h1 : ¬ j = i := by omega
      have h2 : ¬ j = 35 := by omega
      simp [kindF, h1, h2]
    rw [e] at r; exact r
theorem famF_go {i j : Nat} {R : VK} {H : Hp} (r : R (.bl (famF i j)) H) : R (.bl (decide ((j : Int) = ((fam i : Nat) : Int)))) H := by
  have e : famF i j = decide ((j : Int) = ((fam i : Nat) : Int)) := by
    by_cases h : j = fam i
    · have h2 : (j : Int) = ((fam i : Nat) : Int) := by omega
      rw [decide_eq_true h2]
      simp [famF, h]
    · have h2 : ¬ (j : Int) = ((fam i : Nat) : Int) := by omega
      rw [decide_eq_false h2]
      simp [famF, h]
  rw [e] at r; exact r
def famB (i : Nat) : Nat := if i = 0 then 0 else fam (i - 1)
theorem fam_all : ∀ i < 37, famB i < 9 ∧ (i = endsN (famB i) → famB i + 1 = fam i) ∧ (¬ i = endsN (famB i) → famB i = fam i) := by decide
theorem fam_fact (i : Nat) (h : i < 37) : famB i < 9 ∧ ((i : Int) = (endsN (famB i) : Nat) → ((famB i : Nat) : Int) + 1 = (fam i : Nat)) ∧ (¬ (i : Int) = (endsN (famB i) : Nat) → ((famB i : Nat) : Int) = (fam i : Nat)) := by
  obtain ⟨h1, h2, h3⟩ := fam_all i h
  refine ⟨h1, fun e => ?_, fun e => ?_⟩
  · have := h2 (by omega)
    omega
  · have := h3 (by omega)
    omega
def endsL : List V := [.int 6, .int 9, .int 12, .int 20, .int 25, .int 28, .int 30, .int 35, .int 37]
def spPlaces {K : PySem.W.Frag} {mg : Str → Option Value} (T : Txt K mg) : Sp := fun vs H Q _ => ∃ (l : Addr) (es : List Addr) (ds : List (Addr × List (Str × V))), vs = [.ref l] ∧ H l = some (.lst (es.map V.ref)) ∧ Errs H es ds ∧ ds.map (·.1) = kinds T ∧ ∀ H', Same H H' → Q (.bl true) H'
theorem ok_l_places_right (T : Txt K mg) : FnOk P w K mg base CX0 2 T.d_l_places_right.a T.d_l_places_right.d ["_law_errors"] (spPlaces T) := by
  refine T.d_l_places_right.F.ok sc_l_places_right (fun vs H Q E h => ?_) (fun cdv A outer s H vs Q E hr h => ?_)
  · obtain ⟨l, es, ds, rfl, _⟩ := h
    rfl
  · obtain ⟨l, es, ds, rfl, hl, hE, hk, q⟩ := h
    have hu := hr.units
    refine ⟨_, (pss_cons (ps_set (i := 1) sc_l_places_right.nd rfl (Or.inr rfl) pe_int)
      (pss_cons (ps_set (i := 2) sc_l_places_right.nd rfl (Or.inl rfl) (pe_lst (pa_cons pe_int (pa_cons pe_int (pa_cons pe_int (pa_cons pe_int (pa_cons pe_int (pa_cons pe_int (pa_cons pe_int (pa_cons pe_int (pa_cons pe_int pa_nil)))))))))))
      (pss_cons (ps_for PassesOwn.never rfl (pi_range1 (by rfl) T.z_range (pa_cons (pe_callB call_lenL (by rfl) T.z_len (by decide +kernel) (pa_cons (pv 0) pa_nil)) pa_nil)) (pg_name (i := 3) sc_l_places_right.nd rfl (Or.inr rfl)) (pss_cons (ps_if (pt_cmpR op_eq (pv 3) (pe_ix ix_list (pv 2) (pv 1) (fun _ _ => rfl)) (nomark _)) (pss_one (ps_aug (i := 1) sc_l_places_right.nd rfl (Or.inr rfl) pe_int ip_add)) pss_nil)
      (pss_cons (ps_setLc (i := 4) (own := [("_law_j", 5)]) (g := gName 5) (tt := tYes) (by rfl) sc_l_places_right.nd rfl rfl (sw_true rfl rfl rfl (by decide +kernel)) (pi_range1 (by rfl) T.z_range (pa_cons pe_int pa_nil)) (blkOk_by (own := [("_law_j", 5)]) (N := ["_law_errors", "_law_family", "_law_ends", "_law_k", "_law_due", "_law_j"]) (sc := defScope s_l_places_right) (by decide +kernel)) (fun _ _ _ _ _ => pg_name (i := 5) sc_l_places_right.nd rfl (Or.inl rfl)) (fun _ _ _ _ _ => pts_nil) (fun _ _ _ _ _ => (pe_or (pe_cmpR op_eq (pv 5) (pv 3) (nomark _)) (pe_one (pe_and (pe_cmpR op_eq (pv 5) pe_int (nomark _)) (pe_one (pe_cmpR op_eq (pv 3) pe_int (nomark _))))))))
      (pss_cons (ps_if (PW.pt (pw_or (pt_cmpR (op_neA hu) (pe_call (ok_l_kinds T) (hr.mono (by decide)) (by rfl) T.d_l_kinds.g T.d_l_kinds.F.kp T.d_l_kinds.b .nil pass0 (pa_cons (pe_ix ix_list (pv 0) (pv 3) (fun _ _ => rfl)) pa_nil)) (pv 4) (nomark _)) (pw_or1 (pt_cmpR (op_neA hu) (pe_call (ok_l_families T) (hr.mono (by decide)) (by rfl) T.d_l_families.g T.d_l_families.F.kp T.d_l_families.b .nil pass0 (pa_cons (pe_ix ix_list (pv 0) (pv 3) (fun _ _ => rfl)) pa_nil)) (pe_lc (own := [("_law_j", 5)]) (g := gName 5) (tt := tYes) (by rfl) sc_l_places_right.nd (pi_range1 (by rfl) T.z_range (pa_cons pe_int pa_nil)) (blkOk_by (own := [("_law_j", 5)]) (N := ["_law_errors", "_law_family", "_law_ends", "_law_k", "_law_due", "_law_j"]) (sc := defScope s_l_places_right) (by decide +kernel)) (fun _ _ _ _ _ => pg_name (i := 5) sc_l_places_right.nd rfl (Or.inl rfl)) (fun _ _ _ _ _ => pts_nil) (fun _ _ _ _ _ => (pe_cmpR op_eq (pv 5) (pv 1) (nomark _)))) (nomark _))))) (pss_one (ps_ret pe_bl)) pss_nil)
      (pss_one (ps_if (PW.pt (pw_or (pt_not (pt_val (pe_callB call_isV (by rfl) T.z_isinstance (by decide +kernel) (pa_cons (pe_ix ix_list (pv 0) (pv 3) (fun _ _ => rfl)) (pa_cons (pe_glob (v := .ref T.c_BindspanError.C) rfl T.c_BindspanError.m rfl) pa_nil))))) (pw_or1 (pt_not (pt_val (pe_callB call_isV (by rfl) T.z_isinstance (by decide +kernel) (pa_cons (pe_ix ix_list (pv 0) (pv 3) (fun _ _ => rfl)) (pa_cons (pe_bltn (v := .ty "ValueError") rfl T.z_ValueError (by decide +kernel) rfl) pa_nil)))))))) (pss_one (ps_ret pe_bl)) pss_nil))))))
      (pss_one (ps_ret (pe_cmpR op_eq (pe_callB call_lenL (by rfl) T.z_len (by decide +kernel) (pa_cons (pv 0) pa_nil)) pe_int (nomark _))))))), ?_⟩
    (try simp only [tSeq, tIfS, tTest, tB, tOp, tUn, tVar, tC, tAsg, gName, tRet, tRetN, tCB, tCons, tNil, tLst_eq, tTup_eq, tDNewK_eq, tNext, tPar, tAug, tAugS, tExf_eq, ipI, tChain, tCall, tDrop, tAnd, tOr, tNot, tAndV, tOrV, tNotV, tIf, tIsN, tNotN, rI, rI0, rU, rEq, rNe, gSub, cx_K, L2.start, wipe, scal_ii, scal_ss, scal_bb, scal_is, scal_si, scal_nn, List.map_cons, List.map_nil, List.length_cons, List.length_nil, List.cons_append, List.nil_append, List.append_nil, List.replicate, List.getElem?_cons_zero, List.getElem?_cons_succ, Option.some.injEq, exists_and_left, exists_eq_left', exists_eq_left, V.int.injEq, V.ref.injEq, V.str.injEq, V.bl.injEq, List.cons.injEq, and_true, true_and, false_and, exists_false, or_false, false_or, reduceCtorEq, List.set_cons_zero, List.set_cons_succ, Nat.reduceAdd, Nat.reduceSub, Int.reduceToNat, decide_eq_true_eq, if_true, if_false, Bool.false_eq_true, Bool.not_true, Bool.not_false, Bool.true_eq_false, ite_false, ite_true, ne_eq, not_false_eq_true, Int.reduceEq])
    refine newL_go fun en H0 n0 s0 r0 => ?_
    have hlen : es.length = 37 := by
      rw [hE.len]
      have := congrArg List.length hk
      simpa [kinds] using this
    refine forR_go (n := 37) (fun R r => ⟨.ref l, rfl, l, rfl, _, .inl (.inl (s0 _ _ hl)), by rw [List.length_map, hlen]; exact r⟩) (by decide)
      (fun i σ H' => ∃ k due : Option V, σ = [some (.ref l), some (.int (famB i : Nat)), some (.ref en), k, due, none] ∧ Same H0 H') ⟨none, none, rfl, Same.refl _⟩ ?_ ?_
    · rintro i σ' H' hi ⟨k, due, rfl, sH⟩
      have rl := (s0.trans sH) _ _ hl
      have re := sH _ _ r0
      obtain ⟨hf, e1, e2⟩ := fam_fact i hi
      have hat := ends_at (famB i) hf
      obtain ⟨d, hd⟩ : ∃ d, ds[i]? = some d := ⟨ds[i]'(by rw [← hE.len, hlen]; exact hi), List.getElem?_eq_getElem _⟩
      obtain ⟨x, hx, hXE⟩ := hE.get hd
      have hki : (kinds T)[i]? = some d.1 := by rw [← hk, List.getElem?_map, hd] <;> rfl
      have hxl : atI (es.map V.ref) (i : Int) = some (.ref x) := atI_nat (by rw [List.getElem?_map, hx] <;> rfl)
      (try simp only [tSeq, tIfS, tTest, tB, tOp, tUn, tVar, tC, tAsg, gName, tRet, tRetN, tCB, tCons, tNil, tLst_eq, tTup_eq, tDNewK_eq, tNext, tPar, tAug, tAugS, tExf_eq, ipI, tChain, tCall, tDrop, tAnd, tOr, tNot, tAndV, tOrV, tNotV, tIf, tIsN, tNotN, rI, rI0, rU, rEq, rNe, gSub, cx_K, L2.start, wipe, scal_ii, scal_ss, scal_bb, scal_is, scal_si, scal_nn, List.map_cons, List.map_nil, List.length_cons, List.length_nil, List.cons_append, List.nil_append, List.append_nil, List.replicate, List.getElem?_cons_zero, List.getElem?_cons_succ, Option.some.injEq, exists_and_left, exists_eq_left', exists_eq_left, V.int.injEq, V.ref.injEq, V.str.injEq, V.bl.injEq, List.cons.injEq, and_true, true_and, false_and, exists_false, or_false, false_or, reduceCtorEq, List.set_cons_zero, List.set_cons_succ, Nat.reduceAdd, Nat.reduceSub, Int.reduceToNat, decide_eq_true_eq, if_true, if_false, Bool.false_eq_true, Bool.not_true, Bool.not_false, Bool.true_eq_false, ite_false, ite_true, ne_eq, not_false_eq_true, Int.reduceEq])
      refine ixM_go re hat ?_
      (try simp only [tSeq, tIfS, tTest, tB, tOp, tUn, tVar, tC, tAsg, gName, tRet, tRetN, tCB, tCons, tNil, tLst_eq, tTup_eq, tDNewK_eq, tNext, tPar, tAug, tAugS, tExf_eq, ipI, tChain, tCall, tDrop, tAnd, tOr, tNot, tAndV, tOrV, tNotV, tIf, tIsN, tNotN, rI, rI0, rU, rEq, rNe, gSub, cx_K, L2.start, wipe, scal_ii, scal_ss, scal_bb, scal_is, scal_si, scal_nn, List.map_cons, List.map_nil, List.length_cons, List.length_nil, List.cons_append, List.nil_append, List.append_nil, List.replicate, List.getElem?_cons_zero, List.getElem?_cons_succ, Option.some.injEq, exists_and_left, exists_eq_left', exists_eq_left, V.int.injEq, V.ref.injEq, V.str.injEq, V.bl.injEq, List.cons.injEq, and_true, true_and, false_and, exists_false, or_false, false_or, reduceCtorEq, List.set_cons_zero, List.set_cons_succ, Nat.reduceAdd, Nat.reduceSub, Int.reduceToNat, decide_eq_true_eq, if_true, if_false, Bool.false_eq_true, Bool.not_true, Bool.not_false, Bool.true_eq_false, ite_false, ite_true, ne_eq, not_false_eq_true, Int.reduceEq])
      refine ite2 (fun h => ?_) (fun h => ?_)
      all_goals first | rw [e1 h] | rw [e2 h]
      all_goals
        refine lcR_go (n := 37) (fun j => .bl (kindF i j)) (fun R r => r) (by decide) (fun x => rfl) (fun j H1 R hj r => ?_) (fun D H1 nD sD rD => ?_)
      all_goals first
        | ((try simp only [tSeq, tIfS, tTest, tB, tOp, tUn, tVar, tC, tAsg, gName, tRet, tRetN, tCB, tCons, tNil, tLst_eq, tTup_eq, tDNewK_eq, tNext, tPar, tAug, tAugS, tExf_eq, ipI, tChain, tCall, tDrop, tAnd, tOr, tNot, tAndV, tOrV, tNotV, tIf, tIsN, tNotN, rI, rI0, rU, rEq, rNe, gSub, cx_K, L2.start, wipe, scal_ii, scal_ss, scal_bb, scal_is, scal_si, scal_nn, List.map_cons, List.map_nil, List.length_cons, List.length_nil, List.cons_append, List.nil_append, List.append_nil, List.replicate, List.getElem?_cons_zero, List.getElem?_cons_succ, Option.some.injEq, exists_and_left, exists_eq_left', exists_eq_left, V.int.injEq, V.ref.injEq, V.str.injEq, V.bl.injEq, List.cons.injEq, and_true, true_and, false_and, exists_false, or_false, false_or, reduceCtorEq, List.set_cons_zero, List.set_cons_succ, Nat.reduceAdd, Nat.reduceSub, Int.reduceToNat, decide_eq_true_eq, if_true, if_false, Bool.false_eq_true, Bool.not_true, Bool.not_false, Bool.true_eq_false, ite_false, ite_true, ne_eq, not_false_eq_true, Int.reduceEq]); exact kindF_go r)
        | skip
      all_goals
        have tD := (s0.trans sH).trans sD
        (try simp only [tSeq, tIfS, tTest, tB, tOp, tUn, tVar, tC, tAsg, gName, tRet, tRetN, tCB, tCons, tNil, tLst_eq, tTup_eq, tDNewK_eq, tNext, tPar, tAug, tAugS, tExf_eq, ipI, tChain, tCall, tDrop, tAnd, tOr, tNot, tAndV, tOrV, tNotV, tIf, tIsN, tNotN, rI, rI0, rU, rEq, rNe, gSub, cx_K, L2.start, wipe, scal_ii, scal_ss, scal_bb, scal_is, scal_si, scal_nn, List.map_cons, List.map_nil, List.length_cons, List.length_nil, List.cons_append, List.nil_append, List.append_nil, List.replicate, List.getElem?_cons_zero, List.getElem?_cons_succ, Option.some.injEq, exists_and_left, exists_eq_left', exists_eq_left, V.int.injEq, V.ref.injEq, V.str.injEq, V.bl.injEq, List.cons.injEq, and_true, true_and, false_and, exists_false, or_false, false_or, reduceCtorEq, List.set_cons_zero, List.set_cons_succ, Nat.reduceAdd, Nat.reduceSub, Int.reduceToNat, decide_eq_true_eq, if_true, if_false, Bool.false_eq_true, Bool.not_true, Bool.not_false, Bool.true_eq_false, ite_false, ite_true, ne_eq, not_false_eq_true, Int.reduceEq])
        refine ixM_go (sD _ _ rl) hxl ?_
        (try simp only [tSeq, tIfS, tTest, tB, tOp, tUn, tVar, tC, tAsg, gName, tRet, tRetN, tCB, tCons, tNil, tLst_eq, tTup_eq, tDNewK_eq, tNext, tPar, tAug, tAugS, tExf_eq, ipI, tChain, tCall, tDrop, tAnd, tOr, tNot, tAndV, tOrV, tNotV, tIf, tIsN, tNotN, rI, rI0, rU, rEq, rNe, gSub, cx_K, L2.start, wipe, scal_ii, scal_ss, scal_bb, scal_is, scal_si, scal_nn, List.map_cons, List.map_nil, List.length_cons, List.length_nil, List.cons_append, List.nil_append, List.append_nil, List.replicate, List.getElem?_cons_zero, List.getElem?_cons_succ, Option.some.injEq, exists_and_left, exists_eq_left', exists_eq_left, V.int.injEq, V.ref.injEq, V.str.injEq, V.bl.injEq, List.cons.injEq, and_true, true_and, false_and, exists_false, or_false, false_or, reduceCtorEq, List.set_cons_zero, List.set_cons_succ, Nat.reduceAdd, Nat.reduceSub, Int.reduceToNat, decide_eq_true_eq, if_true, if_false, Bool.false_eq_true, Bool.not_true, Bool.not_false, Bool.true_eq_false, ite_false, ite_true, ne_eq, not_false_eq_true, Int.reduceEq])
        refine ⟨x, i, d.1, d.2, rfl, hki, hXE.same tD, fun p H2 sp rp => ?_⟩
        (try simp only [tSeq, tIfS, tTest, tB, tOp, tUn, tVar, tC, tAsg, gName, tRet, tRetN, tCB, tCons, tNil, tLst_eq, tTup_eq, tDNewK_eq, tNext, tPar, tAug, tAugS, tExf_eq, ipI, tChain, tCall, tDrop, tAnd, tOr, tNot, tAndV, tOrV, tNotV, tIf, tIsN, tNotN, rI, rI0, rU, rEq, rNe, gSub, cx_K, L2.start, wipe, scal_ii, scal_ss, scal_bb, scal_is, scal_si, scal_nn, List.map_cons, List.map_nil, List.length_cons, List.length_nil, List.cons_append, List.nil_append, List.append_nil, List.replicate, List.getElem?_cons_zero, List.getElem?_cons_succ, Option.some.injEq, exists_and_left, exists_eq_left', exists_eq_left, V.int.injEq, V.ref.injEq, V.str.injEq, V.bl.injEq, List.cons.injEq, and_true, true_and, false_and, exists_false, or_false, false_or, reduceCtorEq, List.set_cons_zero, List.set_cons_succ, Nat.reduceAdd, Nat.reduceSub, Int.reduceToNat, decide_eq_true_eq, if_true, if_false, Bool.false_eq_true, Bool.not_true, Bool.not_false, Bool.true_eq_false, ite_false, ite_true, ne_eq, not_false_eq_true, Int.reduceEq])
        refine eqA_same rp (sp _ _ rD) plain_bls ?_
        (try simp only [tSeq, tIfS, tTest, tB, tOp, tUn, tVar, tC, tAsg, gName, tRet, tRetN, tCB, tCons, tNil, tLst_eq, tTup_eq, tDNewK_eq, tNext, tPar, tAug, tAugS, tExf_eq, ipI, tChain, tCall, tDrop, tAnd, tOr, tNot, tAndV, tOrV, tNotV, tIf, tIsN, tNotN, rI, rI0, rU, rEq, rNe, gSub, cx_K, L2.start, wipe, scal_ii, scal_ss, scal_bb, scal_is, scal_si, scal_nn, List.map_cons, List.map_nil, List.length_cons, List.length_nil, List.cons_append, List.nil_append, List.append_nil, List.replicate, List.getElem?_cons_zero, List.getElem?_cons_succ, Option.some.injEq, exists_and_left, exists_eq_left', exists_eq_left, V.int.injEq, V.ref.injEq, V.str.injEq, V.bl.injEq, List.cons.injEq, and_true, true_and, false_and, exists_false, or_false, false_or, reduceCtorEq, List.set_cons_zero, List.set_cons_succ, Nat.reduceAdd, Nat.reduceSub, Int.reduceToNat, decide_eq_true_eq, if_true, if_false, Bool.false_eq_true, Bool.not_true, Bool.not_false, Bool.true_eq_false, ite_false, ite_true, ne_eq, not_false_eq_true, Int.reduceEq])
        refine ixM_go (sp _ _ (sD _ _ rl)) hxl ?_
        (try simp only [tSeq, tIfS, tTest, tB, tOp, tUn, tVar, tC, tAsg, gName, tRet, tRetN, tCB, tCons, tNil, tLst_eq, tTup_eq, tDNewK_eq, tNext, tPar, tAug, tAugS, tExf_eq, ipI, tChain, tCall, tDrop, tAnd, tOr, tNot, tAndV, tOrV, tNotV, tIf, tIsN, tNotN, rI, rI0, rU, rEq, rNe, gSub, cx_K, L2.start, wipe, scal_ii, scal_ss, scal_bb, scal_is, scal_si, scal_nn, List.map_cons, List.map_nil, List.length_cons, List.length_nil, List.cons_append, List.nil_append, List.append_nil, List.replicate, List.getElem?_cons_zero, List.getElem?_cons_succ, Option.some.injEq, exists_and_left, exists_eq_left', exists_eq_left, V.int.injEq, V.ref.injEq, V.str.injEq, V.bl.injEq, List.cons.injEq, and_true, true_and, false_and, exists_false, or_false, false_or, reduceCtorEq, List.set_cons_zero, List.set_cons_succ, Nat.reduceAdd, Nat.reduceSub, Int.reduceToNat, decide_eq_true_eq, if_true, if_false, Bool.false_eq_true, Bool.not_true, Bool.not_false, Bool.true_eq_false, ite_false, ite_true, ne_eq, not_false_eq_true, Int.reduceEq])
        refine ⟨x, i, d.1, d.2, rfl, hki, hXE.same (tD.trans sp), fun p2 H3 sp2 rp2 => ?_⟩
        (try simp only [tSeq, tIfS, tTest, tB, tOp, tUn, tVar, tC, tAsg, gName, tRet, tRetN, tCB, tCons, tNil, tLst_eq, tTup_eq, tDNewK_eq, tNext, tPar, tAug, tAugS, tExf_eq, ipI, tChain, tCall, tDrop, tAnd, tOr, tNot, tAndV, tOrV, tNotV, tIf, tIsN, tNotN, rI, rI0, rU, rEq, rNe, gSub, cx_K, L2.start, wipe, scal_ii, scal_ss, scal_bb, scal_is, scal_si, scal_nn, List.map_cons, List.map_nil, List.length_cons, List.length_nil, List.cons_append, List.nil_append, List.append_nil, List.replicate, List.getElem?_cons_zero, List.getElem?_cons_succ, Option.some.injEq, exists_and_left, exists_eq_left', exists_eq_left, V.int.injEq, V.ref.injEq, V.str.injEq, V.bl.injEq, List.cons.injEq, and_true, true_and, false_and, exists_false, or_false, false_or, reduceCtorEq, List.set_cons_zero, List.set_cons_succ, Nat.reduceAdd, Nat.reduceSub, Int.reduceToNat, decide_eq_true_eq, if_true, if_false, Bool.false_eq_true, Bool.not_true, Bool.not_false, Bool.true_eq_false, ite_false, ite_true, ne_eq, not_false_eq_true, Int.reduceEq])
        refine lcR_go (n := 9) (fun j => .bl (famF i j)) (fun R r => r) (by decide) (fun x => rfl) (fun j H4 R hj r => ?_) (fun D2 H4 nD2 sD2 rD2 => ?_)
      all_goals first
        | ((try simp only [tSeq, tIfS, tTest, tB, tOp, tUn, tVar, tC, tAsg, gName, tRet, tRetN, tCB, tCons, tNil, tLst_eq, tTup_eq, tDNewK_eq, tNext, tPar, tAug, tAugS, tExf_eq, ipI, tChain, tCall, tDrop, tAnd, tOr, tNot, tAndV, tOrV, tNotV, tIf, tIsN, tNotN, rI, rI0, rU, rEq, rNe, gSub, cx_K, L2.start, wipe, scal_ii, scal_ss, scal_bb, scal_is, scal_si, scal_nn, List.map_cons, List.map_nil, List.length_cons, List.length_nil, List.cons_append, List.nil_append, List.append_nil, List.replicate, List.getElem?_cons_zero, List.getElem?_cons_succ, Option.some.injEq, exists_and_left, exists_eq_left', exists_eq_left, V.int.injEq, V.ref.injEq, V.str.injEq, V.bl.injEq, List.cons.injEq, and_true, true_and, false_and, exists_false, or_false, false_or, reduceCtorEq, List.set_cons_zero, List.set_cons_succ, Nat.reduceAdd, Nat.reduceSub, Int.reduceToNat, decide_eq_true_eq, if_true, if_false, Bool.false_eq_true, Bool.not_true, Bool.not_false, Bool.true_eq_false, ite_false, ite_true, ne_eq, not_false_eq_true, Int.reduceEq]); exact famF_go r)
        | skip
      all_goals
        refine eqA_same (sD2 _ _ rp2) rD2 plain_bls ?_
        (try simp only [tSeq, tIfS, tTest, tB, tOp, tUn, tVar, tC, tAsg, gName, tRet, tRetN, tCB, tCons, tNil, tLst_eq, tTup_eq, tDNewK_eq, tNext, tPar, tAug, tAugS, tExf_eq, ipI, tChain, tCall, tDrop, tAnd, tOr, tNot, tAndV, tOrV, tNotV, tIf, tIsN, tNotN, rI, rI0, rU, rEq, rNe, gSub, cx_K, L2.start, wipe, scal_ii, scal_ss, scal_bb, scal_is, scal_si, scal_nn, List.map_cons, List.map_nil, List.length_cons, List.length_nil, List.cons_append, List.nil_append, List.append_nil, List.replicate, List.getElem?_cons_zero, List.getElem?_cons_succ, Option.some.injEq, exists_and_left, exists_eq_left', exists_eq_left, V.int.injEq, V.ref.injEq, V.str.injEq, V.bl.injEq, List.cons.injEq, and_true, true_and, false_and, exists_false, or_false, false_or, reduceCtorEq, List.set_cons_zero, List.set_cons_succ, Nat.reduceAdd, Nat.reduceSub, Int.reduceToNat, decide_eq_true_eq, if_true, if_false, Bool.false_eq_true, Bool.not_true, Bool.not_false, Bool.true_eq_false, ite_false, ite_true, ne_eq, not_false_eq_true, Int.reduceEq])
        have tE := ((tD.trans sp).trans sp2).trans sD2
        refine ixM_go (sD2 _ _ (sp2 _ _ (sp _ _ (sD _ _ rl)))) hxl ?_
        (try simp only [tSeq, tIfS, tTest, tB, tOp, tUn, tVar, tC, tAsg, gName, tRet, tRetN, tCB, tCons, tNil, tLst_eq, tTup_eq, tDNewK_eq, tNext, tPar, tAug, tAugS, tExf_eq, ipI, tChain, tCall, tDrop, tAnd, tOr, tNot, tAndV, tOrV, tNotV, tIf, tIsN, tNotN, rI, rI0, rU, rEq, rNe, gSub, cx_K, L2.start, wipe, scal_ii, scal_ss, scal_bb, scal_is, scal_si, scal_nn, List.map_cons, List.map_nil, List.length_cons, List.length_nil, List.cons_append, List.nil_append, List.append_nil, List.replicate, List.getElem?_cons_zero, List.getElem?_cons_succ, Option.some.injEq, exists_and_left, exists_eq_left', exists_eq_left, V.int.injEq, V.ref.injEq, V.str.injEq, V.bl.injEq, List.cons.injEq, and_true, true_and, false_and, exists_false, or_false, false_or, reduceCtorEq, List.set_cons_zero, List.set_cons_succ, Nat.reduceAdd, Nat.reduceSub, Int.reduceToNat, decide_eq_true_eq, if_true, if_false, Bool.false_eq_true, Bool.not_true, Bool.not_false, Bool.true_eq_false, ite_false, ite_true, ne_eq, not_false_eq_true, Int.reduceEq])
        refine isV_go (hXE.same tE) (kindK T hki).ec rel_ref (kitTab_of T.bt hki (j := 0) rfl) ?_
        (try simp only [tSeq, tIfS, tTest, tB, tOp, tUn, tVar, tC, tAsg, gName, tRet, tRetN, tCB, tCons, tNil, tLst_eq, tTup_eq, tDNewK_eq, tNext, tPar, tAug, tAugS, tExf_eq, ipI, tChain, tCall, tDrop, tAnd, tOr, tNot, tAndV, tOrV, tNotV, tIf, tIsN, tNotN, rI, rI0, rU, rEq, rNe, gSub, cx_K, L2.start, wipe, scal_ii, scal_ss, scal_bb, scal_is, scal_si, scal_nn, List.map_cons, List.map_nil, List.length_cons, List.length_nil, List.cons_append, List.nil_append, List.append_nil, List.replicate, List.getElem?_cons_zero, List.getElem?_cons_succ, Option.some.injEq, exists_and_left, exists_eq_left', exists_eq_left, V.int.injEq, V.ref.injEq, V.str.injEq, V.bl.injEq, List.cons.injEq, and_true, true_and, false_and, exists_false, or_false, false_or, reduceCtorEq, List.set_cons_zero, List.set_cons_succ, Nat.reduceAdd, Nat.reduceSub, Int.reduceToNat, decide_eq_true_eq, if_true, if_false, Bool.false_eq_true, Bool.not_true, Bool.not_false, Bool.true_eq_false, ite_false, ite_true, ne_eq, not_false_eq_true, Int.reduceEq])
        refine ixM_go (sD2 _ _ (sp2 _ _ (sp _ _ (sD _ _ rl)))) hxl ?_
        (try simp only [tSeq, tIfS, tTest, tB, tOp, tUn, tVar, tC, tAsg, gName, tRet, tRetN, tCB, tCons, tNil, tLst_eq, tTup_eq, tDNewK_eq, tNext, tPar, tAug, tAugS, tExf_eq, ipI, tChain, tCall, tDrop, tAnd, tOr, tNot, tAndV, tOrV, tNotV, tIf, tIsN, tNotN, rI, rI0, rU, rEq, rNe, gSub, cx_K, L2.start, wipe, scal_ii, scal_ss, scal_bb, scal_is, scal_si, scal_nn, List.map_cons, List.map_nil, List.length_cons, List.length_nil, List.cons_append, List.nil_append, List.append_nil, List.replicate, List.getElem?_cons_zero, List.getElem?_cons_succ, Option.some.injEq, exists_and_left, exists_eq_left', exists_eq_left, V.int.injEq, V.ref.injEq, V.str.injEq, V.bl.injEq, List.cons.injEq, and_true, true_and, false_and, exists_false, or_false, false_or, reduceCtorEq, List.set_cons_zero, List.set_cons_succ, Nat.reduceAdd, Nat.reduceSub, Int.reduceToNat, decide_eq_true_eq, if_true, if_false, Bool.false_eq_true, Bool.not_true, Bool.not_false, Bool.true_eq_false, ite_false, ite_true, ne_eq, not_false_eq_true, Int.reduceEq])
        refine isV_go (hXE.same tE) (kindK T hki).ec rel_ty (kitTab_of T.bt hki (j := 1) rfl) ?_
        (try simp only [tSeq, tIfS, tTest, tB, tOp, tUn, tVar, tC, tAsg, gName, tRet, tRetN, tCB, tCons, tNil, tLst_eq, tTup_eq, tDNewK_eq, tNext, tPar, tAug, tAugS, tExf_eq, ipI, tChain, tCall, tDrop, tAnd, tOr, tNot, tAndV, tOrV, tNotV, tIf, tIsN, tNotN, rI, rI0, rU, rEq, rNe, gSub, cx_K, L2.start, wipe, scal_ii, scal_ss, scal_bb, scal_is, scal_si, scal_nn, List.map_cons, List.map_nil, List.length_cons, List.length_nil, List.cons_append, List.nil_append, List.append_nil, List.replicate, List.getElem?_cons_zero, List.getElem?_cons_succ, Option.some.injEq, exists_and_left, exists_eq_left', exists_eq_left, V.int.injEq, V.ref.injEq, V.str.injEq, V.bl.injEq, List.cons.injEq, and_true, true_and, false_and, exists_false, or_false, false_or, reduceCtorEq, List.set_cons_zero, List.set_cons_succ, Nat.reduceAdd, Nat.reduceSub, Int.reduceToNat, decide_eq_true_eq, if_true, if_false, Bool.false_eq_true, Bool.not_true, Bool.not_false, Bool.true_eq_false, ite_false, ite_true, ne_eq, not_false_eq_true, Int.reduceEq])
        have fin := ((sH.trans sD).trans (sp.trans sp2)).trans sD2
        first | exact ⟨_, _, rfl, fin⟩ | exact ⟨_, _, ⟨rfl, rfl, rfl⟩, fin⟩ | exact ⟨rfl, fin⟩
    · rintro σ' H' ⟨k, due, rfl, sH⟩
      (try simp only [tSeq, tIfS, tTest, tB, tOp, tUn, tVar, tC, tAsg, gName, tRet, tRetN, tCB, tCons, tNil, tLst_eq, tTup_eq, tDNewK_eq, tNext, tPar, tAug, tAugS, tExf_eq, ipI, tChain, tCall, tDrop, tAnd, tOr, tNot, tAndV, tOrV, tNotV, tIf, tIsN, tNotN, rI, rI0, rU, rEq, rNe, gSub, cx_K, L2.start, wipe, scal_ii, scal_ss, scal_bb, scal_is, scal_si, scal_nn, List.map_cons, List.map_nil, List.length_cons, List.length_nil, List.cons_append, List.nil_append, List.append_nil, List.replicate, List.getElem?_cons_zero, List.getElem?_cons_succ, Option.some.injEq, exists_and_left, exists_eq_left', exists_eq_left, V.int.injEq, V.ref.injEq, V.str.injEq, V.bl.injEq, List.cons.injEq, and_true, true_and, false_and, exists_false, or_false, false_or, reduceCtorEq, List.set_cons_zero, List.set_cons_succ, Nat.reduceAdd, Nat.reduceSub, Int.reduceToNat, decide_eq_true_eq, if_true, if_false, Bool.false_eq_true, Bool.not_true, Bool.not_false, Bool.true_eq_false, ite_false, ite_true, ne_eq, not_false_eq_true, Int.reduceEq])
      refine ⟨_, .inl (.inl ((s0.trans sH) _ _ hl)), ?_⟩
      rw [List.length_map, hlen]
      exact q _ (s0.trans sH)
end
end Own

set_option Elab.async false
set_option linter.all false
set_option maxRecDepth 100000
set_option maxHeartbeats 4000000
namespace Own
open PySem PySem.Spec PyProof.Rows L2
section
variable {P : Program} {w : World} {K : PySem.W.Frag} {mg : Str → Option Value} {base : Heap}
def spLaw (K : PySem.W.Frag) : Sp := fun vs H Q _ => ∃ (a : Addr) (ns : List Int), vs = [.ref a] ∧ SqL K H a (ns.map V.int) ∧ ∀ H', Q (.bl true) H'
theorem ok_law (T : Txt K mg) : FnOk P w K mg base CX0 4 T.d_law.a T.d_law.d ["_law_script"] (spLaw K) := by
  refine T.d_law.F.ok sc_law (fun vs H Q E h => ?_) (fun cdv A outer s H vs Q E hr h => ?_)
  · obtain ⟨a, ns, rfl, _⟩ := h
    rfl
  · obtain ⟨l, ns, rfl, hS, q⟩ := h
    have hu := hr.units
    refine ⟨_, (pss_cons (ps_set (i := 1) sc_law.nd rfl (Or.inl rfl) (pe_call (ok_l_tape T) (hr.mono (by decide)) (by rfl) T.d_l_tape.g T.d_l_tape.F.kp T.d_l_tape.b .nil pass0 (pa_cons (pv 0) (pa_cons pe_int pa_nil))))
      (pss_cons (ps_for PassesOwn.never rfl (pi_range1 (by rfl) T.z_range (pa_cons pe_int pa_nil)) (pg_name (i := 2) sc_law.nd rfl (Or.inl rfl)) (pss_cons (ps_set (i := 3) sc_law.nd rfl (Or.inl rfl) (pe_call (ok_l_draw T) (hr.mono (by decide)) (by rfl) T.d_l_draw.g T.d_l_draw.F.kp T.d_l_draw.b .nil pass0 (pa_cons (pv 1) (pa_cons (pe_ix ix_list (pe_lst (pa_cons pe_int (pa_cons pe_int (pa_cons (pe_op op_pow pe_int pe_int) pa_nil)))) (pe_call (ok_l_draw T) (hr.mono (by decide)) (by rfl) T.d_l_draw.g T.d_l_draw.F.kp T.d_l_draw.b .nil pass0 (pa_cons (pv 1) (pa_cons pe_int pa_nil))) (fun _ _ => rfl)) pa_nil))))
      (pss_cons (ps_set (i := 4) sc_law.nd rfl (Or.inl rfl) (pe_ix ix_list (pe_lst (pa_cons pe_str (pa_cons pe_str (pa_cons pe_str (pa_cons pe_str (pa_cons pe_str pa_nil)))))) (pe_call (ok_l_draw T) (hr.mono (by decide)) (by rfl) T.d_l_draw.g T.d_l_draw.F.kp T.d_l_draw.b .nil pass0 (pa_cons (pv 1) (pa_cons pe_int pa_nil))) (fun _ _ => rfl)))
      (pss_cons (ps_set (i := 4) sc_law.nd rfl (Or.inl rfl) (pe_op op_add_str (pv 4) (pe_ix ix_str pe_str (pe_call (ok_l_draw T) (hr.mono (by decide)) (by rfl) T.d_l_draw.g T.d_l_draw.F.kp T.d_l_draw.b .nil pass0 (pa_cons (pv 1) (pa_cons pe_int pa_nil))) (fun _ _ => rfl))))
      (pss_cons (ps_set (i := 5) sc_law.nd rfl (Or.inl rfl) (pe_ix ix_list (pe_lst (pa_cons pe_non (pa_cons pe_bl (pa_cons (pv 3) (pa_cons (pv 4) (pa_cons (pe_lst (pa_cons (pv 4) pa_nil)) (pa_cons (pe_tup (pa_cons (pv 3) (pa_cons (pv 4) pa_nil))) (pa_cons (pe_disp (pps_cons (pv 4) (pv 3) pps_nil) (by rfl) (by rfl) (fun z => by cases z) (by decide)) (pa_cons pe_str (pa_cons (pe_un un_neg (pv 3)) pa_nil)))))))))) (pe_call (ok_l_draw T) (hr.mono (by decide)) (by rfl) T.d_l_draw.g T.d_l_draw.F.kp T.d_l_draw.b .nil pass0 (pa_cons (pv 1) (pa_cons pe_int pa_nil))) (fun _ _ => rfl)))
      (pss_cons (ps_set (i := 6) sc_law.nd rfl (Or.inl rfl) (pe_ix ix_list (pe_lst (pa_cons (pe_tup (pa_cons pe_str (pa_cons (pv 4) (pa_cons pe_str pa_nil)))) (pa_cons (pe_tup (pa_cons pe_str (pa_cons (pv 4) pa_nil))) (pa_cons (pe_tup (pa_cons pe_str (pa_cons (pv 4) (pa_cons pe_str pa_nil)))) pa_nil)))) (pe_call (ok_l_draw T) (hr.mono (by decide)) (by rfl) T.d_l_draw.g T.d_l_draw.F.kp T.d_l_draw.b .nil pass0 (pa_cons (pv 1) (pa_cons pe_int pa_nil))) (fun _ _ => rfl)))
      (pss_cons (ps_par (i := 9) (j := 10) (by rfl) sc_law.nd rfl rfl (by decide) rfl rfl (pa_cons (pe_call (ok_l_first T) (hr.mono (by decide)) (by rfl) T.d_l_first.g T.d_l_first.F.kp T.d_l_first.b .nil pass0 (pa_cons (pv 3) (pa_cons (pv 4) (pa_cons (pv 5) pa_nil)))) (pa_cons (pe_call (ok_l_second T) (hr.mono (by decide)) (by rfl) T.d_l_second.g T.d_l_second.F.kp T.d_l_second.b .nil pass0 (pa_cons (pv 3) (pa_cons (pv 4) (pa_cons (pv 5) pa_nil)))) pa_nil)) (by rfl))
      (pss_cons (ps_set (i := 7) sc_law.nd rfl (Or.inl rfl) (pe_call (ok_l_third T) (hr.mono (by decide)) (by rfl) T.d_l_third.g T.d_l_third.F.kp T.d_l_third.b .nil pass0 (pa_cons (pv 3) (pa_cons (pv 4) (pa_cons (pv 5) (pa_cons (pv 6) pa_nil))))))
      (pss_cons (ps_set (i := 8) sc_law.nd rfl (Or.inl rfl) (pe_op op_cat (pe_call (ok_l_first_fields T) (hr.mono (by decide)) (by rfl) T.d_l_first_fields.g T.d_l_first_fields.F.kp T.d_l_first_fields.b .nil pass0 (pa_cons (pv 9) pa_nil)) (pe_call (ok_l_second_fields T) (hr.mono (by decide)) (by rfl) T.d_l_second_fields.g T.d_l_second_fields.F.kp T.d_l_second_fields.b .nil pass0 (pa_cons (pv 10) pa_nil))))
      (pss_cons (ps_if (pt_cmpR (op_neA hu) (pe_op op_cat (pv 8) (pe_call (ok_l_third_fields T) (hr.mono (by decide)) (by rfl) T.d_l_third_fields.g T.d_l_third_fields.F.kp T.d_l_third_fields.b .nil pass0 (pa_cons (pv 7) pa_nil))) (pe_call (ok_l_due_fields T) (hr.mono (by decide)) (by rfl) T.d_l_due_fields.g T.d_l_due_fields.F.kp T.d_l_due_fields.b .nil pass0 (pa_cons (pv 3) (pa_cons (pv 4) (pa_cons (pv 5) (pa_cons (pv 6) pa_nil))))) (nomark _)) (pss_one (ps_ret pe_bl)) pss_nil)
      (pss_one (ps_if (pt_not (pt_val (pe_call (ok_l_places_right T) (hr.mono (by decide)) (by rfl) T.d_l_places_right.g T.d_l_places_right.F.kp T.d_l_places_right.b .nil pass0 (pa_cons (pe_op op_cat (pe_op op_cat (pv 9) (pv 10)) (pv 7)) pa_nil)))) (pss_one (ps_ret pe_bl)) pss_nil))))))))))))
      (pss_one (ps_ret pe_bl)))), ?_⟩
    (try simp only [tSeq, tIfS, tTest, tB, tOp, tUn, tVar, tC, tAsg, gName, tRet, tRetN, tCB, tCons, tNil, tLst_eq, tTup_eq, tDNewK_eq, tNext, tPar, tAug, tAugS, tExf_eq, ipI, tChain, tCall, tDrop, tAnd, tOr, tNot, tAndV, tOrV, tNotV, tIf, tIsN, tNotN, rI, rI0, rU, rEq, rNe, gSub, cx_K, L2.start, wipe, scal_ii, scal_ss, scal_bb, scal_is, scal_si, scal_nn, List.map_cons, List.map_nil, List.length_cons, List.length_nil, List.cons_append, List.nil_append, List.append_nil, List.replicate, List.getElem?_cons_zero, List.getElem?_cons_succ, Option.some.injEq, exists_and_left, exists_eq_left', exists_eq_left, V.int.injEq, V.ref.injEq, V.str.injEq, V.bl.injEq, List.cons.injEq, and_true, true_and, false_and, exists_false, or_false, false_or, reduceCtorEq, List.set_cons_zero, List.set_cons_succ, Nat.reduceAdd, Nat.reduceSub, Int.reduceToNat, decide_eq_true_eq, if_true, if_false, Bool.false_eq_true, Bool.not_true, Bool.not_false, Bool.true_eq_false, ite_false, ite_true, ne_eq, not_false_eq_true, Int.reduceEq])
    refine ⟨l, ns, 0, rfl, hS, by decide, by decide, fun t H1 nt ht s1 => ?_⟩
    (try simp only [tSeq, tIfS, tTest, tB, tOp, tUn, tVar, tC, tAsg, gName, tRet, tRetN, tCB, tCons, tNil, tLst_eq, tTup_eq, tDNewK_eq, tNext, tPar, tAug, tAugS, tExf_eq, ipI, tChain, tCall, tDrop, tAnd, tOr, tNot, tAndV, tOrV, tNotV, tIf, tIsN, tNotN, rI, rI0, rU, rEq, rNe, gSub, cx_K, L2.start, wipe, scal_ii, scal_ss, scal_bb, scal_is, scal_si, scal_nn, List.map_cons, List.map_nil, List.length_cons, List.length_nil, List.cons_append, List.nil_append, List.append_nil, List.replicate, List.getElem?_cons_zero, List.getElem?_cons_succ, Option.some.injEq, exists_and_left, exists_eq_left', exists_eq_left, V.int.injEq, V.ref.injEq, V.str.injEq, V.bl.injEq, List.cons.injEq, and_true, true_and, false_and, exists_false, or_false, false_or, reduceCtorEq, List.set_cons_zero, List.set_cons_succ, Nat.reduceAdd, Nat.reduceSub, Int.reduceToNat, decide_eq_true_eq, if_true, if_false, Bool.false_eq_true, Bool.not_true, Bool.not_false, Bool.true_eq_false, ite_false, ite_true, ne_eq, not_false_eq_true, Int.reduceEq])
    refine forR_go (n := 3) (fun R r => r) (by decide) (fun i σ H' => (∃ o1 o2 o3 o4 o5 o6 o7 o8 o9 : Option V, σ = [some (.ref l), some (.ref t), o1, o2, o3, o4, o5, o6, o7, o8, o9]) ∧ Tape H' t (1000 - 7 * i)) ⟨⟨_, _, _, _, _, _, _, _, _, rfl⟩, ht.mono (by decide)⟩ ?_ ?_
    · rintro i σ H2 hi ⟨⟨o1, o2, o3, o4, o5, o6, o7, o8, o9, rfl⟩, ht2⟩
      (try simp only [tSeq, tIfS, tTest, tB, tOp, tUn, tVar, tC, tAsg, gName, tRet, tRetN, tCB, tCons, tNil, tLst_eq, tTup_eq, tDNewK_eq, tNext, tPar, tAug, tAugS, tExf_eq, ipI, tChain, tCall, tDrop, tAnd, tOr, tNot, tAndV, tOrV, tNotV, tIf, tIsN, tNotN, rI, rI0, rU, rEq, rNe, gSub, cx_K, L2.start, wipe, scal_ii, scal_ss, scal_bb, scal_is, scal_si, scal_nn, List.map_cons, List.map_nil, List.length_cons, List.length_nil, List.cons_append, List.nil_append, List.append_nil, List.replicate, List.getElem?_cons_zero, List.getElem?_cons_succ, Option.some.injEq, exists_and_left, exists_eq_left', exists_eq_left, V.int.injEq, V.ref.injEq, V.str.injEq, V.bl.injEq, List.cons.injEq, and_true, true_and, false_and, exists_false, or_false, false_or, reduceCtorEq, List.set_cons_zero, List.set_cons_succ, Nat.reduceAdd, Nat.reduceSub, Int.reduceToNat, decide_eq_true_eq, if_true, if_false, Bool.false_eq_true, Bool.not_true, Bool.not_false, Bool.true_eq_false, ite_false, ite_true, ne_eq, not_false_eq_true, Int.reduceEq])
      refine ⟨⟨by decide, by decide, by decide⟩, newL_go fun p1 K1 n1 u1 r1 => ?_⟩
      have T1 := (ht2.same u1).mono (n := 1000 - 7 * i) (m := (999 - 7 * i) + 1) (by omega)
      refine draw_go T1 (by decide) (by decide) fun x1 K2 x1a x1b T2 v2 => ?_
      have e1 := v2 _ _ (ht2.ne n1) r1
      obtain ⟨m, hm, am⟩ : ∃ m : Int, (0 < m ∧ m.natAbs < 2 ^ 1000) ∧ atI [V.int 9, V.int 100, V.int (10 ^ 40)] x1 = some (.int m) := by
        have : x1 = 0 ∨ x1 = 1 ∨ x1 = 2 := by omega
        rcases this with rfl | rfl | rfl
        · exact ⟨9, by decide, rfl⟩
        · exact ⟨100, by decide, rfl⟩
        · exact ⟨10 ^ 40, by decide, rfl⟩
      refine ixM_go e1 am ?_
      refine draw_go (T2.mono (m := (998 - 7 * i) + 1) (by omega)) hm.1 hm.2 fun a K3 _ _ T3 v3 => ?_
      (try simp only [tSeq, tIfS, tTest, tB, tOp, tUn, tVar, tC, tAsg, gName, tRet, tRetN, tCB, tCons, tNil, tLst_eq, tTup_eq, tDNewK_eq, tNext, tPar, tAug, tAugS, tExf_eq, ipI, tChain, tCall, tDrop, tAnd, tOr, tNot, tAndV, tOrV, tNotV, tIf, tIsN, tNotN, rI, rI0, rU, rEq, rNe, gSub, cx_K, L2.start, wipe, scal_ii, scal_ss, scal_bb, scal_is, scal_si, scal_nn, List.map_cons, List.map_nil, List.length_cons, List.length_nil, List.cons_append, List.nil_append, List.append_nil, List.replicate, List.getElem?_cons_zero, List.getElem?_cons_succ, Option.some.injEq, exists_and_left, exists_eq_left', exists_eq_left, V.int.injEq, V.ref.injEq, V.str.injEq, V.bl.injEq, List.cons.injEq, and_true, true_and, false_and, exists_false, or_false, false_or, reduceCtorEq, List.set_cons_zero, List.set_cons_succ, Nat.reduceAdd, Nat.reduceSub, Int.reduceToNat, decide_eq_true_eq, if_true, if_false, Bool.false_eq_true, Bool.not_true, Bool.not_false, Bool.true_eq_false, ite_false, ite_true, ne_eq, not_false_eq_true, Int.reduceEq])
      refine newL_go fun p2 K4 n4 u4 r4 => ?_
      have T4 := T3.same u4
      refine draw_go (T4.mono (m := (997 - 7 * i) + 1) (by omega)) (by decide) (by decide) fun x2 K5 x2a x2b T5 v5 => ?_
      have e5 := v5 _ _ (T3.ne n4) r4
      obtain ⟨wd, hw, aw⟩ : ∃ z : Str, z.length ≤ 20 ∧ atI [V.str "x", V.str "go", V.str "call", V.str "names", V.str "a1b2c3d4e5"] x2 = some (.str z) := by
        have : x2 = 0 ∨ x2 = 1 ∨ x2 = 2 ∨ x2 = 3 ∨ x2 = 4 := by omega
        rcases this with rfl | rfl | rfl | rfl | rfl
        all_goals exact ⟨_, by decide, rfl⟩
      refine ixM_go e5 aw ?_
      (try simp only [tSeq, tIfS, tTest, tB, tOp, tUn, tVar, tC, tAsg, gName, tRet, tRetN, tCB, tCons, tNil, tLst_eq, tTup_eq, tDNewK_eq, tNext, tPar, tAug, tAugS, tExf_eq, ipI, tChain, tCall, tDrop, tAnd, tOr, tNot, tAndV, tOrV, tNotV, tIf, tIsN, tNotN, rI, rI0, rU, rEq, rNe, gSub, cx_K, L2.start, wipe, scal_ii, scal_ss, scal_bb, scal_is, scal_si, scal_nn, List.map_cons, List.map_nil, List.length_cons, List.length_nil, List.cons_append, List.nil_append, List.append_nil, List.replicate, List.getElem?_cons_zero, List.getElem?_cons_succ, Option.some.injEq, exists_and_left, exists_eq_left', exists_eq_left, V.int.injEq, V.ref.injEq, V.str.injEq, V.bl.injEq, List.cons.injEq, and_true, true_and, false_and, exists_false, or_false, false_or, reduceCtorEq, List.set_cons_zero, List.set_cons_succ, Nat.reduceAdd, Nat.reduceSub, Int.reduceToNat, decide_eq_true_eq, if_true, if_false, Bool.false_eq_true, Bool.not_true, Bool.not_false, Bool.true_eq_false, ite_false, ite_true, ne_eq, not_false_eq_true, Int.reduceEq])
      refine draw_go (T5.mono (m := (996 - 7 * i) + 1) (by omega)) (by decide) (by decide) fun x3 K6 x3a x3b T6 v6 => ?_
      obtain ⟨c3, _, ac⟩ := atI_ex (l := ("xyz" : Str).cps.toList) x3a (show x3 < (("xyz" : Str).cps.toList.length : Nat) from x3b)
      refine ixS_go (by decide) ac ?_
      (try simp only [tSeq, tIfS, tTest, tB, tOp, tUn, tVar, tC, tAsg, gName, tRet, tRetN, tCB, tCons, tNil, tLst_eq, tTup_eq, tDNewK_eq, tNext, tPar, tAug, tAugS, tExf_eq, ipI, tChain, tCall, tDrop, tAnd, tOr, tNot, tAndV, tOrV, tNotV, tIf, tIsN, tNotN, rI, rI0, rU, rEq, rNe, gSub, cx_K, L2.start, wipe, scal_ii, scal_ss, scal_bb, scal_is, scal_si, scal_nn, List.map_cons, List.map_nil, List.length_cons, List.length_nil, List.cons_append, List.nil_append, List.append_nil, List.replicate, List.getElem?_cons_zero, List.getElem?_cons_succ, Option.some.injEq, exists_and_left, exists_eq_left', exists_eq_left, V.int.injEq, V.ref.injEq, V.str.injEq, V.bl.injEq, List.cons.injEq, and_true, true_and, false_and, exists_false, or_false, false_or, reduceCtorEq, List.set_cons_zero, List.set_cons_succ, Nat.reduceAdd, Nat.reduceSub, Int.reduceToNat, decide_eq_true_eq, if_true, if_false, Bool.false_eq_true, Bool.not_true, Bool.not_false, Bool.true_eq_false, ite_false, ite_true, ne_eq, not_false_eq_true, Int.reduceEq])
      refine ⟨Nat.le_trans (show wd.length + 1 ≤ 21 by omega) (by decide), ?_⟩
      generalize wd ++ (⟨#[c3]⟩ : Str) = wo
      refine newL_go fun p3 K7 n7 u7 r7 => newT_go fun p4 K8 n8 u8 r8 => disp1_go rfl rfl fun p5 K9 n9 u9 => ?_
      (try simp only [tSeq, tIfS, tTest, tB, tOp, tUn, tVar, tC, tAsg, gName, tRet, tRetN, tCB, tCons, tNil, tLst_eq, tTup_eq, tDNewK_eq, tNext, tPar, tAug, tAugS, tExf_eq, ipI, tChain, tCall, tDrop, tAnd, tOr, tNot, tAndV, tOrV, tNotV, tIf, tIsN, tNotN, rI, rI0, rU, rEq, rNe, gSub, cx_K, L2.start, wipe, scal_ii, scal_ss, scal_bb, scal_is, scal_si, scal_nn, List.map_cons, List.map_nil, List.length_cons, List.length_nil, List.cons_append, List.nil_append, List.append_nil, List.replicate, List.getElem?_cons_zero, List.getElem?_cons_succ, Option.some.injEq, exists_and_left, exists_eq_left', exists_eq_left, V.int.injEq, V.ref.injEq, V.str.injEq, V.bl.injEq, List.cons.injEq, and_true, true_and, false_and, exists_false, or_false, false_or, reduceCtorEq, List.set_cons_zero, List.set_cons_succ, Nat.reduceAdd, Nat.reduceSub, Int.reduceToNat, decide_eq_true_eq, if_true, if_false, Bool.false_eq_true, Bool.not_true, Bool.not_false, Bool.true_eq_false, ite_false, ite_true, ne_eq, not_false_eq_true, Int.reduceEq])
      refine newL_go fun p6 K10 n10 u10 r10 => ?_
      have T10 := T6.same (u7.trans (u8.trans (u9.trans u10)))
      refine draw_go (T10.mono (m := (995 - 7 * i) + 1) (by omega)) (by decide) (by decide) fun x4 K11 x4a x4b T11 v11 => ?_
      have e11 := v11 _ _ ((T6.same (u7.trans (u8.trans u9))).ne n10) r10
      obtain ⟨v, hv, av⟩ := atI_ex (l := [V.non, V.bl true, V.int a, V.str wo, V.ref p3, V.ref p4, V.ref p5, V.str "", V.int (-a)]) x4a x4b
      have pv : plainV v = true := by
        simp only [List.mem_cons, List.not_mem_nil, or_false] at hv
        rcases hv with rfl | rfl | rfl | rfl | rfl | rfl | rfl | rfl | rfl
        all_goals rfl
      refine ixM_go e11 av ?_
      (try simp only [tSeq, tIfS, tTest, tB, tOp, tUn, tVar, tC, tAsg, gName, tRet, tRetN, tCB, tCons, tNil, tLst_eq, tTup_eq, tDNewK_eq, tNext, tPar, tAug, tAugS, tExf_eq, ipI, tChain, tCall, tDrop, tAnd, tOr, tNot, tAndV, tOrV, tNotV, tIf, tIsN, tNotN, rI, rI0, rU, rEq, rNe, gSub, cx_K, L2.start, wipe, scal_ii, scal_ss, scal_bb, scal_is, scal_si, scal_nn, List.map_cons, List.map_nil, List.length_cons, List.length_nil, List.cons_append, List.nil_append, List.append_nil, List.replicate, List.getElem?_cons_zero, List.getElem?_cons_succ, Option.some.injEq, exists_and_left, exists_eq_left', exists_eq_left, V.int.injEq, V.ref.injEq, V.str.injEq, V.bl.injEq, List.cons.injEq, and_true, true_and, false_and, exists_false, or_false, false_or, reduceCtorEq, List.set_cons_zero, List.set_cons_succ, Nat.reduceAdd, Nat.reduceSub, Int.reduceToNat, decide_eq_true_eq, if_true, if_false, Bool.false_eq_true, Bool.not_true, Bool.not_false, Bool.true_eq_false, ite_false, ite_true, ne_eq, not_false_eq_true, Int.reduceEq])
      refine newT_go fun p7 K12 n12 u12 r12 => newT_go fun p8 K13 n13 u13 r13 => newT_go fun p9 K14 n14 u14 r14 => newL_go fun p10 K15 n15 u15 r15 => ?_
      have T15 := T11.same (u12.trans (u13.trans (u14.trans u15)))
      refine draw_go (T15.mono (m := (994 - 7 * i) + 1) (by omega)) (by decide) (by decide) fun x5 K16 x5a x5b T16 v16 => ?_
      have e16 := v16 _ _ ((T11.same (u12.trans (u13.trans u14))).ne n15) r15
      obtain ⟨g, hg, ag⟩ := atI_ex (l := [V.ref p7, V.ref p8, V.ref p9]) x5a x5b
      have pg : plainV g = true := by
        simp only [List.mem_cons, List.not_mem_nil, or_false] at hg
        rcases hg with rfl | rfl | rfl
        all_goals rfl
      refine ixM_go e16 ag ?_
      (try simp only [tSeq, tIfS, tTest, tB, tOp, tUn, tVar, tC, tAsg, gName, tRet, tRetN, tCB, tCons, tNil, tLst_eq, tTup_eq, tDNewK_eq, tNext, tPar, tAug, tAugS, tExf_eq, ipI, tChain, tCall, tDrop, tAnd, tOr, tNot, tAndV, tOrV, tNotV, tIf, tIsN, tNotN, rI, rI0, rU, rEq, rNe, gSub, cx_K, L2.start, wipe, scal_ii, scal_ss, scal_bb, scal_is, scal_si, scal_nn, List.map_cons, List.map_nil, List.length_cons, List.length_nil, List.cons_append, List.nil_append, List.append_nil, List.replicate, List.getElem?_cons_zero, List.getElem?_cons_succ, Option.some.injEq, exists_and_left, exists_eq_left', exists_eq_left, V.int.injEq, V.ref.injEq, V.str.injEq, V.bl.injEq, List.cons.injEq, and_true, true_and, false_and, exists_false, or_false, false_or, reduceCtorEq, List.set_cons_zero, List.set_cons_succ, Nat.reduceAdd, Nat.reduceSub, Int.reduceToNat, decide_eq_true_eq, if_true, if_false, Bool.false_eq_true, Bool.not_true, Bool.not_false, Bool.true_eq_false, ite_false, ite_true, ne_eq, not_false_eq_true, Int.reduceEq])
      refine ⟨_, _, _, rfl, fun f1 M1 es1 t1 q1 E1 => ?_⟩
      refine ⟨_, _, _, rfl, fun f2 M2 es2 t2 q2 E2 => ?_⟩
      refine ⟨_, _, ⟨rfl, rfl⟩, ?_⟩
      refine ⟨a, _, _, _, rfl, fun f3 M3 es3 r s t3 q3 ra sa E3 => ?_⟩
      refine ⟨f1, es1, _, _, _, rfl, (t2.trans t3) _ _ q1, E1.same (t2.trans t3), fun g1 M4 qs1 t4 k1 R1 => ?_⟩
      refine ⟨f2, es2, _, _, _, rfl, (t3.trans t4) _ _ q2, E2.same (t3.trans t4), fun g2 M5 qs2 t5 k2 R2 => ?_⟩
      refine cat_go (t5 _ _ k1) k2 (fun g3 M6 n6 t6 k3 => ?_) (by rw [List.length_map, List.length_map, R1.len, R2.len]; show 12 + 13 ≤ 1000000; decide)
      refine ⟨f3, es3, .int a, .str wo, v, g, r, s, .int (a + 1), rfl, (t4.trans (t5.trans t6)) _ _ q3, E3.same (t4.trans (t5.trans t6)), fun g4 M7 qs3 t7 k4 R3 => ?_⟩
      refine cat_go (t7 _ _ k3) k4 (fun g5 M8 n8 t8 k5 => ?_) (by rw [List.length_append, List.length_map, List.length_map, List.length_map, R1.len, R2.len, R3.len]; show 12 + 13 + 12 ≤ 1000000; decide)
      refine ⟨a, _, _, _, rfl, fun g6 M9 qs4 r' s' t9 k6 ra' sa' R4 => ?_⟩
      have w45 := t4.trans (t5.trans (t6.trans (t7.trans (t8.trans t9))))
      refine eqA_rows (n := 5) (as := qs1 ++ qs2 ++ qs3) (by decide) (lst_cast (t9 _ _ k5) (by rw [List.map_append, List.map_append])) k6
        (((R1.same (t5.trans (t6.trans (t7.trans (t8.trans t9))))).append (R2.same (t6.trans (t7.trans (t8.trans t9))))).append (R3.same (t8.trans t9))) R4 ?_ ?_
      · have pa : plainV (V.int a) = true := rfl
        have pw : plainV (V.str wo) = true := rfl
        have pb : plainV (V.int (a + 1)) = true := rfl
        refine paired_app (paired_app (alikeRows_refl fun row hr x hx => ?_) (alikeRows_refl fun row hr x hx => ?_)) ?_
        · simp only [rowsFirst, List.mem_cons, List.not_mem_nil, or_false] at hr
          rcases hr with rfl | rfl | rfl | rfl | rfl | rfl | rfl | rfl | rfl | rfl | rfl | rfl
          all_goals (simp only [List.mem_cons, List.not_mem_nil, or_false] at hx; first | (rcases hx with rfl | rfl <;> assumption) | (subst hx; assumption))
        · simp only [rowsSecond, List.mem_cons, List.not_mem_nil, or_false] at hr
          rcases hr with rfl | rfl | rfl | rfl | rfl | rfl | rfl | rfl | rfl | rfl | rfl | rfl | rfl
          all_goals (simp only [List.mem_cons, List.not_mem_nil, or_false] at hx; first | (rcases hx with rfl | rfl <;> assumption) | (subst hx; assumption))
        · exact .cons (al1 pa) (.cons (al1 pw) (.cons (al1 pv) (.cons (al1 pw) (.cons (.cons ((ra.same w45).alike pw pa ra') .nil) (.cons (al1 pg) (.cons (al1 pa) (.cons (al1 pw) (.cons .nil (.cons (.cons (.same pg) (.cons ((sa.same w45).alike pw sa') .nil)) (.cons .nil (.cons (al2 pa pb) .nil)))))))))))
      (try simp only [tSeq, tIfS, tTest, tB, tOp, tUn, tVar, tC, tAsg, gName, tRet, tRetN, tCB, tCons, tNil, tLst_eq, tTup_eq, tDNewK_eq, tNext, tPar, tAug, tAugS, tExf_eq, ipI, tChain, tCall, tDrop, tAnd, tOr, tNot, tAndV, tOrV, tNotV, tIf, tIsN, tNotN, rI, rI0, rU, rEq, rNe, gSub, cx_K, L2.start, wipe, scal_ii, scal_ss, scal_bb, scal_is, scal_si, scal_nn, List.map_cons, List.map_nil, List.length_cons, List.length_nil, List.cons_append, List.nil_append, List.append_nil, List.replicate, List.getElem?_cons_zero, List.getElem?_cons_succ, Option.some.injEq, exists_and_left, exists_eq_left', exists_eq_left, V.int.injEq, V.ref.injEq, V.str.injEq, V.bl.injEq, List.cons.injEq, and_true, true_and, false_and, exists_false, or_false, false_or, reduceCtorEq, List.set_cons_zero, List.set_cons_succ, Nat.reduceAdd, Nat.reduceSub, Int.reduceToNat, decide_eq_true_eq, if_true, if_false, Bool.false_eq_true, Bool.not_true, Bool.not_false, Bool.true_eq_false, ite_false, ite_true, ne_eq, not_false_eq_true, Int.reduceEq])
      have w1 := t2.trans (t3.trans w45)
      have w2 := t3.trans w45
      have w3 := w45
      refine cat_go (w1 _ _ q1) (w2 _ _ q2) (fun g7 M10 n10 t10 k7 => ?_) (by rw [List.length_map, List.length_map, E1.len, E2.len]; show 12 + 13 ≤ 1000000; decide)
      refine cat_go k7 ((w3.trans t10) _ _ q3) (fun g8 M11 n11 t11 k8 => ?_) (by rw [List.length_append, List.length_map, List.length_map, List.length_map, E1.len, E2.len, E3.len]; show 12 + 13 + 12 ≤ 1000000; decide)
      have tt := t10.trans t11
      refine ⟨g8, es1 ++ es2 ++ es3, _, rfl, lst_cast k8 (by rw [List.map_append, List.map_append]), ((E1.same (w1.trans tt)).append (E2.same (w2.trans tt))).append (E3.same (w3.trans tt)), rfl, fun M12 t12 => ?_⟩
      (try simp only [tSeq, tIfS, tTest, tB, tOp, tUn, tVar, tC, tAsg, gName, tRet, tRetN, tCB, tCons, tNil, tLst_eq, tTup_eq, tDNewK_eq, tNext, tPar, tAug, tAugS, tExf_eq, ipI, tChain, tCall, tDrop, tAnd, tOr, tNot, tAndV, tOrV, tNotV, tIf, tIsN, tNotN, rI, rI0, rU, rEq, rNe, gSub, cx_K, L2.start, wipe, scal_ii, scal_ss, scal_bb, scal_is, scal_si, scal_nn, List.map_cons, List.map_nil, List.length_cons, List.length_nil, List.cons_append, List.nil_append, List.append_nil, List.replicate, List.getElem?_cons_zero, List.getElem?_cons_succ, Option.some.injEq, exists_and_left, exists_eq_left', exists_eq_left, V.int.injEq, V.ref.injEq, V.str.injEq, V.bl.injEq, List.cons.injEq, and_true, true_and, false_and, exists_false, or_false, false_or, reduceCtorEq, List.set_cons_zero, List.set_cons_succ, Nat.reduceAdd, Nat.reduceSub, Int.reduceToNat, decide_eq_true_eq, if_true, if_false, Bool.false_eq_true, Bool.not_true, Bool.not_false, Bool.true_eq_false, ite_false, ite_true, ne_eq, not_false_eq_true, Int.reduceEq])
      have TZ := T16.same (t1.trans (w1.trans (tt.trans t12)))
      first | exact ⟨⟨_, rfl⟩, TZ.mono (by omega)⟩ | exact ⟨⟨_, _, _, _, _, _, _, _, _, rfl⟩, TZ.mono (by omega)⟩
    · rintro σ H2 ⟨⟨o1, o2, o3, o4, o5, o6, o7, o8, o9, rfl⟩, _⟩
      (try simp only [tSeq, tIfS, tTest, tB, tOp, tUn, tVar, tC, tAsg, gName, tRet, tRetN, tCB, tCons, tNil, tLst_eq, tTup_eq, tDNewK_eq, tNext, tPar, tAug, tAugS, tExf_eq, ipI, tChain, tCall, tDrop, tAnd, tOr, tNot, tAndV, tOrV, tNotV, tIf, tIsN, tNotN, rI, rI0, rU, rEq, rNe, gSub, cx_K, L2.start, wipe, scal_ii, scal_ss, scal_bb, scal_is, scal_si, scal_nn, List.map_cons, List.map_nil, List.length_cons, List.length_nil, List.cons_append, List.nil_append, List.append_nil, List.replicate, List.getElem?_cons_zero, List.getElem?_cons_succ, Option.some.injEq, exists_and_left, exists_eq_left', exists_eq_left, V.int.injEq, V.ref.injEq, V.str.injEq, V.bl.injEq, List.cons.injEq, and_true, true_and, false_and, exists_false, or_false, false_or, reduceCtorEq, List.set_cons_zero, List.set_cons_succ, Nat.reduceAdd, Nat.reduceSub, Int.reduceToNat, decide_eq_true_eq, if_true, if_false, Bool.false_eq_true, Bool.not_true, Bool.not_false, Bool.true_eq_false, ite_false, ite_true, ne_eq, not_false_eq_true, Int.reduceEq])
      exact q _
end
end Own

set_option Elab.async false
set_option linter.all false
set_option maxRecDepth 100000
set_option maxHeartbeats 4000000
namespace Own
open PySem PySem.Spec PyProof.Rows L2
theorem lawStart {K : PySem.W.Frag} {H : Hp} (a : Addr) (ns : List Int) (_ : ns.length ≤ 63) (hS : SqL K H a (ns.map V.int)) : spLaw K [.ref a] H (fun v _ => v = .bl true) fun _ _ _ => False := ⟨a, ns, rfl, hS, fun _ => rfl⟩
def ci0L : List (Str × List Str) := (("BadTree" : Str), (["place"] : List Str)) :: (("Duplicate" : Str), (["line", "ident"] : List Str)) :: (("Unknown" : Str), (["line", "ident"] : List Str)) :: (("BadWord" : Str), (["line", "word"] : List Str)) :: (("Repeated" : Str), (["line", "ident"] : List Str)) :: (("OutOfOrder" : Str), (["line", "ident"] : List Str)) :: (("BadLine" : Str), (["line"] : List Str)) :: (("TooDeep" : Str), (["line"] : List Str)) :: (("Unclosed" : Str), (["line"] : List Str)) :: (("BadPair" : Str), (["pair"] : List Str)) :: (("NoKeeping" : Str), (["number", "ident"] : List Str)) :: (("TooMany" : Str), (["many"] : List Str)) :: (("NoLine" : Str), (["line"] : List Str)) :: (("NoStatement" : Str), (["line"] : List Str)) :: (("NoPart" : Str), (["ident"] : List Str)) :: (("InUse" : Str), (["line", "ident"] : List Str)) :: (("NotWrapped" : Str), (["line"] : List Str)) :: (("NotCall" : Str), (["line"] : List Str)) :: []
def ci1L : List (Str × List Str) := (("BadIdent" : Str), (["ident"] : List Str)) :: (("Taken" : Str), (["ident"] : List Str)) :: (("NotBindings" : Str), (["value"] : List Str)) :: (("BadName" : Str), (["name"] : List Str)) :: (("BadValue" : Str), (["value"] : List Str)) :: (("UnknownName" : Str), (["name"] : List Str)) :: (("NoEngine" : Str), (["value"] : List Str)) :: (("BadScript" : Str), (["number"] : List Str)) :: (("NoTarget" : Str), (["target"] : List Str)) :: (("BadBinding" : Str), (["key"] : List Str)) :: (("NotComparable" : Str), (["what"] : List Str)) :: (("NotSeen" : Str), (["row"] : List Str)) :: (("GuardTwice" : Str), (["guard"] : List Str)) :: (("NoGuard" : Str), (["number"] : List Str)) :: (("NoKind" : Str), (["kind"] : List Str)) :: (("Broken" : Str), (["guard", "script"] : List Str)) :: (("MoveFailed" : Str), (["number", "by"] : List Str)) :: []
def c0L : List Str := ("BindspanError" : Str) :: ("BadModule" : Str) :: ("BadText" : Str) :: ("BadCaptures" : Str) :: ("BadEdit" : Str) :: ("BadScope" : Str) :: ("BadCaller" : Str) :: ("BadQuestion" : Str) :: ("BadBench" : Str) :: ("NothingToUndo" : Str) :: ("Failed" : Str) :: []
def dfL : List Str := ("_law_tape" : Str) :: ("_law_draw" : Str) :: ("_law_first" : Str) :: ("_law_first_fields" : Str) :: ("_law_second" : Str) :: ("_law_second_fields" : Str) :: ("_law_third" : Str) :: ("_law_third_fields" : Str) :: ("_law_kinds" : Str) :: ("_law_families" : Str) :: ("_law_due_fields" : Str) :: ("_law_places_right" : Str) :: ("law" : Str) :: []
def frL : List Str := ("len" : Str) :: ("int" : Str) :: ("range" : Str) :: ("isinstance" : Str) :: ("ValueError" : Str) :: []
def fn1L : List He.FnD := inD "BadTree" "BadTree.__init__" s_BadTree :: inD "Duplicate" "Duplicate.__init__" s_Duplicate :: inD "Unknown" "Unknown.__init__" s_Unknown :: inD "BadWord" "BadWord.__init__" s_BadWord :: inD "Repeated" "Repeated.__init__" s_Repeated :: inD "OutOfOrder" "OutOfOrder.__init__" s_OutOfOrder :: inD "BadLine" "BadLine.__init__" s_BadLine :: inD "TooDeep" "TooDeep.__init__" s_TooDeep :: inD "Unclosed" "Unclosed.__init__" s_Unclosed :: inD "BadPair" "BadPair.__init__" s_BadPair :: inD "NoKeeping" "NoKeeping.__init__" s_NoKeeping :: inD "TooMany" "TooMany.__init__" s_TooMany :: inD "NoLine" "NoLine.__init__" s_NoLine :: inD "NoStatement" "NoStatement.__init__" s_NoStatement :: inD "NoPart" "NoPart.__init__" s_NoPart :: inD "InUse" "InUse.__init__" s_InUse :: inD "NotWrapped" "NotWrapped.__init__" s_NotWrapped :: inD "NotCall" "NotCall.__init__" s_NotCall :: []
def fn2L : List He.FnD := inD "BadIdent" "BadIdent.__init__" s_BadIdent :: inD "Taken" "Taken.__init__" s_Taken :: inD "NotBindings" "NotBindings.__init__" s_NotBindings :: inD "BadName" "BadName.__init__" s_BadName :: inD "BadValue" "BadValue.__init__" s_BadValue :: inD "UnknownName" "UnknownName.__init__" s_UnknownName :: inD "NoEngine" "NoEngine.__init__" s_NoEngine :: inD "BadScript" "BadScript.__init__" s_BadScript :: inD "NoTarget" "NoTarget.__init__" s_NoTarget :: inD "BadBinding" "BadBinding.__init__" s_BadBinding :: inD "NotComparable" "NotComparable.__init__" s_NotComparable :: inD "NotSeen" "NotSeen.__init__" s_NotSeen :: inD "GuardTwice" "GuardTwice.__init__" s_GuardTwice :: inD "NoGuard" "NoGuard.__init__" s_NoGuard :: inD "NoKind" "NoKind.__init__" s_NoKind :: inD "Broken" "Broken.__init__" s_Broken :: inD "MoveFailed" "MoveFailed.__init__" s_MoveFailed :: []
def fn0L : List He.FnD := fnD "_law_tape" s_l_tape :: fnD "_law_draw" s_l_draw :: fnD "_law_first" s_l_first :: fnD "_law_first_fields" s_l_first_fields :: fnD "_law_second" s_l_second :: fnD "_law_second_fields" s_l_second_fields :: fnD "_law_third" s_l_third :: fnD "_law_third_fields" s_l_third_fields :: fnD "_law_kinds" s_l_kinds :: fnD "_law_families" s_l_families :: fnD "_law_due_fields" s_l_due_fields :: fnD "_law_places_right" s_l_places_right :: fnD "law" s_law :: []
def fnL : List He.FnD := fn0L ++ (fn1L ++ (fn2L ++ (([] : List He.FnD))))
def chk0 (K : PySem.W.Frag) : Bool := exG K && (c0L.all (c0B K) && (dfL.all (dfB K) && frL.all (freeB K)))
def chk1 (K : PySem.W.Frag) : Bool := ci0L.all (ciB K)
def chk2 (K : PySem.W.Frag) : Bool := ci1L.all (ciB K)
def chk3 (K : PySem.W.Frag) : Bool := kitTab K [He.ga K "BadTree", He.ga K "Duplicate", He.ga K "Unknown", He.ga K "BadWord", He.ga K "Repeated", He.ga K "OutOfOrder", He.ga K "BadLine", He.ga K "TooDeep", He.ga K "Unclosed", He.ga K "BadPair", He.ga K "NoKeeping", He.ga K "TooMany", He.ga K "NoLine", He.ga K "NoStatement", He.ga K "NoPart", He.ga K "InUse", He.ga K "NotWrapped", He.ga K "NotCall", He.ga K "BadIdent", He.ga K "Taken", He.ga K "NotBindings", He.ga K "BadName", He.ga K "BadValue", He.ga K "UnknownName", He.ga K "NoEngine", He.ga K "BadScript", He.ga K "NoTarget", He.ga K "BadBinding", He.ga K "NotComparable", He.ga K "NotSeen", He.ga K "GuardTwice", He.ga K "NoGuard", He.ga K "NoKind", He.ga K "NothingToUndo", He.ga K "Broken", He.ga K "Failed", He.ga K "MoveFailed"] [.ref (He.ga K "BadTree"), .ref (He.ga K "Duplicate"), .ref (He.ga K "Unknown"), .ref (He.ga K "BadWord"), .ref (He.ga K "Repeated"), .ref (He.ga K "OutOfOrder"), .ref (He.ga K "BadLine"), .ref (He.ga K "TooDeep"), .ref (He.ga K "Unclosed"), .ref (He.ga K "BadPair"), .ref (He.ga K "NoKeeping"), .ref (He.ga K "TooMany"), .ref (He.ga K "NoLine"), .ref (He.ga K "NoStatement"), .ref (He.ga K "NoPart"), .ref (He.ga K "InUse"), .ref (He.ga K "NotWrapped"), .ref (He.ga K "NotCall"), .ref (He.ga K "BadIdent"), .ref (He.ga K "Taken"), .ref (He.ga K "NotBindings"), .ref (He.ga K "BadName"), .ref (He.ga K "BadValue"), .ref (He.ga K "UnknownName"), .ref (He.ga K "NoEngine"), .ref (He.ga K "BadScript"), .ref (He.ga K "NoTarget"), .ref (He.ga K "BadBinding"), .ref (He.ga K "NotComparable"), .ref (He.ga K "NotSeen"), .ref (He.ga K "GuardTwice"), .ref (He.ga K "NoGuard"), .ref (He.ga K "NoKind"), .ref (He.ga K "NothingToUndo"), .ref (He.ga K "Broken"), .ref (He.ga K "Failed"), .ref (He.ga K "MoveFailed")] kindF && (kitTab K [He.ga K "BadTree", He.ga K "Duplicate", He.ga K "Unknown", He.ga K "BadWord", He.ga K "Repeated", He.ga K "OutOfOrder", He.ga K "BadLine", He.ga K "TooDeep", He.ga K "Unclosed", He.ga K "BadPair", He.ga K "NoKeeping", He.ga K "TooMany", He.ga K "NoLine", He.ga K "NoStatement", He.ga K "NoPart", He.ga K "InUse", He.ga K "NotWrapped", He.ga K "NotCall", He.ga K "BadIdent", He.ga K "Taken", He.ga K "NotBindings", He.ga K "BadName", He.ga K "BadValue", He.ga K "UnknownName", He.ga K "NoEngine", He.ga K "BadScript", He.ga K "NoTarget", He.ga K "BadBinding", He.ga K "NotComparable", He.ga K "NotSeen", He.ga K "GuardTwice", He.ga K "NoGuard", He.ga K "NoKind", He.ga K "NothingToUndo", He.ga K "Broken", He.ga K "Failed", He.ga K "MoveFailed"] [.ref (He.ga K "BadModule"), .ref (He.ga K "BadText"), .ref (He.ga K "BadCaptures"), .ref (He.ga K "BadEdit"), .ref (He.ga K "BadScope"), .ref (He.ga K "BadCaller"), .ref (He.ga K "BadQuestion"), .ref (He.ga K "BadBench"), .ref (He.ga K "Failed")] famF && (kitTab K [He.ga K "BadTree", He.ga K "Duplicate", He.ga K "Unknown", He.ga K "BadWord", He.ga K "Repeated", He.ga K "OutOfOrder", He.ga K "BadLine", He.ga K "TooDeep", He.ga K "Unclosed", He.ga K "BadPair", He.ga K "NoKeeping", He.ga K "TooMany", He.ga K "NoLine", He.ga K "NoStatement", He.ga K "NoPart", He.ga K "InUse", He.ga K "NotWrapped", He.ga K "NotCall", He.ga K "BadIdent", He.ga K "Taken", He.ga K "NotBindings", He.ga K "BadName", He.ga K "BadValue", He.ga K "UnknownName", He.ga K "NoEngine", He.ga K "BadScript", He.ga K "NoTarget", He.ga K "BadBinding", He.ga K "NotComparable", He.ga K "NotSeen", He.ga K "GuardTwice", He.ga K "NoGuard", He.ga K "NoKind", He.ga K "NothingToUndo", He.ga K "Broken", He.ga K "Failed", He.ga K "MoveFailed"] [.ref (He.ga K "BindspanError"), .type "ValueError"] (fun _ _ => true)))
def chkK (K : PySem.W.Frag) : Bool := chk0 K && (chk1 K && (chk2 K && (chk3 K)))
def namesL : List Str := ("__name__" : Str) :: ("BindspanError" : Str) :: ("BadModule" : Str) :: ("BadText" : Str) :: ("BadCaptures" : Str) :: ("BadEdit" : Str) :: ("BadScope" : Str) :: ("BadCaller" : Str) :: ("BadQuestion" : Str) :: ("BadBench" : Str) :: ("BadTree" : Str) :: ("Duplicate" : Str) :: ("Unknown" : Str) :: ("BadWord" : Str) :: ("Repeated" : Str) :: ("OutOfOrder" : Str) :: ("BadLine" : Str) :: ("TooDeep" : Str) :: ("Unclosed" : Str) :: ("BadPair" : Str) :: ("NoKeeping" : Str) :: ("TooMany" : Str) :: ("NoLine" : Str) :: ("NoStatement" : Str) :: ("NoPart" : Str) :: ("InUse" : Str) :: ("NotWrapped" : Str) :: ("NotCall" : Str) :: ("BadIdent" : Str) :: ("Taken" : Str) :: ("NotBindings" : Str) :: ("BadName" : Str) :: ("BadValue" : Str) :: ("UnknownName" : Str) :: ("NoEngine" : Str) :: ("BadScript" : Str) :: ("NoTarget" : Str) :: ("BadBinding" : Str) :: ("NotComparable" : Str) :: ("NotSeen" : Str) :: ("GuardTwice" : Str) :: ("NoGuard" : Str) :: ("NoKind" : Str) :: ("NothingToUndo" : Str) :: ("Broken" : Str) :: ("Failed" : Str) :: ("MoveFailed" : Str) :: ("_law_tape" : Str) :: ("_law_draw" : Str) :: ("_law_first" : Str) :: ("_law_first_fields" : Str) :: ("_law_second" : Str) :: ("_law_second_fields" : Str) :: ("_law_third" : Str) :: ("_law_third_fields" : Str) :: ("_law_kinds" : Str) :: ("_law_families" : Str) :: ("_law_due_fields" : Str) :: ("_law_places_right" : Str) :: []
abbrev R0 : PySem.W.OpenRow := PySem.W.OpenLaw.row PySem.Challenge.rw_bindspan_k00_errors
set_option maxHeartbeats 0 in
theorem run0 (w : World) : HandSHeadRun.RunEq R0 (PySem.W.view R0.prog [60]) (hookM chk0 fn0L) (obM chk0 fn0L) 12500 namesL w := by
  intro os
  kernel_rfl
set_option maxHeartbeats 0 in
theorem run1 (w : World) : HandSHeadRun.RunEq R0 (PySem.W.view R0.prog [60]) (hookM chk1 fn1L) (obM chk1 fn1L) 12500 namesL w := by
  intro os
  kernel_rfl
set_option maxHeartbeats 0 in
theorem run2 (w : World) : HandSHeadRun.RunEq R0 (PySem.W.view R0.prog [60]) (hookM chk2 fn2L) (obM chk2 fn2L) 12500 namesL w := by
  intro os
  kernel_rfl
set_option maxHeartbeats 0 in
theorem run3 (w : World) : HandSHeadRun.RunEq R0 (PySem.W.view R0.prog [60]) (hookM chk3 ([] : List He.FnD)) (obM chk3 ([] : List He.FnD)) 12500 namesL w := by
  intro os
  kernel_rfl
theorem run (w : World) : HandSHeadRun.RunEq R0 (PySem.W.view R0.prog [60]) (hookM chkK fnL) (obM chkK fnL) 12500 namesL w := RJ (run0 w) (RJ (run1 w) (RJ (run2 w) (run3 w)))
theorem facts {P : Program} {w : World} {K : PySem.W.Frag} {h : Heap} {mg : Str → Option Value} {fa : Addr} (X : K.In h) (G : h.Ns mainGlobals mg) (hfa : mg "law" = some (.ref fa)) (c : obsM chkK fnL K = He.valE fnL) :
    ∃ fd : FuncData, (∀ (s : Shared) (v : Value), BindsTo s fd ⟨[v], []⟩ [("_law_script", v)]) ∧ ∀ base : Heap, K.In base → base.Ns mainGlobals mg → FnOk P w K mg base CX0 4 fa fd ["_law_script"] (spLaw K) := by
  have k0 := saysM_chk c
  obtain ⟨k0, j0⟩ := and2 k0
  obtain ⟨eG, k2⟩ := and2 k0
  obtain ⟨kc0, k3⟩ := and2 k2
  obtain ⟨kdf, kfr⟩ := and2 k3
  obtain ⟨kci0, j1⟩ := and2 j0
  obtain ⟨kci1, j2⟩ := and2 j1
  have kt0 := j2
  obtain ⟨t_kt, kt1⟩ := and2 kt0
  obtain ⟨t_ft, kt2⟩ := and2 kt1
  have t_bt := kt2
  obtain ⟨g_BadTree, e_BadTree, n_BadTree, p_BadTree⟩ := and4 (all_at kci0 0 rfl)
  obtain ⟨d_BadTree, F_BadTree⟩ := saysM_ini c 13 rfl p_BadTree
  obtain ⟨g_Duplicate, e_Duplicate, n_Duplicate, p_Duplicate⟩ := and4 (all_at kci0 1 rfl)
  obtain ⟨d_Duplicate, F_Duplicate⟩ := saysM_ini c 14 rfl p_Duplicate
  obtain ⟨g_Unknown, e_Unknown, n_Unknown, p_Unknown⟩ := and4 (all_at kci0 2 rfl)
  obtain ⟨d_Unknown, F_Unknown⟩ := saysM_ini c 15 rfl p_Unknown
  obtain ⟨g_BadWord, e_BadWord, n_BadWord, p_BadWord⟩ := and4 (all_at kci0 3 rfl)
  obtain ⟨d_BadWord, F_BadWord⟩ := saysM_ini c 16 rfl p_BadWord
  obtain ⟨g_Repeated, e_Repeated, n_Repeated, p_Repeated⟩ := and4 (all_at kci0 4 rfl)
  obtain ⟨d_Repeated, F_Repeated⟩ := saysM_ini c 17 rfl p_Repeated
  obtain ⟨g_OutOfOrder, e_OutOfOrder, n_OutOfOrder, p_OutOfOrder⟩ := and4 (all_at kci0 5 rfl)
  obtain ⟨d_OutOfOrder, F_OutOfOrder⟩ := saysM_ini c 18 rfl p_OutOfOrder
  obtain ⟨g_BadLine, e_BadLine, n_BadLine, p_BadLine⟩ := and4 (all_at kci0 6 rfl)
  obtain ⟨d_BadLine, F_BadLine⟩ := saysM_ini c 19 rfl p_BadLine
  obtain ⟨g_TooDeep, e_TooDeep, n_TooDeep, p_TooDeep⟩ := and4 (all_at kci0 7 rfl)
  obtain ⟨d_TooDeep, F_TooDeep⟩ := saysM_ini c 20 rfl p_TooDeep
  obtain ⟨g_Unclosed, e_Unclosed, n_Unclosed, p_Unclosed⟩ := and4 (all_at kci0 8 rfl)
  obtain ⟨d_Unclosed, F_Unclosed⟩ := saysM_ini c 21 rfl p_Unclosed
  obtain ⟨g_BadPair, e_BadPair, n_BadPair, p_BadPair⟩ := and4 (all_at kci0 9 rfl)
  obtain ⟨d_BadPair, F_BadPair⟩ := saysM_ini c 22 rfl p_BadPair
  obtain ⟨g_NoKeeping, e_NoKeeping, n_NoKeeping, p_NoKeeping⟩ := and4 (all_at kci0 10 rfl)
  obtain ⟨d_NoKeeping, F_NoKeeping⟩ := saysM_ini c 23 rfl p_NoKeeping
  obtain ⟨g_TooMany, e_TooMany, n_TooMany, p_TooMany⟩ := and4 (all_at kci0 11 rfl)
  obtain ⟨d_TooMany, F_TooMany⟩ := saysM_ini c 24 rfl p_TooMany
  obtain ⟨g_NoLine, e_NoLine, n_NoLine, p_NoLine⟩ := and4 (all_at kci0 12 rfl)
  obtain ⟨d_NoLine, F_NoLine⟩ := saysM_ini c 25 rfl p_NoLine
  obtain ⟨g_NoStatement, e_NoStatement, n_NoStatement, p_NoStatement⟩ := and4 (all_at kci0 13 rfl)
  obtain ⟨d_NoStatement, F_NoStatement⟩ := saysM_ini c 26 rfl p_NoStatement
  obtain ⟨g_NoPart, e_NoPart, n_NoPart, p_NoPart⟩ := and4 (all_at kci0 14 rfl)
  obtain ⟨d_NoPart, F_NoPart⟩ := saysM_ini c 27 rfl p_NoPart
  obtain ⟨g_InUse, e_InUse, n_InUse, p_InUse⟩ := and4 (all_at kci0 15 rfl)
  obtain ⟨d_InUse, F_InUse⟩ := saysM_ini c 28 rfl p_InUse
  obtain ⟨g_NotWrapped, e_NotWrapped, n_NotWrapped, p_NotWrapped⟩ := and4 (all_at kci0 16 rfl)
  obtain ⟨d_NotWrapped, F_NotWrapped⟩ := saysM_ini c 29 rfl p_NotWrapped
  obtain ⟨g_NotCall, e_NotCall, n_NotCall, p_NotCall⟩ := and4 (all_at kci0 17 rfl)
  obtain ⟨d_NotCall, F_NotCall⟩ := saysM_ini c 30 rfl p_NotCall
  obtain ⟨g_BadIdent, e_BadIdent, n_BadIdent, p_BadIdent⟩ := and4 (all_at kci1 0 rfl)
  obtain ⟨d_BadIdent, F_BadIdent⟩ := saysM_ini c 31 rfl p_BadIdent
  obtain ⟨g_Taken, e_Taken, n_Taken, p_Taken⟩ := and4 (all_at kci1 1 rfl)
  obtain ⟨d_Taken, F_Taken⟩ := saysM_ini c 32 rfl p_Taken
  obtain ⟨g_NotBindings, e_NotBindings, n_NotBindings, p_NotBindings⟩ := and4 (all_at kci1 2 rfl)
  obtain ⟨d_NotBindings, F_NotBindings⟩ := saysM_ini c 33 rfl p_NotBindings
  obtain ⟨g_BadName, e_BadName, n_BadName, p_BadName⟩ := and4 (all_at kci1 3 rfl)
  obtain ⟨d_BadName, F_BadName⟩ := saysM_ini c 34 rfl p_BadName
  obtain ⟨g_BadValue, e_BadValue, n_BadValue, p_BadValue⟩ := and4 (all_at kci1 4 rfl)
  obtain ⟨d_BadValue, F_BadValue⟩ := saysM_ini c 35 rfl p_BadValue
  obtain ⟨g_UnknownName, e_UnknownName, n_UnknownName, p_UnknownName⟩ := and4 (all_at kci1 5 rfl)
  obtain ⟨d_UnknownName, F_UnknownName⟩ := saysM_ini c 36 rfl p_UnknownName
  obtain ⟨g_NoEngine, e_NoEngine, n_NoEngine, p_NoEngine⟩ := and4 (all_at kci1 6 rfl)
  obtain ⟨d_NoEngine, F_NoEngine⟩ := saysM_ini c 37 rfl p_NoEngine
  obtain ⟨g_BadScript, e_BadScript, n_BadScript, p_BadScript⟩ := and4 (all_at kci1 7 rfl)
  obtain ⟨d_BadScript, F_BadScript⟩ := saysM_ini c 38 rfl p_BadScript
  obtain ⟨g_NoTarget, e_NoTarget, n_NoTarget, p_NoTarget⟩ := and4 (all_at kci1 8 rfl)
  obtain ⟨d_NoTarget, F_NoTarget⟩ := saysM_ini c 39 rfl p_NoTarget
  obtain ⟨g_BadBinding, e_BadBinding, n_BadBinding, p_BadBinding⟩ := and4 (all_at kci1 9 rfl)
  obtain ⟨d_BadBinding, F_BadBinding⟩ := saysM_ini c 40 rfl p_BadBinding
  obtain ⟨g_NotComparable, e_NotComparable, n_NotComparable, p_NotComparable⟩ := and4 (all_at kci1 10 rfl)
  obtain ⟨d_NotComparable, F_NotComparable⟩ := saysM_ini c 41 rfl p_NotComparable
  obtain ⟨g_NotSeen, e_NotSeen, n_NotSeen, p_NotSeen⟩ := and4 (all_at kci1 11 rfl)
  obtain ⟨d_NotSeen, F_NotSeen⟩ := saysM_ini c 42 rfl p_NotSeen
  obtain ⟨g_GuardTwice, e_GuardTwice, n_GuardTwice, p_GuardTwice⟩ := and4 (all_at kci1 12 rfl)
  obtain ⟨d_GuardTwice, F_GuardTwice⟩ := saysM_ini c 43 rfl p_GuardTwice
  obtain ⟨g_NoGuard, e_NoGuard, n_NoGuard, p_NoGuard⟩ := and4 (all_at kci1 13 rfl)
  obtain ⟨d_NoGuard, F_NoGuard⟩ := saysM_ini c 44 rfl p_NoGuard
  obtain ⟨g_NoKind, e_NoKind, n_NoKind, p_NoKind⟩ := and4 (all_at kci1 14 rfl)
  obtain ⟨d_NoKind, F_NoKind⟩ := saysM_ini c 45 rfl p_NoKind
  obtain ⟨g_Broken, e_Broken, n_Broken, p_Broken⟩ := and4 (all_at kci1 15 rfl)
  obtain ⟨d_Broken, F_Broken⟩ := saysM_ini c 46 rfl p_Broken
  obtain ⟨g_MoveFailed, e_MoveFailed, n_MoveFailed, p_MoveFailed⟩ := and4 (all_at kci1 16 rfl)
  obtain ⟨d_MoveFailed, F_MoveFailed⟩ := saysM_ini c 47 rfl p_MoveFailed
  obtain ⟨g_BindspanError, e_BindspanError, x_BindspanError⟩ := and3 (all_at kc0 0 rfl)
  obtain ⟨g_BadModule, e_BadModule, x_BadModule⟩ := and3 (all_at kc0 1 rfl)
  obtain ⟨g_BadText, e_BadText, x_BadText⟩ := and3 (all_at kc0 2 rfl)
  obtain ⟨g_BadCaptures, e_BadCaptures, x_BadCaptures⟩ := and3 (all_at kc0 3 rfl)
  obtain ⟨g_BadEdit, e_BadEdit, x_BadEdit⟩ := and3 (all_at kc0 4 rfl)
  obtain ⟨g_BadScope, e_BadScope, x_BadScope⟩ := and3 (all_at kc0 5 rfl)
  obtain ⟨g_BadCaller, e_BadCaller, x_BadCaller⟩ := and3 (all_at kc0 6 rfl)
  obtain ⟨g_BadQuestion, e_BadQuestion, x_BadQuestion⟩ := and3 (all_at kc0 7 rfl)
  obtain ⟨g_BadBench, e_BadBench, x_BadBench⟩ := and3 (all_at kc0 8 rfl)
  obtain ⟨g_NothingToUndo, e_NothingToUndo, x_NothingToUndo⟩ := and3 (all_at kc0 9 rfl)
  obtain ⟨g_Failed, e_Failed, x_Failed⟩ := and3 (all_at kc0 10 rfl)
  obtain ⟨g_l_tape, p_l_tape⟩ := and2 (all_at kdf 0 rfl)
  obtain ⟨d_l_tape, F_l_tape⟩ := saysM_def c 0 rfl p_l_tape
  obtain ⟨g_l_draw, p_l_draw⟩ := and2 (all_at kdf 1 rfl)
  obtain ⟨d_l_draw, F_l_draw⟩ := saysM_def c 1 rfl p_l_draw
  obtain ⟨g_l_first, p_l_first⟩ := and2 (all_at kdf 2 rfl)
  obtain ⟨d_l_first, F_l_first⟩ := saysM_def c 2 rfl p_l_first
  obtain ⟨g_l_first_fields, p_l_first_fields⟩ := and2 (all_at kdf 3 rfl)
  obtain ⟨d_l_first_fields, F_l_first_fields⟩ := saysM_def c 3 rfl p_l_first_fields
  obtain ⟨g_l_second, p_l_second⟩ := and2 (all_at kdf 4 rfl)
  obtain ⟨d_l_second, F_l_second⟩ := saysM_def c 4 rfl p_l_second
  obtain ⟨g_l_second_fields, p_l_second_fields⟩ := and2 (all_at kdf 5 rfl)
  obtain ⟨d_l_second_fields, F_l_second_fields⟩ := saysM_def c 5 rfl p_l_second_fields
  obtain ⟨g_l_third, p_l_third⟩ := and2 (all_at kdf 6 rfl)
  obtain ⟨d_l_third, F_l_third⟩ := saysM_def c 6 rfl p_l_third
  obtain ⟨g_l_third_fields, p_l_third_fields⟩ := and2 (all_at kdf 7 rfl)
  obtain ⟨d_l_third_fields, F_l_third_fields⟩ := saysM_def c 7 rfl p_l_third_fields
  obtain ⟨g_l_kinds, p_l_kinds⟩ := and2 (all_at kdf 8 rfl)
  obtain ⟨d_l_kinds, F_l_kinds⟩ := saysM_def c 8 rfl p_l_kinds
  obtain ⟨g_l_families, p_l_families⟩ := and2 (all_at kdf 9 rfl)
  obtain ⟨d_l_families, F_l_families⟩ := saysM_def c 9 rfl p_l_families
  obtain ⟨g_l_due_fields, p_l_due_fields⟩ := and2 (all_at kdf 10 rfl)
  obtain ⟨d_l_due_fields, F_l_due_fields⟩ := saysM_def c 10 rfl p_l_due_fields
  obtain ⟨g_l_places_right, p_l_places_right⟩ := and2 (all_at kdf 11 rfl)
  obtain ⟨d_l_places_right, F_l_places_right⟩ := saysM_def c 11 rfl p_l_places_right
  obtain ⟨g_law, p_law⟩ := and2 (all_at kdf 12 rfl)
  obtain ⟨d_law, F_law⟩ := saysM_def c 12 rfl p_law
  have z_len := free_mg X G (all_at kfr 0 rfl)
  have z_int := free_mg X G (all_at kfr 1 rfl)
  have z_range := free_mg X G (all_at kfr 2 rfl)
  have z_isinstance := free_mg X G (all_at kfr 3 rfl)
  have z_ValueError := free_mg X G (all_at kfr 4 rfl)
  let T : Txt K mg := {
    c_BadTree := ⟨He.ga K "BadTree", He.ma K (He.ga K "BadTree") "__init__", d_BadTree, glo_mg X G g_BadTree, exK_of eG e_BadTree, exI_of n_BadTree, F_BadTree, F_BadTree.binds (ps := ["self", "place"]) (fun _ _ _ _ _ _ us hl => match us, hl with | [_, _], _ => rfl)⟩
    c_Duplicate := ⟨He.ga K "Duplicate", He.ma K (He.ga K "Duplicate") "__init__", d_Duplicate, glo_mg X G g_Duplicate, exK_of eG e_Duplicate, exI_of n_Duplicate, F_Duplicate, F_Duplicate.binds (ps := ["self", "line", "ident"]) (fun _ _ _ _ _ _ us hl => match us, hl with | [_, _, _], _ => rfl)⟩
    c_Unknown := ⟨He.ga K "Unknown", He.ma K (He.ga K "Unknown") "__init__", d_Unknown, glo_mg X G g_Unknown, exK_of eG e_Unknown, exI_of n_Unknown, F_Unknown, F_Unknown.binds (ps := ["self", "line", "ident"]) (fun _ _ _ _ _ _ us hl => match us, hl with | [_, _, _], _ => rfl)⟩
    c_BadWord := ⟨He.ga K "BadWord", He.ma K (He.ga K "BadWord") "__init__", d_BadWord, glo_mg X G g_BadWord, exK_of eG e_BadWord, exI_of n_BadWord, F_BadWord, F_BadWord.binds (ps := ["self", "line", "word"]) (fun _ _ _ _ _ _ us hl => match us, hl with | [_, _, _], _ => rfl)⟩
    c_Repeated := ⟨He.ga K "Repeated", He.ma K (He.ga K "Repeated") "__init__", d_Repeated, glo_mg X G g_Repeated, exK_of eG e_Repeated, exI_of n_Repeated, F_Repeated, F_Repeated.binds (ps := ["self", "line", "ident"]) (fun _ _ _ _ _ _ us hl => match us, hl with | [_, _, _], _ => rfl)⟩
    c_OutOfOrder := ⟨He.ga K "OutOfOrder", He.ma K (He.ga K "OutOfOrder") "__init__", d_OutOfOrder, glo_mg X G g_OutOfOrder, exK_of eG e_OutOfOrder, exI_of n_OutOfOrder, F_OutOfOrder, F_OutOfOrder.binds (ps := ["self", "line", "ident"]) (fun _ _ _ _ _ _ us hl => match us, hl with | [_, _, _], _ => rfl)⟩
    c_BadLine := ⟨He.ga K "BadLine", He.ma K (He.ga K "BadLine") "__init__", d_BadLine, glo_mg X G g_BadLine, exK_of eG e_BadLine, exI_of n_BadLine, F_BadLine, F_BadLine.binds (ps := ["self", "line"]) (fun _ _ _ _ _ _ us hl => match us, hl with | [_, _], _ => rfl)⟩
    c_TooDeep := ⟨He.ga K "TooDeep", He.ma K (He.ga K "TooDeep") "__init__", d_TooDeep, glo_mg X G g_TooDeep, exK_of eG e_TooDeep, exI_of n_TooDeep, F_TooDeep, F_TooDeep.binds (ps := ["self", "line"]) (fun _ _ _ _ _ _ us hl => match us, hl with | [_, _], _ => rfl)⟩
    c_Unclosed := ⟨He.ga K "Unclosed", He.ma K (He.ga K "Unclosed") "__init__", d_Unclosed, glo_mg X G g_Unclosed, exK_of eG e_Unclosed, exI_of n_Unclosed, F_Unclosed, F_Unclosed.binds (ps := ["self", "line"]) (fun _ _ _ _ _ _ us hl => match us, hl with | [_, _], _ => rfl)⟩
    c_BadPair := ⟨He.ga K "BadPair", He.ma K (He.ga K "BadPair") "__init__", d_BadPair, glo_mg X G g_BadPair, exK_of eG e_BadPair, exI_of n_BadPair, F_BadPair, F_BadPair.binds (ps := ["self", "pair"]) (fun _ _ _ _ _ _ us hl => match us, hl with | [_, _], _ => rfl)⟩
    c_NoKeeping := ⟨He.ga K "NoKeeping", He.ma K (He.ga K "NoKeeping") "__init__", d_NoKeeping, glo_mg X G g_NoKeeping, exK_of eG e_NoKeeping, exI_of n_NoKeeping, F_NoKeeping, F_NoKeeping.binds (ps := ["self", "number", "ident"]) (fun _ _ _ _ _ _ us hl => match us, hl with | [_, _, _], _ => rfl)⟩
    c_TooMany := ⟨He.ga K "TooMany", He.ma K (He.ga K "TooMany") "__init__", d_TooMany, glo_mg X G g_TooMany, exK_of eG e_TooMany, exI_of n_TooMany, F_TooMany, F_TooMany.binds (ps := ["self", "many"]) (fun _ _ _ _ _ _ us hl => match us, hl with | [_, _], _ => rfl)⟩
    c_NoLine := ⟨He.ga K "NoLine", He.ma K (He.ga K "NoLine") "__init__", d_NoLine, glo_mg X G g_NoLine, exK_of eG e_NoLine, exI_of n_NoLine, F_NoLine, F_NoLine.binds (ps := ["self", "line"]) (fun _ _ _ _ _ _ us hl => match us, hl with | [_, _], _ => rfl)⟩
    c_NoStatement := ⟨He.ga K "NoStatement", He.ma K (He.ga K "NoStatement") "__init__", d_NoStatement, glo_mg X G g_NoStatement, exK_of eG e_NoStatement, exI_of n_NoStatement, F_NoStatement, F_NoStatement.binds (ps := ["self", "line"]) (fun _ _ _ _ _ _ us hl => match us, hl with | [_, _], _ => rfl)⟩
    c_NoPart := ⟨He.ga K "NoPart", He.ma K (He.ga K "NoPart") "__init__", d_NoPart, glo_mg X G g_NoPart, exK_of eG e_NoPart, exI_of n_NoPart, F_NoPart, F_NoPart.binds (ps := ["self", "ident"]) (fun _ _ _ _ _ _ us hl => match us, hl with | [_, _], _ => rfl)⟩
    c_InUse := ⟨He.ga K "InUse", He.ma K (He.ga K "InUse") "__init__", d_InUse, glo_mg X G g_InUse, exK_of eG e_InUse, exI_of n_InUse, F_InUse, F_InUse.binds (ps := ["self", "line", "ident"]) (fun _ _ _ _ _ _ us hl => match us, hl with | [_, _, _], _ => rfl)⟩
    c_NotWrapped := ⟨He.ga K "NotWrapped", He.ma K (He.ga K "NotWrapped") "__init__", d_NotWrapped, glo_mg X G g_NotWrapped, exK_of eG e_NotWrapped, exI_of n_NotWrapped, F_NotWrapped, F_NotWrapped.binds (ps := ["self", "line"]) (fun _ _ _ _ _ _ us hl => match us, hl with | [_, _], _ => rfl)⟩
    c_NotCall := ⟨He.ga K "NotCall", He.ma K (He.ga K "NotCall") "__init__", d_NotCall, glo_mg X G g_NotCall, exK_of eG e_NotCall, exI_of n_NotCall, F_NotCall, F_NotCall.binds (ps := ["self", "line"]) (fun _ _ _ _ _ _ us hl => match us, hl with | [_, _], _ => rfl)⟩
    c_BadIdent := ⟨He.ga K "BadIdent", He.ma K (He.ga K "BadIdent") "__init__", d_BadIdent, glo_mg X G g_BadIdent, exK_of eG e_BadIdent, exI_of n_BadIdent, F_BadIdent, F_BadIdent.binds (ps := ["self", "ident"]) (fun _ _ _ _ _ _ us hl => match us, hl with | [_, _], _ => rfl)⟩
    c_Taken := ⟨He.ga K "Taken", He.ma K (He.ga K "Taken") "__init__", d_Taken, glo_mg X G g_Taken, exK_of eG e_Taken, exI_of n_Taken, F_Taken, F_Taken.binds (ps := ["self", "ident"]) (fun _ _ _ _ _ _ us hl => match us, hl with | [_, _], _ => rfl)⟩
    c_NotBindings := ⟨He.ga K "NotBindings", He.ma K (He.ga K "NotBindings") "__init__", d_NotBindings, glo_mg X G g_NotBindings, exK_of eG e_NotBindings, exI_of n_NotBindings, F_NotBindings, F_NotBindings.binds (ps := ["self", "value"]) (fun _ _ _ _ _ _ us hl => match us, hl with | [_, _], _ => rfl)⟩
    c_BadName := ⟨He.ga K "BadName", He.ma K (He.ga K "BadName") "__init__", d_BadName, glo_mg X G g_BadName, exK_of eG e_BadName, exI_of n_BadName, F_BadName, F_BadName.binds (ps := ["self", "name"]) (fun _ _ _ _ _ _ us hl => match us, hl with | [_, _], _ => rfl)⟩
    c_BadValue := ⟨He.ga K "BadValue", He.ma K (He.ga K "BadValue") "__init__", d_BadValue, glo_mg X G g_BadValue, exK_of eG e_BadValue, exI_of n_BadValue, F_BadValue, F_BadValue.binds (ps := ["self", "value"]) (fun _ _ _ _ _ _ us hl => match us, hl with | [_, _], _ => rfl)⟩
    c_UnknownName := ⟨He.ga K "UnknownName", He.ma K (He.ga K "UnknownName") "__init__", d_UnknownName, glo_mg X G g_UnknownName, exK_of eG e_UnknownName, exI_of n_UnknownName, F_UnknownName, F_UnknownName.binds (ps := ["self", "name"]) (fun _ _ _ _ _ _ us hl => match us, hl with | [_, _], _ => rfl)⟩
    c_NoEngine := ⟨He.ga K "NoEngine", He.ma K (He.ga K "NoEngine") "__init__", d_NoEngine, glo_mg X G g_NoEngine, exK_of eG e_NoEngine, exI_of n_NoEngine, F_NoEngine, F_NoEngine.binds (ps := ["self", "value"]) (fun _ _ _ _ _ _ us hl => match us, hl with | [_, _], _ => rfl)⟩
    c_BadScript := ⟨He.ga K "BadScript", He.ma K (He.ga K "BadScript") "__init__", d_BadScript, glo_mg X G g_BadScript, exK_of eG e_BadScript, exI_of n_BadScript, F_BadScript, F_BadScript.binds (ps := ["self", "number"]) (fun _ _ _ _ _ _ us hl => match us, hl with | [_, _], _ => rfl)⟩
    c_NoTarget := ⟨He.ga K "NoTarget", He.ma K (He.ga K "NoTarget") "__init__", d_NoTarget, glo_mg X G g_NoTarget, exK_of eG e_NoTarget, exI_of n_NoTarget, F_NoTarget, F_NoTarget.binds (ps := ["self", "target"]) (fun _ _ _ _ _ _ us hl => match us, hl with | [_, _], _ => rfl)⟩
    c_BadBinding := ⟨He.ga K "BadBinding", He.ma K (He.ga K "BadBinding") "__init__", d_BadBinding, glo_mg X G g_BadBinding, exK_of eG e_BadBinding, exI_of n_BadBinding, F_BadBinding, F_BadBinding.binds (ps := ["self", "key"]) (fun _ _ _ _ _ _ us hl => match us, hl with | [_, _], _ => rfl)⟩
    c_NotComparable := ⟨He.ga K "NotComparable", He.ma K (He.ga K "NotComparable") "__init__", d_NotComparable, glo_mg X G g_NotComparable, exK_of eG e_NotComparable, exI_of n_NotComparable, F_NotComparable, F_NotComparable.binds (ps := ["self", "what"]) (fun _ _ _ _ _ _ us hl => match us, hl with | [_, _], _ => rfl)⟩
    c_NotSeen := ⟨He.ga K "NotSeen", He.ma K (He.ga K "NotSeen") "__init__", d_NotSeen, glo_mg X G g_NotSeen, exK_of eG e_NotSeen, exI_of n_NotSeen, F_NotSeen, F_NotSeen.binds (ps := ["self", "row"]) (fun _ _ _ _ _ _ us hl => match us, hl with | [_, _], _ => rfl)⟩
    c_GuardTwice := ⟨He.ga K "GuardTwice", He.ma K (He.ga K "GuardTwice") "__init__", d_GuardTwice, glo_mg X G g_GuardTwice, exK_of eG e_GuardTwice, exI_of n_GuardTwice, F_GuardTwice, F_GuardTwice.binds (ps := ["self", "guard"]) (fun _ _ _ _ _ _ us hl => match us, hl with | [_, _], _ => rfl)⟩
    c_NoGuard := ⟨He.ga K "NoGuard", He.ma K (He.ga K "NoGuard") "__init__", d_NoGuard, glo_mg X G g_NoGuard, exK_of eG e_NoGuard, exI_of n_NoGuard, F_NoGuard, F_NoGuard.binds (ps := ["self", "number"]) (fun _ _ _ _ _ _ us hl => match us, hl with | [_, _], _ => rfl)⟩
    c_NoKind := ⟨He.ga K "NoKind", He.ma K (He.ga K "NoKind") "__init__", d_NoKind, glo_mg X G g_NoKind, exK_of eG e_NoKind, exI_of n_NoKind, F_NoKind, F_NoKind.binds (ps := ["self", "kind"]) (fun _ _ _ _ _ _ us hl => match us, hl with | [_, _], _ => rfl)⟩
    c_Broken := ⟨He.ga K "Broken", He.ma K (He.ga K "Broken") "__init__", d_Broken, glo_mg X G g_Broken, exK_of eG e_Broken, exI_of n_Broken, F_Broken, F_Broken.binds (ps := ["self", "guard", "script"]) (fun _ _ _ _ _ _ us hl => match us, hl with | [_, _, _], _ => rfl)⟩
    c_MoveFailed := ⟨He.ga K "MoveFailed", He.ma K (He.ga K "MoveFailed") "__init__", d_MoveFailed, glo_mg X G g_MoveFailed, exK_of eG e_MoveFailed, exI_of n_MoveFailed, F_MoveFailed, F_MoveFailed.binds (ps := ["self", "number", "by"]) (fun _ _ _ _ _ _ us hl => match us, hl with | [_, _, _], _ => rfl)⟩
    c_BindspanError := ⟨He.ga K "BindspanError", glo_mg X G g_BindspanError, exK_of eG e_BindspanError, x_BindspanError⟩
    c_BadModule := ⟨He.ga K "BadModule", glo_mg X G g_BadModule, exK_of eG e_BadModule, x_BadModule⟩
    c_BadText := ⟨He.ga K "BadText", glo_mg X G g_BadText, exK_of eG e_BadText, x_BadText⟩
    c_BadCaptures := ⟨He.ga K "BadCaptures", glo_mg X G g_BadCaptures, exK_of eG e_BadCaptures, x_BadCaptures⟩
    c_BadEdit := ⟨He.ga K "BadEdit", glo_mg X G g_BadEdit, exK_of eG e_BadEdit, x_BadEdit⟩
    c_BadScope := ⟨He.ga K "BadScope", glo_mg X G g_BadScope, exK_of eG e_BadScope, x_BadScope⟩
    c_BadCaller := ⟨He.ga K "BadCaller", glo_mg X G g_BadCaller, exK_of eG e_BadCaller, x_BadCaller⟩
    c_BadQuestion := ⟨He.ga K "BadQuestion", glo_mg X G g_BadQuestion, exK_of eG e_BadQuestion, x_BadQuestion⟩
    c_BadBench := ⟨He.ga K "BadBench", glo_mg X G g_BadBench, exK_of eG e_BadBench, x_BadBench⟩
    c_NothingToUndo := ⟨He.ga K "NothingToUndo", glo_mg X G g_NothingToUndo, exK_of eG e_NothingToUndo, x_NothingToUndo⟩
    c_Failed := ⟨He.ga K "Failed", glo_mg X G g_Failed, exK_of eG e_Failed, x_Failed⟩
    d_l_tape := ⟨He.ga K "_law_tape", d_l_tape, F_l_tape, glo_mg X G g_l_tape, F_l_tape.binds (ps := ["_law_script", "_law_k"]) (fun _ _ _ _ _ _ us hl => match us, hl with | [_, _], _ => rfl)⟩
    d_l_draw := ⟨He.ga K "_law_draw", d_l_draw, F_l_draw, glo_mg X G g_l_draw, F_l_draw.binds (ps := ["_law_tape_here", "_law_many"]) (fun _ _ _ _ _ _ us hl => match us, hl with | [_, _], _ => rfl)⟩
    d_l_first := ⟨He.ga K "_law_first", d_l_first, F_l_first, glo_mg X G g_l_first, F_l_first.binds (ps := ["_law_a", "_law_w", "_law_v"]) (fun _ _ _ _ _ _ us hl => match us, hl with | [_, _, _], _ => rfl)⟩
    d_l_first_fields := ⟨He.ga K "_law_first_fields", d_l_first_fields, F_l_first_fields, glo_mg X G g_l_first_fields, F_l_first_fields.binds (ps := ["_law_m"]) (fun _ _ _ _ _ _ us hl => match us, hl with | [_], _ => rfl)⟩
    d_l_second := ⟨He.ga K "_law_second", d_l_second, F_l_second, glo_mg X G g_l_second, F_l_second.binds (ps := ["_law_a", "_law_w", "_law_v"]) (fun _ _ _ _ _ _ us hl => match us, hl with | [_, _, _], _ => rfl)⟩
    d_l_second_fields := ⟨He.ga K "_law_second_fields", d_l_second_fields, F_l_second_fields, glo_mg X G g_l_second_fields, F_l_second_fields.binds (ps := ["_law_m"]) (fun _ _ _ _ _ _ us hl => match us, hl with | [_], _ => rfl)⟩
    d_l_third := ⟨He.ga K "_law_third", d_l_third, F_l_third, glo_mg X G g_l_third, F_l_third.binds (ps := ["_law_a", "_law_w", "_law_v", "_law_guard"]) (fun _ _ _ _ _ _ us hl => match us, hl with | [_, _, _, _], _ => rfl)⟩
    d_l_third_fields := ⟨He.ga K "_law_third_fields", d_l_third_fields, F_l_third_fields, glo_mg X G g_l_third_fields, F_l_third_fields.binds (ps := ["_law_m"]) (fun _ _ _ _ _ _ us hl => match us, hl with | [_], _ => rfl)⟩
    d_l_kinds := ⟨He.ga K "_law_kinds", d_l_kinds, F_l_kinds, glo_mg X G g_l_kinds, F_l_kinds.binds (ps := ["_law_e"]) (fun _ _ _ _ _ _ us hl => match us, hl with | [_], _ => rfl)⟩
    d_l_families := ⟨He.ga K "_law_families", d_l_families, F_l_families, glo_mg X G g_l_families, F_l_families.binds (ps := ["_law_e"]) (fun _ _ _ _ _ _ us hl => match us, hl with | [_], _ => rfl)⟩
    d_l_due_fields := ⟨He.ga K "_law_due_fields", d_l_due_fields, F_l_due_fields, glo_mg X G g_l_due_fields, F_l_due_fields.binds (ps := ["_law_a", "_law_w", "_law_v", "_law_guard"]) (fun _ _ _ _ _ _ us hl => match us, hl with | [_, _, _, _], _ => rfl)⟩
    d_l_places_right := ⟨He.ga K "_law_places_right", d_l_places_right, F_l_places_right, glo_mg X G g_l_places_right, F_l_places_right.binds (ps := ["_law_errors"]) (fun _ _ _ _ _ _ us hl => match us, hl with | [_], _ => rfl)⟩
    d_law := ⟨He.ga K "law", d_law, F_law, glo_mg X G g_law, F_law.binds (ps := ["_law_script"]) (fun _ _ _ _ _ _ us hl => match us, hl with | [_], _ => rfl)⟩
    z_len := z_len
    z_int := z_int
    z_range := z_range
    z_isinstance := z_isinstance
    z_ValueError := z_ValueError
    kt := t_kt
    ft := t_ft
    bt := t_bt }
  have e := hfa.symm.trans T.d_law.g
  cases e
  refine ⟨d_law, fun s v => ?_, fun base _ _ => ok_law T⟩
  obtain ⟨oc, od, kV, doc, pm, an, cdv, ct, osl, rfl, _, _⟩ := F_law.ex
  exact .of_eq rfl
end Own
open PySem PySem.W PySem.Calls PyProof.Rows
set_option maxRecDepth 100000 in
set_option maxHeartbeats 0 in
theorem PySem.Challenge.cw_bindspan_k00_errors_holds : PySem.Challenge.rw_bindspan_k00_errors.Holds := by
  w_on; o_law
  refine HandSHeadRun.head_any (r := OpenLaw.row PySem.Challenge.rw_bindspan_k00_errors) (q := view (OpenLaw.row PySem.Challenge.rw_bindspan_k00_errors).prog [60]) (H := Own.hookM Own.chkK Own.fnL) (ob := Own.obM Own.chkK Own.fnL) (M := 12500) (loose := Own.namesL) (d := HandSHeadRun.topDef (OpenLaw.row PySem.Challenge.rw_bindspan_k00_errors).prog 60) (kwd := []) Own.obM_eq
    (by kernel_rfl) (fun s => by kernel_rfl) Own.run (by kernel_rfl) (by kernel_rfl) (by kernel_rfl) (by rfl) (by first | assumption | decide +kernel) (by decide +kernel) ⟨rfl, rfl, rfl, rfl, rfl, by decide +kernel⟩ ?hw ?hc
  case hw => w_witness2
  case hc =>
    refine L2.walk_ofE (l := PySem.Challenge.rw_bindspan_k00_errors) (n := 63) (k := 4) (x := "_law_script") (CX := L2.CX0) rfl (by decide) (by kernel_rfl) ⟨rfl, by decide, by decide⟩ ?F (fun _ _ _ _ z => z)
    intro w mg fa h Y G hmg0
    obtain ⟨K, KX, c⟩ := Y
    have hmg : mg ("law" : PySem.Str) = some (.ref fa) := by
      have e : (HandSHeadRun.topDef (OpenLaw.row PySem.Challenge.rw_bindspan_k00_errors).prog 60).name = ("law" : PySem.Str) := by kernel_rfl
      rw [← e]
      exact hmg0
    obtain ⟨fd, hb, hF⟩ := Own.facts (P := (PySem.Challenge.rw_bindspan_k00_errors).prog) (w := w) KX G hmg c
    exact ⟨K, fd, Own.spLaw K, KX, hb, fun H a ns hl _ hS => Own.lawStart a ns hl hS, hF⟩

