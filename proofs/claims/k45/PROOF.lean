import PyProof.Rows.All
import Wide.All
import OpenK.AllK
import Wide.FinOn
import HandS.ForMost
import HandS.Deep
import HandS.Wide
import HandS.Evl
import HandS.ForExc
import HandS.ExcInit
import HandS.ExcField
import HandS.ExcIs
import HandS.ExcOwn
import HandS.ExcValue
import KE.KExcIs
import KE.KEqNest
import PyProof.NeKinds
import PyProof.Rows.EqBoolInt
import HandS.Head0
import HandS.Head1
import HandS.Head2
import HandS.HeadEnd
import HandS.HeadHook1
import HandS.More
import HandS.Rev
import HandS.DictComp
import HandS.ListItems
import HandS.Conv
import HandS.IsInst
import HandS.SlotsOwn
import HandS.Defaults
import KE.KOpsOwn
import HandS.OwnEq
import HandS.HeadHook2
import HandS.Style
import HandS.Walk
import HandS.ExcCtx
import HandS.CallSlots
import HandS.HotCalls
import HandS.ExcInitHot
import PyProof.ListTruth
import HandS.FStr
import HandS.RaiseMore
import PyProof.FitsInt
import HandS.Lambda
import HandS.WordsExc
import HandS.HeadWalk
import HandS.HeadHook4
import HandS.EndOwn
import HandS.Property
import HandS.Nested
import HandS.Finally
import HandS.RaiseOp
import HandS.TryOnly
import HandS.TryMany
import HandS.ExcBuiltin
import PyProof.AutoIntOps
import HandS.Zip
import PySem.Challenge.RW_bindspan_k45_whole_put_back
set_option Elab.async false
set_option linter.all false
set_option maxRecDepth 100000
set_option maxHeartbeats 4000000
/-! Rules and words that hold for any program. -/
namespace Own
open PySem PySem.Spec PyProof.Rows L2
/-- xs[i], read for xs[i] += e -/
def rGetL : V → V → Hp → VK → Prop := fun o i H Q => ∃ (p : Addr) (xs : List V) (j : Nat) (v : V), o = .ref p ∧ i = .int (j : Int) ∧ H p = some (.lst xs) ∧ xs[j]? = some v ∧ Q v H
theorem pget_list {X : Cx} : PGet X rGetL := by
  intro pins s σ H o i ov iv Q I ro ri h
  obtain ⟨p, xs, j, v, rfl, rfl, hp, hv, q⟩ := h
  cases ro
  obtain ⟨t, rfl⟩ := ri
  obtain ⟨its, n, r, ho, hz⟩ := I.lst hp
  obtain ⟨w, ew, rw'⟩ := r.get hv
  have hn := line63
  have hl := r.length
  have hj : j < its.length := (List.getElem?_eq_some_iff.mp ew).1
  refine wpAny_getItem_list (items := its.toArray) (x := w) ⟨_, ho, rfl, _, rfl⟩ ?_ ?_ ?_ ?_
  · omega
  · omega
  · simpa using ew
  · exact ⟨v, H, I, rw', q⟩

theorem cx_K {CX : CXT} {P : Program} {w : World} {K : PySem.W.Frag} {mg : Str → Option Value} {base : Heap} {N : List Str} {q : Str} {sc : Scope} {f : Addr} {cd : Value} {A : Around} {outer : List Env} {s : Shared} {H : Hp} {E : XK} : (cxOf CX P w K mg base N q sc f cd A outer s H E).nox.K = K := rfl
/-- a read of a list that stands at p -/
theorem cx_K2 {CX : CXT} {P : Program} {w : World} {K : PySem.W.Frag} {mg : Str → Option Value} {base : Heap} {N : List Str} {q : Str} {sc : Scope} {f : Addr} {cd : Value} {A : Around} {outer : List Env} {s : Shared} {H : Hp} {E : XK} : (cxOf CX P w K mg base N q sc f cd A outer s H E).K = K := rfl
theorem ixL_go {K : PySem.W.Frag} {p : Addr} {xs : List V} {i : Int} {v : V} {H : Hp} {Q : VK} (h : SqL K H p xs) (e : atI xs i = some v) (q : Q v H) : rIxL K (.ref p) (.int i) H Q := ⟨p, xs, i, v, rfl, rfl, h, e, q⟩
theorem ixM_go {K : PySem.W.Frag} {p : Addr} {xs : List V} {i : Int} {v : V} {H : Hp} {Q : VK} (h : H p = some (.lst xs)) (e : atI xs i = some v) (q : Q v H) : rIxL K (.ref p) (.int i) H Q := ⟨p, xs, i, v, rfl, rfl, .inl (.inl h), e, q⟩
theorem setL_go {p : Addr} {xs : List V} {i : Int} {v : V} {j : Nat} {H : Hp} {Q : Hp → Prop} (h : H p = some (.lst xs)) (e : ixN xs.length i = some j) (q : Q (upd H p (.lst (xs.set j v)))) : rSetL (.ref p) (.int i) v H Q := ⟨p, xs, i, j, rfl, rfl, h, e, q⟩
theorem getL_go {p : Addr} {xs : List V} {j : Nat} {v : V} {H : Hp} {Q : VK} (h : H p = some (.lst xs)) (e : xs[j]? = some v) (q : Q v H) : rGetL (.ref p) (.int (j : Int)) H Q := ⟨p, xs, j, v, rfl, rfl, h, e, q⟩
theorem call_intI {X : Cx} : CallR X (.type "int") (fun xs H Q => ∃ i, xs = [V.int i] ∧ Q (.int i) H) := fun pins s σ H vs us Q I r h => call_int1 pins s σ H vs us Q I r (Or.inl h)
theorem call_intB {X : Cx} : CallR X (.type "int") (fun xs H Q => ∃ k, xs = [V.bl k] ∧ Q (.int (if k then 1 else 0)) H) := fun pins s σ H vs us Q I r h => call_int1 pins s σ H vs us Q I r (Or.inr h)
theorem fmod_bd {x m : Int} (h : 0 < m) : 0 ≤ x.fmod m ∧ x.fmod m < m := by
  rw [Int.fmod_eq_emod_of_nonneg x (Int.le_of_lt h)]
  exact ⟨Int.emod_nonneg x (by omega), Int.emod_lt_of_pos x h⟩
end Own

set_option Elab.async false
set_option linter.all false
set_option maxRecDepth 100000
set_option maxHeartbeats 4000000
/-! Exceptions held as values: made, asked for a field, asked for their class. -/
namespace Own
open PySem PySem.Spec PyProof.Rows L2
section
variable {X : Cx} {C fI : Addr} {e o : Expr} {es : List Expr} {ta : TA} {te : TE} {p pos : Pos}
/-- C(e, ..) as a value -/
def tMkE (C : Addr) (sp : Sp) (ta : TA) : TE := fun σ H Q => ta σ H fun vs H1 => vs.length ≤ 1000 ∧ ∀ a, H1 a = none → sp (.ref a :: vs) (upd H1 a (exo a C none)) (fun v H2 => v = .non ∧ Q (.ref a) H2) fun _ _ _ => False
theorem pe_mkE {CX : CXT} {x : Str} {k : Nat} {fd : FuncData} {ps : List Str} {sp : Sp} (T : OexC X.K C) (iC : PySem.W.findIn X.K (.ref C) "__init__" = some (some (.ref fI))) (tI : PySem.W.typeIn X.K (.ref fI) = some (.type "function"))
    (F1 : FnOk X.prog X.w X.K X.mg X.base CX k fI fd ps sp) (hr : Room (k + 1) X.A) (hb : Binds X.K fd ps []) (hx : Passes CX X (fun _ _ _ => False)) (hg : Gl X x) (hm : X.mg x = some (.ref C)) (ha : PA X (e :: es) ta)
    (hdb : (x == ("__debug__" : Str)) = false := by decide) (he : starEach (e :: es) X.env = (false, eval e X.env) :: starEach es X.env := by rfl) (hpl : (backTo pos (starEach es X.env)).any (·.1) = false := by rfl) :
    PE X (.Call (.Name x p) (e :: es) [] pos) (tMkE C sp ta) := by
  refine ⟨fun pins s σ H Q I h => ?_⟩
  obtain ⟨nm, q, N, bs, bm, sn, sub, ab, col, dd, k0, k1, k2, k3, k5, hC, hbm⟩ := T.cls
  refine wpAny_Call_Name_kw (ld_glob I hg hm ?_ hdb)
  refine PySem.W.callWith_K (h₀ := X.base) I.ok.mod.kin T.kC (thn (ha.run pos pins s σ H _ I h) fun us s1 ⟨vs, H1, I1, r1, hz, q1⟩ => ⟨I1.kIn, ?_⟩) he hpl
  show wpAny _ _ (call (.ref C) us) _ _ _
  obtain ⟨hp, g, dr, tk, os⟩ := s1
  have hn : H1 (hp.objs.size + 1) = none := I1.hok.fresh (Nat.le_succ _)
  have hq := q1 (hp.objs.size + 1) hn
  have old : ∀ b o, hp.get? b = some o → ((hp.push (PySem.W.kdv_tup us)).push (PySem.HandSPX.excO C hp.objs.size)).get? b = some o := fun b o z => Heap.get?_push_of_some _ (Heap.get?_push_of_some _ z)
  have now : ((hp.push (PySem.W.kdv_tup us)).push (PySem.HandSPX.excO C hp.objs.size)).get? (hp.objs.size + 1) = some (PySem.HandSPX.excO C hp.objs.size) := by heap_get
  have I2 : Inv X pins σ (upd H1 (hp.objs.size + 1) (exo (hp.objs.size + 1) C none)) ⟨(hp.push (PySem.W.kdv_tup us)).push (PySem.HandSPX.excO C hp.objs.size), g, dr, tk, os⟩ := I1.laid (t' := tk) old (Nat.le_succ _) (exo_ok now)
  have r2 : Vals (V.ref (hp.objs.size + 1) :: vs) (Value.ref (hp.objs.size + 1) :: us) := .cons rfl r1
  have hl : (Value.ref (hp.objs.size + 1) :: us).length = ps.length := by
    have z := r2.length
    rw [F1.len _ _ _ _ hq] at z
    exact z.symm
  have hus : us.length ≤ sizeLine := by
    rw [← Paired.length r1, sizeLine_eq]
    omega
  have hbb := hb ⟨(hp.push (PySem.W.kdv_tup us)).push (PySem.HandSPX.excO C hp.objs.size), g, dr, tk, os⟩ (Value.ref (hp.objs.size + 1) :: us) I2.kIn (by simpa using hl)
  rw [List.append_nil] at hbb
  refine wpAny_call (PySem.HandSPX.call_own F.excBase_ValueError (fun Y => PySem.HandSPX.refsVE_contains Y bm hbm) (I1.kIn _ _ hC) (PySem.W.looks_findIn I1.kIn iC) (fun self => PySem.W.bind_fn I1.kIn self tI) hus
    (codeAny_mono (F1.run _ X.stack _ _ ⟨Value.ref (hp.objs.size + 1) :: us, []⟩ (Value.ref (hp.objs.size + 1) :: us) _ _ (fun _ _ _ => False) (hr.make C us []) (I2.env0.make C us []) hbb r2 hq) fun r s' hq' => ?_))
  cases r with
  | error er => exact hx pins σ _ _ er s' I2 hq'
  | ok fl =>
    cases fl with
    | ret u =>
      obtain ⟨v, H2, I3, rv, ev, q2⟩ := I2.after hq'
      subst ev
      exact ⟨rv, ⟨V.ref (hp.objs.size + 1), H2, I3, rfl, q2⟩⟩
    | next => exact False.elim hq'
    | brk => exact False.elim hq'
    | cont => exact False.elim hq'
/-- C(), no __init__ of its own -/
def tMkE0 (C : Addr) : TE := fun _ H Q => ∀ a, H a = none → Q (.ref a) (upd H a (exo a C none))
theorem pe_mkE0 {bmB : List Value} {B newId initId : String} {x : Str} (F : ExcBaseFacts B newId initId bmB) (q : PySem.W.excIn X.K C bmB newId = true) (gC : X.mg x = some (.ref C)) (kC : PySem.W.keepIn X.K (.ref C) = true) (hg : Gl X x)
    (hdb : (x == ("__debug__" : Str)) = false := by decide) : PE X (.Call (.Name x p) [] [] pos) (tMkE0 C) := by
  refine ⟨fun pins s σ H Q I h => ?_⟩
  refine wpAny_Call_Name_kw (ld_glob I hg gC ?_ hdb)
  refine PySem.W.callWith_K0 I.kIn kC ?_
  obtain ⟨bm, N, nm, qn, bs, hdct, sn, sub, ab, col, dd, k0, k1, k2, k3, k5, mN, hC, hN, hni, T⟩ := exc_obj I.kIn q
  obtain ⟨hp, g, d, t, os⟩ := s
  refine wpAny_call_exc_subT F T hC hN hni (fun h' a hm => ?_) (by show 0 ≤ sizeLine; exact Nat.zero_le _)
  have hn : H a = none := I.hok.gone hm.new
  obtain ⟨t, ht, _, _⟩ := hm.there
  exact ⟨.ref a, upd H a (exo a C none), I.laidN (t' := _) hm.keeps hm.new hn (exo_ok ht), rfl, h a hn⟩
/-- o.f, o an exception at a with its dict at dd -/
def tExf (K : PySem.W.Frag) (f : Str) (te : TE) : TE := fun σ H Q => te σ H fun x H1 => ∃ (a C dd : Addr) (fs : List (Str × V)) (v : V), x = .ref a ∧ H1 a = some (exo a C (some dd)) ∧ H1 dd = some (exd dd fs) ∧ XfC K C ∧ PySem.W.findIn K (.ref C) f = some none ∧ fs.lookup f = some v ∧ Q v H1
theorem pe_exf {f : Str} (he : PE X e te) (hb : attributeBase e f X.env (eval e X.env) = eval e X.env := by rfl) : PE X (.Attribute e f pos) (tExf X.K f te) := by
  refine ⟨fun pins s σ H Q I h => ?_⟩
  refine attr_of hb (thn (he.run pins s σ H _ I h) fun u s1 hh => ?_)
  obtain ⟨x, H1, I1, rx, a, C, dd, fs, v, ex, ea, ed, T, hno, l, q⟩ := hh
  subst ex
  obtain rfl : u = Value.ref a := rx
  obtain ⟨t1, ho⟩ := exo_at I1.hok ea
  obtain ⟨mA, hns, hr⟩ := exd_at I1.hok ed
  obtain ⟨od, hod, hl⟩ := lookIn_ns hns
  obtain ⟨w, hu, ru⟩ := RelO.some_of (v := v) (o := mA f) (by rw [← l]; exact hr f)
  have J : PySem.W.InstAt s1.heap a _ C (some od) := ⟨ho, rfl, rfl, hod⟩
  exact HandSPX.exc_get I1.kIn J T.ga T.gg T.exC (PySem.W.findObj_own T.hdC hno rfl (by rw [hl, hu])) (handed_of ru) ⟨v, H1, I1.tok _, ru, q⟩
/-- an exception stands at a: of the class at D, with the fields fs -/
def ExAt (H : Hp) (a D : Addr) (fs : List (Str × V)) : Prop := (H a = some (exo a D none) ∧ fs = []) ∨ ∃ dd, H a = some (exo a D (some dd)) ∧ H dd = some (exd dd fs)
/-- isinstance(e, c), e an exception -/
def rIsV (K : PySem.W.Frag) : List V → Hp → VK → Prop := fun xs H Q => ∃ (a D : Addr) (fs : List (Str × V)) (c : V) (cv : Value) (b : Bool), xs = [.ref a, c] ∧ ExAt H a D fs ∧ ExcC K D ∧ (∀ u, RelV c u → u = cv) ∧ PySem.W.kitOne K (.ref D) cv = some b ∧ Q (.bl b) H
theorem call_isV : CallR X (.builtin "isinstance") (rIsV X.K) := by
  intro pins s σ H xs us Q I r h
  obtain ⟨a, D, fs, c, cv, b, rfl, ha, C, hcv, e, q⟩ := h
  cases r with
  | cons rx rr =>
    cases rr with
    | cons rt rr =>
      cases rr
      cases rx
      have ec := hcv _ rt
      subst ec
      have cl : (PySem.W.clsIn X.K D).isSome = true := by
        obtain ⟨cd, hc, _⟩ := PySem.W.any_some C.hd
        rw [hc]; rfl
      have J : ∃ ox od, PySem.W.InstAt s.heap a ox D od := by
        rcases ha with ⟨ha, _⟩ | ⟨dd, ha, hd⟩
        · obtain ⟨t1, ho⟩ := exo_at I.hok ha
          exact ⟨_, none, ⟨ho, rfl, rfl, trivial⟩⟩
        · obtain ⟨t1, ho⟩ := exo_at I.hok ha
          obtain ⟨mA, hns, _⟩ := exd_at I.hok hd
          obtain ⟨od, hod, _⟩ := lookIn_ns hns
          exact ⟨_, some od, ⟨ho, rfl, rfl, hod⟩⟩
      obtain ⟨ox, od, J⟩ := J
      exact PySem.W.kia_one (PySem.W.kitx_exc cl C.hg C.hk C.hs C.ha C.hn C.ht C.hm) I.kIn J e (fun z => nomatch z) fun tk => ⟨.bl b, H, I.kept (t' := tk) fun _ _ z => z, rfl, q⟩
theorem rel_ref {C : Addr} : ∀ u, RelV (.ref C) u → u = Value.ref C := fun _ r => r
theorem rel_ty {n : String} : ∀ u, RelV (.ty n) u → u = Value.type n := fun _ r => r
end
end Own

set_option Elab.async false
set_option linter.all false
set_option maxRecDepth 100000
set_option maxHeartbeats 4000000
/-! What the written part says of an own exception class, as one truth value. -/
namespace Own
open PySem PySem.Spec PyProof.Rows L2
def exCls (K : PySem.W.Frag) (C : Addr) : Bool := match K.lookup C with
  | some ⟨.type "type", _, .cls cd, sl⟩ => (match cd.mro, sl.toList with
    | .ref C' :: bm, [_, _, _, _, some (.builtin n), _] => C' == C && (n == "ValueError.__new__" && (!cd.hasDel && (cd.hasDict && PySem.HandSPX.refsVE bm)))
    | _, _ => false)
  | _ => false
theorem exCls_ok {K : PySem.W.Frag} {C : Addr} (q : exCls K C = true) : ∃ nm q N bs bm sn sub ab col dd k0 k1 k2 k3 k5, K.lookup C = some (excClassObj nm q C N bs bm true sn sub ab col dd k0 k1 k2 k3 k5 "ValueError.__new__") ∧ PySem.HandSPX.refsVE bm = true := by
  unfold exCls at q
  split at q
  · rename_i dd cd sl ho
    split at q
    · rename_i C' bm k0 k1 k2 k3 n k5 hm hs
      simp only [Bool.and_eq_true, beq_iff_eq, Bool.not_eq_true'] at q
      obtain ⟨rfl, rfl, hdel, hdc, hr⟩ := q
      obtain ⟨nm, bs, mro, ns, qn, hd, sn, sub, ab, col, del⟩ := cd
      dsimp only at hm hdel hdc
      subst hm hdel hdc
      have hsl : sl = #[k0, k1, k2, k3, some (.builtin "ValueError.__new__"), k5] := by
        obtain ⟨l⟩ := sl
        simp only at hs
        rw [hs]
      subst hsl
      exact ⟨nm, qn, ns, bs, bm, sn, sub, ab, col, dd, k0, k1, k2, k3, k5, ho, hr⟩
    · cases q
  · cases q
def exB (K : PySem.W.Frag) (C : Addr) : Bool :=
  exCls K C && (decide (PySem.W.findIn K (.ref C) "__setattr__" = some (some (.builtin "object.__setattr__"))) && (decide (PySem.W.subIn K (.ref C) (.type "BaseException") = some true) && (decide (PySem.W.typeIn K (.ref C) = some (.type "type")) &&
  (PySem.W.keepIn K (.ref C) && (decide (PySem.W.findIn K (.ref C) "__getattribute__" = some (some (.builtin "BaseException.__getattribute__"))) && (decide (PySem.W.findIn K (.ref C) "__getattr__" = some none) && (PySem.W.hasDictIn K C &&
  (decide (PySem.W.findIn K (.ref C) "__class__" = some (some (.builtin "object.__class__"))) && decide (PySem.W.mroIn K C (.type "object") = some true)))))))))
/-- what any own exception class needs of the built-in ones -/
def exG (K : PySem.W.Frag) : Bool := decide (PySem.W.specialIn K (.builtin "object.__class__") "__get__" = some (some (.builtin "getset_descriptor.__get__"))) && decide (PySem.W.takesIn K (.builtin "object.__class__") = some true)
structure ExK (K : PySem.W.Frag) (C : Addr) : Prop where
  ox : OexC K C
  xf : XfC K C
  ec : ExcC K C
theorem exK_of {K : PySem.W.Frag} {C : Addr} (g : exG K = true) (q : exB K C = true) : ExK K C := by
  simp only [exB, exG, Bool.and_eq_true, decide_eq_true_eq] at q g
  obtain ⟨a1, a2, a3, a4, a5, a6, a7, a8, a9, a10⟩ := q
  exact ⟨⟨exCls_ok a1, a2, a3, a4, a5⟩, ⟨a6, a7, a3, a8⟩, ⟨a6, a7, a3, a8, a9, g.1, g.2, a10⟩⟩
/-- its __init__ at fi, its fields' names free in the class -/
def exI (K : PySem.W.Frag) (C fi : Addr) (fs : List Str) : Bool := decide (PySem.W.findIn K (.ref C) "__init__" = some (some (.ref fi))) && (decide (PySem.W.typeIn K (.ref fi) = some (.type "function")) && fs.all fun f => decide (PySem.W.findIn K (.ref C) f = some none))
structure ExI (K : PySem.W.Frag) (C fi : Addr) (fs : List Str) : Prop where
  ini : PySem.W.findIn K (.ref C) "__init__" = some (some (.ref fi))
  ty : PySem.W.typeIn K (.ref fi) = some (.type "function")
  no : ∀ f ∈ fs, PySem.W.findIn K (.ref C) f = some none
theorem exI_of {K : PySem.W.Frag} {C fi : Addr} {fs : List Str} (q : exI K C fi fs = true) : ExI K C fi fs := by
  simp only [exI, Bool.and_eq_true, decide_eq_true_eq, List.all_eq_true] at q
  exact ⟨q.1, q.2.1, q.2.2⟩
/-- what an __init__ promises that stores its one parameter, its two -/
def spE1 (C : Addr) (f : Str) : Sp := fun vs H Q _ => ∃ (a : Addr) (v : V), vs = [.ref a, v] ∧ H a = some (exo a C none) ∧ ∀ dx, H dx = none → dx ≠ a → Q .non (upd (upd H dx (exd dx [(f, v)])) a (exo a C (some dx)))
def spE2 (C : Addr) (f g : Str) : Sp := fun vs H Q _ => ∃ (a : Addr) (v u : V), vs = [.ref a, v, u] ∧ H a = some (exo a C none) ∧ ∀ dx, H dx = none → dx ≠ a → Q .non (upd (upd (upd H dx (exd dx [(f, v)])) a (exo a C (some dx))) dx (exd dx [(g, u), (f, v)]))
end Own

set_option Elab.async false
set_option linter.all false
set_option maxRecDepth 100000
set_option maxHeartbeats 4000000
/-! == and != of values that are built alike, empty dicts and shared objects within. -/
namespace Own
open PySem PySem.Spec PyProof.Rows L2
def plainV : V → Bool
  | .flt _ => false
  | .byt _ => false
  | _ => true
inductive Alike (K : PySem.W.Frag) (H : Hp) : Nat → V → V → Prop
  | same {n : Nat} {v : V} : plainV v = true → Alike K H n v v
  | lst {n : Nat} {p q : Addr} {xs ys : List V} : SqL K H p xs → SqL K H q ys → xs.length = ys.length → (∀ (i : Nat) x y, xs[i]? = some x → ys[i]? = some y → Alike K H n x y) → Alike K H (n + 1) (.ref p) (.ref q)
  | tup {n : Nat} {p q : Addr} {xs ys : List V} : SqT K H p xs → SqT K H q ys → xs.length = ys.length → (∀ (i : Nat) x y, xs[i]? = some x → ys[i]? = some y → Alike K H n x y) → Alike K H (n + 1) (.ref p) (.ref q)
  | emp {n : Nat} {p q : Addr} : H p = some (.dK []) → H q = some (.dK []) → Alike K H (n + 1) (.ref p) (.ref q)
theorem emp_of {h : Heap} {P : Program} {w : World} {H : Hp} {a : Addr} (ok : HOk P w H h) (e : H a = some (.dK [])) : (a == sysModules) = false ∧ ∀ (P' : Program) (w' : World), h.DictOf (intKind P' w') a [] := by
  obtain ⟨_, hs, vs, kv, o, es, ep, e1, e2, e3, e4, e5⟩ := ok a _ e
  cases kv
  exact ⟨hs, fun P' w' => by
    have hes : es.toList = [] := by
      cases hl : es.toList with
      | nil => rfl
      | cons y ys =>
        rw [hl] at e5
        exact absurd e5.1 (by intro z; cases z)
    have he : es = #[] := by
      cases es
      simp at hes
      rw [hes]
    subst he
    exact ⟨o, #[], ep, e1, e2, e3, (fun _ z => by simp at z), .nil, List.nodup_nil⟩⟩
section
variable {X : Cx} {pins : List (Addr × Obj)} {σ : L2.St} {H : Hp} {s : Shared}
theorem Alike.run (I : Inv X pins σ H s) : ∀ (n : Nat) (A : Around), A.units + n < cLine → ∀ (x y : V) (v u : Value), Alike X.K H n x y → RelV x v → RelV y u → SeqAt.EqAt A s v u true := by
  intro n
  induction n with
  | zero =>
    intro A hu x y v u a rx ry
    cases a with
    | same hp =>
      cases x with
      | non => cases rx; cases ry; exact .same _
      | bl b => cases rx; cases ry; exact .same _
      | int i => obtain ⟨t, rfl⟩ := rx; obtain ⟨t', rfl⟩ := ry; simpa using SeqAt.EqAt.int_int (A := A) (s := s) i t i t'
      | str i => obtain ⟨t, rfl⟩ := rx; obtain ⟨t', rfl⟩ := ry; simpa using SeqAt.EqAt.str_str (A := A) (s := s) i t i t'
      | byt b => cases hp
      | flt b => cases hp
      | ref a => cases rx; cases ry; exact .same _
      | ty m => cases rx; cases ry; exact .same _
  | succ n ih =>
    intro A hu x y v u a rx ry
    have items : ∀ (xs ys : List V) (its its2 : List Value), Vals xs its → Vals ys its2 → xs.length = ys.length → (∀ (i : Nat) x y, xs[i]? = some x → ys[i]? = some y → Alike X.K H n x y) →
        its.toArray.size = its2.toArray.size ∧ ∀ j (h1 : j < its.toArray.size) (h2 : j < its2.toArray.size), SeqAt.EqAt A.in1 s its.toArray[j] its2.toArray[j] ((fun _ => true) j) := by
      intro xs ys its its2 r1 r2 hl hi
      have l1 := r1.length
      have l2 := r2.length
      refine ⟨by simp; omega, fun j h1 h2 => ?_⟩
      have j1 : j < xs.length := by simp at h1; omega
      have j2 : j < ys.length := by omega
      obtain ⟨w1, e1, g1⟩ := r1.get (List.getElem?_eq_getElem j1)
      obtain ⟨w2, e2, g2⟩ := r2.get (List.getElem?_eq_getElem j2)
      have z1 : its.toArray[j] = w1 := by
        rw [List.getElem?_eq_getElem (by simpa using h1)] at e1
        simpa using Option.some.inj e1
      have z2 : its2.toArray[j] = w2 := by
        rw [List.getElem?_eq_getElem (by simpa using h2)] at e2
        simpa using Option.some.inj e2
      rw [z1, z2]
      exact ih A.in1 (by show A.units + 1 + n < cLine; omega) _ _ _ _ (hi j _ _ (List.getElem?_eq_getElem j1) (List.getElem?_eq_getElem j2)) g1 g2
    cases a with
    | same hp =>
      cases x with
      | non => cases rx; cases ry; exact .same _
      | bl b => cases rx; cases ry; exact .same _
      | int i => obtain ⟨t, rfl⟩ := rx; obtain ⟨t', rfl⟩ := ry; simpa using SeqAt.EqAt.int_int (A := A) (s := s) i t i t'
      | str i => obtain ⟨t, rfl⟩ := rx; obtain ⟨t', rfl⟩ := ry; simpa using SeqAt.EqAt.str_str (A := A) (s := s) i t i t'
      | byt b => cases hp
      | flt b => cases hp
      | ref a => cases rx; cases ry; exact .same _
      | ty m => cases rx; cases ry; exact .same _
    | lst h1 h2 hl hi =>
      rename_i p q xs ys
      cases rx; cases ry
      by_cases e : p = q
      · subst e; exact .same _
      obtain ⟨its, r1, ⟨o1, n1, ho1, hc1, _, hd1⟩, _⟩ := I.list h1
      obtain ⟨its2, r2, ⟨o2, n2, ho2, hc2, _, hd2⟩, _⟩ := I.list h2
      obtain ⟨hz, he⟩ := items xs ys its its2 r1 r2 hl hi
      have z := SeqAt.RcAt.lists (A := A) (s := s) (l := p) (b := q) (items := its.toArray) (items2 := its2.toArray) (e := fun _ => true) ⟨o1, ho1, hc1, _, hd1⟩ ⟨o2, ho2, hc2, _, hd2⟩ hz (by omega) he
      have t : (List.range its.toArray.size).all (fun _ => true) = true := by simp
      rw [t] at z
      exact .of_refs e z
    | tup h1 h2 hl hi =>
      rename_i p q xs ys
      cases rx; cases ry
      by_cases e : p = q
      · subst e; exact .same _
      obtain ⟨its, r1, ⟨o1, ho1, hc1, n1, hd1⟩, _⟩ := I.tuple h1
      obtain ⟨its2, r2, ⟨o2, ho2, hc2, n2, hd2⟩, _⟩ := I.tuple h2
      obtain ⟨hz, he⟩ := items xs ys its its2 r1 r2 hl hi
      have z := SeqAt.RcAt.tuples (A := A) (s := s) (l := p) (b := q) (items := its.toArray) (items2 := its2.toArray) (e := fun _ => true) ⟨o1, ho1, hc1, _, hd1⟩ ⟨o2, ho2, hc2, _, hd2⟩ (by omega) he
      have t : ((List.range (min its.toArray.size its2.toArray.size)).all (fun _ => true) && its.toArray.size == its2.toArray.size) = true := by simp at hz ⊢; exact hz
      rw [t] at z
      exact .of_refs e z
    | emp h1 h2 =>
      rename_i p q
      cases rx; cases ry
      by_cases e : p = q
      · subst e; exact .same _
      obtain ⟨s1, d1⟩ := emp_of I.hok h1
      obtain ⟨s2, d2⟩ := emp_of I.hok h2
      intro P' w'
      have t : PySem.W.EqTree P' w' s (n + 1) (.ref p) (.ref q) (([] : List (Int × Value)).length == ([] : List (Int × Value)).length && ([] : List (Int × Value)).all fun k => (valueAt ([] : List (Int × Value)) k.1).isSome && (fun _ => true) k.1) :=
        .dicts (e := fun _ => true) e s1 s2 (d1 P' w') (d2 P' w') (fun k v y hm _ => by cases hm)
      exact t.at A hu
/-- xs == ys, xs != ys for two lists built alike -/
def rEqA (K : PySem.W.Frag) (r : Bool) : R2 := fun x y H Q => ∃ (n : Nat) (p q : Addr) (xs ys : List V), n ≤ 60 ∧ x = .ref p ∧ y = .ref q ∧ SqL K H p xs ∧ SqL K H q ys ∧ xs.length = ys.length ∧ (∀ (i : Nat) x y, xs[i]? = some x → ys[i]? = some y → Alike K H n x y) ∧ Q (.bl r) H
theorem op_neA (hu : X.A.units + 64 < cLine) : OpR X (compareOp .NotEq) (rEqA X.K false) := by
  intro pins s σ H x y v u Q I rx ry h
  obtain ⟨n, p, q, xs, ys, hn, rfl, rfl, h1, h2, hl, hi, k⟩ := h
  cases rx; cases ry
  obtain ⟨its, r1, ⟨o1, n1, ho1, hc1, _, hd1⟩, _⟩ := I.list h1
  obtain ⟨its2, r2, ⟨o2, n2, ho2, hc2, _, hd2⟩, _⟩ := I.list h2
  have l1 := r1.length
  have l2 := r2.length
  have hz : its.toArray.size = its2.toArray.size := by simp; omega
  have z := SeqAt.RcNeAt.lists (A := X.A) (s := s) (l := p) (b := q) (items := its.toArray) (items2 := its2.toArray) (e := fun _ => true) ⟨o1, ho1, hc1, _, hd1⟩ ⟨o2, ho2, hc2, _, hd2⟩ hz (by omega) (fun j h1 h2 => by
    have j1 : j < xs.length := by simp at h1; omega
    have j2 : j < ys.length := by omega
    obtain ⟨w1, e1, g1⟩ := r1.get (List.getElem?_eq_getElem j1)
    obtain ⟨w2, e2, g2⟩ := r2.get (List.getElem?_eq_getElem j2)
    have z1 : its.toArray[j] = w1 := by
      rw [List.getElem?_eq_getElem (by simpa using h1)] at e1
      simpa using Option.some.inj e1
    have z2 : its2.toArray[j] = w2 := by
      rw [List.getElem?_eq_getElem (by simpa using h2)] at e2
      simpa using Option.some.inj e2
    rw [z1, z2]
    exact Alike.run I n X.A.in1 (by show X.A.units + 1 + n < cLine; omega) _ _ _ _ (hi j _ _ (List.getElem?_eq_getElem j1) (List.getElem?_eq_getElem j2)) g1 g2)
  have t : (List.range its.toArray.size).all (fun _ => true) = true := by simp
  rw [t] at z
  exact PySem.EqBoolInt.of_rcne z ⟨.bl false, H, I, rfl, k⟩
end
end Own

set_option Elab.async false
set_option linter.all false
set_option maxRecDepth 100000
set_option maxHeartbeats 4000000
/-! Where the text's defs and classes stand; the tape that every law draws from. -/
namespace Own
open PySem PySem.Spec PyProof.Rows L2
/-- a def of the top -/
structure DfT (K : PySem.W.Frag) (mg : Str → Option Value) (x : Str) (st : Stmt) (ps : List Str) where
  a : Addr
  d : FuncData
  F : Fun K x x st a d
  g : mg x = some (.ref a)
  b : Binds K d ps []
/-- an own exception class with an __init__ -/
structure ClT (K : PySem.W.Frag) (mg : Str → Option Value) (x q : Str) (st : Stmt) (ps fs : List Str) where
  C : Addr
  f : Addr
  d : FuncData
  m : mg x = some (.ref C)
  e : ExK K C
  n : ExI K C f fs
  F : Fun K "__init__" q st f d
  b : Binds K d ps []
/-- one without -/
structure Cl0 (K : PySem.W.Frag) (mg : Str → Option Value) (x : Str) where
  C : Addr
  m : mg x = some (.ref C)
  e : ExK K C
  x : PySem.W.excIn K C [.type "ValueError", .type "Exception", .type "BaseException", .type "object"] "ValueError.__new__" = true
theorem call_lenL {X : Cx} : CallR X (.builtin "len") (fun xs H Q => ∃ p ys, xs = [V.ref p] ∧ SqL X.K H p ys ∧ Q (.int ys.length) H) := fun pins s σ H vs us Q I r ⟨p, ys, e, h, q⟩ => call_len_seq pins s σ H vs us Q I r ⟨p, ys, e, .inl h, q⟩
theorem call_lenT {X : Cx} : CallR X (.builtin "len") (fun xs H Q => ∃ p ys, xs = [V.ref p] ∧ SqT X.K H p ys ∧ Q (.int ys.length) H) := fun pins s σ H vs us Q I r ⟨p, ys, e, h, q⟩ => call_len_seq pins s σ H vs us Q I r ⟨p, ys, e, .inr h, q⟩
/-- a tape: the cell, how often it was drawn from, whether the cell is of common size, its number; n more draws may come -/
structure TapeOk (n : Nat) (c m f k : Int) : Prop where
  small : f = 0 ∨ (f = 1 ∧ 0 ≤ c ∧ c < 10 ^ 18)
  lo : 0 ≤ m
  hi : m + n ≤ 1000000000
  klo : 0 ≤ k
  khi : k ≤ 1000000
def Tape (H : Hp) (t : Addr) (n : Nat) : Prop := ∃ c m f k, H t = some (.lst [.int c, .int m, .int f, .int k]) ∧ TapeOk n c m f k
theorem Tape.mono {H : Hp} {t : Addr} {n m : Nat} (h : Tape H t n) (le : m ≤ n) : Tape H t m := by
  obtain ⟨c, j, f, k, e, o⟩ := h
  exact ⟨c, j, f, k, e, ⟨o.small, o.lo, by have := o.hi; omega, o.klo, o.khi⟩⟩
/-- all but t stays -/
def ExT (t : Addr) (H H' : Hp) : Prop := ∀ b o, b ≠ t → H b = some o → H' b = some o
theorem ExT.refl (t : Addr) (H : Hp) : ExT t H H := fun _ _ _ e => e
theorem ExT.trans {t : Addr} {H H1 H2 : Hp} (a : ExT t H H1) (b : ExT t H1 H2) : ExT t H H2 := fun c o n e => b c o n (a c o n e)
theorem Same.exT {t : Addr} {H H' : Hp} (a : Same H H') : ExT t H H' := fun c o _ e => a c o e
theorem same_new {H : Hp} {p : Addr} {o : HO} (h : H p = none) : Same H (upd H p o) := fun b x e => by
  rw [upd_ne (ne_of_none e h)]
  exact e
theorem scal_ii {a b : Int} : scal (.int a) (.int b) = true := rfl
theorem scal_ss {a b : Str} : scal (.str a) (.str b) = true := rfl
theorem scal_bb {a b : Bool} : scal (.bl a) (.bl b) = true := rfl
theorem scal_is {a : Int} {b : Str} : scal (.int a) (.str b) = true := rfl
theorem scal_si {a : Str} {b : Int} : scal (.str a) (.int b) = true := rfl
theorem scal_nn : scal .non .non = true := rfl
/-- a new list, tuple, dict -/
def NewL (xs : List V) (H : Hp) (Q : VK) : Prop := xs.length ≤ sizeLine ∧ ∀ p, H p = none → Q (.ref p) (upd H p (.lst xs))
def NewT (xs : List V) (H : Hp) (Q : VK) : Prop := xs.length ≤ sizeLine ∧ ∀ p, H p = none → Q (.ref p) (upd H p (.tup xs))
def NewD (H : Hp) (Q : VK) : Prop := ∀ p, H p = none → Q (.ref p) (upd H p (.dK []))
theorem tLst_eq {t : TA} : tLst t = fun σ H Q => t σ H fun xs H1 => NewL xs H1 Q := rfl
theorem tTup_eq {t : TA} : tTup t = fun σ H Q => t σ H fun xs H1 => NewT xs H1 Q := rfl
theorem tDNewK_eq : tDNewK = fun _ H Q => NewD H Q := rfl
theorem newL_go {xs : List V} {H : Hp} {Q : VK} (k : ∀ p H', H p = none → Same H H' → H' p = some (.lst xs) → Q (.ref p) H') (hz : xs.length ≤ 1000000 := by (simp only [List.length_cons, List.length_nil, List.length_append, List.length_map]; omega)) : NewL xs H Q := ⟨Nat.le_trans hz (by decide), fun p hp => k p _ hp (same_new hp) upd_same⟩
theorem newT_go {xs : List V} {H : Hp} {Q : VK} (k : ∀ p H', H p = none → Same H H' → H' p = some (.tup xs) → Q (.ref p) H') (hz : xs.length ≤ 1000000 := by (simp only [List.length_cons, List.length_nil, List.length_append, List.length_map]; omega)) : NewT xs H Q := ⟨Nat.le_trans hz (by decide), fun p hp => k p _ hp (same_new hp) upd_same⟩
theorem newD_go {H : Hp} {Q : VK} (k : ∀ p H', H p = none → Same H H' → H' p = some (.dK []) → Q (.ref p) H') : NewD H Q := fun p hp => k p _ hp (same_new hp) upd_same
theorem cat_go {l b : Addr} {xs zs : List V} {H : Hp} {Q : VK} (h1 : H l = some (.lst xs)) (h2 : H b = some (.lst zs)) (k : ∀ p H', H p = none → Same H H' → H' p = some (.lst (xs ++ zs)) → Q (.ref p) H')
    (hz : xs.length + zs.length ≤ 1000000 := by (simp only [List.length_cons, List.length_nil, List.length_append, List.length_map]; omega)) : rCat (.ref l) (.ref b) H Q :=
  ⟨l, b, xs, zs, rfl, rfl, h1, h2, Nat.le_trans hz (by decide), fun p hp => k p _ hp (same_new hp) upd_same⟩
def spDraw : Sp := fun vs H Q _ => ∃ (t : Addr) (n : Nat) (m : Int), vs = [.ref t, .int m] ∧ Tape H t (n + 1) ∧ 0 < m ∧ m.natAbs < 2 ^ 1000 ∧ ∀ x H', 0 ≤ x → x < m → Tape H' t n → ExT t H H' → Q (.int x) H'
def spTape (K : PySem.W.Frag) : Sp := fun vs H Q _ => ∃ (a : Addr) (ns : List Int) (k : Int), vs = [.ref a, .int k] ∧ SqL K H a (ns.map V.int) ∧ 0 ≤ k ∧ k ≤ 1000000 ∧ ∀ t H', H t = none → Tape H' t 1000000000 → Same H H' → Q (.ref t) H'
end Own

set_option Elab.async false
set_option linter.all false
set_option maxRecDepth 100000
set_option maxHeartbeats 4000000
/-! Steps for exceptions held as values; rows of rows. -/
namespace Own
open PySem PySem.Spec PyProof.Rows L2
theorem ExAt.same {H H' : Hp} {a D : Addr} {fs : List (Str × V)} (h : ExAt H a D fs) (s : Same H H') : ExAt H' a D fs := by
  rcases h with ⟨h, e⟩ | ⟨dd, h, e⟩
  · exact .inl ⟨s _ _ h, e⟩
  · exact .inr ⟨dd, s _ _ h, s _ _ e⟩
theorem mkE1_go {H : Hp} {C : Addr} {f : Str} {v : V} {Q : VK} {E : XK} (k : ∀ a H', H a = none → Same H H' → ExAt H' a C [(f, v)] → Q (.ref a) H') :
    [v].length ≤ 1000 ∧ ∀ a, H a = none → spE1 C f [.ref a, v] (upd H a (exo a C none)) (fun u H2 => u = .non ∧ Q (.ref a) H2) E := by
  refine ⟨by show 1 ≤ 1000; decide, fun a ha => ⟨a, v, rfl, upd_same, fun dx h1 h2 => ⟨rfl, k a _ ha (fun b o e => ?_) (.inr ⟨dx, upd_same, ?_⟩)⟩⟩⟩
  · have h3 := ne_of_none e ha
    rw [upd_ne h3]
    have h4 : b ≠ dx := fun z => by
      rw [z] at e
      rw [upd_ne h2, e] at h1
      cases h1
    rw [upd_ne h4, upd_ne h3]
    exact e
  · rw [upd_ne h2, upd_same]
theorem mkE2_go {H : Hp} {C : Addr} {f g : Str} {v u : V} {Q : VK} {E : XK} (k : ∀ a H', H a = none → Same H H' → ExAt H' a C [(g, u), (f, v)] → Q (.ref a) H') :
    [v, u].length ≤ 1000 ∧ ∀ a, H a = none → spE2 C f g [.ref a, v, u] (upd H a (exo a C none)) (fun z H2 => z = .non ∧ Q (.ref a) H2) E := by
  refine ⟨by show 2 ≤ 1000; decide, fun a ha => ⟨a, v, u, rfl, upd_same, fun dx h1 h2 => ⟨rfl, k a _ ha (fun b o e => ?_) (.inr ⟨dx, ?_, upd_same⟩)⟩⟩⟩
  · have h3 := ne_of_none e ha
    have h4 : b ≠ dx := fun z => by
      rw [z] at e
      rw [upd_ne h2, e] at h1
      cases h1
    rw [upd_ne h4, upd_ne h3, upd_ne h4, upd_ne h3]
    exact e
  · rw [upd_ne h2.symm, upd_same]
theorem mkE0_go {H : Hp} {C : Addr} {Q : VK} (k : ∀ a H', H a = none → Same H H' → ExAt H' a C [] → Q (.ref a) H') : ∀ a, H a = none → Q (.ref a) (upd H a (exo a C none)) :=
  fun a ha => k a _ ha (same_new ha) (.inl ⟨upd_same, rfl⟩)
theorem mkE1t {C : Addr} {f : Str} {te : TE} {σ : L2.St} {H : Hp} {Q : VK} (k : te σ H fun v H1 => ∀ a H', H1 a = none → Same H1 H' → ExAt H' a C [(f, v)] → Q (.ref a) H') (mono : ∀ (R R' : VK), (∀ v H1, R v H1 → R' v H1) → te σ H R → te σ H R') :
    tMkE C (spE1 C f) (tCons te tNil) σ H Q := mono _ _ (fun _ _ h => mkE1_go h) k
theorem mkE2t {C : Addr} {f g : Str} {te tu : TE} {σ : L2.St} {H : Hp} {Q : VK} (k : te σ H fun v H1 => tu σ H1 fun u H2 => ∀ a H', H2 a = none → Same H2 H' → ExAt H' a C [(g, u), (f, v)] → Q (.ref a) H')
    (mono : ∀ H (R R' : VK), (∀ v H1, R v H1 → R' v H1) → te σ H R → te σ H R') (mono2 : ∀ H (R R' : VK), (∀ v H1, R v H1 → R' v H1) → tu σ H R → tu σ H R') :
    tMkE C (spE2 C f g) (tCons te (tCons tu tNil)) σ H Q := mono _ _ _ (fun _ _ h => mono2 _ _ _ (fun _ _ h => mkE2_go h) h) k
theorem mkE1v {C : Addr} {f : Str} {i : Nat} {v : V} {σ : L2.St} {H : Hp} {Q : VK} (h : σ[i]? = some (some v)) (k : ∀ a H', H a = none → Same H H' → ExAt H' a C [(f, v)] → Q (.ref a) H') : tMkE C (spE1 C f) (tCons (tVar i) tNil) σ H Q := ⟨v, h, mkE1_go k⟩
theorem mkE2v {C : Addr} {f g : Str} {i j : Nat} {v u : V} {σ : L2.St} {H : Hp} {Q : VK} (h : σ[i]? = some (some v)) (h2 : σ[j]? = some (some u)) (k : ∀ a H', H a = none → Same H H' → ExAt H' a C [(g, u), (f, v)] → Q (.ref a) H') :
    tMkE C (spE2 C f g) (tCons (tVar i) (tCons (tVar j) tNil)) σ H Q := ⟨v, h, u, h2, mkE2_go k⟩
def MK1 (C : Addr) (f : Str) (v : V) (H : Hp) (Q : VK) : Prop := [v].length ≤ 1000 ∧ ∀ a, H a = none → spE1 C f [.ref a, v] (upd H a (exo a C none)) (fun u H2 => u = .non ∧ Q (.ref a) H2) fun _ _ _ => False
def MK2 (C : Addr) (f g : Str) (v u : V) (H : Hp) (Q : VK) : Prop := [v, u].length ≤ 1000 ∧ ∀ a, H a = none → spE2 C f g [.ref a, v, u] (upd H a (exo a C none)) (fun z H2 => z = .non ∧ Q (.ref a) H2) fun _ _ _ => False
theorem mkE1u {C : Addr} {f : Str} {te : TE} {σ : L2.St} {H : Hp} {Q : VK} (k : te σ H fun v H1 => MK1 C f v H1 Q) : tMkE C (spE1 C f) (tCons te tNil) σ H Q := k
theorem mkE2u {C : Addr} {f g : Str} {te tu : TE} {σ : L2.St} {H : Hp} {Q : VK} (k : te σ H fun v H1 => tu σ H1 fun u H2 => MK2 C f g v u H2 Q) : tMkE C (spE2 C f g) (tCons te (tCons tu tNil)) σ H Q := k
theorem mk1_go {C : Addr} {f : Str} {v : V} {H : Hp} {Q : VK} (k : ∀ a H', H a = none → Same H H' → ExAt H' a C [(f, v)] → Q (.ref a) H') : MK1 C f v H Q := mkE1_go k
theorem mk2_go {C : Addr} {f g : Str} {v u : V} {H : Hp} {Q : VK} (k : ∀ a H', H a = none → Same H H' → ExAt H' a C [(g, u), (f, v)] → Q (.ref a) H') : MK2 C f g v u H Q := mkE2_go k
theorem mkE0t {C : Addr} {σ : L2.St} {H : Hp} {Q : VK} (k : ∀ a H', H a = none → Same H H' → ExAt H' a C [] → Q (.ref a) H') : tMkE0 C σ H Q := mkE0_go k
/-- ("w", ("bind", a)) | (("call", w, {}, ()),) -/
def RowAt (H : Hp) (r : V) (w a : V) : Prop := ∃ r0 t, r = .ref r0 ∧ H r0 = some (.tup [w, .ref t]) ∧ H t = some (.tup [.str "bind", a])
def ScAt (H : Hp) (s : V) (w : V) : Prop := ∃ s0 m d u, s = .ref s0 ∧ H s0 = some (.tup [.ref m]) ∧ H m = some (.tup [.str "call", w, .ref d, .ref u]) ∧ H d = some (.dK []) ∧ H u = some (.tup [])
theorem RowAt.same {H H' : Hp} (e : Same H H') {r w a : V} (h : RowAt H r w a) : RowAt H' r w a := by
  obtain ⟨r0, t, h1, h2, h3⟩ := h
  exact ⟨r0, t, h1, e _ _ h2, e _ _ h3⟩
theorem ScAt.same {H H' : Hp} (e : Same H H') {s w : V} (h : ScAt H s w) : ScAt H' s w := by
  obtain ⟨s0, m, d, u, h1, h2, h3, h4, h5⟩ := h
  exact ⟨s0, m, d, u, h1, e _ _ h2, e _ _ h3, e _ _ h4, e _ _ h5⟩
theorem rCat_go {l b : Addr} {xs zs : List V} {H : Hp} {Q : VK} (h1 : H l = some (.lst xs)) (h2 : H b = some (.lst zs)) (hz : xs.length + zs.length ≤ 1000000) (q : ∀ p, H p = none → Q (.ref p) (upd H p (.lst (xs ++ zs)))) : rCat (.ref l) (.ref b) H Q :=
  ⟨l, b, xs, zs, rfl, rfl, h1, h2, Nat.le_trans hz (by decide), q⟩
def ExF (K : PySem.W.Frag) (f : Str) (x : V) (H1 : Hp) (Q : VK) : Prop := ∃ (a C dd : Addr) (fs : List (Str × V)) (v : V), x = .ref a ∧ H1 a = some (exo a C (some dd)) ∧ H1 dd = some (exd dd fs) ∧ XfC K C ∧ PySem.W.findIn K (.ref C) f = some none ∧ fs.lookup f = some v ∧ Q v H1
theorem tExf_eq {K : PySem.W.Frag} {f : Str} {te : TE} : tExf K f te = fun σ H Q => te σ H fun x H1 => ExF K f x H1 Q := rfl
theorem exf_go {K : PySem.W.Frag} {H : Hp} {a D : Addr} {fs : List (Str × V)} {f : Str} {v : V} {Q : VK} (h : ExAt H a D fs) (X : XfC K D) (no : PySem.W.findIn K (.ref D) f = some none) (l : fs.lookup f = some v) (q : Q v H) : ExF K f (.ref a) H Q := by
  rcases h with ⟨h, e⟩ | ⟨dd, h, e⟩
  · rw [e] at l
    cases l
  · exact ⟨a, D, dd, fs, v, rfl, h, e, X, no, l, q⟩
theorem look1 {f : Str} {v : V} {r : List (Str × V)} : ((f, v) :: r).lookup f = some v := by simp [List.lookup]
theorem look2 {f g : Str} {v u : V} {r : List (Str × V)} (h : (f == g) = false) : ((g, u) :: (f, v) :: r).lookup f = some v := by simp [List.lookup, h]
theorem isV_go {K : PySem.W.Frag} {H : Hp} {a D : Addr} {fs : List (Str × V)} {c : V} {cv : Value} {b : Bool} {Q : VK} (h : ExAt H a D fs) (X : ExcC K D) (hc : ∀ u, RelV c u → u = cv) (e : PySem.W.kitOne K (.ref D) cv = some b) (q : Q (.bl b) H) : rIsV K [.ref a, c] H Q :=
  ⟨a, D, fs, c, cv, b, rfl, h, X, hc, e, q⟩
/-- exceptions at these addresses, of these classes, with these fields -/
def Errs (H : Hp) : List Addr → List (Addr × List (Str × V)) → Prop := Paired fun a d => ExAt H a d.1 d.2
theorem Errs.same {H H' : Hp} (s : Same H H') : ∀ {as : List Addr} {ds : List (Addr × List (Str × V))}, Errs H as ds → Errs H' as ds
  | _, _, .nil => .nil
  | _, _, .cons a r => .cons (a.same s) (Errs.same s r)
theorem Errs.snoc {H : Hp} {a : Addr} {d : Addr × List (Str × V)} (x : ExAt H a d.1 d.2) : ∀ {as : List Addr} {ds : List (Addr × List (Str × V))}, Errs H as ds → Errs H (as ++ [a]) (ds ++ [d])
  | _, _, .nil => .cons x .nil
  | _, _, .cons y r => .cons y (Errs.snoc x r)
theorem Errs.append {H : Hp} : ∀ {as bs : List Addr} {ds es : List (Addr × List (Str × V))}, Errs H as ds → Errs H bs es → Errs H (as ++ bs) (ds ++ es)
  | _, _, _, _, .nil, s => s
  | _, _, _, _, .cons a r, s => .cons a (Errs.append r s)
theorem Errs.len {H : Hp} {as : List Addr} {ds : List (Addr × List (Str × V))} (h : Errs H as ds) : as.length = ds.length := Paired.length h
theorem Errs.get {H : Hp} : ∀ {as : List Addr} {ds : List (Addr × List (Str × V))} {i : Nat} {d : Addr × List (Str × V)}, Errs H as ds → ds[i]? = some d → ∃ a, as[i]? = some a ∧ ExAt H a d.1 d.2
  | _, _, _, _, .nil, e => by simp at e
  | _, _, 0, _, .cons a _, e => by simp at e; subst e; exact ⟨_, rfl, a⟩
  | _, _, i + 1, _, .cons _ r, e => by
    obtain ⟨b, h1, h2⟩ := Errs.get (i := i) r (by simpa using e)
    exact ⟨b, by simpa using h1, h2⟩
/-- lists at these addresses hold these rows -/
def Rows (H : Hp) : List Addr → List (List V) → Prop := Paired fun a vs => H a = some (.lst vs)
theorem Rows.same {H H' : Hp} (s : Same H H') : ∀ {as : List Addr} {ds : List (List V)}, Rows H as ds → Rows H' as ds
  | _, _, .nil => .nil
  | _, _, .cons a r => .cons (s _ _ a) (Rows.same s r)
theorem Rows.snoc {H : Hp} {a : Addr} {d : List V} (x : H a = some (.lst d)) : ∀ {as : List Addr} {ds : List (List V)}, Rows H as ds → Rows H (as ++ [a]) (ds ++ [d])
  | _, _, .nil => .cons x .nil
  | _, _, .cons y r => .cons y (Rows.snoc x r)
theorem Rows.append {H : Hp} : ∀ {as bs : List Addr} {ds es : List (List V)}, Rows H as ds → Rows H bs es → Rows H (as ++ bs) (ds ++ es)
  | _, _, _, _, .nil, s => s
  | _, _, _, _, .cons a r, s => .cons a (Rows.append r s)
theorem Rows.len {H : Hp} {as : List Addr} {ds : List (List V)} (h : Rows H as ds) : as.length = ds.length := Paired.length h
theorem Rows.get {H : Hp} : ∀ {as : List Addr} {ds : List (List V)} {i : Nat} {a : Addr}, Rows H as ds → as[i]? = some a → ∃ d, ds[i]? = some d ∧ H a = some (.lst d)
  | _, _, _, _, .nil, e => by simp at e
  | _, _, 0, _, .cons a _, e => by simp at e; subst e; exact ⟨_, rfl, a⟩
  | _, _, i + 1, _, .cons _ r, e => by
    obtain ⟨b, h1, h2⟩ := Rows.get (i := i) r (by simpa using e)
    exact ⟨b, by simpa using h1, h2⟩
/-- which own exception is of which class, told as one table -/
def kitTab (K : PySem.W.Frag) (Ds : List Addr) (Cs : List Value) (f : Nat → Nat → Bool) : Bool := (List.range Ds.length).all fun i => (List.range Cs.length).all fun j => PySem.W.kitOne K (.ref (Ds.getD i 0)) (Cs.getD j .none) == some (f i j)
theorem kitTab_of {K : PySem.W.Frag} {Ds : List Addr} {Cs : List Value} {f : Nat → Nat → Bool} (h : kitTab K Ds Cs f = true) {i j : Nat} {D : Addr} {c : Value} (hi : Ds[i]? = some D) (hj : Cs[j]? = some c) : PySem.W.kitOne K (.ref D) c = some (f i j) := by
  unfold kitTab at h
  rw [List.all_eq_true] at h
  have h1 := h i (List.mem_range.mpr (List.getElem?_eq_some_iff.mp hi).1)
  rw [List.all_eq_true] at h1
  have h2 := h1 j (List.mem_range.mpr (List.getElem?_eq_some_iff.mp hj).1)
  rw [beq_iff_eq] at h2
  rw [List.getD_eq_getElem?_getD, hi, List.getD_eq_getElem?_getD, hj] at h2
  exact h2
/-- [e for j in range(n)], e a value that changes nothing -/
theorem lcR_go {ta : TA} {j : Nat} {te : TE} {σ : L2.St} {H : Hp} {Q : VK} {n : Nat} (g : Nat → V) (ht : ∀ R : List V → Hp → Prop, R [.int (n : Int)] H → ta σ H R) (hn : n ≤ 100000) (hw : ∀ x, wipe ((wipe σ [j]).set j (some x)) [j] = wipe σ [j])
    (he : ∀ (i : Nat) H' (R : VK), i < n → R (g i) H' → te ((wipe σ [j]).set j (some (.int (i : Int)))) H' R) (q : ∀ D H', H D = none → Same H H' → H' D = some (.lst ((List.range n).map g)) → Q (.ref D) H') : tLc (iRng1 ta) (gName j) tYes te [j] σ H Q := by
  refine ht _ ⟨n, rfl, by omega, by omega, fun D hD => ?_⟩
  rw [Int.toNat_natCast]
  refine lc_range (lo := 0) (n := n) (fun i H' => H' = upd H D (.lst ((List.range i).map g))) rfl ?_ ?_
  · rintro i H' hi rfl
    rw [Int.zero_add]
    refine ⟨hw _, ?_⟩
    show te _ _ _
    refine he i _ _ hi ⟨(List.range i).map g, upd_same, ?_, ?_⟩
    · rw [List.length_map, List.length_range]
      exact Nat.lt_of_lt_of_le hi (Nat.le_trans hn (by decide))
    · rw [upd_upd, List.range_succ, List.map_append]
      rfl
  · rintro H' rfl
    exact q D _ hD (same_new hD) upd_same
/-- for j in range(n) -/
theorem forR_go {ta : TA} {j : Nat} {tb : TS} {D : Ends} {σ : L2.St} {H : Hp} {n : Nat} (ht : ∀ R : List V → Hp → Prop, R [.int (n : Int)] H → ta σ H R) (hn : n ≤ 100000) (Pv : Nat → L2.St → Hp → Prop) (h0 : Pv 0 σ H)
    (hs : ∀ (i : Nat) σ' H', i < n → Pv i σ' H' → tb { D with nx := Pv (i + 1), ct := Pv (i + 1), bk := D.nx } (σ'.set j (some (.int (i : Int)))) H') (hd : ∀ σ' H', Pv n σ' H' → D.nx σ' H') : tFor (iRng1 ta) (gName j) tb D σ H := by
  refine ht _ ⟨n, rfl, by omega, by omega, ?_⟩
  rw [Int.toNat_natCast]
  refine for_range (lo := 0) (n := n) Pv h0 (fun i σ' H' hi p => ?_) hd
  rw [Int.zero_add]
  exact hs i σ' H' hi p
theorem eqA_same {K : PySem.W.Frag} {p q : Addr} {xs : List V} {H : Hp} {r : Bool} {Q : VK} (h1 : H p = some (.lst xs)) (h2 : H q = some (.lst xs)) (hp : ∀ x ∈ xs, plainV x = true) (k : Q (.bl r) H) : rEqA K r (.ref p) (.ref q) H Q :=
  ⟨0, p, q, xs, xs, by decide, rfl, rfl, .inl (.inl h1), .inl (.inl h2), rfl, fun i x y e1 e2 => by
    rw [e1] at e2
    cases e2
    exact .same (hp x (List.mem_of_getElem? e1)), k⟩
theorem plain_bls {n : Nat} {f : Nat → Bool} : ∀ x ∈ (List.range n).map fun j => V.bl (f j), plainV x = true := by
  intro x hx
  obtain ⟨j, _, rfl⟩ := List.mem_map.mp hx
  rfl
theorem Tape.same {H H' : Hp} {t : Addr} {n : Nat} (h : Tape H t n) (s : Same H H') : Tape H' t n := by
  obtain ⟨c, j, f, k, e, o⟩ := h
  exact ⟨c, j, f, k, s _ _ e, o⟩
theorem Tape.ne {H : Hp} {t p : Addr} {n : Nat} (h : Tape H t n) (e : H p = none) : p ≠ t := by
  obtain ⟨c, j, f, k, e2, o⟩ := h
  exact (ne_of_none e2 e).symm
theorem atI_ex {α : Type} {l : List α} {x : Int} (h0 : 0 ≤ x) (h1 : x < l.length) : ∃ v, v ∈ l ∧ atI l x = some v := by
  obtain ⟨j, rfl⟩ : ∃ j : Nat, x = (j : Int) := ⟨x.toNat, by omega⟩
  have hj : j < l.length := by omega
  exact ⟨l[j], List.getElem_mem hj, atI_nat (List.getElem?_eq_getElem hj)⟩
theorem ixS_go {z : Str} {i : Int} {c : Nat} {H : Hp} {Q : VK} (hz : z.length ≤ 1000000) (e : atI z.cps.toList i = some c) (q : Q (.str ⟨#[c]⟩) H) : rIxS (.str z) (.int i) H Q := ⟨z, i, c, rfl, rfl, Nat.le_trans hz (by decide), e, q⟩
/-- rows built alike -/
def AlikeRows (K : PySem.W.Frag) (H : Hp) (n : Nat) : List (List V) → List (List V) → Prop := Paired fun a b => Paired (Alike K H n) a b
theorem paired_get {α β : Type} {R : α → β → Prop} : ∀ {l : List α} {m : List β} {i : Nat} {x : α} {y : β}, Paired R l m → l[i]? = some x → m[i]? = some y → R x y
  | _, _, _, _, _, .nil, e, _ => by simp at e
  | _, _, 0, _, _, .cons a _, e, f => by simp at e f; subst e; subst f; exact a
  | _, _, i + 1, _, _, .cons _ r, e, f => paired_get (i := i) r (by simpa using e) (by simpa using f)
theorem paired_app {α β : Type} {R : α → β → Prop} : ∀ {l l' : List α} {m m' : List β}, Paired R l m → Paired R l' m' → Paired R (l ++ l') (m ++ m')
  | _, _, _, _, .nil, s => s
  | _, _, _, _, .cons a r, s => .cons a (paired_app r s)
theorem alike_refl {K : PySem.W.Frag} {H : Hp} {n : Nat} : ∀ {l : List V}, (∀ x ∈ l, plainV x = true) → Paired (Alike K H n) l l
  | [], _ => .nil
  | x :: l, h => .cons (.same (h x (List.mem_cons_self ..))) (alike_refl fun y hy => h y (List.mem_cons_of_mem _ hy))
theorem alikeRows_refl {K : PySem.W.Frag} {H : Hp} {n : Nat} : ∀ {l : List (List V)}, (∀ r ∈ l, ∀ x ∈ r, plainV x = true) → AlikeRows K H n l l
  | [], _ => .nil
  | r :: l, h => .cons (alike_refl (h r (List.mem_cons_self ..))) (alikeRows_refl fun y hy => h y (List.mem_cons_of_mem _ hy))
theorem eqA_rows {K : PySem.W.Frag} {H : Hp} {n : Nat} {p q : Addr} {as bs : List Addr} {R R' : List (List V)} {r : Bool} {Q : VK} (hn : n ≤ 50) (h1 : H p = some (.lst (as.map V.ref))) (h2 : H q = some (.lst (bs.map V.ref))) (g1 : Rows H as R) (g2 : Rows H bs R') (a : AlikeRows K H n R R')
    (k : Q (.bl r) H) : rEqA K r (.ref p) (.ref q) H Q := by
  have l1 := g1.len
  have l2 := g2.len
  have l3 : R.length = R'.length := Paired.length a
  refine ⟨n + 1, p, q, _, _, by omega, rfl, rfl, .inl (.inl h1), .inl (.inl h2), by rw [List.length_map, List.length_map]; omega, fun i x y e1 e2 => ?_, k⟩
  rw [List.getElem?_map] at e1 e2
  obtain ⟨a1, ea, rfl⟩ := Option.map_eq_some_iff.mp e1
  obtain ⟨b1, eb, rfl⟩ := Option.map_eq_some_iff.mp e2
  obtain ⟨d1, f1, k1⟩ := g1.get ea
  obtain ⟨d2, f2, k2⟩ := g2.get eb
  have z := paired_get a f1 f2
  exact .lst (.inl (.inl k1)) (.inl (.inl k2)) (Paired.length z) fun j x y u v => paired_get z u v
theorem RowAt.alike {K : PySem.W.Frag} {H : Hp} {n : Nat} {r r' w a : V} (hw : plainV w = true) (ha : plainV a = true) (h1 : RowAt H r w a) (h2 : RowAt H r' w a) : Alike K H (n + 2) r r' := by
  obtain ⟨r0, t, rfl, e1, e2⟩ := h1
  obtain ⟨r1, t1, rfl, f1, f2⟩ := h2
  refine .tup (.inl (.inl e1)) (.inl (.inl f1)) rfl fun i x y u v => ?_
  have z : Paired (Alike K H (n + 1)) [w, V.ref t] [w, V.ref t1] := .cons (.same hw) (.cons (.tup (.inl (.inl e2)) (.inl (.inl f2)) rfl fun i x y u v => by
    rw [u] at v; cases v
    refine .same ?_
    have m := List.mem_of_getElem? u
    simp only [List.mem_cons, List.not_mem_nil, or_false] at m
    rcases m with rfl | rfl
    · rfl
    · exact ha) .nil)
  exact paired_get z u v
theorem ScAt.alike {K : PySem.W.Frag} {H : Hp} {n : Nat} {s s' w : V} (hw : plainV w = true) (h1 : ScAt H s w) (h2 : ScAt H s' w) : Alike K H (n + 3) s s' := by
  obtain ⟨s0, m, d, u, rfl, e1, e2, e3, e4⟩ := h1
  obtain ⟨s1, m1, d1, u1, rfl, f1, f2, f3, f4⟩ := h2
  refine .tup (.inl (.inl e1)) (.inl (.inl f1)) rfl fun i x y a b => ?_
  have z2 : Paired (Alike K H (n + 1)) [V.str "call", w, V.ref d, V.ref u] [V.str "call", w, V.ref d1, V.ref u1] :=
    .cons (.same rfl) (.cons (.same hw) (.cons (.emp e3 f3) (.cons (.tup (.inl (.inl e4)) (.inl (.inl f4)) rfl fun i x y a b => by simp at a) .nil)))
  have z : Paired (Alike K H (n + 2)) [V.ref m] [V.ref m1] := .cons (.tup (.inl (.inl e2)) (.inl (.inl f2)) rfl fun i x y a b => paired_get z2 a b) .nil
  exact paired_get z a b
theorem draw_go {t : Addr} {n : Nat} {m : Int} {H : Hp} {Q : VK} {E : XK} (ht : Tape H t (n + 1)) (m0 : 0 < m) (mb : m.natAbs < 2 ^ 1000) (k : ∀ x H', 0 ≤ x → x < m → Tape H' t n → ExT t H H' → Q (.int x) H') : spDraw [.ref t, .int m] H Q E := ⟨t, n, m, rfl, ht, m0, mb, k⟩
theorem disp1_go {i j : Nat} {x : Str} {v : V} {σ : L2.St} {H : Hp} {Q : VK} (hk : σ[i]? = some (some (.str x))) (hv : σ[j]? = some (some v)) (k : ∀ p H', H p = none → Same H H' → Q (.ref p) H') : tDisp [(tVar i, tVar j)] σ H Q := by
  intro p hp
  refine ⟨_, hk, _, hv, upd_same, [(Sum.inr x, v)], rfl, (by show 1 ≤ 15; decide), k p _ hp ?_⟩
  rw [upd_upd]
  exact same_new hp
theorem al1 {K : PySem.W.Frag} {H : Hp} {n : Nat} {x : V} (h : plainV x = true) : Paired (Alike K H n) [x] [x] := .cons (.same h) .nil
theorem al2 {K : PySem.W.Frag} {H : Hp} {n : Nat} {x y : V} (h : plainV x = true) (h2 : plainV y = true) : Paired (Alike K H n) [x, y] [x, y] := .cons (.same h) (.cons (.same h2) .nil)
theorem lst_cast {H : Hp} {p : Addr} {xs ys : List V} (h : H p = some (.lst xs)) (e : xs = ys) : H p = some (.lst ys) := by rw [h, e]
end Own

set_option Elab.async false
set_option linter.all false
set_option maxRecDepth 100000
set_option maxHeartbeats 4000000
/-! What the top has left, read by one look: a truth value over the written part, and the defs' function objects. -/
namespace Own
open PySem PySem.Spec PyProof.Rows L2
def obsM (chk : PySem.W.Frag → Bool) (fn : List He.FnD) (K : PySem.W.Frag) : He.Al := (chk K && fn.all fun d => (He.Fa.code d.at_ d.qual).ok K, fn.map fun d => He.fnObs K d.at_)
def hookM (chk : PySem.W.Frag → Bool) (fn : List He.FnD) : PySem.W.Hook where
  α := He.Al
  obs := fun s => obsM chk fn (He.frG s.heap.get? (List.range s.heap.objs.size))
  val := fun _ => He.valE fn
  says := fun _ h => ∃ K : PySem.W.Frag, K.In h ∧ obsM chk fn K = He.valE fn
  of := fun _ _ e => ⟨_, He.frG_in, e⟩
  keeps := fun _ _ _ ⟨K, hK, c⟩ k => ⟨K, PySem.W.Frag.In.keeps hK k, c⟩
def obM (chk : PySem.W.Frag → Bool) (fn : List He.FnD) (s : PySem.W.SharedT) : He.Al := obsM chk fn (He.frG (HandSHeadRun.getT s) (List.range s.n))
theorem obM_eq {chk : PySem.W.Frag → Bool} {fn : List He.FnD} (s : PySem.W.SharedT) : obM chk fn s = (hookM chk fn).obs s.abs := by
  have e : HandSHeadRun.getT s = s.abs.heap.get? := funext (HandSHeadRun.getT_eq s)
  have n : s.n = s.abs.heap.objs.size := (PySem.W.absHeap_size s.tree s.n s.life).symm
  show obsM chk fn (He.frG (HandSHeadRun.getT s) (List.range s.n)) = obsM chk fn (He.frG s.abs.heap.get? (List.range s.abs.heap.objs.size))
  rw [e, n]
section
variable {chk : PySem.W.Frag → Bool} {fn : List He.FnD} {K : PySem.W.Frag}
theorem saysM_chk (c : obsM chk fn K = He.valE fn) : chk K = true := (Bool.and_eq_true_iff.mp (show (chk K && fn.all fun d => (He.Fa.code d.at_ d.qual).ok K) = true from congrArg (fun z : He.Al => z.1) c)).1
/-- a def, as Fun wants it -/
theorem saysM_fun (c : obsM chk fn K = He.valE fn) (i : Nat) {d : He.FnD} (h : fn[i]? = some d) (kp : PySem.W.keepIn K (.ref (He.fAd K d.at_)) = true) :
    ∃ fd, ∃ (oc : Value) (od : Option Addr) (kV doc pm : Value) (an : Option Addr) (cdv ct : Value) (osl : Array (Option Value)), fd = PySem.W.fnOf d.name d.qual d.params d.body d.scope .none kV doc pm an cdv ct ∧ K.lookup (He.fAd K d.at_) = some ⟨oc, od, .func fd, osl⟩ ∧ PySem.W.codeIn K cdv d.qual = true ∧ PySem.W.keepIn K (.ref (He.fAd K d.at_)) = true := by
  have c2 := (Bool.and_eq_true_iff.mp (show (chk K && fn.all fun d => (He.Fa.code d.at_ d.qual).ok K) = true from congrArg (fun z : He.Al => z.1) c)).2
  have e : fn.map (fun d => He.fnObs K d.at_) = fn.map He.FnD.val := congrArg (fun z : He.Al => z.2) c
  have e2 : (fn.map fun d => He.fnObs K d.at_)[i]? = (fn.map He.FnD.val)[i]? := by rw [e]
  rw [List.getElem?_map, List.getElem?_map, h] at e2
  obtain ⟨oc, od, osl, kV, doc, pm, an, cdv, ct, l, cc⟩ := He.fn_ok (Option.some.inj e2) (List.all_eq_true.mp c2 d (List.mem_of_getElem? h))
  exact ⟨_, oc, od, kV, doc, pm, an, cdv, ct, osl, rfl, l, cc, kp⟩
end
/-- a def of the top by its name; a class's __init__ -/
def fnD (x : Str) (st : Stmt) : He.FnD := ⟨(x, none), x, x, defArgs st, defBody st, defScope st⟩
def inD (x qual : Str) (st : Stmt) : He.FnD := ⟨(x, some "__init__"), "__init__", qual, defArgs st, defBody st, defScope st⟩
theorem saysM_def {chk : PySem.W.Frag → Bool} {fn : List He.FnD} {K : PySem.W.Frag} (c : obsM chk fn K = He.valE fn) (i : Nat) {x : Str} {st : Stmt} (h : fn[i]? = some (fnD x st)) (kp : PySem.W.keepIn K (.ref (He.ga K x)) = true) : ∃ fd, Fun K x x st (He.ga K x) fd := by
  obtain ⟨fd, oc, od, kV, doc, pm, an, cdv, ct, osl, e, l, cc, k⟩ := saysM_fun c i h kp
  exact ⟨fd, ⟨oc, od, kV, doc, pm, an, cdv, ct, osl, e, l, cc⟩, k⟩
theorem saysM_ini {chk : PySem.W.Frag → Bool} {fn : List He.FnD} {K : PySem.W.Frag} (c : obsM chk fn K = He.valE fn) (i : Nat) {x qual : Str} {st : Stmt} (h : fn[i]? = some (inD x qual st)) (kp : PySem.W.keepIn K (.ref (He.ma K (He.ga K x) "__init__")) = true) :
    ∃ fd, Fun K "__init__" qual st (He.ma K (He.ga K x) "__init__") fd := by
  obtain ⟨fd, oc, od, kV, doc, pm, an, cdv, ct, osl, e, l, cc, k⟩ := saysM_fun c i h kp
  exact ⟨fd, ⟨oc, od, kV, doc, pm, an, cdv, ct, osl, e, l, cc⟩, k⟩
/-- the global x stands at its own address -/
def gloB (K : PySem.W.Frag) (x : Str) : Bool := decide (PySem.W.nsIn K mainGlobals x = some (some (.ref (He.ga K x))))
def freeB (K : PySem.W.Frag) (x : Str) : Bool := decide (PySem.W.nsIn K mainGlobals x = some none)
def ciB (K : PySem.W.Frag) (p : Str × List Str) : Bool := gloB K p.1 && (exB K (He.ga K p.1) && (exI K (He.ga K p.1) (He.ma K (He.ga K p.1) "__init__") p.2 && PySem.W.keepIn K (.ref (He.ma K (He.ga K p.1) "__init__"))))
def c0B (K : PySem.W.Frag) (x : Str) : Bool := gloB K x && (exB K (He.ga K x) && PySem.W.excIn K (He.ga K x) [.type "ValueError", .type "Exception", .type "BaseException", .type "object"] "ValueError.__new__")
def dfB (K : PySem.W.Frag) (x : Str) : Bool := gloB K x && PySem.W.keepIn K (.ref (He.ga K x))
theorem all_at {α : Type} {l : List α} {p : α → Bool} (h : l.all p = true) (i : Nat) {x : α} (e : l[i]? = some x) : p x = true := List.all_eq_true.mp h x (List.mem_of_getElem? e)
theorem and4 {a b c d : Bool} (h : (a && (b && (c && d))) = true) : a = true ∧ b = true ∧ c = true ∧ d = true := by
  simp only [Bool.and_eq_true] at h
  exact h
theorem and3 {a b c : Bool} (h : (a && (b && c)) = true) : a = true ∧ b = true ∧ c = true := by
  simp only [Bool.and_eq_true] at h
  exact h
theorem and2 {a b : Bool} (h : (a && b) = true) : a = true ∧ b = true := by
  simp only [Bool.and_eq_true] at h
  exact h
theorem glo_mg {K : PySem.W.Frag} {h : Heap} {mg : Str → Option Value} {x : Str} (X : K.In h) (G : h.Ns mainGlobals mg) (c : gloB K x = true) : mg x = some (.ref (He.ga K x)) := PySem.W.mg_of X G (of_decide_eq_true c)
theorem free_mg {K : PySem.W.Frag} {h : Heap} {mg : Str → Option Value} {x : Str} (X : K.In h) (G : h.Ns mainGlobals mg) (c : freeB K x = true) : mg x = none := PySem.W.mg_none_of X G (of_decide_eq_true c)
theorem saysM_all {chk : PySem.W.Frag → Bool} {fn : List He.FnD} {K : PySem.W.Frag} (c : obsM chk fn K = He.valE fn) : (fn.all fun d => (He.Fa.code d.at_ d.qual).ok K) = true := (Bool.and_eq_true_iff.mp (show (chk K && fn.all fun d => (He.Fa.code d.at_ d.qual).ok K) = true from congrArg (fun z : He.Al => z.1) c)).2
theorem obsM_join {c1 c2 : PySem.W.Frag → Bool} {f1 f2 : List He.FnD} {K : PySem.W.Frag} (a : obsM c1 f1 K = He.valE f1) (b : obsM c2 f2 K = He.valE f2) : obsM (fun K => c1 K && c2 K) (f1 ++ f2) K = He.valE (f1 ++ f2) := by
  have a1 := saysM_chk a
  have a2 := saysM_all a
  have a3 : f1.map (fun d => He.fnObs K d.at_) = f1.map He.FnD.val := congrArg (fun z : He.Al => z.2) a
  have b1 := saysM_chk b
  have b2 := saysM_all b
  have b3 : f2.map (fun d => He.fnObs K d.at_) = f2.map He.FnD.val := congrArg (fun z : He.Al => z.2) b
  refine Prod.ext ?_ ?_
  · show ((c1 K && c2 K) && (f1 ++ f2).all fun d => (He.Fa.code d.at_ d.qual).ok K) = true
    rw [List.all_append, a1, b1, a2, b2]
    rfl
  · show (f1 ++ f2).map (fun d => He.fnObs K d.at_) = (f1 ++ f2).map He.FnD.val
    rw [List.map_append, List.map_append, a3, b3]
/-- the run, looked at twice -/
theorem RJ {r : PySem.W.OpenRow} {q : Program} {c1 c2 : PySem.W.Frag → Bool} {f1 f2 : List He.FnD} {M : Nat} {loose : List Str} {w : World} (h1 : HandSHeadRun.RunEq r q (hookM c1 f1) (obM c1 f1) M loose w) (h2 : HandSHeadRun.RunEq r q (hookM c2 f2) (obM c2 f2) M loose w) : HandSHeadRun.RunEq r q (hookM (fun K => c1 K && c2 K) (f1 ++ f2)) (obM (fun K => c1 K && c2 K) (f1 ++ f2)) M loose w := by
  intro os
  have a := h1 os
  have b := h2 os
  revert a b
  generalize HandSHeadRun.endF _ _ _ _ _ = x
  intro a b
  cases x with
  | none => cases a
  | some s =>
    have a1 := Option.some.inj a
    have b1 := Option.some.inj b
    show some _ = some _
    exact congrArg some (Prod.ext (congrArg (fun z => z.1) a1) (Prod.ext (congrArg (fun z => z.2.1) a1) (obsM_join (congrArg (fun z => z.2.2) a1) (congrArg (fun z => z.2.2) b1))))
end Own

set_option Elab.async false
set_option linter.all false
set_option maxRecDepth 100000
set_option maxHeartbeats 4000000
/-! Words: their signs, slices, lists of texts. -/
namespace Own
open PySem PySem.Spec PyProof.Rows L2
def ltr (c : Nat) : Bool := decide (97 ≤ c) && decide (c ≤ 122)
def dgt (c : Nat) : Bool := decide (48 ≤ c) && decide (c ≤ 57)
def sgn (c : Nat) : Bool := ltr c || dgt c
def keptS : List Str := ["name", "flag", "slot", "func", "open", "own", "look", "bind", "call", "keep", "take", "shift", "run", "drop", "apart", "when", "held", "fail", "guard", "else", "after", "end", "with", "of", "on", "off"]
/-- a word; one that begins with a letter; an identifier -/
def isWord (x : Str) : Bool := decide (1 ≤ (TL.tl x).length) && decide ((TL.tl x).length ≤ 12) && (TL.tl x).all sgn
def headLtr (x : Str) : Bool := match TL.tl x with
  | [] => false
  | c :: _ => ltr c
def isIdent (x : Str) : Bool := isWord x && headLtr x && !keptS.contains x
def Spell (x : Str) : Prop := isWord x = true ∧ headLtr x = true
theorem word_len {x : Str} (h : isWord x = true) : 1 ≤ x.length ∧ x.length ≤ 12 := by
  simp only [isWord, Bool.and_eq_true, decide_eq_true_eq] at h
  rw [TL.len_tl]
  exact h.1
theorem word_all {x : Str} (h : isWord x = true) : (TL.tl x).all sgn = true := by
  simp only [isWord, Bool.and_eq_true, decide_eq_true_eq] at h
  exact h.2
theorem word_of {x : Str} (h1 : 1 ≤ (TL.tl x).length) (h2 : (TL.tl x).length ≤ 12) (h : (TL.tl x).all sgn = true) : isWord x = true := by
  simp only [isWord, Bool.and_eq_true, decide_eq_true_eq]
  exact ⟨⟨h1, h2⟩, h⟩
def signsS : Str := "abcdefghijklmnopqrstuvwxyz0123456789"
theorem signs_all : ∀ j < 36, (TL.tl signsS)[j]? = some (if j < 26 then 97 + j else 48 + (j - 26)) := by decide +kernel
theorem sgn_of_ltr {c : Nat} (h : ltr c = true) : sgn c = true := by simp [sgn, h]
theorem signs_at {x : Int} (h0 : 0 ≤ x) (h1 : x < 36) : ∃ c, atI (TL.tl signsS) x = some c ∧ sgn c = true ∧ (x < 26 → ltr c = true) := by
  obtain ⟨j, rfl⟩ : ∃ j : Nat, x = (j : Int) := ⟨x.toNat, by omega⟩
  have hj : j < 36 := by omega
  have e := signs_all j hj
  by_cases h : j < 26
  · rw [if_pos h] at e
    have l : ltr (97 + j) = true := by simp [ltr]; omega
    exact ⟨_, atI_nat e, sgn_of_ltr l, fun _ => l⟩
  · rw [if_neg h] at e
    refine ⟨_, atI_nat e, ?_, fun z => by omega⟩
    have : dgt (48 + (j - 26)) = true := by simp [dgt]; omega
    simp [sgn, this]
theorem tl_one (c : Nat) : TL.tl (⟨#[c]⟩ : Str) = [c] := rfl
theorem len_one (c : Nat) : (⟨#[c]⟩ : Str).length = 1 := rfl
theorem spell_one {c : Nat} (h : ltr c = true) : Spell ⟨#[c]⟩ := by
  refine ⟨word_of (by show 1 ≤ 1; decide) (by show 1 ≤ 12; decide) ?_, h⟩
  rw [tl_one]
  simp [sgn_of_ltr h]
theorem headLtr_app {x y : Str} (h : headLtr x = true) : headLtr (x ++ y) = true := by
  unfold headLtr at h ⊢
  rw [TL.tl_append]
  cases e : TL.tl x with
  | nil => rw [e] at h; cases h
  | cons c l => rw [e] at h; exact h
theorem spell_snoc {x : Str} {c : Nat} (h : Spell x) (hl : x.length ≤ 11) (hc : sgn c = true) : Spell (x ++ ⟨#[c]⟩) := by
  have l1 := word_len h.1
  refine ⟨word_of ?_ ?_ ?_, headLtr_app h.2⟩
  · rw [TL.tl_append, List.length_append, ← TL.len_tl]
    omega
  · rw [TL.tl_append, List.length_append, ← TL.len_tl, tl_one]
    show x.length + 1 ≤ 12
    omega
  · rw [TL.tl_append, List.all_append, word_all h.1, tl_one]
    simp [hc]
theorem len_app (x y : Str) : (x ++ y).length = x.length + y.length := by rw [TL.len_tl, TL.tl_append, List.length_append, ← TL.len_tl, ← TL.len_tl]
theorem kept_spell : ∀ z ∈ keptS, isWord z = true ∧ headLtr z = true ∧ z.length ≤ 5 := by decide +kernel
/-- x[:j] + c + x[j+1:] -/
theorem tl_cut_to (z : Str) (j : Nat) : TL.tl (cutS z none (some (j : Int))) = (TL.tl z).take j := by
  show ((z.cps.toList.drop (HT.sIx z.length 0 none)).take (HT.sIx z.length z.length (some (j : Int)) - HT.sIx z.length 0 none)) = _
  rw [HT.sIx_none, HT.sIx_nat, List.drop_zero, Nat.sub_zero]
  have e : z.length = (TL.tl z).length := TL.len_tl z
  by_cases h : j ≤ z.length
  · rw [Nat.min_eq_left h]
  · rw [Nat.min_eq_right (by omega), List.take_of_length_le (by show z.cps.toList.length ≤ _; rw [e]; exact Nat.le_refl _), List.take_of_length_le (by omega)]
theorem tl_cut_from (z : Str) (j : Nat) : TL.tl (cutS z (some (j : Int)) none) = (TL.tl z).drop j := by
  show ((z.cps.toList.drop (HT.sIx z.length 0 (some (j : Int)))).take (HT.sIx z.length z.length none - HT.sIx z.length 0 (some (j : Int)))) = _
  rw [HT.sIx_none, HT.sIx_nat]
  have e : z.length = (TL.tl z).length := TL.len_tl z
  by_cases h : j ≤ z.length
  · rw [Nat.min_eq_left h, List.take_of_length_le]
    rw [List.length_drop]
    show (TL.tl z).length - j ≤ _
    omega
  · rw [Nat.min_eq_right (by omega)]
    have h1 : (TL.tl z).drop j = [] := List.drop_eq_nil_of_le (by omega)
    rw [h1]
    simp
theorem spell_put {x : Str} {c j : Nat} (h : Spell x) (hj : j < x.length) (hc : ltr c = true) : Spell (cutS x none (some (j : Int)) ++ ⟨#[c]⟩ ++ cutS x (some ((j : Int) + 1)) none) := by
  have l1 := word_len h.1
  have el : x.length = (TL.tl x).length := TL.len_tl x
  have e : TL.tl (cutS x none (some (j : Int)) ++ ⟨#[c]⟩ ++ cutS x (some ((j : Int) + 1)) none) = (TL.tl x).take j ++ [c] ++ (TL.tl x).drop (j + 1) := by
    rw [TL.tl_append, TL.tl_append, tl_cut_to, tl_one]
    have e2 : ((j : Int) + 1) = ((j + 1 : Nat) : Int) := by omega
    rw [e2, tl_cut_from]
  have all := word_all h.1
  rw [List.all_eq_true] at all
  refine ⟨word_of ?_ ?_ ?_, ?_⟩
  · rw [e, List.length_append, List.length_append]
    show 1 ≤ _ + 1 + _
    omega
  · rw [e, List.length_append, List.length_append, List.length_take, List.length_drop]
    show _ + 1 + _ ≤ 12
    omega
  · rw [e, List.all_append, List.all_append, Bool.and_eq_true, Bool.and_eq_true]
    exact ⟨⟨List.all_eq_true.mpr fun y hy => all y (List.mem_of_mem_take hy), by simp [sgn_of_ltr hc]⟩, List.all_eq_true.mpr fun y hy => all y (List.mem_of_mem_drop hy)⟩
  · unfold headLtr
    rw [e]
    cases j with
    | zero => exact hc
    | succ j =>
      have hd := h.2
      unfold headLtr at hd
      cases e3 : TL.tl x with
      | nil => rw [e3] at hd; cases hd
      | cons d l => rw [e3] at hd; exact hd
/-! ### lists of texts -/
theorem inV_strs {x : Str} : ∀ {l : List Str}, inV (.str x) (l.map V.str) = l.contains x
  | [] => rfl
  | y :: l => by
    have ih := inV_strs (x := x) (l := l)
    unfold inV at ih ⊢
    rw [List.map_cons, List.any_cons, ih, List.contains_cons]
    show (y == x || _) = (x == y || _)
    by_cases h : x = y
    · subst h; simp
    · have h2 : ¬ y = x := fun z => h z.symm
      have a : (x == y) = false := by simpa using h
      have b : (y == x) = false := by simpa using h2
      rw [a, b]
theorem flat_strs : ∀ {l : List Str}, (l.map V.str).all flatV = true
  | [] => rfl
  | _ :: l => by rw [List.map_cons, List.all_cons, flat_strs] <;> rfl
theorem inS_go {K : PySem.W.Frag} {neg : Bool} {x : Str} {p : Addr} {l : List Str} {H : Hp} {Q : VK} (h : SqL K H p (l.map V.str)) (q : Q (.bl (if neg then !l.contains x else l.contains x)) H) : rIn K neg (.str x) (.ref p) H Q :=
  ⟨p, _, rfl, .inl h, rfl, flat_strs, by rw [inV_strs]; exact q⟩
theorem strOk_of {x : Str} (h : ∀ c ∈ TL.tl x, c < 0x110000) : PyData.strOk x = true := by
  unfold PyData.strOk
  rw [← Array.all_toList, List.all_eq_true]
  intro c hc
  exact decide_eq_true (h c hc)
theorem word_ok {x : Str} (h : isWord x = true) : PyData.strOk x = true := by
  refine strOk_of fun c hc => ?_
  have a := word_all h
  rw [List.all_eq_true] at a
  have b := a c hc
  simp only [sgn, ltr, dgt, Bool.or_eq_true, Bool.and_eq_true, decide_eq_true_eq] at b
  omega
theorem strs_shaped (l : List Str) (h : ∀ x ∈ l, PyData.strOk x = true) : SeqAt.shaped (.list (l.map PyData.str)) = true := by
  have a : ∀ l : List Str, (∀ x ∈ l, PyData.strOk x = true) → PyData.canLayAll0 (l.map PyData.str) = true := by
    intro l
    induction l with
    | nil => intro _; rfl
    | cons x l ih =>
      intro h
      simp only [List.map_cons, PyData.canLayAll0, PyData.canLay0, ih fun y hy => h y (List.mem_cons_of_mem _ hy), h x (List.mem_cons_self ..), Bool.and_self]
  have b : ∀ l : List Str, PyData.depthAll (l.map PyData.str) ≤ 1 := by
    intro l
    induction l with
    | nil => simp [PyData.depthAll]
    | cons x l ih => simp only [List.map_cons, PyData.depthAll, PyData.depth]; omega
  show (PyData.canLay0 (.list (l.map PyData.str)) && decide (PyData.depth (.list (l.map PyData.str)) ≤ 64)) = true
  rw [Bool.and_eq_true]
  refine ⟨by simp only [PyData.canLay0]; exact a l h, decide_eq_true ?_⟩
  simp only [PyData.depth]
  have := b l
  omega
theorem dp_strs {K : PySem.W.Frag} {H : Hp} : ∀ (l : List Str), DpAll K H (l.map V.str) (l.map PyData.str)
  | [] => .nil
  | x :: l => .cons (.str x) (dp_strs l)
/-- used != [] -/
theorem neNil_go {K : PySem.W.Frag} {p e : Addr} {l : List Str} {H : Hp} {Q : VK} (h : SqL K H p (l.map V.str)) (he : SqL K H e []) (ho : ∀ x ∈ l, PyData.strOk x = true) (q : Q (.bl (!l.isEmpty)) H) : rNeD K (.ref p) (.ref e) H Q := by
  refine ⟨.list (l.map .str), .list [], .lst h (dp_strs l), .lst he .nil, strs_shaped l ho, strs_shaped [] (by simp), ?_⟩
  have z : PyData.eqv (.list (l.map PyData.str)) (.list []) = l.isEmpty := by
    cases l with
    | nil => simp [PyData.eqv, PyData.eqvAll]
    | cons x l => simp [PyData.eqv, PyData.eqvAll]
  rw [z]
  exact q
theorem newS_go {ys : List Str} {H : Hp} {Q : VK} (k : ∀ p H', H p = none → Same H H' → H' p = some (.lst (ys.map V.str)) → Q (.ref p) H') : rNewStrs ys H Q := fun p hp => k p _ hp (same_new hp) upd_same
theorem cut_go {t u : TS} {D : Ends} {σ : L2.St} {H : Hp} (Mid : L2.St → Hp → Prop) (h : t { D with nx := Mid } σ H) (k : ∀ σ' H', Mid σ' H' → u D σ' H') : Evl.tCut t u D σ H := ⟨Mid, h, k⟩
theorem ExT.same {t : Addr} {H H1 H2 : Hp} (a : ExT t H H1) (s : Same H1 H2) : ExT t H H2 := a.trans (Same.exT s)
theorem atI_map {α β : Type} {f : α → β} {l : List α} {x : Int} {v : α} (h : atI l x = some v) : atI (l.map f) x = some (f v) := by
  unfold atI at h ⊢
  rw [List.length_map]
  cases e : ixN l.length x with
  | none => rw [e] at h; cases h
  | some j =>
    rw [e] at h
    have h' : l[j]? = some v := h
    show (l.map f)[j]? = some (f v)
    rw [List.getElem?_map, h']; rfl
end Own

set_option Elab.async false
set_option linter.all false
set_option maxRecDepth 100000
set_option maxHeartbeats 4000000
/-! Rules within a comprehension: their relation may not name the block. -/
namespace Own
open PySem PySem.Spec PyProof.Rows L2
section
variable {X : Cx} {s : Shared} {H : Hp} {scope : Scope} {cenv : Env} {fp : List Addr}
theorem ixB_list : IxR (X.blk s H scope cenv fp) (rIxL X.K) := ix_list
theorem ixB_tup : IxR (X.blk s H scope cenv fp) (rIxT X.K) := ix_tup
theorem ixB_seq : IxR (X.blk s H scope cenv fp) (rIx X.K) := ix_seq
theorem opB_in : OpR (X.blk s H scope cenv fp) (compareOp .In) (rIn X.K false) := op_in_seq
theorem opB_notIn : OpR (X.blk s H scope cenv fp) (compareOp .NotIn) (rIn X.K true) := op_notIn_seq
end
end Own

set_option Elab.async false
set_option linter.all false
set_option maxRecDepth 100000
set_option maxHeartbeats 4000000
/-! Trees as data: tuples within tuples, whatever else the heap does. -/
namespace Own
open PySem PySem.Spec PyProof.Rows L2
mutual
def Pl : PyData → Bool
  | .list _ => false
  | .dict _ => false
  | .tuple ds => PlAll ds
  | _ => true
def PlAll : List PyData → Bool
  | [] => true
  | d :: ds => Pl d && PlAll ds
end
def Tu (H H' : Hp) : Prop := ∀ a xs, Rd H a (.tup xs) → Rd H' a (.tup xs)
theorem Tu.refl (H : Hp) : Tu H H := fun _ _ h => h
theorem Tu.trans {H H1 H2 : Hp} (a : Tu H H1) (b : Tu H1 H2) : Tu H H2 := fun p xs h => b p xs (a p xs h)
theorem Same.tu {H H' : Hp} (s : Same H H') : Tu H H' := fun a xs h => by
  rcases h with h | ⟨o, h⟩
  · exact .inl (s _ _ h)
  · exact .inr ⟨o, s _ _ h⟩
theorem ExT.tu {t : Addr} {n : Nat} {H H' : Hp} (v : ExT t H H') (ht : Tape H t n) : Tu H H' := fun a xs h => by
  obtain ⟨c, m, f, k, e, _⟩ := ht
  have hne : a ≠ t := by
    rintro rfl
    rcases h with h | ⟨o, h⟩ <;> (rw [e] at h; cases h)
  rcases h with h | ⟨o, h⟩
  · exact .inl (v _ _ hne h)
  · exact .inr ⟨o, v _ _ hne h⟩
theorem SqT.tu {K : PySem.W.Frag} {H H' : Hp} {a : Addr} {xs : List V} (t : Tu H H') (h : SqT K H a xs) : SqT K H' a xs := by
  rcases h with h | h
  · exact .inl (t _ _ h)
  · exact .inr h
theorem Dp.keep {K : PySem.W.Frag} {H H' : Hp} (t : Tu H H') {v : V} {d : PyData} (h : Dp K H v d) : Pl d = true → Dp K H' v d :=
  Dp.rec (motive_1 := fun v d _ => Pl d = true → Dp K H' v d) (motive_2 := fun vs ds _ => PlAll ds = true → DpAll K H' vs ds)
    (fun _ => .non) (fun b _ => .bl b) (fun i _ => .int i) (fun x _ => .str x) (fun _ _ _ h => by simp [Pl] at h) (fun hs _ ih h => .tup (SqT.tu t hs) (ih (by simpa [Pl] using h)))
    (fun _ => .nil) (fun _ _ i1 i2 h => by
      simp only [PlAll, Bool.and_eq_true] at h
      exact .cons (i1 h.1) (i2 h.2)) h
theorem DpAll.keep {K : PySem.W.Frag} {H H' : Hp} (t : Tu H H') : ∀ {vs : List V} {ds : List PyData}, DpAll K H vs ds → PlAll ds = true → DpAll K H' vs ds
  | _, _, .nil, _ => .nil
  | _, _, .cons a b, h => by
    simp only [PlAll, Bool.and_eq_true] at h
    exact .cons (Dp.keep t a h.1) (DpAll.keep t b h.2)
theorem Dp.tupD {K : PySem.W.Frag} {H : Hp} {v : V} {ds : List PyData} (h : Dp K H v (.tuple ds)) : ∃ a xs, v = .ref a ∧ SqT K H a xs ∧ DpAll K H xs ds := by
  cases h with
  | tup a b => exact ⟨_, _, rfl, a, b⟩
theorem Dp.strD {K : PySem.W.Frag} {H : Hp} {v : V} {x : Str} (h : Dp K H v (.str x)) : v = .str x := by
  cases h
  rfl
theorem DpAll.len {K : PySem.W.Frag} {H : Hp} : ∀ {vs : List V} {ds : List PyData}, DpAll K H vs ds → vs.length = ds.length
  | _, _, .nil => rfl
  | _, _, .cons _ b => by rw [List.length_cons, List.length_cons, DpAll.len b]
theorem DpAll.at {K : PySem.W.Frag} {H : Hp} : ∀ {vs : List V} {ds : List PyData} {i : Nat} {d : PyData}, DpAll K H vs ds → ds[i]? = some d → ∃ v, vs[i]? = some v ∧ Dp K H v d
  | _, _, _, _, .nil, h => by simp at h
  | v :: _, _, 0, _, .cons a _, h => by
    have e := Option.some.inj h
    subst e
    exact ⟨v, rfl, a⟩
  | _ :: _, _, i + 1, _, .cons _ b, h => DpAll.at (i := i) b h
theorem DpAll.app {K : PySem.W.Frag} {H : Hp} : ∀ {vs ws : List V} {ds es : List PyData}, DpAll K H vs ds → DpAll K H ws es → DpAll K H (vs ++ ws) (ds ++ es)
  | _, _, _, _, .nil, h => h
  | _, _, _, _, .cons a b, h => .cons a (DpAll.app b h)
theorem ixD_go {K : PySem.W.Frag} {H : Hp} {v : V} {ds : List PyData} {d : PyData} {j : Nat} {i : Int} {Q : VK} (h : Dp K H v (.tuple ds)) (hd : ds[j]? = some d) (hi : i = (j : Int)) (q : ∀ z, Dp K H z d → Q z H) : rIxT K v (.int i) H Q := by
  obtain ⟨a, xs, rfl, hs, hx⟩ := Dp.tupD h
  obtain ⟨z, hz, dz⟩ := DpAll.at hx hd
  subst hi
  exact ⟨a, xs, _, z, rfl, rfl, hs, atI_nat hz, q z dz⟩
/-- a new tuple, as data -/
theorem newTD_go {K : PySem.W.Frag} {H : Hp} {xs : List V} {ds : List PyData} {Q : VK} (h : DpAll K H xs ds) (hp : PlAll ds = true) (hl : ds.length ≤ 1000000) (q : ∀ p H', H p = none → Same H H' → Dp K H' (.ref p) (.tuple ds) → Q (.ref p) H') : NewT xs H Q :=
  newT_go (fun p H' n s r => q p H' n s (.tup (.inl (.inl r)) (DpAll.keep (Same.tu s) h hp))) (by rw [DpAll.len h]; exact hl)
/-- for x in xs, a list that does not change -/
theorem forL_go {K : PySem.W.Frag} {tl : TE} {j : Nat} {tb : TS} {D : Ends} {σ : L2.St} {H : Hp} {a : Addr} {xs : List V} (Pv : Nat → L2.St → Hp → Prop) (ht : ∀ Q : VK, Q (.ref a) H → tl σ H Q) (hl : ∀ i σ H, i ≤ xs.length → Pv i σ H → SqL K H a xs) (h0 : Pv 0 σ H)
    (hs : ∀ (i : Nat) (x : V) σ' H', xs[i]? = some x → Pv i σ' H' → tb { D with nx := Pv (i + 1), ct := Pv (i + 1), bk := D.nx } (σ'.set j (some x)) H') (hd : ∀ σ' H', Pv xs.length σ' H' → D.nx σ' H') : tFor (iList K tl) (gName j) tb D σ H := by
  refine ht _ ⟨a, rfl, ⟨xs, hl 0 _ _ (Nat.zero_le _) h0⟩, ?_⟩
  exact for_list Pv h0 hl (fun i x σ' H' hx p => hs i x σ' H' hx p) hd
theorem ExT.toSame {D : Addr} {H H' : Hp} (h : H D = none) (v : ExT D H H') : Same H H' := fun b o e => v b o (by rintro rfl; rw [h] at e; cases e) e
theorem exT_upd {D : Addr} {H H' : Hp} {o : HO} (v : ExT D H H') : ExT D H (upd H' D o) := fun b u hb e => by rw [upd_ne hb]; exact v b u hb e
theorem wipe_set {σ : L2.St} {j : Nat} {x : V} : wipe ((wipe σ [j]).set j (some x)) [j] = wipe σ [j] := by
  show ((σ.set j none).set j (some x)).set j none = σ.set j none
  rw [List.set_set, List.set_set]
theorem sq_same {K : PySem.W.Frag} {H H' : Hp} {a : Addr} {xs : List V} (s : Same H H') (h : SqL K H a xs) : SqL K H' a xs := by
  rcases h with (h | ⟨o, h⟩) | h
  · exact .inl (.inl (s _ _ h))
  · exact .inl (.inr ⟨o, s _ _ h⟩)
  · exact .inr h
/-- [e for x in xs if c] over a list, c and e changing nothing -/
theorem lcP_go {α : Type} {K : PySem.W.Frag} {tl : TE} {j : Nat} {tt : TT} {te : TE} {σ : L2.St} {H : Hp} {Q : VK} {a : Addr} {xs : List V} (l : List α) (b : α → Bool) (g : α → V) (ht : ∀ Q : VK, Q (.ref a) H → tl σ H Q) (ha : SqL K H a xs) (hlen : xs.length = l.length) (hz : l.length ≤ 100000)
    (htt : ∀ (i : Nat) x z H' (R : Bool → Hp → Prop), xs[i]? = some x → l[i]? = some z → Same H H' → R (b z) H' → tt ((wipe σ [j]).set j (some x)) H' R)
    (hte : ∀ (i : Nat) x z H' (R : VK), xs[i]? = some x → l[i]? = some z → b z = true → Same H H' → R (g z) H' → te ((wipe σ [j]).set j (some x)) H' R)
    (q : ∀ D H', H D = none → Same H H' → H' D = some (.lst ((l.filter b).map g)) → Q (.ref D) H') : tLc (iList K tl) (gName j) tt te [j] σ H Q := by
  refine ht _ ⟨a, rfl, ⟨xs, ha⟩, fun D hD => ?_⟩
  refine lc_list (fun i H' => H' D = some (.lst (((l.take i).filter b).map g)) ∧ ExT D H H') ⟨upd_same, exT_upd (ExT.refl D H)⟩ (fun i H' _ p => sq_same (ExT.toSame hD p.2) ha) ?_ ?_
  · rintro i x H' hx ⟨p1, p2⟩
    have hi : i < l.length := by rw [← hlen]; exact (List.getElem?_eq_some_iff.mp hx).1
    obtain ⟨z, hzz⟩ : ∃ z, l[i]? = some z := ⟨l[i], List.getElem?_eq_getElem hi⟩
    have e : l.take (i + 1) = l.take i ++ [z] := by rw [List.take_add_one, hzz]; rfl
    refine ⟨wipe_set, htt i x z H' _ hx hzz (ExT.toSame hD p2) ?_⟩
    cases hb : b z with
    | true =>
      refine hte i x z H' _ hx hzz hb (ExT.toSame hD p2) ⟨_, p1, ?_, ?_, exT_upd p2⟩
      · rw [List.length_map]
        refine Nat.lt_of_le_of_lt (Nat.le_trans (List.length_filter_le _ _) (List.length_take_le _ _)) (Nat.lt_of_lt_of_le hi (Nat.le_trans hz (by decide)))
      · rw [e, List.filter_append, List.map_append]
        simp only [List.filter_cons, hb, if_true, List.filter_nil, List.map_cons, List.map_nil]
        exact upd_same
    | false =>
      refine ⟨?_, p2⟩
      rw [e, List.filter_append]
      simp only [List.filter_cons, hb, List.filter_nil]
      rw [p1]
      simp
  · rintro H' ⟨p1, p2⟩
    rw [hlen, List.take_length] at p1
    exact q D H' hD (ExT.toSame hD p2) p1
theorem inT_go {K : PySem.W.Frag} {neg : Bool} {x : Str} {p : Addr} {l : List Str} {H : Hp} {Q : VK} (h : SqT K H p (l.map V.str)) (q : Q (.bl (if neg then !l.contains x else l.contains x)) H) : rIn K neg (.str x) (.ref p) H Q :=
  ⟨p, _, rfl, .inr h, rfl, flat_strs, by rw [inV_strs]; exact q⟩
/-- the heads: kind and identifier -/
def encH (h : Str × Str) : PyData := .tuple [.str h.1, .str h.2]
def Hds (K : PySem.W.Frag) (H : Hp) (a : Addr) (hs : List (Str × Str)) : Prop := ∃ vs, SqL K H a vs ∧ DpAll K H vs (hs.map encH)
theorem pl_heads : ∀ hs : List (Str × Str), PlAll (hs.map encH) = true
  | [] => rfl
  | h :: hs => by
    simp only [List.map_cons, PlAll, pl_heads hs, Bool.and_true]
    rfl
theorem Hds.same {K : PySem.W.Frag} {H H' : Hp} {a : Addr} {hs : List (Str × Str)} (s : Same H H') (h : Hds K H a hs) : Hds K H' a hs := by
  obtain ⟨vs, h1, h2⟩ := h
  exact ⟨vs, sq_same s h1, DpAll.keep (Same.tu s) h2 (pl_heads hs)⟩
def LcP (Inv : Addr → Nat → List V → Hp → Prop) (D : Addr) (i : Nat) (H' : Hp) : Prop := ∃ acc, H' D = some (.lst acc) ∧ acc.length ≤ i ∧ Inv D i acc H'
/-- [e for x in xs if c] over a list, c and e changing the heap -/
theorem lcI_go {K : PySem.W.Frag} {tl : TE} {j : Nat} {tt : TT} {te : TE} {σ : L2.St} {H : Hp} {Q : VK} {a : Addr} {xs : List V} (Inv : Addr → Nat → List V → Hp → Prop) (ht : ∀ Q : VK, Q (.ref a) H → tl σ H Q) (ha : SqL K H a xs)
    (hl : ∀ D i acc H', i ≤ xs.length → Inv D i acc H' → H D = none → SqL K H' a xs) (h0 : ∀ D H', H D = none → Same H H' → H' D = some (.lst []) → Inv D 0 [] H')
    (hs : ∀ D i x acc H', xs[i]? = some x → H D = none → H' D = some (.lst acc) → acc.length ≤ i → Inv D i acc H' → tt ((wipe σ [j]).set j (some x)) H' fun b H3 => if b = true then te ((wipe σ [j]).set j (some x)) H3 fun y H4 => ∃ acc', H4 D = some (.lst acc') ∧ acc'.length < sizeLine ∧ LcP Inv D (i + 1) (upd H4 D (.lst (acc' ++ [y]))) else LcP Inv D (i + 1) H3)
    (q : ∀ D H' acc, H D = none → H' D = some (.lst acc) → acc.length ≤ xs.length → Inv D xs.length acc H' → Q (.ref D) H') : tLc (iList K tl) (gName j) tt te [j] σ H Q := by
  refine ht _ ⟨a, rfl, ⟨xs, ha⟩, fun D hD => ?_⟩
  refine lc_list (xs := xs) (fun i H' => LcP Inv D i H') ⟨[], upd_same, Nat.le_refl _, h0 D _ hD (same_new hD) upd_same⟩ (fun i H' hi p => ?_) ?_ ?_
  · obtain ⟨acc, _, _, p⟩ := p
    exact hl D i acc H' hi p hD
  · rintro i x H' hx ⟨acc, p1, p2, p3⟩
    exact ⟨wipe_set, hs D i x acc H' hx hD p1 p2 p3⟩
  · rintro H' ⟨acc, p1, p2, p3⟩
    exact q D H' acc hD p1 p2 p3
/-- all but two -/
def ExT2 (t D : Addr) (H H' : Hp) : Prop := ∀ (b : Addr) (o : HO), b ≠ t → b ≠ D → H b = some o → H' b = some o
theorem ExT2.toExT {t D : Addr} {H H' : Hp} (h : H D = none) (v : ExT2 t D H H') : ExT t H H' := fun b o hb e => v b o hb (by rintro rfl; rw [h] at e; cases e) e
theorem sq_ext {K : PySem.W.Frag} {t : Addr} {H H' : Hp} {a : Addr} {xs : List V} (hat : a ≠ t) (v : ExT t H H') (h : SqL K H a xs) : SqL K H' a xs := by
  rcases h with (h | ⟨o, h⟩) | h
  · exact .inl (.inl (v _ _ hat h))
  · exact .inl (.inr ⟨o, v _ _ hat h⟩)
  · exact .inr h
theorem Hds.ext {K : PySem.W.Frag} {t : Addr} {n : Nat} {H H' : Hp} {a : Addr} {hs : List (Str × Str)} (hat : a ≠ t) (ht : Tape H t n) (v : ExT t H H') (h : Hds K H a hs) : Hds K H' a hs := by
  obtain ⟨vs, h1, h2⟩ := h
  exact ⟨vs, sq_ext hat v h1, DpAll.keep (v.tu ht) h2 (pl_heads hs)⟩
theorem dp_strs2 {K : PySem.W.Frag} {H : Hp} : ∀ (l : List Str), DpAll K H (l.map V.str) (l.map PyData.str)
  | [] => .nil
  | x :: l => .cons (.str x) (dp_strs2 l)
/-- a comprehension over a list that is made anew -/
theorem lcC_go {K : PySem.W.Frag} {tl : TE} {g : TG} {tt : TT} {te : TE} {vs : List Nat} {σ : L2.St} {H : Hp} {Q : VK} (C : Addr → Hp → Prop) (ht : ∀ R : VK, (∀ a H1, C a H1 → R (.ref a) H1) → tl σ H R) (k : ∀ a H1, C a H1 → tLc (iList K fun _ H R => R (.ref a) H) g tt te vs σ H1 Q) : tLc (iList K tl) g tt te vs σ H Q :=
  ht _ fun a H1 c => k a H1 c
theorem cutV_to (xs : List V) (j : Nat) : cutV xs none (some (j : Int)) = xs.take j := by
  unfold cutV
  rw [show HT.sIx xs.length 0 none = 0 from rfl, List.drop_zero, Nat.sub_zero]
  have e : HT.sIx xs.length xs.length (some (j : Int)) = min j xs.length := by
    unfold HT.sIx
    simp
    try omega
  rw [e]
  rcases Nat.le_total j xs.length with h | h
  · rw [Nat.min_eq_left h]
  · rw [Nat.min_eq_right h, List.take_length, List.take_of_length_le h]
end Own

set_option Elab.async false
set_option linter.all false
set_option maxRecDepth 100000
set_option maxHeartbeats 4000000
/-! Dict displays of two spread dicts. -/
namespace Own
open PySem PySem.Spec PyProof.Rows L2
section
variable {prog : Program} {w : World} {A : Around} {E : Value → Shared → Prop} {s : Shared}
theorem put_raw {d : Addr} {kvs : List (Key × Value)} {k : Key} {u v : Value} {Q : Unit → Shared → Prop} (ku : (mixKind prog w).is k u = true) (md : s.heap.DictOf (mixKind prog w) d kvs) (room : kvs.length ≤ sizeLine)
    (next : ∀ h', h'.DictOf (mixKind prog w) d (stored kvs k v) → Heap.SameBut d s.heap h' → Q () { s with heap := h' }) : wpAny (model prog w) A (dictPut d ((mixKind prog w).hash k) u v) Q E s := by
  obtain ⟨od, ents, vn, getd, exd, dat, keysd, prs, nodup⟩ := md
  have small : ents.size ≤ sizeLine := by
    have l1 := prs.length
    have l2 : ents.toList.length = ents.size := by simp
    omega
  unfold dictPut
  refine wpAny_bind (wpAny_dictFind_of ku getd dat keysd ?_)
  have same : (ents.findIdx? fun e => (mixKind prog w).is k e.key) = kvs.findIdx? fun kv => decide (kv.1 = k) := by
    rw [← prs.findIdx k]
    obtain ⟨l⟩ := ents
    simp
  cases at_ : ents.findIdx? fun e => (mixKind prog w).is k e.key with
  | some i =>
    have has : (kvs.any fun kv => decide (kv.1 = k)) = true := any_of_findIdx_some (same ▸ at_)
    have pr2 : Pairs (mixKind prog w) (ents.modify i fun e => { e with val := v }).toList (stored kvs k v) := by
      rw [stored, if_pos has]
      have hl : (ents.toList.findIdx? fun e => (mixKind prog w).is k e.key) = some i := by
        rw [← at_]
        obtain ⟨l⟩ := ents
        simp
      have z := prs.modify nodup hl v
      obtain ⟨l⟩ := ents
      simpa using z
    have nd2 : ((stored kvs k v).map (·.1)).Nodup := by
      rw [stored, if_pos has, keys_map_store]
      exact nodup
    exact wpAny_updateDict getd dat (next _ ⟨_, _, vn, Heap.get?_update_self _ getd (Obj.isFreed_of_dict (Obj.data_mapDict dat _)), exd.mapDict _, Obj.data_mapDict dat _, keysd.modify _ _, pr2, nd2⟩ (Heap.SameBut.update ..))
  | none =>
    have off : k ∉ kvs.map (·.1) := not_mem_of_findIdx_none (same ▸ at_)
    have hasnt : ¬ (kvs.any fun kv => decide (kv.1 = k)) = true := by
      intro c
      obtain ⟨kv, m, e⟩ := List.any_eq_true.mp c
      exact off (List.mem_map.mpr ⟨kv, m, of_decide_eq_true e⟩)
    have pr2 : Pairs (mixKind prog w) (ents.push ⟨(mixKind prog w).hash k, u, v⟩).toList (stored kvs k v) := by
      rw [stored, if_neg hasnt]
      have z := prs.append ku ((mixKind prog w).hash k) v
      obtain ⟨l⟩ := ents
      simpa using z
    have nd2 : ((stored kvs k v).map (·.1)).Nodup := by
      rw [stored, if_neg hasnt, List.map_append, List.nodup_append]
      refine ⟨nodup, by simp, fun x hx y hy => ?_⟩
      have ey : y = k := by simpa using hy
      subst ey
      exact fun q => off (q ▸ hx)
    exact wpAny_updateDictKeys (hz := small) getd dat (next _ ⟨_, _, vn + 1, Heap.get?_update_self _ getd (Obj.isFreed_of_dict (Obj.data_mapDictKeys dat _)), exd.mapDictKeys _, Obj.data_mapDictKeys dat _, keysd.push ku _, pr2, nd2⟩ (Heap.SameBut.update ..))
theorem noRef {k : Key} {a : Addr} : (mixKind prog w).is k (.ref a) = false := by
  cases k <;> rfl
theorem merge_raw {d a : Addr} {kvs more : List (Key × Value)} {Q : Unit → Shared → Prop} (apart : d ≠ a) (plain : (a == sysModules) = false) (md : s.heap.DictOf (mixKind prog w) d kvs) (ma : s.heap.DictOf (mixKind prog w) a more) (room : kvs.length + more.length ≤ sizeLine)
    (next : ∀ h', h'.DictOf (mixKind prog w) d (merged kvs more) → Heap.SameBut d s.heap h' → Q () { s with heap := h' }) : wpAny (model prog w) A (mergeMapping d (.ref a) false) Q E s := by
  obtain ⟨od, entd, vd, getd, exd, datd, keysd, prd, ndd⟩ := id md
  obtain ⟨oa, enta, va, geta, exa, data, keysa, pra, nda⟩ := id ma
  have cnt : more.length = enta.size := by
    rw [← pra.length]
    simp
  unfold mergeMapping
  refine wpAny_bind (m := isInstance (.ref a) (.type "dict")) (wpAny_isInstance ma.typeIs isSubtype_dict_dict ?_)
  simp only [if_true]
  refine wpAny_bind (wpAny_specialOf ma.typeIs F.slot_dict_iter.lookup ?_)
  refine wpAny_bind (wpAny_pure ?_)
  simp only [beq_self_eq_true]
  rw [if_neg (by rw [plain]; exact Bool.false_ne_true)]
  refine wpAny_bind (wpAny_dictEntries getd datd ?_)
  split
  refine wpAny_bind (wpAny_dictEntries geta data ?_)
  refine wpAny_bind ?_
  rw [← Array.forIn_toList]
  refine wpAny_forIn_list _ (fun rest _ s' => s = s' ∧ ∀ e ∈ rest, e ∈ enta.toList) _ ?_ ?_ _ _ ⟨rfl, fun e h => h⟩
  · rintro e rest _ s' ⟨rfl, sub⟩
    obtain ⟨k, ek, _⟩ := keysa e (by simpa using sub e (by simp))
    cases hk : e.key with
    | ref b =>
      rw [hk, noRef] at ek
      cases ek
    | _ => exact wpAny_pure ⟨rfl, fun e' he => sub e' (by simp [he])⟩
  rintro _ s' ⟨rfl, _⟩
  all_goals
    refine wpAny_bind (wpAny_dictEntries geta data ?_)
    refine wpAny_bind (wpAny_dictEpoch geta data ?_)
    refine wpAny_bind ?_
    refine wpAny_forIn_list _ (fun rest _ t => ∃ h' j, t = { s with heap := h' } ∧ rest = (List.range enta.size).drop j ∧ j ≤ enta.size ∧ h'.DictOf (mixKind prog w) d (merged kvs (more.take j)) ∧ h'.get? a = some oa ∧ Heap.SameBut d s.heap h') _ ?_ ?_ _ _ ⟨s.heap, 0, rfl, by simp, Nat.zero_le _, by simpa [merged] using md, geta, Heap.SameBut.refl _ _⟩
    · rintro x rest b t ⟨h', j, rfl, eq, le, md', ga', sb⟩
      have lt : j < enta.size := by
        rcases Nat.lt_or_ge j enta.size with h | h
        · exact h
        · rw [List.drop_of_length_le (by simpa using h)] at eq
          cases eq
      have eq2 : (List.range enta.size).drop j = j :: (List.range enta.size).drop (j + 1) := by
        rw [List.drop_eq_getElem_cons (by simpa using lt)]
        simp
      rw [eq2] at eq
      injection eq with e1 e2
      subst e1
      refine wpAny_bind (wpAny_dictEntries ga' data ?_)
      rw [Array.getElem?_eq_getElem lt]
      obtain ⟨⟨k, v⟩, hkv⟩ : ∃ kv, more[x]? = some kv := ⟨more[x]'(by rw [cnt]; exact lt), List.getElem?_eq_getElem _⟩
      obtain ⟨hkey, hval⟩ := pra.get? (e := enta[x]) (by simp [lt]) hkv
      obtain ⟨k', hkey', hhash⟩ := keysa enta[x] (Array.getElem_mem lt)
      have ekk : k' = k := (mixKind prog w).inj _ _ _ hkey' hkey
      subst ekk
      have small : (merged kvs (more.take x)).length ≤ sizeLine := by
        have e1 := merged_length_le kvs (more.take x)
        have e2 : (more.take x).length ≤ more.length := by rw [List.length_take]; omega
        omega
      refine wpAny_bind (wpAny_holding ?_)
      simp only [Bool.false_eq_true, if_false]
      rw [hhash, hval]
      refine put_raw hkey md' small fun h2 md2 sb2 => ?_
      have ga2 : h2.get? a = some oa := (sb2.2 a (Ne.symm apart)).trans ga'
      refine wpAny_bind (wpAny_dictEpoch ga2 data ?_)
      rw [if_neg (by simp)]
      exact wpAny_pure ⟨h2, x + 1, rfl, e2, lt, by rw [merged_take_succ kvs more x (k', v) hkv]; exact md2, ga2, sb.trans sb2⟩
    · rintro b t ⟨h', j, rfl, eq, le, md', ga', sb⟩
      have full : j = enta.size := by
        rcases Nat.lt_or_ge j enta.size with h | h
        · have z : ((List.range enta.size).drop j).length = 0 := by rw [← eq]; rfl
          rw [List.length_drop, List.length_range] at z
          omega
        · exact Nat.le_antisymm le h
      rw [full, ← cnt, List.take_length] at md'
      exact wpAny_pure (next h' md' sb)
end

section
variable {X : Cx}
/-- {**a, **b}, keys ints or texts -/
def tSpr2 (ta tb : TE) : TE := fun σ H Q => ∀ p, H p = none → ta σ (upd H p (.dK [])) fun x H1 => ∃ a k1, x = .ref a ∧ a ≠ p ∧ H1 a = some (.dK k1) ∧ H1 p = some (.dK []) ∧
  tb σ (upd H1 p (.dK k1)) fun y H2 => ∃ b k2, y = .ref b ∧ b ≠ p ∧ H2 b = some (.dK k2) ∧ H2 p = some (.dK k1) ∧ k1.length + k2.length ≤ sizeLine ∧ Q (.ref p) (upd H2 p (.dK (mergeK k1 k2)))
theorem merge_step {pins : List (Addr × Obj)} {σ : L2.St} {H : Hp} {s : Shared} {p a : Addr} {k1 k2 : List (Key × V)} {A : Around} {E : Value → Shared → Prop} {Q : Unit → Shared → Prop} (I : Inv X pins σ H s) (hp : H p = some (.dK k1)) (ha : H a = some (.dK k2)) (hne : a ≠ p) (room : k1.length + k2.length ≤ sizeLine)
    (next : ∀ s', Inv X pins σ (upd H p (.dK (mergeK k1 k2))) s' → Q () s') : wpAny (model X.prog X.w) A (mergeMapping p (.ref a) false) Q E s := by
  obtain ⟨z1, m1, v1, r1, d1⟩ := dk_of I.hok hp
  obtain ⟨z2, m2, v2, r2, d2⟩ := dk_of I.hok ha
  have l1 : k1.length = v1.length := Paired.length r1
  have l2 : k2.length = v2.length := Paired.length r2
  refine merge_raw (Ne.symm hne) m2 d1 d2 (by omega) fun h' dd sb => next _ ?_
  have he : ∃ q, h'.get? p = some q := let ⟨q, _, _, hq, _⟩ := dd; ⟨q, hq⟩
  have hl : (mergeK k1 k2).length ≤ sizeLine := Nat.le_trans (length_mergeK k2 k1) room
  exact d_write I (by rw [hp]; exact True.intro) sb he (dk_new hl m1 (KV.merge r2 r1) dd)
theorem mergeK_nil {H : Hp} {h : Heap} {P : Program} {w : World} {a : Addr} {kvs : List (Key × V)} (ok : HOk P w H h) (e : H a = some (.dK kvs)) : mergeK [] kvs = kvs := by
  obtain ⟨z2, m2, vs, r, d⟩ := dk_of ok e
  have nd : (kvs.map (·.1)).Nodup := by
    obtain ⟨o, es, ep, h1, h2, h3, h4, h5, h6⟩ := d
    have : kvs.map (·.1) = vs.map (·.1) := by
      clear h5 h6 e z2
      induction r with
      | nil => rfl
      | cons h t ih => simp only [List.map_cons]; rw [ih, h.1]
    rw [this]
    exact h6
  have gen : ∀ (more acc : List (Key × V)), ((acc ++ more).map (·.1)).Nodup → mergeK acc more = acc ++ more := by
    intro more
    induction more with
    | nil => intro acc _; simp [mergeK]
    | cons kv rest ih =>
      intro acc hn
      have fresh : ¬ (acc.any fun x => decide (x.1 = kv.1)) = true := by
        intro c
        obtain ⟨x, hx, he⟩ := List.any_eq_true.mp c
        rw [List.map_append, List.map_cons, List.nodup_append] at hn
        exact hn.2.2 x.1 (List.mem_map.mpr ⟨x, hx, rfl⟩) kv.1 (by simp) (of_decide_eq_true he)
      have e1 : mergeK acc (kv :: rest) = mergeK (acc ++ [(kv.1, kv.2)]) rest := by
        simp only [mergeK, List.foldl_cons, putK, if_neg fresh]
      rw [e1, ih _ (by simpa using hn)]
      simp
  exact (gen kvs [] (by simpa using nd)).trans (by simp)
theorem pe_spr2 {e1 e2 : Expr} {pos : Pos} {ta tb : TE} (h1 : PE X e1 ta) (h2 : PE X e2 tb) : PE X (.Dict [none, none] [e1, e2] pos) (tSpr2 ta tb) := by
  refine ⟨fun pins s σ H Q I h => ?_⟩
  have hn : H s.heap.objs.size = none := I.hok.fresh (Nat.le_refl _)
  have I1 := I.laid (a := s.heap.objs.size) (o := .dK []) (t' := s.toks) (fun _ _ q => Heap.get?_push_of_some _ q) (Nat.le_refl _) (dk_empty s.heap I.big)
  show wpAny _ _ (standAt pos >>= fun _ => dictDisplay [(none, do let x ← eval e1 X.env; standAt pos; pure x), (none, do let x ← eval e2 X.env; standAt pos; pure x)]) _ _ _
  refine wpAny_bind (wpAny_standAt ?_)
  unfold dictDisplay
  simp only [List.forIn_cons, List.forIn_nil, List.isEmpty_nil, if_true, pure_bind, bind_assoc]
  refine wpAny_bind (wpAny_alloc ?_)
  refine wpAny_bind (wpAny_holding (wpAny_bind (thn (h1.run pins _ σ _ _ I1 (h _ hn)) fun v s2 ⟨x, H1, I2, rx, a, k1, ex, ne1, ha, hp, q⟩ => ?_)))
  subst ex
  cases rx
  refine wpAny_bind (wpAny_standAt (wpAny_pure ?_))
  have z1 := (dk_of I2.hok ha).1
  refine wpAny_bind (wpAny_onRaise (wpAny_tryCatch (wpAny_onRaise (wpAny_holding (merge_step I2 hp ha ne1 (by simpa using z1) fun s3 I3 => ?_)))))
  rw [mergeK_nil I2.hok ha] at I3
  refine wpAny_bind (wpAny_holding (wpAny_bind (thn (h2.run pins _ σ _ _ I3 q) fun v s4 ⟨y, H2, I4, ry, b, k2, ey, ne2, hb, hp2, room, q2⟩ => ?_)))
  subst ey
  cases ry
  refine wpAny_bind (wpAny_standAt (wpAny_pure ?_))
  refine wpAny_bind (wpAny_onRaise (wpAny_tryCatch (wpAny_onRaise (wpAny_holding (merge_step I4 hp2 hb ne2 room fun s5 I5 => ?_)))))
  exact wpAny_pure ⟨.ref _, _, I5, rfl, q2⟩
end
end Own

set_option Elab.async false
set_option linter.all false
set_option maxRecDepth 100000
set_option maxHeartbeats 4000000
/-! Operators of an own class, its instances on the left or on the right. -/
namespace Own
open PySem PySem.Spec PyProof.Rows L2
section
variable {prog : Program} {w : World} {A : Around} {E : Value → Shared → Prop} {s : Shared} {K : PySem.W.Frag} {x C f : Addr} {ox : Obj} {od : Option Obj}
theorem type_ref {M : Model} {h : Heap} {a : Addr} {o : Obj} (g : h.get? a = some o) : PySem.W.Looks M h (typeOf (.ref a)) o.cls := (PySem.W.Looks.ld g).andThen .now
/-- what an operator's def hands back: anything but NotImplemented -/
def Told (Q : Value → Shared → Prop) (v : Value) (t : Shared) : Prop := v ≠ .notImplemented ∧ Q v t
theorem try_own {M : Model} {name : Str} {b : Value} {Q : Value → Shared → Prop} (X : K.In s.heap) (J : PySem.W.InstAt s.heap x ox C od) (at_ : PySem.W.findIn K (.ref C) name = some (some (.ref f))) (fn : PySem.W.isFn K (.ref f) = true)
    (go : wpAny M A (call (.ref f) [.ref x, b]) (Told Q) E s) : wpAny M A (tryMethod (.ref x) name b) (fun r t => ∃ v, r = some v ∧ Q v t) E s := by
  unfold tryMethod
  refine wpAny_bind (PySem.W.special_fn X J at_ (beq_iff_eq.mp fn) (thn go fun v t h => ?_))
  obtain ⟨ne, q⟩ := h
  cases v <;> first | exact absurd rfl ne | exact wpAny_pure ⟨_, rfl, q⟩
/-- the class at C has defs for the operator and for its reflection -/
structure OpC (K : PySem.W.Frag) (C : Addr) (nm : String) (f g : Addr) : Prop where
  first : PySem.W.selfFirst K C = true
  own : PySem.W.findIn K (.ref C) (PySem.dunder nm) = some (some (.ref f))
  ofn : PySem.W.isFn K (.ref f) = true
  ref : PySem.W.findIn K (.ref C) (dunderR nm) = some (some (.ref g))
  rfn : PySem.W.isFn K (.ref g) = true
/-- x op b, x an instance, b of a built-in type -/
theorem bin_left {op : Operator} {sym nm T : String} {g : Addr} {b : Value} {fo ro : Option Value} {Q : Value → Shared → Prop} (hop : op.info = (sym, nm)) (X : K.In s.heap) (J : PySem.W.InstAt s.heap x ox C od) (o : OpC K C nm f g) (tb : PySem.W.Looks (model prog w) s.heap (typeOf b) (.type T))
    (t1 : PySem.W.findIn K (.type T) (PySem.dunder nm) = some fo) (t2 : PySem.W.findIn K (.type T) (dunderR nm) = some ro) (apart : PySem.W.subIn K (.type T) (.ref C) = some false)
    (go : wpAny (model prog w) A (call (.ref f) [.ref x, b]) (Told Q) E s) : wpAny (model prog w) A (binaryOp op (.ref x) b) Q E s := by
  obtain ⟨cd, rest, hcd, hm⟩ := PySem.W.ksp_first o.first
  have done := try_own X J o.own o.ofn go
  obtain ⟨hh, gg, dd, tt, os⟩ := s
  have f1 : PySem.W.Looks (model prog w) hh (typeOf (.ref x)) (.ref C) := J.type
  have f2 : PySem.W.Looks (model prog w) hh (typeOf b) (.type T) := tb
  have f3 : PySem.W.Looks (model prog w) hh (fillsNumberSlot (.ref C) nm) true := PySem.W.fills_K X hcd hm o.own
  have f4 := PySem.W.ksp_fillsT (M := model prog w) X t1 t2
  have f5 := PySem.W.looks_subIn (M := model prog w) X apart
  have f6 : PySem.W.Looks (model prog w) hh (numberSlotInPython (.ref C) nm) true := PySem.W.ksp_inPy X o.own o.ref (.inr ⟨g, rfl⟩)
  have f7 : PySem.W.Looks (model prog w) hh (numberSlotInPython (.type T) nm) false := PySem.W.Looks.of_pure rfl
  have f8 := PySem.W.looks_findIn (M := model prog w) X t2
  generalize ((fo.isSome && !isSeqSlot fo) || (ro.isSome && !isSeqSlot ro)) = rb at f4
  have ne : (Value.ref C == Value.type T) = false := Bool.eq_false_iff.mpr fun q => by cases beq_iff_eq.mp q
  simp only [binaryOp, hop]
  refine wpAny_holding (wpAny_bind ?_)
  unfold binaryOp1
  refine wpAny_bind (f1.at (wpAny_bind (f2.at (wpAny_bind (f3.at ?_)))))
  simp only [ne, Bool.false_eq_true, if_false]
  cases rb
  all_goals
    ksp_lk
    refine thn done fun r t h => ?_
    obtain ⟨v, rfl, q⟩ := h
    ksp_lk
    exact q
/-- a op x, x an instance, a of a built-in type whose own def declines -/
theorem bin_right {op : Operator} {sym nm T : String} {g : Addr} {a : Value} {ro : Option Value} {id : String} {Q : Value → Shared → Prop} (hop : op.info = (sym, nm)) (X : K.In s.heap) (J : PySem.W.InstAt s.heap x ox C od) (o : OpC K C nm f g) (ta : PySem.W.Looks (model prog w) s.heap (typeOf a) (.type T))
    (t1 : PySem.W.findIn K (.type T) (PySem.dunder nm) = some (some (.builtin id))) (t2 : PySem.W.findIn K (.type T) (dunderR nm) = some ro) (num : isSeqSlot (some (.builtin id)) = false) (apart : PySem.W.subIn K (.ref C) (.type T) = some false)
    (no : wpAny (model prog w) A (tryMethod a (PySem.dunder nm) (.ref x)) (fun r t => r = none ∧ t = s) E s)
    (go : wpAny (model prog w) A (call (.ref g) [.ref x, a]) (Told Q) E s) : wpAny (model prog w) A (binaryOp op a (.ref x)) Q E s := by
  obtain ⟨cd, rest, hcd, hm⟩ := PySem.W.ksp_first o.first
  have done := try_own X J o.ref o.rfn go
  obtain ⟨hh, gg, dd, tt, os⟩ := s
  have f1 : PySem.W.Looks (model prog w) hh (typeOf (.ref x)) (.ref C) := J.type
  have f2 : PySem.W.Looks (model prog w) hh (typeOf a) (.type T) := ta
  have f3 : PySem.W.Looks (model prog w) hh (fillsNumberSlot (.ref C) nm) true := PySem.W.fills_K X hcd hm o.own
  have f4 := PySem.W.ksp_fillsT (M := model prog w) X t1 t2
  have e4 : (((some (Value.builtin id)).isSome && !isSeqSlot (some (.builtin id))) || (ro.isSome && !isSeqSlot ro)) = true := by rw [num]; rfl
  rw [e4] at f4
  have f5 := PySem.W.looks_subIn (M := model prog w) X apart
  have f7 : PySem.W.Looks (model prog w) hh (numberSlotInPython (.type T) nm) false := PySem.W.Looks.of_pure rfl
  have ne : (Value.type T == Value.ref C) = false := Bool.eq_false_iff.mpr fun q => by cases beq_iff_eq.mp q
  simp only [binaryOp, hop]
  refine wpAny_holding (wpAny_bind ?_)
  unfold binaryOp1
  refine wpAny_bind (f2.at (wpAny_bind (f1.at (wpAny_bind (f4.at ?_)))))
  simp only [ne, Bool.false_eq_true, if_false]
  ksp_lk
  refine thn no fun r t h => ?_
  obtain ⟨rfl, rfl⟩ := h
  ksp_lk
  refine thn done fun r t h => ?_
  obtain ⟨v, rfl, q⟩ := h
  ksp_lk
  exact q
theorem dict_declines {a : Addr} (ta : s.TypeIs (.ref a) "dict") (X : K.In s.heap) (J : PySem.W.InstAt s.heap x ox C od) (apart : PySem.W.subIn K (.ref C) (.type "dict") = some false) :
    wpAny (model prog w) A (tryMethod (.ref a) (PySem.dunder "or") (.ref x)) (fun r t => r = none ∧ t = s) E s := by
  unfold tryMethod
  refine wpAny_bind (wpAny_callSpecial?_slot ta F.slot_dict_or (GQ.call_here F.slot_dict_or ta F.entry_dict_or (F.args_dict_or_2 _ _) ?_))
  unfold Builtin.«dict.__or__»
  refine wpAny_bind ?_
  unfold Builtin.Dict.dictSlotArgs
  refine wpAny_bind (wpAny_notOrdered_dict ta ?_)
  refine wpAny_bind (m := slotArgs _ _ _) (wpAny_pure ?_)
  refine wpAny_pure ?_
  have f1 : PySem.W.Looks (model prog w) s.heap (typeOf (.ref x)) (.ref C) := J.type
  have f5 := PySem.W.looks_subIn (M := model prog w) X apart
  refine wpAny_bind (m := (isInstance (.ref a) (.type "dict") <&&> isInstance (.ref x) (.type "dict"))) ?_
  refine wpAny_bind (m := isInstance (.ref a) (.type "dict")) (wpAny_isInstance ta isSubtype_dict_dict ?_)
  show wpAny _ _ (isInstance (.ref x) (.type "dict")) _ _ _
  unfold isInstance
  refine wpAny_bind (f1.here (f5.here ?_))
  refine wpAny_bind (wpAny_rule (wpAny_pure ?_))
  exact wpAny_pure ⟨rfl, rfl⟩
end
section
variable {X : Cx} {pins : List (Addr × Obj)} {σ : L2.St} {H : Hp} {s : Shared}
theorem ins_at {x C dx : Addr} {fs : List (Str × V)} (I : Inv X pins σ H s) (h : H x = some (.ins C dx fs)) : ∃ ox od, PySem.W.InstAt s.heap x ox C od := by
  obtain ⟨mA, O, _⟩ := ins_get I.hok h
  obtain ⟨od, J, _⟩ := O.look
  exact ⟨_, _, J⟩
theorem told_of {Q : VK} {z : V} {v : Value} {t : Shared} (r : RelV z v) (h : EP X pins σ Q v t) : Told (EP X pins σ Q) v t := by
  refine ⟨?_, h⟩
  rintro rfl
  cases z with
  | int i => obtain ⟨u, e⟩ := (show ∃ u, Value.notImplemented = Value.int i u from r); cases e
  | str i => obtain ⟨u, e⟩ := (show ∃ u, Value.notImplemented = Value.str i u from r); cases e
  | byt i => obtain ⟨u, e⟩ := (show ∃ u, Value.notImplemented = Value.bytes i u from r); cases e
  | flt i => obtain ⟨u, e⟩ := (show ∃ u, Value.notImplemented = Value.float i u from r); cases e
  | _ => cases r
variable {CX : CXT} {k : Nat} {C f g : Addr} {spF spG : Sp} {E : XK}
/-- a | b: two instances of the class; one and a dict, on either side -/
def rOr (C : Addr) (spF spG : Sp) (E : XK) : R2 := fun x y H Q => (∃ a b dx fs dy gs, x = .ref a ∧ y = .ref b ∧ H a = some (.ins C dx fs) ∧ H b = some (.ins C dy gs) ∧ spF [x, y] H Q E) ∨
  (∃ a b dx fs kvs, x = .ref a ∧ y = .ref b ∧ H a = some (.ins C dx fs) ∧ H b = some (.dK kvs) ∧ spF [x, y] H Q E) ∨ (∃ a b kvs dx fs, x = .ref a ∧ y = .ref b ∧ H a = some (.dK kvs) ∧ H b = some (.ins C dx fs) ∧ spG [y, x] H Q E)
theorem call_told {h : Addr} {sp : Sp} {vs : List V} {us : List Value} {Q : VK} (F : FnR X.prog X.w X.K X.mg X.base CX k h sp) (hr : Room k X.A) (hx : Passes CX X E) (I : Inv X pins σ H s) (r : Vals vs us) (q : sp vs H Q E) :
    wpAny (model X.prog X.w) X.A (call (.ref h) us) (Told (EP X pins σ Q)) X.xe s := by
  refine thn (wpAny_call (run_fnR F hr hx I r q)) fun v t z => ?_
  obtain ⟨z', H', I', rz, qz⟩ := z
  exact told_of rz ⟨z', H', I', rz, qz⟩
/-- what of the text the operator asks -/
structure OrK (K : PySem.W.Frag) (C f g : Addr) : Prop where
  op : OpC K C "or" f g
  t1 : PySem.W.findIn K (.type "dict") (PySem.dunder "or") = some (some (.builtin "dict.__or__"))
  t2 : ∃ ro, PySem.W.findIn K (.type "dict") (dunderR "or") = some ro
  ap : PySem.W.subIn K (.type "dict") (.ref C) = some false
  pa : PySem.W.subIn K (.ref C) (.type "dict") = some false
theorem op_or (o : OrK X.K C f g) (F : FnR X.prog X.w X.K X.mg X.base CX k f spF) (G : FnR X.prog X.w X.K X.mg X.base CX k g spG) (hr : Room k X.A) (hx : Passes CX X E) : OpR X (binaryOp .BitOr) (rOr C spF spG E) := by
  intro pins s σ H x y v u Q I rx ry h
  obtain ⟨ro, t2⟩ := o.t2
  rcases h with ⟨a, b, dx, fs, dy, gs, rfl, rfl, ha, hb, q⟩ | ⟨a, b, dx, fs, kvs, rfl, rfl, ha, hb, q⟩ | ⟨a, b, kvs, dx, fs, rfl, rfl, ha, hb, q⟩
  · cases rx; cases ry
    obtain ⟨ox, od, J⟩ := ins_at I ha
    obtain ⟨oy, oe, J'⟩ := ins_at I hb
    obtain ⟨m, hF⟩ := I.fr
    refine PySem.W.binop_K (op := .BitOr) hF I.ok.mod.kin J J'.type o.op.first o.op.own o.op.ofn ?_
    refine thn (wpAny_call (run_fnR (us := [.ref a, .ref b]) (vs := [.ref a, .ref b]) F hr hx I (.cons rfl (.cons rfl .nil)) q)) fun v t z => ?_
    obtain ⟨z', H', I', rz, qz⟩ := z
    exact SlX.cmpback rz ⟨z', H', I', rz, qz⟩
  · cases rx; cases ry
    obtain ⟨ox, od, J⟩ := ins_at I ha
    obtain ⟨_, _, vs, _, md⟩ := dk_of I.hok hb
    obtain ⟨ob, es, ep, hg, ex, _⟩ := id md
    have tb : PySem.W.Looks (model X.prog X.w) s.heap (typeOf (.ref b)) (.type "dict") := by
      have z := type_ref (M := model X.prog X.w) hg
      rw [ex.1] at z
      exact z
    exact bin_left (op := .BitOr) (nm := "or") rfl I.kIn J o.op tb o.t1 t2 o.ap (call_told (vs := [.ref a, .ref b]) F hr hx I (.cons rfl (.cons rfl .nil)) q)
  · cases rx; cases ry
    obtain ⟨ox, od, J⟩ := ins_at I hb
    obtain ⟨_, _, vs, _, md⟩ := dk_of I.hok ha
    obtain ⟨ob, es, ep, hg, ex, _⟩ := id md
    have ta : PySem.W.Looks (model X.prog X.w) s.heap (typeOf (.ref a)) (.type "dict") := by
      have z := type_ref (M := model X.prog X.w) hg
      rw [ex.1] at z
      exact z
    exact bin_right (op := .BitOr) (nm := "or") rfl I.kIn J o.op ta o.t1 t2 rfl o.pa (dict_declines md.typeIs I.kIn J o.pa) (call_told (vs := [.ref b, .ref a]) G hr hx I (.cons rfl (.cons rfl .nil)) q)
end
end Own

set_option Elab.async false
set_option linter.all false
set_option maxRecDepth 100000
set_option maxHeartbeats 4000000
/-! Tables with text keys: what a look-up tells, the sorted table; walks over dicts. -/
namespace Own
open PySem PySem.Spec PyProof.Rows L2
/-! ### order of texts -/
theorem le_trans_cps : ∀ {a b c : List Nat}, ltCps b a = false → ltCps c b = false → ltCps c a = false
  | [], [], [], _, _ => rfl
  | [], [], _ :: _, _, _ => rfl
  | [], _ :: _, [], _, h => by simp [ltCps] at h
  | [], _ :: _, _ :: _, _, _ => rfl
  | _ :: _, [], _, h, _ => by simp [ltCps] at h
  | _ :: _, _ :: _, [], _, h => by simp [ltCps] at h
  | x :: a, y :: b, z :: c, h1, h2 => by
    simp only [ltCps, Bool.or_eq_false_iff, Bool.and_eq_false_iff, decide_eq_false_iff_not, beq_eq_false_iff_ne] at h1 h2 ⊢
    refine ⟨by omega, ?_⟩
    by_cases e : z = x
    · right
      have e1 : y = x := by omega
      have e2 : z = y := by omega
      exact le_trans_cps (h1.2.elim (fun n => absurd e1 n) id) (h2.2.elim (fun n => absurd e2 n) id)
    · exact .inl e
theorem le_anti_cps : ∀ {a b : List Nat}, ltCps b a = false → ltCps a b = false → a = b
  | [], [], _, _ => rfl
  | [], _ :: _, _, h => by simp [ltCps] at h
  | _ :: _, [], h, _ => by simp [ltCps] at h
  | x :: a, y :: b, h1, h2 => by
    simp only [ltCps, Bool.or_eq_false_iff, Bool.and_eq_false_iff, decide_eq_false_iff_not, beq_eq_false_iff_ne] at h1 h2
    have e : x = y := by omega
    subst e
    rw [le_anti_cps (h1.2.elim (fun n => absurd rfl n) id) (h2.2.elim (fun n => absurd rfl n) id)]
theorem str_ext {x y : Str} (h : x.cps.toList = y.cps.toList) : x = y := by
  obtain ⟨a⟩ := x
  obtain ⟨b⟩ := y
  exact congrArg Str.mk (Array.toList_inj.mp h)
theorem rising_all : ∀ {l : List Str} {p : Str}, risingS p l = true → ∀ x ∈ l, ltCps x.cps.toList p.cps.toList = false
  | y :: l, p, h, x, hx => by
    simp only [risingS, Bool.and_eq_true, Bool.not_eq_true'] at h
    rcases List.mem_cons.mp hx with rfl | hx
    · exact h.1
    · exact le_trans_cps h.1 (rising_all h.2 x hx)
theorem rising_sorted : ∀ {l : List Str} {p : Str}, risingS p l = true → sortedS l = true
  | [], _, _ => rfl
  | y :: l, p, h => by
    simp only [risingS, Bool.and_eq_true] at h
    exact h.2
/-- two sorted rows of the same texts are one -/
theorem sorted_one : ∀ {ys zs : List Str}, sortedS ys = true → sortedS zs = true → ys.Perm zs → ys = zs
  | [], zs, _, _, h => (List.nil_perm.mp h).symm
  | y :: ys, [], _, _, h => by simpa using h.length_eq
  | y :: ys, z :: zs, h1, h2, h => by
    have hyz : y = z := by
      have my : y ∈ z :: zs := h.subset (by simp)
      have mz : z ∈ y :: ys := h.symm.subset (by simp)
      rcases List.mem_cons.mp my with e | my
      · exact e
      · rcases List.mem_cons.mp mz with e | mz
        · exact e.symm
        · exact str_ext (le_anti_cps (rising_all h1 z mz) (rising_all h2 y my))
    subst hyz
    rw [sorted_one (rising_sorted (p := y) h1) (rising_sorted (p := y) h2) (List.Perm.cons_inv h)]
/-! ### tables -/
abbrev Tbl : Type := List (Key × V)
def valOk : V → Bool
  | .int i => decide (i.natAbs < 10 ^ 1000)
  | .str x => decide (x.length ≤ 1000)
  | _ => false
def keyId : Key → Bool
  | .inr x => isIdent x
  | _ => false
/-- keys are identifiers, each once; values can be bound -/
structure TOk (t : Tbl) : Prop where
  nd : (t.map (·.1)).Nodup
  id : ∀ p ∈ t, keyId p.1 = true
  ok : ∀ p ∈ t, valOk p.2 = true
def txt : Key → Str
  | .inr x => x
  | _ => ⟨#[]⟩
def names (t : Tbl) : List Str := t.map fun p => txt p.1
theorem keyId_txt {k : Key} (h : keyId k = true) : k = .inr (txt k) := by
  cases k with
  | inl i => cases h
  | inr x => rfl
theorem TOk.keys {t : Tbl} (h : TOk t) : t.map (·.1) = (names t).map Sum.inr := by
  unfold names
  rw [List.map_map]
  exact List.map_congr_left fun p hp => keyId_txt (h.id p hp)
theorem TOk.names_nd {t : Tbl} (h : TOk t) : (names t).Nodup := by
  have z := h.nd
  rw [h.keys, List.Nodup, List.pairwise_map] at z
  exact z.imp fun h e => h (by rw [e])
theorem valV_mem {t : Tbl} {k : Key} {v : V} (h : valV t k = some v) : (k, v) ∈ t := by
  unfold valV at h
  obtain ⟨p, hp, e⟩ := Option.map_eq_some_iff.mp h
  have e0 := List.find?_some hp
  have e1 : p.1 = k := by simpa using e0
  have e2 := List.mem_of_find?_eq_some hp
  subst e1 e
  exact e2
theorem mem_valV : ∀ {t : Tbl} {k : Key} {v : V}, (t.map (·.1)).Nodup → (k, v) ∈ t → valV t k = some v
  | p :: t, k, v, nd, h => by
    rw [List.map_cons, List.nodup_cons] at nd
    rcases List.mem_cons.mp h with rfl | h
    · exact valV_pos rfl
    · rw [valV_neg fun e => nd.1 (by rw [e]; exact List.mem_map.mpr ⟨(k, v), h, rfl⟩)]
      exact mem_valV nd.2 h
theorem valV_key {t : Tbl} {k : Key} : (valV t k).isSome = true ↔ k ∈ t.map (·.1) := by
  rw [← valV_any k t, List.any_eq_true]
  constructor
  · rintro ⟨p, hp, e⟩
    exact List.mem_map.mpr ⟨p, hp, of_decide_eq_true e⟩
  · intro h
    obtain ⟨p, hp, e⟩ := List.mem_map.mp h
    exact ⟨p, hp, decide_eq_true e⟩
/-- the same look-ups -/
def Eqv (a b : Tbl) : Prop := ∀ k, valV a k = valV b k
theorem Eqv.symm {a b : Tbl} (h : Eqv a b) : Eqv b a := fun k => (h k).symm
theorem Eqv.trans {a b c : Tbl} (h : Eqv a b) (g : Eqv b c) : Eqv a c := fun k => (h k).trans (g k)
theorem names_mem {t : Tbl} (h : TOk t) {x : Str} : x ∈ names t ↔ (valV t (.inr x)).isSome = true := by
  rw [valV_key, h.keys]
  constructor
  · intro m; exact List.mem_map.mpr ⟨x, m, rfl⟩
  · intro m
    obtain ⟨y, hy, e⟩ := List.mem_map.mp m
    cases e
    exact hy
theorem perm_of_nd {α : Type} [DecidableEq α] : ∀ {l m : List α}, l.Nodup → m.Nodup → (∀ x, x ∈ l ↔ x ∈ m) → l.Perm m
  | [], m, _, _, h => by
    have : m = [] := List.eq_nil_iff_forall_not_mem.mpr fun x hx => by simpa using (h x).mpr hx
    rw [this]
  | a :: l, m, hl, hm, h => by
    have ha : a ∈ m := (h a).mp (by simp)
    have hl' := List.nodup_cons.mp hl
    refine (List.Perm.cons a (perm_of_nd hl'.2 (hm.erase a) fun x => ?_)).trans (List.perm_cons_erase ha).symm
    rw [List.Nodup.mem_erase_iff hm]
    constructor
    · intro hx
      exact ⟨fun e => hl'.1 (e ▸ hx), (h x).mp (by simp [hx])⟩
    · rintro ⟨ne, hx⟩
      rcases List.mem_cons.mp ((h x).mpr hx) with e | hx
      · exact absurd e ne
      · exact hx
theorem names_perm {a b : Tbl} (ha : TOk a) (hb : TOk b) (e : Eqv a b) : (names a).Perm (names b) :=
  perm_of_nd ha.names_nd hb.names_nd fun x => by rw [names_mem ha, names_mem hb, e]
/-- the table with its names in the order of ys -/
def byN (t : Tbl) (ys : List Str) : Tbl := ys.map fun y => (Sum.inr y, (valV t (.inr y)).getD .non)
/-- s is t, sorted -/
structure Srt (t s : Tbl) : Prop where
  ex : ∃ ys, ys.Perm (names t) ∧ sortedS ys = true ∧ s = byN t ys
theorem byN_keys (t : Tbl) (ys : List Str) : (byN t ys).map (·.1) = ys.map Sum.inr := by
  unfold byN
  rw [List.map_map]
  rfl
theorem byN_nd {t : Tbl} {ys : List Str} (h : ys.Nodup) : ((byN t ys).map (·.1)).Nodup := by
  rw [byN_keys, List.Nodup, List.pairwise_map]
  exact h.imp fun h e => h (by cases e; rfl)
theorem Srt.eqv {t s : Tbl} (h : TOk t) (q : Srt t s) : Eqv s t := by
  obtain ⟨ys, hp, _, rfl⟩ := q
  have nd : ys.Nodup := hp.symm.nodup h.names_nd
  intro k
  cases e : valV t k with
  | some v =>
    have hk := valV_key.mp (show (valV t k).isSome = true by rw [e]; rfl)
    rw [h.keys] at hk
    obtain ⟨x, hx, rfl⟩ := List.mem_map.mp hk
    refine mem_valV (byN_nd nd) (List.mem_map.mpr ⟨x, hp.symm.subset hx, by rw [e]; rfl⟩)
  | none =>
    cases e2 : valV (byN t ys) k with
    | none => rfl
    | some v =>
      have hk := valV_key.mp (show (valV (byN t ys) k).isSome = true by rw [e2]; rfl)
      rw [byN_keys] at hk
      obtain ⟨x, hx, rfl⟩ := List.mem_map.mp hk
      have := (names_mem h).mp (hp.subset hx)
      rw [e] at this
      cases this
theorem Srt.tok {t s : Tbl} (h : TOk t) (q : Srt t s) : TOk s := by
  have ev := q.eqv h
  obtain ⟨ys, hp, _, rfl⟩ := q
  have nd : ys.Nodup := hp.symm.nodup h.names_nd
  have mem : ∀ p ∈ byN t ys, p ∈ t := fun p hp => by
    have z := mem_valV (byN_nd nd) (show (p.1, p.2) ∈ byN t ys from hp)
    rw [ev] at z
    exact valV_mem z
  exact ⟨byN_nd nd, fun p hp => h.id p (mem p hp), fun p hp => h.ok p (mem p hp)⟩
theorem Srt.len {t s : Tbl} (q : Srt t s) : s.length = t.length := by
  obtain ⟨ys, hp, _, rfl⟩ := q
  unfold byN
  rw [List.length_map, hp.length_eq]
  unfold names
  rw [List.length_map]
theorem byN_congr {a b : Tbl} (e : Eqv a b) (ys : List Str) : byN a ys = byN b ys := List.map_congr_left fun y _ => by rw [e]
/-- tables of the same look-ups sort to one -/
theorem Srt.one {a b s t : Tbl} (ha : TOk a) (hb : TOk b) (e : Eqv a b) (p : Srt a s) (q : Srt b t) : s = t := by
  obtain ⟨ys, y1, y2, rfl⟩ := p
  obtain ⟨zs, z1, z2, rfl⟩ := q
  have hyz : ys = zs := sorted_one y2 z2 (y1.trans ((names_perm ha hb e).trans z1.symm))
  subst hyz
  exact byN_congr e ys
theorem TOk.nil : TOk [] := ⟨List.nodup_nil, fun _ h => absurd h (by simp), fun _ h => absurd h (by simp)⟩
theorem putK_keys {t : Tbl} {k : Key} {v : V} : ∀ j, j ∈ (putK t k v).map (·.1) ↔ (j = k ∨ j ∈ t.map (·.1)) := by
  intro j
  rw [← valV_key, valV_put]
  by_cases e : j = k
  · simp [e]
  · rw [if_neg e, valV_key]
    simp [e]
theorem putK_mem {t : Tbl} {k : Key} {v : V} {p : Key × V} (h : p ∈ putK t k v) : p = (k, v) ∨ p ∈ t := by
  unfold putK at h
  split at h
  · obtain ⟨q, hq, e⟩ := List.mem_map.mp h
    split at e
    · rename_i c
      subst e c
      exact .inl rfl
    · subst e
      exact .inr hq
  · rcases List.mem_append.mp h with h | h
    · exact .inr h
    · simp at h
      exact .inl h
theorem putK_nd {t : Tbl} {k : Key} {v : V} (h : (t.map (·.1)).Nodup) : ((putK t k v).map (·.1)).Nodup := by
  cases e : valV t k with
  | none => exact nd_putK v h e
  | some w =>
    have c : (t.any fun kv => decide (kv.1 = k)) = true := by rw [valV_any, e]; rfl
    unfold putK
    rw [if_pos c, List.map_map]
    have : ((fun x => x.1) ∘ fun (kv : Key × V) => if kv.1 = k then (kv.1, v) else kv) = fun kv => kv.1 := by
      funext kv
      show (if kv.1 = k then (kv.1, v) else kv).1 = kv.1
      split <;> rfl
    rw [this]
    exact h
theorem TOk.put {t : Tbl} {x : Str} {v : V} (h : TOk t) (hx : isIdent x = true) (hv : valOk v = true) : TOk (putK t (.inr x) v) :=
  ⟨putK_nd h.nd, fun p hp => (putK_mem hp).elim (fun e => by rw [e]; exact hx) fun m => h.id p m, fun p hp => (putK_mem hp).elim (fun e => by rw [e]; exact hv) fun m => h.ok p m⟩
theorem mergeK_tok : ∀ {b a : Tbl}, TOk a → (∀ p ∈ b, keyId p.1 = true) → (∀ p ∈ b, valOk p.2 = true) → TOk (mergeK a b)
  | [], a, ha, _, _ => ha
  | p :: b, a, ha, hi, ho => by
    have e := keyId_txt (hi p (by simp))
    have hk : isIdent (txt p.1) = true := by
      have z := hi p (by simp)
      rw [e] at z
      exact z
    have h1 : TOk (putK a p.1 p.2) := by
      rw [e]
      exact ha.put hk (ho p (by simp))
    exact mergeK_tok (b := b) h1 (fun q hq => hi q (by simp [hq])) fun q hq => ho q (by simp [hq])
theorem valV_merge : ∀ {b a : Tbl} {k : Key}, (b.map (·.1)).Nodup → valV (mergeK a b) k = (valV b k).or (valV a k)
  | [], a, k, _ => by simp [mergeK, valV_nil]
  | p :: b, a, k, nd => by
    rw [List.map_cons, List.nodup_cons] at nd
    show valV (mergeK (putK a p.1 p.2) b) k = _
    rw [valV_merge nd.2, valV_put]
    by_cases e : p.1 = k
    · rw [valV_pos e, if_pos e.symm]
      have : valV b k = none := by
        cases q : valV b k with
        | none => rfl
        | some w => exact absurd (valV_key.mp (show (valV b k).isSome = true by rw [q]; rfl)) (e ▸ nd.1)
      rw [this]
      rfl
    · rw [valV_neg e, if_neg fun z => e z.symm]
theorem merge_eqv {a a' b b' : Tbl} (hb : TOk b) (hb' : TOk b') (e : Eqv a a') (f : Eqv b b') : Eqv (mergeK a b) (mergeK a' b') := fun k => by
  rw [valV_merge hb.nd, valV_merge hb'.nd, e, f]
theorem merge_nil {a : Tbl} : mergeK a [] = a := rfl
theorem nil_merge {a : Tbl} (h : TOk a) : Eqv (mergeK [] a) a := fun k => by rw [valV_merge h.nd, valV_nil, Option.or_none]
theorem merge_self {a : Tbl} (h : TOk a) : Eqv (mergeK a a) a := fun k => by rw [valV_merge h.nd]; cases valV a k <;> rfl
theorem merge_assoc {a b c : Tbl} (hb : TOk b) (hc : TOk c) : Eqv (mergeK a (mergeK b c)) (mergeK (mergeK a b) c) := fun k => by
  rw [valV_merge (mergeK_tok hb hc.id hc.ok).nd, valV_merge hc.nd, valV_merge hc.nd, valV_merge hb.nd]
  cases valV c k <;> rfl
theorem merge_tok {a b : Tbl} (ha : TOk a) (hb : TOk b) : TOk (mergeK a b) := mergeK_tok ha hb.id hb.ok
theorem len_eqv {a b : Tbl} (ha : TOk a) (hb : TOk b) (e : Eqv a b) : a.length = b.length := by
  have z := (names_perm ha hb e).length_eq
  unfold names at z
  rw [List.length_map, List.length_map] at z
  exact z
end Own

set_option Elab.async false
set_option linter.all false
set_option maxRecDepth 100000
set_option maxHeartbeats 4000000
/-! Own classes of the text; walks over dicts; the state that the later laws draw from. -/
namespace Own
open PySem PySem.Spec PyProof.Rows L2
/-- an own class -/
structure CnT (K : PySem.W.Frag) (mg : Str → Option Value) (x : Str) where
  C : Addr
  m : mg x = some (.ref C)
  c : Cls K C
  mks : PySem.W.makesIn K C = true
  kp : PySem.W.keepIn K (.ref C) = true
  ca : PySem.W.findIn K (.ref C) "__class__" = some (some (.builtin "object.__class__"))
  cn : PySem.W.specialIn K (.builtin "object.__class__") "__get__" = some (some (.builtin "getset_descriptor.__get__"))
  ct : PySem.W.takesIn K (.builtin "object.__class__") = some true
  cm : PySem.W.mroIn K C (.type "object") = some true
theorem CnT.ins {K : PySem.W.Frag} {mg : Str → Option Value} {x : Str} (T : CnT K mg x) {H : Hp} {a dx : Addr} {fs : List (Str × V)} (e : H a = some (.ins T.C dx fs)) : TyX K H (.ref a) (.ref T.C) := .base (.ins e T.c T.ca T.cn T.ct T.cm)
/-- a method of it without defaults -/
structure MtT (K : PySem.W.Frag) (C : Addr) (m q : Str) (st : Stmt) (ps : List Str) where
  a : Addr
  d : FuncData
  F : Fun K m q st a d
  at_ : PySem.W.findIn K (.ref C) m = some (some (.ref a))
  fn : PySem.W.isFn K (.ref a) = true
  b : Binds K d ps []
/-- one with defaults -/
structure MtD (K : PySem.W.Frag) (C : Addr) (m q : Str) (st : Stmt) (ps : List Str) (dvs : List V) where
  a : Addr
  d : FuncData
  F : FunD K m q (defArgs st) (defBody st) (defScope st) dvs [] a d
  at_ : PySem.W.findIn K (.ref C) m = some (some (.ref a))
  fn : PySem.W.isFn K (.ref a) = true
  b : Binds K d ps []
  ds : List Value
  hv : Vals dvs ds
  bd : Binds K d ps ds
theorem FunD.okN {P : Program} {w : World} {K : PySem.W.Frag} {mg : Str → Option Value} {base : Heap} {x qual : Str} {params : Arguments} {body : List Stmt} {scope : Scope} {dvs : List V} {kws : List (Str × V)} {f : Addr} {fd : FuncData} {N ps : List Str} {k : Nat} {sp : Sp} (F : FunD K x qual params body scope dvs kws f fd) (S : FnScope N ps scope) (len : ∀ vs H Q E, sp vs H Q E → vs.length = ps.length)
    (hbody : ∀ (cdv : Value) (A : Around) (outer : List Env) (s : Shared) (H : Hp) (vs : List V) (Q : VK) (E : XK), Room k (A.deeper (envOfC qual scope s.heap.objs.size f cdv)) → sp vs H Q E →
      ∃ t, PSs (cxOf CX0 P w K mg base N qual scope f cdv A outer s H E).nox body t ∧ t { nx := fun _ H' => Q .non H', rt := Q } (start N vs) H) : FnOk P w K mg base CX0 (k + 1) f fd ps sp :=
  F.ok S len fun cdv A outer s H vs Q E hr h => let ⟨t, d, q⟩ := hbody cdv A outer s H vs Q E hr h; ⟨t, d.nox, q⟩
theorem fun_of {K : PySem.W.Frag} {x qual : Str} {st : Stmt} {f : Addr} {fd : FuncData} (F : FunD K x qual (defArgs st) (defBody st) (defScope st) [] [] f fd) : Fun K x qual st f fd := by
  obtain ⟨oc, od, dV, kV, doc, pm, an, cdv, ct, osl, e, lk, hcd, hD, _⟩ := F.ex
  rcases hD with ⟨_, rfl⟩ | ⟨n, _⟩
  · exact ⟨⟨oc, od, kV, doc, pm, an, cdv, ct, osl, e, lk, hcd⟩, F.kp⟩
  · exact absurd rfl n
theorem okR {P : Program} {w : World} {K : PySem.W.Frag} {mg : Str → Option Value} {base : Heap} {CX : CXT} {k : Nat} {f : Addr} {fd : FuncData} {ps : List Str} {sp : Sp} (F : FnOk P w K mg base CX k f fd ps sp) (b : Binds K fd ps []) : FnR P w K mg base CX k f sp :=
  (FnOk.raw F b .nil).imp fun vs H Q E h => by rw [List.append_nil]; exact h
theorem okRD {P : Program} {w : World} {K : PySem.W.Frag} {mg : Str → Option Value} {base : Heap} {CX : CXT} {k : Nat} {f : Addr} {fd : FuncData} {ps : List Str} {sp : Sp} {dvs : List V} {ds : List Value} (F : FnOk P w K mg base CX k f fd ps sp) (b : Binds K fd ps ds) (h : Vals dvs ds) : FnR P w K mg base CX k f (fun vs H Q E => sp (vs ++ dvs) H Q E) := FnOk.raw F b h
/-- a statement that is not reached -/
def tDead : TS := fun _ _ _ => False
theorem ps_dead {X : Cx} {st : Stmt} : PS X st tDead := ⟨fun _ _ _ _ _ _ h => h.elim⟩
/-! ### walks -/
theorem for_keys {d : Addr} {o : Obj} {kvs : List (Key × V)} {g : TG} {tb : TS} {D : Ends} {σ : L2.St} {H : Hp} (Pv : Nat → L2.St → Hp → Prop) (h0 : Pv 0 σ H) (hl : ∀ i σ H, i ≤ kvs.length → Pv i σ H → H d = some (.frz o (.dK kvs)))
    (hs : ∀ i k v σ H, kvs[i]? = some (k, v) → Pv i σ H → g (kV k) σ H fun σ2 H2 => tb { D with nx := Pv (i + 1), ct := Pv (i + 1), bk := D.nx } σ2 H2) (hd : ∀ σ H, Pv kvs.length σ H → D.nx σ H) :
    ∃ W : Nat → Nat → L2.St → Hp → Prop, (∃ m, W 0 m σ H) ∧ ∀ i m σ H, W i m σ H →
      ((Itk d o kvs).stop i H ∧ D.nx σ H) ∨ ((Itk d o kvs).go i H ∧ ∃ N : L2.St → Hp → Prop, (∀ σ' H', N σ' H' → ∃ m', m' < m ∧ W (i + 1) m' σ' H') ∧ ∀ x H', (Itk d o kvs).yld i H x H' → g x σ H' fun σ2 H2 => tb { D with nx := N, ct := N, bk := D.nx } σ2 H2) := by
  refine ⟨fun j n τ G => n = kvs.length - j ∧ j ≤ kvs.length ∧ Pv j τ G, ⟨kvs.length, rfl, Nat.zero_le _, h0⟩, ?_⟩
  rintro j n τ G ⟨rfl, le, p⟩
  have lock := hl j τ G le p
  rcases Nat.lt_or_ge j kvs.length with lt | ge
  · refine .inr ⟨⟨lock, lt⟩, Pv (j + 1), fun σ' H' p' => ⟨kvs.length - (j + 1), by omega, rfl, lt, p'⟩, ?_⟩
    rintro x H' ⟨rfl, k, v, e, rfl⟩
    exact hs j k v τ _ e p
  · obtain rfl : j = kvs.length := Nat.le_antisymm le ge
    exact .inl ⟨⟨lock, Nat.le_refl _⟩, hd τ G p⟩
theorem for_items {d : Addr} {o : Obj} {kvs : List (Key × V)} {g : TG} {tb : TS} {D : Ends} {σ : L2.St} {H : Hp} (Pv : Nat → L2.St → Hp → Prop) (h0 : Pv 0 σ H) (hl : ∀ i σ H, i ≤ kvs.length → Pv i σ H → H d = some (.frz o (.dK kvs)))
    (hs : ∀ i k v σ H T, kvs[i]? = some (k, v) → Pv i σ H → H T = none → g (.ref T) σ (upd H T (.tup [kV k, v])) fun σ2 H2 => tb { D with nx := Pv (i + 1), ct := Pv (i + 1), bk := D.nx } σ2 H2) (hd : ∀ σ H, Pv kvs.length σ H → D.nx σ H) :
    ∃ W : Nat → Nat → L2.St → Hp → Prop, (∃ m, W 0 m σ H) ∧ ∀ i m σ H, W i m σ H →
      ((Iti d o kvs).stop i H ∧ D.nx σ H) ∨ ((Iti d o kvs).go i H ∧ ∃ N : L2.St → Hp → Prop, (∀ σ' H', N σ' H' → ∃ m', m' < m ∧ W (i + 1) m' σ' H') ∧ ∀ x H', (Iti d o kvs).yld i H x H' → g x σ H' fun σ2 H2 => tb { D with nx := N, ct := N, bk := D.nx } σ2 H2) := by
  refine ⟨fun j n τ G => n = kvs.length - j ∧ j ≤ kvs.length ∧ Pv j τ G, ⟨kvs.length, rfl, Nat.zero_le _, h0⟩, ?_⟩
  rintro j n τ G ⟨rfl, le, p⟩
  have lock := hl j τ G le p
  rcases Nat.lt_or_ge j kvs.length with lt | ge
  · refine .inr ⟨⟨lock, lt⟩, Pv (j + 1), fun σ' H' p' => ⟨kvs.length - (j + 1), by omega, rfl, lt, p'⟩, ?_⟩
    rintro x H' ⟨T, k, v, e, rfl, nT, rfl⟩
    exact hs j k v τ _ T e p nT
  · obtain rfl : j = kvs.length := Nat.le_antisymm le ge
    exact .inl ⟨⟨lock, Nat.le_refl _⟩, hd τ G p⟩
/-- for k in d, the dict locked meanwhile -/
theorem forK_go {td : TE} {j : Nat} {tb : TS} {D : Ends} {σ : L2.St} {H : Hp} {d : Addr} {kvs : List (Key × V)} (hd : H d = some (.dK kvs)) (ht : ∀ H' (Q : VK), Q (.ref d) H' → td σ H' Q) (Pv : Obj → Nat → L2.St → Hp → Prop)
    (h0 : ∀ o, Pv o 0 σ (upd H d (.frz o (.dK kvs))))
    (hs : ∀ o (i : Nat) k v σ' H', kvs[i]? = some (k, v) → H' d = some (.frz o (.dK kvs)) → Pv o i σ' H' → tb { D with nx := fun σ' H' => H' d = some (.frz o (.dK kvs)) ∧ Pv o (i + 1) σ' H', ct := fun σ' H' => H' d = some (.frz o (.dK kvs)) ∧ Pv o (i + 1) σ' H', rt := fun v H' => H' d = some (.frz o (.dK kvs)) ∧ D.rt v (upd H' d (.dK kvs)), bk := fun σ' H' => H' d = some (.frz o (.dK kvs)) ∧ D.nx σ' (upd H' d (.dK kvs)) } (σ'.set j (some (kV k))) H')
    (hx : ∀ o σ' H', H' d = some (.frz o (.dK kvs)) → Pv o kvs.length σ' H' → D.nx σ' (upd H' d (.dK kvs))) : tLock (tFor (iKeys td) (gName j) tb) D σ H := by
  refine ⟨d, _, hd, True.intro, fun o => ?_⟩
  refine ht _ _ ⟨d, o, rfl, .inl ⟨kvs, upd_same, ?_⟩⟩
  refine for_keys (fun i σ' H' => H' d = some (.frz o (.dK kvs)) ∧ Pv o i σ' H') ⟨upd_same, h0 o⟩ (fun i σ' H' _ p => p.1) (fun i k v σ' H' e p => ?_) fun σ' H' p => ⟨p.1, hx o σ' H' p.1 p.2⟩
  exact hs o i k v σ' H' e p.1 p.2
/-- {k: v for x in xs}, xs a list that stays -/
theorem dcL_go {K : PySem.W.Frag} {tl : TE} {j : Nat} {tk tv : TE} {σ : L2.St} {H : Hp} {Q : VK} {a : Addr} {ys : List Str} (f : Str → V) (ht : ∀ Q : VK, Q (.ref a) H → tl σ H Q) (ha : SqL K H a (ys.map V.str)) (nd : ys.Nodup) (hz : ys.length ≤ 100000)
    (hk : ∀ (y : Str) H' (R : VK), y ∈ ys → Same H H' → R (.str y) H' → tk ((wipe σ [j]).set j (some (.str y))) H' R)
    (hv : ∀ (y : Str) H' (R : VK), y ∈ ys → Same H H' → R (f y) H' → tv ((wipe σ [j]).set j (some (.str y))) H' R)
    (q : ∀ D H', H D = none → Same H H' → H' D = some (.dK (ys.map fun y => (Sum.inr y, f y))) → Q (.ref D) H') : tDc (iList K tl) (gName j) tYes tk tv [j] σ H Q := by
  refine ht _ ⟨a, rfl, ⟨_, ha⟩, fun D hD => ?_⟩
  let Pv : Nat → Hp → Prop := fun i H' => H' D = some (.dK ((ys.take i).map fun y => (Sum.inr y, f y))) ∧ ExT D H H'
  refine ⟨fun i m H' => m = ys.length - i ∧ i ≤ ys.length ∧ Pv i H', ⟨ys.length, rfl, Nat.zero_le _, upd_same, exT_upd (ExT.refl D H)⟩, ?_⟩
  rintro i m H' ⟨rfl, le, p1, p2⟩
  have sH := ExT.toSame hD p2
  have sq := sq_same sH ha
  rcases Nat.lt_or_ge i ys.length with lt | ge
  · have ey : ys[i]? = some ys[i] := List.getElem?_eq_getElem lt
    have mem : ys[i] ∈ ys := List.getElem_mem lt
    refine .inr ⟨⟨_, _, sq, by rw [List.getElem?_map, ey]; rfl⟩, Pv (i + 1), fun H2 p' => ⟨ys.length - (i + 1), by omega, rfl, lt, p'⟩, ?_⟩
    rintro x H2 ⟨rfl, hx⟩
    have ex := hx _ sq
    rw [List.getElem?_map, ey] at ex
    have ex2 : V.str ys[i] = x := Option.some.inj ex
    subst ex2
    refine ⟨wipe_set, ?_⟩
    show tk _ _ _
    refine hk _ _ _ mem sH (hv _ _ _ mem sH ?_)
    refine ⟨_, Sum.inr ys[i], rfl, p1, ?_, ?_, exT_upd p2⟩
    · rw [List.length_map]
      exact Nat.lt_of_le_of_lt (List.length_take_le _ _) (Nat.lt_of_lt_of_le lt (Nat.le_trans hz (by decide)))
    · rw [upd_same]
      have no : valV ((ys.take i).map fun y => ((Sum.inr y : Key), f y)) (Sum.inr ys[i]) = none := by
        cases e : valV ((ys.take i).map fun y => ((Sum.inr y : Key), f y)) (Sum.inr ys[i]) with
        | none => rfl
        | some w =>
          have k := valV_key.mp (show (valV ((ys.take i).map fun y => ((Sum.inr y : Key), f y)) (Sum.inr ys[i])).isSome = true by rw [e]; rfl)
          rw [List.map_map] at k
          obtain ⟨z, hz, ez⟩ := List.mem_map.mp k
          have ez2 : z = ys[i] := by simpa using ez
          subst ez2
          have nd2 : (ys.take i ++ ys.drop i).Nodup := by rw [List.take_append_drop]; exact nd
          have := (List.nodup_append.mp nd2).2.2 ys[i] hz ys[i] (List.mem_iff_getElem?.mpr ⟨0, by rw [List.getElem?_drop]; exact ey⟩)
          exact absurd rfl this
      rw [putK_new _ no, List.take_add_one, ey, List.map_append]
      rfl
  · obtain rfl : i = ys.length := Nat.le_antisymm le ge
    rw [List.take_length] at p1
    exact .inl ⟨⟨_, sq, by simp⟩, q D H' hD sH p1⟩
/-! ### the state -/
structure StA (gs : List Int) (sd : Int) : Prop where
  few : gs.length ≤ 63
  lo : 0 ≤ sd
  hi : sd < 2147483647
def Stt (H : Hp) (t g : Addr) : Prop := g ≠ t ∧ ∃ (gs : List Int) (c n sd : Int), H t = some (.lst [.ref g, .int c, .int n, .int sd]) ∧ H g = some (.lst (gs.map V.int)) ∧ StA gs sd
/-- all but t and g stays -/
def ExS (t g : Addr) (H H' : Hp) : Prop := ∀ b o, b ≠ t → b ≠ g → H b = some o → H' b = some o
theorem ExS.refl (t g : Addr) (H : Hp) : ExS t g H H := fun _ _ _ _ e => e
theorem ExS.trans {t g : Addr} {H H1 H2 : Hp} (a : ExS t g H H1) (b : ExS t g H1 H2) : ExS t g H H2 := fun c o n m e => b c o n m (a c o n m e)
theorem Same.exS {t g : Addr} {H H' : Hp} (a : Same H H') : ExS t g H H' := fun c o _ _ e => a c o e
theorem ExS.same {t g : Addr} {H H1 H2 : Hp} (a : ExS t g H H1) (s : Same H1 H2) : ExS t g H H2 := a.trans (Same.exS s)
theorem Stt.same {H H' : Hp} {t g : Addr} (h : Stt H t g) (s : Same H H') : Stt H' t g := by
  obtain ⟨n, gs, c, m, sd, e1, e2, o⟩ := h
  exact ⟨n, gs, c, m, sd, s _ _ e1, s _ _ e2, o⟩
theorem Stt.ne {H : Hp} {t g p : Addr} (h : Stt H t g) (e : H p = none) : p ≠ t ∧ p ≠ g := by
  obtain ⟨n, gs, c, m, sd, e1, e2, o⟩ := h
  exact ⟨(ne_of_none e1 e).symm, (ne_of_none e2 e).symm⟩
def spState (K : PySem.W.Frag) : Sp := fun vs H Q _ => ∃ (a : Addr) (ns : List Int), vs = [.ref a] ∧ SqL K H a (ns.map V.int) ∧ ns.length ≤ 63 ∧ ∀ t g H', H t = none → H g = none → Stt H' t g → Same H H' → Q (.ref t) H'
def spDrawS : Sp := fun vs H Q _ => ∃ (t g : Addr) (m : Int), vs = [.ref t, .int m] ∧ Stt H t g ∧ 0 < m ∧ m.natAbs < 2 ^ 1000 ∧ ∀ x H', 0 ≤ x → x < m → Stt H' t g → ExS t g H H' → Q (.int x) H'
theorem drS_go {t g : Addr} {m : Int} {H : Hp} {Q : VK} {E : XK} (ht : Stt H t g) (m0 : 0 < m) (mb : m.natAbs < 2 ^ 1000) (k : ∀ x H', 0 ≤ x → x < m → Stt H' t g → ExS t g H H' → Q (.int x) H') : spDrawS [.ref t, .int m] H Q E := ⟨t, g, m, rfl, ht, m0, mb, k⟩
theorem ints_shaped (l : List Int) : SeqAt.shaped (.list (l.map PyData.int)) = true := by
  have a : ∀ l : List Int, PyData.canLayAll0 (l.map PyData.int) = true := by
    intro l
    induction l with
    | nil => simp [PyData.canLayAll0]
    | cons x l ih => simp only [List.map_cons, PyData.canLayAll0, PyData.canLay0, ih, Bool.and_self]
  have b : ∀ l : List Int, PyData.depthAll (l.map PyData.int) ≤ 1 := by
    intro l
    induction l with
    | nil => simp [PyData.depthAll]
    | cons x l ih => simp only [List.map_cons, PyData.depthAll, PyData.depth]; omega
  show (PyData.canLay0 (.list (l.map PyData.int)) && decide (PyData.depth (.list (l.map PyData.int)) ≤ 64)) = true
  rw [Bool.and_eq_true]
  refine ⟨by simp only [PyData.canLay0]; exact a l, decide_eq_true ?_⟩
  simp only [PyData.depth]
  have := b l
  omega
theorem dp_ints {K : PySem.W.Frag} {H : Hp} : ∀ (l : List Int), DpAll K H (l.map V.int) (l.map PyData.int)
  | [] => .nil
  | x :: l => .cons (.int x) (dp_ints l)
theorem neNilI_go {K : PySem.W.Frag} {p e : Addr} {l : List Int} {H : Hp} {Q : VK} (h : SqL K H p (l.map V.int)) (he : SqL K H e []) (q : Q (.bl (!l.isEmpty)) H) : rNeD K (.ref p) (.ref e) H Q := by
  refine ⟨.list (l.map .int), .list [], .lst h (dp_ints l), .lst he .nil, ints_shaped l, ints_shaped [], ?_⟩
  have z : PyData.eqv (.list (l.map PyData.int)) (.list []) = l.isEmpty := by
    cases l with
    | nil => simp [PyData.eqv, PyData.eqvAll]
    | cons x l => simp [PyData.eqv, PyData.eqvAll]
  rw [z]
  exact q
end Own

set_option Elab.async false
set_option linter.all false
set_option maxRecDepth 100000
set_option maxHeartbeats 4000000
/-! Names and values, as the program checks them and as the laws draw them. -/
namespace Own
open PySem PySem.Spec PyProof.Rows L2
def lettersS : Str := "abcdefghijklmnopqrstuvwxyz"
def digitsS : Str := "0123456789"
def keptW : List Str := ["name", "flag", "slot", "func", "open", "own", "look", "bind", "call", "keep", "take", "shift", "run", "drop", "apart", "when", "held", "fail", "guard", "else", "after", "end", "with", "of", "on", "off"]
def limitI : Int := (10 ^ 50) ^ 10
theorem letters_l : lettersS.cps.toList = List.range' 97 26 := by decide +kernel
theorem digits_l : digitsS.cps.toList = List.range' 48 10 := by decide +kernel
theorem in_letters {c : Nat} : decide (c ∈ lettersS.cps.toList) = ltr c := by
  rw [letters_l]
  unfold ltr
  rw [← Bool.decide_and]
  congr 1
  rw [List.mem_range'_1]
  exact propext ⟨fun h => by omega, fun h => by omega⟩
theorem in_digits {c : Nat} : decide (c ∈ digitsS.cps.toList) = dgt c := by
  rw [digits_l]
  unfold dgt
  rw [← Bool.decide_and]
  congr 1
  rw [List.mem_range'_1]
  exact propext ⟨fun h => by omega, fun h => by omega⟩
theorem keptW_eq : keptW = keptS := rfl
theorem mem_letters {c : Nat} (h : ltr c = true) : c ∈ lettersS.cps.toList := by
  rw [← in_letters] at h
  exact of_decide_eq_true h
end Own
namespace Own
open PySem PySem.Spec PyProof.Rows L2
theorem same_none {H H' : Hp} {p : Addr} (s : Same H H') (n : H' p = none) : H p = none := by
  cases e : H p with
  | none => rfl
  | some o =>
    rw [s _ _ e] at n
    cases n
end Own

set_option Elab.async false
set_option linter.all false
set_option maxRecDepth 100000
set_option maxHeartbeats 4000000
/-! Names of numbers behind a stem; comprehensions over a range, draws within. -/
namespace Own
open PySem PySem.Spec PyProof.Rows L2
/-- a number's digits, behind a stem -/
def numS (i : Nat) : Str := Str.ofString (toString ((i : Nat) : Int))
theorem num_fact : ∀ i < 91, 1 ≤ (TL.tl (numS i)).length ∧ (TL.tl (numS i)).length ≤ 2 ∧ (TL.tl (numS i)).all dgt = true := by decide +kernel
theorem num_inj : ∀ i < 91, ∀ j < 91, TL.tl (numS i) = TL.tl (numS j) → i = j := by decide +kernel
theorem kept_ltr : ∀ z ∈ keptS, (TL.tl z).all ltr = true := by decide +kernel
theorem tl_ext {x y : Str} (h : TL.tl x = TL.tl y) : x = y := by
  obtain ⟨a⟩ := x
  obtain ⟨b⟩ := y
  exact congrArg Str.mk (Array.toList_inj.mp h)
theorem pig : ∀ {l m : List Str}, l.Nodup → (∀ x ∈ l, x ∈ m) → l.length ≤ m.length
  | [], m, _, _ => Nat.zero_le _
  | a :: l, m, hn, hs => by
    have ha := hs a (by simp)
    have hn' := List.nodup_cons.mp hn
    have := pig (l := l) (m := m.erase a) hn'.2 fun x hx => by
      refine (List.mem_erase_of_ne ?_).mpr (hs x (by simp [hx]))
      rintro rfl
      exact hn'.1 hx
    rw [List.length_erase_of_mem ha] at this
    have := List.length_pos_of_mem ha
    rw [List.length_cons]
    omega
def stemS (x : Str) (i : Nat) : Str := cutS x none (some 9) ++ numS i
theorem tl_stem (x : Str) (i : Nat) : TL.tl (stemS x i) = (TL.tl x).take 9 ++ TL.tl (numS i) := by
  unfold stemS
  rw [TL.tl_append]
  exact congrArg (· ++ _) (tl_cut_to x 9)
theorem stem_ident {x : Str} {i : Nat} (h : Spell x) (hi : i < 91) : isIdent (stemS x i) = true := by
  obtain ⟨n1, n2, n3⟩ := num_fact i hi
  have e := tl_stem x i
  have w := word_len h.1
  have wa := word_all h.1
  have hl : ((TL.tl x).take 9).length ≤ 9 := by rw [List.length_take]; omega
  have h1 : isWord (stemS x i) = true := word_of (by rw [e, List.length_append]; omega) (by rw [e, List.length_append]; omega) (by
    rw [e, List.all_append, Bool.and_eq_true]
    refine ⟨List.all_eq_true.mpr fun c hc => List.all_eq_true.mp wa c (List.mem_of_mem_take hc), List.all_eq_true.mpr fun c hc => ?_⟩
    have := List.all_eq_true.mp n3 c hc
    simp [sgn, this])
  have h2 : headLtr (stemS x i) = true := by
    have hh := h.2
    unfold headLtr at hh ⊢
    rw [e]
    cases ex : TL.tl x with
    | nil => rw [ex] at hh; cases hh
    | cons c cs => rw [ex] at hh; exact hh
  have h3 : keptS.contains (stemS x i) = false := by
    refine Bool.eq_false_iff.mpr fun c => ?_
    have hm := List.contains_iff_mem.mp c
    have ka := kept_ltr _ hm
    rw [e, List.all_append, Bool.and_eq_true] at ka
    cases en : TL.tl (numS i) with
    | nil => rw [en] at n1; simp at n1
    | cons c cs =>
      rw [en] at n3 ka
      have a := List.all_eq_true.mp n3 c (by simp)
      have b := List.all_eq_true.mp ka.2 c (by simp)
      simp [dgt, ltr] at a b
      omega
  unfold isIdent
  rw [h1, h2, h3]
  rfl
theorem stem_inj {x : Str} {i j : Nat} (hi : i < 91) (hj : j < 91) (e : stemS x i = stemS x j) : i = j := by
  have := congrArg TL.tl e
  rw [tl_stem, tl_stem] at this
  exact num_inj i hi j hj (List.append_cancel_left this)
theorem tyL {K : PySem.W.Frag} {H : Hp} {l : Addr} {xs : List V} (h : H l = some (.lst xs)) : tyV K "list" (.ref l) H := .inl ⟨rfl, xs, .inl (.inl h)⟩
/-- for j in range(e), e drawn -/
theorem forC_go {ta : TA} {j : Nat} {tb : TS} {D : Ends} {σ : L2.St} {H : Hp} {Cond : Nat → Hp → Prop} (ht : ∀ R : List V → Hp → Prop, (∀ n H1, Cond n H1 → R [.int (n : Int)] H1) → ta σ H R) (hn : ∀ n H1, Cond n H1 → n ≤ 100000) (Pv : Nat → Nat → L2.St → Hp → Prop) (h0 : ∀ n H1, Cond n H1 → Pv n 0 σ H1)
    (hs : ∀ (n i : Nat) σ' H', i < n → Pv n i σ' H' → tb { D with nx := Pv n (i + 1), ct := Pv n (i + 1), bk := D.nx } (σ'.set j (some (.int (i : Int)))) H') (hd : ∀ n σ' H', Pv n n σ' H' → D.nx σ' H') : tFor (iRng1 ta) (gName j) tb D σ H := by
  refine ht _ fun n H1 c => ⟨n, rfl, by have := hn n H1 c; omega, by have := hn n H1 c; omega, ?_⟩
  rw [Int.toNat_natCast]
  refine for_range (lo := 0) (n := n) (Pv n) (h0 n H1 c) (fun i σ' H' hi p => ?_) (hd n)
  rw [Int.zero_add]
  exact hs n i σ' H' hi p

def lkeptL : List Str := ["name", "flag", "slot", "func", "open", "own", "look", "bind", "of", "call", "keep", "take", "shift", "run", "with", "drop", "apart", "when", "held", "else", "guard", "after", "fail", "end", "on", "off"]
theorem lkept_has (x : Str) : lkeptL.contains x = keptS.contains x := by
  have p : lkeptL.Perm keptS := List.isPerm_iff.mp (by decide +kernel)
  rw [Bool.eq_iff_iff, List.contains_iff_mem, List.contains_iff_mem]
  exact p.mem_iff
theorem lkept_split : Txt.split (("name flag slot func open own look bind of call keep take shift run with drop apart when" : Str) ++ (" held else guard after fail end on off" : Str)) " " = lkeptL := by decide +kernel
theorem signs_cat : lettersS ++ digitsS = signsS := by decide +kernel
theorem letters_at {x : Int} (h0 : 0 ≤ x) (h1 : x < 26) : ∃ c, atI lettersS.cps.toList x = some c ∧ ltr c = true := by
  obtain ⟨j, rfl⟩ : ∃ j : Nat, x = (j : Int) := ⟨x.toNat, by omega⟩
  refine ⟨97 + j, atI_nat ?_, by simp [ltr]; omega⟩
  rw [letters_l, List.getElem?_range' (by omega)]
  simp
/-- some stem of twenty is not taken -/
theorem stem_new {x : Str} {us : List Str} (few : us.length ≤ 19) : ∃ i < 20, us.contains (stemS x (10 + i)) = false := by
  refine Classical.byContradiction fun no => ?_
  have all : ∀ i < 20, us.contains (stemS x (10 + i)) = true := fun i hi => by
    cases e : us.contains (stemS x (10 + i)) with
    | true => rfl
    | false => exact absurd ⟨i, hi, e⟩ no
  have z := pig (l := (List.range 20).map fun i => stemS x (10 + i)) (m := us) (by
    rw [List.Nodup, List.pairwise_map]
    refine List.Pairwise.imp_of_mem (fun {a b} ha hb hne => fun e => hne ?_) List.nodup_range
    have := stem_inj (x := x) (i := 10 + a) (j := 10 + b) (by have := List.mem_range.mp ha; omega) (by have := List.mem_range.mp hb; omega) e
    omega) (by
    intro y hy
    obtain ⟨i, hi, rfl⟩ := List.mem_map.mp hy
    exact List.contains_iff_mem.mp (all i (List.mem_range.mp hi)))
  rw [List.length_map, List.length_range] at z
  omega
def LcR (Inv : Nat → Addr → Nat → List V → Hp → Prop) (n : Nat) (D : Addr) (i : Nat) (H' : Hp) : Prop := ∃ acc, H' D = some (.lst acc) ∧ acc.length ≤ i ∧ Inv n D i acc H'
/-- [e for j in range(k)], k drawn, e drawing -/
theorem lcRI_go {ta : TA} {j : Nat} {te : TE} {σ : L2.St} {H : Hp} {Q : VK} {Cond : Nat → Hp → Prop} (Inv : Nat → Addr → Nat → List V → Hp → Prop) (ht : ∀ R : List V → Hp → Prop, (∀ n H1, Cond n H1 → R [.int (n : Int)] H1) → ta σ H R) (hn : ∀ n H1, Cond n H1 → n ≤ 100000)
    (h0 : ∀ n H1 D H', Cond n H1 → H1 D = none → Same H1 H' → H' D = some (.lst []) → Inv n D 0 [] H')
    (hs : ∀ n D i acc H', i < n → n ≤ 100000 → H' D = some (.lst acc) → acc.length ≤ i → Inv n D i acc H' → te ((wipe σ [j]).set j (some (.int (i : Int)))) H' fun y H4 => ∃ acc', H4 D = some (.lst acc') ∧ acc'.length < sizeLine ∧ LcR Inv n D (i + 1) (upd H4 D (.lst (acc' ++ [y]))))
    (q : ∀ n D H' acc, H' D = some (.lst acc) → acc.length ≤ n → Inv n D n acc H' → Q (.ref D) H') : tLc (iRng1 ta) (gName j) tYes te [j] σ H Q := by
  refine ht _ fun n H1 c => ?_
  have big := hn n H1 c
  refine ⟨n, rfl, by omega, by omega, fun D hD => ?_⟩
  rw [Int.toNat_natCast]
  refine lc_range (lo := 0) (n := n) (fun i H' => LcR Inv n D i H') ⟨[], upd_same, Nat.le_refl _, h0 n H1 D _ c hD (same_new hD) upd_same⟩ ?_ ?_
  · rintro i H' hi ⟨acc, e, l, p⟩
    rw [Int.zero_add]
    exact ⟨wipe_set, hs n D i acc H' hi big e l p⟩
  · rintro H' ⟨acc, e, l, p⟩
    exact q n D H' acc e l p
end Own
namespace Own
open PySem PySem.Spec PyProof.Rows L2
theorem exS_none {t g D : Addr} {H H1 : Hp} (ht : Stt H1 t g) (v : ExS t g H H1) (n : H1 D = none) : H D = none := by
  obtain ⟨d1, d2⟩ := ht.ne n
  cases e : H D with
  | none => rfl
  | some o =>
    rw [v D o d1 d2 e] at n
    cases n
theorem Stt.upd {H : Hp} {t g D : Addr} {o : HO} (h : Stt H t g) (h1 : D ≠ t) (h2 : D ≠ g) : Stt (L2.upd H D o) t g := by
  obtain ⟨gt, gs, c, k, sd, e1, e2, ok⟩ := h
  exact ⟨gt, gs, c, k, sd, by rw [upd_ne h1.symm]; exact e1, by rw [upd_ne h2.symm]; exact e2, ok⟩
theorem ExS.upd {H H' : Hp} {t g D : Addr} {o : HO} (v : ExS t g H H') (n : H D = none) : ExS t g H (L2.upd H' D o) := fun b u h1 h2 e => by
  rw [upd_ne (by rintro rfl; rw [n] at e; cases e)]
  exact v b u h1 h2 e
theorem joined_ones {xs : List Str} (h : ∀ x ∈ xs, x.length = 1) : (Txt.join (Str.ofString "") xs).length = xs.length := by
  rw [TL.join_eq, TL.len_tl, TL.tl_join]
  have z : TL.tl (Str.ofString "") = [] := rfl
  rw [z]
  induction xs with
  | nil => rfl
  | cons x xs ih =>
    have ix := ih fun y hy => h y (List.mem_cons_of_mem _ hy)
    have lx : (TL.tl x).length = 1 := by rw [← TL.len_tl]; exact h x (by simp)
    cases xs with
    | nil => exact lx
    | cons y ys =>
      rw [List.map_cons, List.map_cons, TL.joinL, List.nil_append, List.length_append, lx, ← List.map_cons, ix]
      simp only [List.length_cons]
      omega
theorem sum_ones {xs : List Str} (h : ∀ x ∈ xs, x.length = 1) : (xs.map (fun x => x.length)).sum = xs.length := by
  induction xs with
  | nil => rfl
  | cons x xs ih =>
    rw [List.map_cons, List.sum_cons, h x (by simp), ih fun y hy => h y (List.mem_cons_of_mem _ hy), List.length_cons]
    omega
theorem valOk_int {i : Int} (h : i.natAbs < 10 ^ 31) : valOk (.int i) = true := decide_eq_true (Nat.lt_of_lt_of_le h (by decide +kernel))
end Own

set_option Elab.async false
set_option linter.all false
set_option maxRecDepth 100000
set_option maxHeartbeats 4000000
/-! Environments: objects with a table. -/
namespace Own
open PySem PySem.Spec PyProof.Rows L2
theorem isi_go {K : PySem.W.Frag} {x c : V} {t u : Value} {b : Bool} {H : Hp} {Q : VK} (k : ClsV c u) (ty : TyX K H x t) (e : PySem.W.kitOne K t u = some b) (q : Q (.bl b) H) : rIsi K [x, c] H Q := ⟨x, c, t, u, b, rfl, k, ty, e, q⟩
theorem kit_same {K : PySem.W.Frag} {t : Value} : PySem.W.kitOne K t t = some true := by
  unfold PySem.W.kitOne
  rw [if_pos (by simp)]
/-- [e for c in a text], e changing nothing -/
theorem lcStr_go {tl : TE} {j : Nat} {te : TE} {σ : L2.St} {H : Hp} {Q : VK} {x : Str} (f : Nat → V) (ht : ∀ Q : VK, Q (.str x) H → tl σ H Q) (hz : x.length ≤ 100000)
    (he : ∀ (c : Nat) H' (R : VK), R (f c) H' → te ((wipe σ [j]).set j (some (.str ⟨#[c]⟩))) H' R) (q : ∀ D H', H D = none → Same H H' → H' D = some (.lst ((TL.tl x).map f)) → Q (.ref D) H') : tLc (iStr tl) (gName j) tYes te [j] σ H Q := by
  refine ht _ ⟨x, rfl, fun D hD => ?_⟩
  have sz : x.cps.size = (TL.tl x).length := by show x.cps.size = x.cps.toList.length; simp
  refine ⟨fun i m H' => m = x.cps.size - i ∧ i ≤ x.cps.size ∧ H' = upd H D (.lst (((TL.tl x).take i).map f)), ⟨x.cps.size, rfl, Nat.zero_le _, rfl⟩, ?_⟩
  rintro i m H' ⟨rfl, le, rfl⟩
  rcases Nat.lt_or_ge i x.cps.size with lt | ge
  · refine .inr ⟨lt, fun H2 => H2 = upd H D (.lst (((TL.tl x).take (i + 1)).map f)), fun H2 e => ⟨x.cps.size - (i + 1), by omega, rfl, lt, e⟩, ?_⟩
    rintro v H2 ⟨rfl, c, hc, rfl⟩
    refine ⟨wipe_set, ?_⟩
    show te _ _ _
    refine he c _ _ ⟨_, upd_same, ?_, ?_⟩
    · rw [List.length_map]
      refine Nat.lt_of_le_of_lt (List.length_take_le _ _) (Nat.lt_of_lt_of_le lt (Nat.le_trans (show x.cps.size ≤ 100000 from hz) (by decide)))
    · rw [upd_upd]
      have e : (TL.tl x)[i]? = some c := by
        show x.cps.toList[i]? = some c
        rw [Array.getElem?_toList]
        exact hc
      rw [List.take_add_one, e, List.map_append]
      rfl
  · refine .inl ⟨ge, ?_⟩
    have e : i = (TL.tl x).length := by omega
    rw [e, List.take_length]
    exact q D _ hD (same_new hD) upd_same
theorem all_bl (l : List Nat) (f : Nat → Bool) : ∃ bs : List Bool, (l.map fun c => V.bl (f c)) = bs.map V.bl ∧ bs.all id = l.all f := by
  refine ⟨l.map f, by rw [List.map_map]; rfl, ?_⟩
  rw [List.all_map]
  rfl
/-- the object at x is an environment with this table -/
def EnvAt (C : Addr) (H : Hp) (x : Addr) (t : Tbl) : Prop := ∃ dx d, H x = some (.ins C dx [("table", .ref d)]) ∧ H d = some (.dK t)
theorem EnvAt.same {C : Addr} {H H' : Hp} {x : Addr} {t : Tbl} (h : EnvAt C H x t) (s : Same H H') : EnvAt C H' x t := by
  obtain ⟨dx, d, h1, h2⟩ := h
  exact ⟨dx, d, s _ _ h1, s _ _ h2⟩
theorem EnvAt.exS {C t g : Addr} {H H' : Hp} {x : Addr} {kvs : Tbl} (h : EnvAt C H x kvs) (ht : Stt H t g) (v : ExS t g H H') : EnvAt C H' x kvs := by
  obtain ⟨dx, d, h1, h2⟩ := h
  obtain ⟨_, gs, c, m, sd, e1, e2, _⟩ := ht
  have ne : ∀ a o, H a = some o → (∀ xs, o ≠ .lst xs) → a ≠ t ∧ a ≠ g := fun a o e no => ⟨by rintro rfl; rw [e1] at e; exact no _ (Option.some.inj e).symm, by rintro rfl; rw [e2] at e; exact no _ (Option.some.inj e).symm⟩
  obtain ⟨a1, a2⟩ := ne x _ h1 (fun _ z => by cases z)
  obtain ⟨b1, b2⟩ := ne d _ h2 (fun _ z => by cases z)
  exact ⟨dx, d, v _ _ a1 a2 h1, v _ _ b1 b2 h2⟩
theorem dk_exS {t g : Addr} {H H' : Hp} {d : Addr} {kvs : Tbl} (h : H d = some (.dK kvs)) (ht : Stt H t g) (v : ExS t g H H') : H' d = some (.dK kvs) := by
  obtain ⟨_, gs, c, m, sd, e1, e2, _⟩ := ht
  exact v _ _ (by rintro rfl; rw [e1] at h; cases h) (by rintro rfl; rw [e2] at h; cases h) h
/-- for k, v in d.items(), the dict locked meanwhile, each pair a new tuple -/
theorem forI_go {K : PySem.W.Frag} {td : TE} {i1 i2 n : Nat} {tb : TS} {D : Ends} {σ : L2.St} {H : Hp} {d : Addr} {kvs : Tbl} (hd : H d = some (.dK kvs)) (hn : n = 2) (ht : ∀ H' (Q : VK), Q (.ref d) H' → td σ H' Q) (Pv : Obj → Nat → L2.St → Hp → Prop)
    (h0 : ∀ o, Pv o 0 σ (upd H d (.frz o (.dK kvs))))
    (hs : ∀ o (i : Nat) k v σ' H' H2, kvs[i]? = some (k, v) → H' d = some (.frz o (.dK kvs)) → Pv o i σ' H' → Same H' H2 → tb { D with nx := fun σ' H' => H' d = some (.frz o (.dK kvs)) ∧ Pv o (i + 1) σ' H', ct := fun σ' H' => H' d = some (.frz o (.dK kvs)) ∧ Pv o (i + 1) σ' H', rt := fun v H' => H' d = some (.frz o (.dK kvs)) ∧ D.rt v (upd H' d (.dK kvs)), bk := fun σ' H' => H' d = some (.frz o (.dK kvs)) ∧ D.nx σ' (upd H' d (.dK kvs)) } ((σ'.set i1 (some (kV k))).set i2 (some v)) H2)
    (hx : ∀ o σ' H', H' d = some (.frz o (.dK kvs)) → Pv o kvs.length σ' H' → D.nx σ' (upd H' d (.dK kvs))) : tLock (tFor (iItems td) (gTup K n (gCons (gName i1) (gCons (gName i2) gNil))) tb) D σ H := by
  refine ⟨d, _, hd, True.intro, fun o => ?_⟩
  refine ht _ _ ⟨d, o, kvs, rfl, upd_same, ?_⟩
  refine for_items (fun i σ' H' => H' d = some (.frz o (.dK kvs)) ∧ Pv o i σ' H') ⟨upd_same, h0 o⟩ (fun i σ' H' _ p => p.1) (fun i k v σ' H' T e p nT => ?_) fun σ' H' p => ⟨p.1, hx o σ' H' p.1 p.2⟩
  refine ⟨T, _, rfl, .inl (.inl upd_same), hn.symm, kV k, _, rfl, ?_⟩
  exact ⟨v, _, rfl, rfl, hs o i k v σ' H' _ e p.1 p.2 (same_new nT)⟩
/-- unlocked, the dict stands as before -/
theorem unlock_same {H H' : Hp} {d : Addr} {o : Obj} {u : HO} (h : H d = some u) (s : Same (upd H d (.frz o u)) H') : Same H (upd H' d u) := fun b w e => by
  by_cases q : b = d
  · subst q
    rw [h] at e
    rw [upd_same]
    exact e
  · rw [upd_ne q]
    exact s b w (by rw [upd_ne q]; exact e)
end Own
namespace Own
open PySem PySem.Spec PyProof.Rows L2
theorem fld_go {K : PySem.W.Frag} {ta : TE} {f : Str} {σ : L2.St} {H : Hp} {Q : VK} {a C dx : Addr} {fs : List (Str × V)} {v : V} (ht : ∀ Q : VK, Q (.ref a) H → ta σ H Q) (h : H a = some (.ins C dx fs)) (c : Cls K C) (n : NoAttr K C f) (l : fs.lookup f = some v) (q : Q v H) : tFld K ta f σ H Q :=
  ht _ ⟨a, C, dx, fs, v, rfl, h, c, n, l, q⟩
theorem limit_pos : (0 : Int) < limitI := by decide +kernel
theorem limit_bits : limitI.natAbs < 2 ^ 1700 := by decide +kernel
theorem limit_sq : limitI * limitI = 10 ^ 1000 := by decide +kernel
theorem limit_ok {i : Int} (h : i.natAbs < 10 ^ 1000) : decide ((if i < 0 then -i else i) / limitI < limitI) = true := by
  refine decide_eq_true (Int.ediv_lt_of_lt_mul limit_pos ?_)
  rw [limit_sq]
  have e : (if i < 0 then -i else i) = (i.natAbs : Int) := by split <;> omega
  rw [e]
  have z : ((10 ^ 1000 : Nat) : Int) = (10 : Int) ^ 1000 := by rw [Int.natCast_pow]; rfl
  rw [← z]
  exact Int.ofNat_lt.mpr h
end Own
namespace Own
open PySem PySem.Spec PyProof.Rows L2
theorem dcC_go {K : PySem.W.Frag} {tl : TE} {g : TG} {tt : TT} {tk tv : TE} {vs : List Nat} {σ : L2.St} {H : Hp} {Q : VK} (C : Addr → Hp → Prop) (ht : ∀ R : VK, (∀ a H1, C a H1 → R (.ref a) H1) → tl σ H R) (k : ∀ a H1, C a H1 → tDc (iList K fun _ H R => R (.ref a) H) g tt tk tv vs σ H1 Q) : tDc (iList K tl) g tt tk tv vs σ H Q :=
  ht _ fun a H1 c => k a H1 c
end Own
namespace Own
open PySem PySem.Spec PyProof.Rows L2
section
variable {X : Cx}
/-- xs == ys for two lists built alike -/
theorem op_eqA (hu : X.A.units + 64 < cLine) : OpR X (compareOp .Eq) (rEqA X.K true) := by
  intro pins s σ H x y v u Q I rx ry h
  obtain ⟨n, p, q, xs, ys, few, rfl, rfl, hp, hq, same, item, k⟩ := h
  cases rx; cases ry
  obtain ⟨vs, rv, ⟨ov, nv, gv, cv, _, dv⟩, _⟩ := I.list hp
  obtain ⟨us, ru, ⟨ou, nu, gu, cu, _, du⟩, _⟩ := I.list hq
  have lv := rv.length
  have lu := ru.length
  have size : vs.toArray.size = us.toArray.size := by simp; omega
  have cmp := SeqAt.RcAt.lists (A := X.A) (s := s) (l := p) (b := q) (items := vs.toArray) (items2 := us.toArray) (e := fun _ => true) ⟨ov, gv, cv, _, dv⟩ ⟨ou, gu, cu, _, du⟩ size (by omega) (by
    intro j b1 b2
    have j1 : j < xs.length := by simp at b1; omega
    have j2 : j < ys.length := by omega
    obtain ⟨w1, e1, g1⟩ := rv.get (List.getElem?_eq_getElem j1)
    obtain ⟨w2, e2, g2⟩ := ru.get (List.getElem?_eq_getElem j2)
    have z1 : vs.toArray[j] = w1 := by
      rw [List.getElem?_eq_getElem (by simpa using b1)] at e1
      simpa using Option.some.inj e1
    have z2 : us.toArray[j] = w2 := by
      rw [List.getElem?_eq_getElem (by simpa using b2)] at e2
      simpa using Option.some.inj e2
    rw [z1, z2]
    exact Alike.run I n X.A.in1 (by show X.A.units + 1 + n < cLine; omega) _ _ _ _ (item j _ _ (List.getElem?_eq_getElem j1) (List.getElem?_eq_getElem j2)) g1 g2)
  have t : (List.range vs.toArray.size).all (fun _ => true) = true := by simp
  rw [t] at cmp
  exact cmp _ _ _ _ ⟨.bl true, H, I, rfl, k⟩
end
end Own

set_option Elab.async false
set_option linter.all false
set_option maxRecDepth 100000
set_option maxHeartbeats 4000000
/-! What the top has left, by one look: a truth value over the written part, and the defs as they stand, with defaults. -/
namespace Own
open PySem PySem.Spec PyProof.Rows L2
def obsN (chk : PySem.W.Frag → Bool) (fn : List He.DefD) (K : PySem.W.Frag) : He.AlD := (chk K && fn.all fun d => d.ok K, fn.map fun d => He.fnW K d.at_)
def hookN (chk : PySem.W.Frag → Bool) (fn : List He.DefD) : PySem.W.Hook where
  α := He.AlD
  obs := fun s => obsN chk fn (He.frG s.heap.get? (List.range s.heap.objs.size))
  val := fun _ => He.valD fn
  says := fun _ h => ∃ K : PySem.W.Frag, K.In h ∧ obsN chk fn K = He.valD fn
  of := fun _ _ e => ⟨_, He.frG_in, e⟩
  keeps := fun _ _ _ ⟨K, hK, c⟩ k => ⟨K, PySem.W.Frag.In.keeps hK k, c⟩
def obN (chk : PySem.W.Frag → Bool) (fn : List He.DefD) (s : PySem.W.SharedT) : He.AlD := obsN chk fn (He.frG (HandSHeadRun.getT s) (List.range s.n))
theorem obN_eq {chk : PySem.W.Frag → Bool} {fn : List He.DefD} (s : PySem.W.SharedT) : obN chk fn s = (hookN chk fn).obs s.abs := by
  have look : HandSHeadRun.getT s = s.abs.heap.get? := funext (HandSHeadRun.getT_eq s)
  have size : s.n = s.abs.heap.objs.size := (PySem.W.absHeap_size s.tree s.n s.life).symm
  show obsN chk fn (He.frG (HandSHeadRun.getT s) (List.range s.n)) = obsN chk fn (He.frG s.abs.heap.get? (List.range s.abs.heap.objs.size))
  rw [look, size]
section
variable {chk : PySem.W.Frag → Bool} {fn : List He.DefD} {K : PySem.W.Frag}
theorem saysN_both (c : obsN chk fn K = He.valD fn) : chk K = true ∧ (fn.all fun d => d.ok K) = true := Bool.and_eq_true_iff.mp (show (chk K && fn.all fun d => d.ok K) = true from congrArg (fun z : He.AlD => z.1) c)
theorem saysN_def (c : obsN chk fn K = He.valD fn) (i : Nat) {d : He.DefD} (h : fn[i]? = some d) : ∃ fd, FunD K d.name d.qual d.params d.body d.scope (d.dvs K) (d.kws K) (He.fAd K d.at_) fd := by
  have rows : fn.map (fun d => He.fnW K d.at_) = fn.map He.DefD.val := congrArg (fun z : He.AlD => z.2) c
  have row : (fn.map fun d => He.fnW K d.at_)[i]? = (fn.map He.DefD.val)[i]? := by rw [rows]
  rw [List.getElem?_map, List.getElem?_map, h] at row
  exact He.DefD.funD (Option.some.inj row) (List.all_eq_true.mp (saysN_both c).2 d (List.mem_of_getElem? h))
theorem obsN_join {c1 c2 : PySem.W.Frag → Bool} {f1 f2 : List He.DefD} (a : obsN c1 f1 K = He.valD f1) (b : obsN c2 f2 K = He.valD f2) : obsN (fun K => c1 K && c2 K) (f1 ++ f2) K = He.valD (f1 ++ f2) := by
  obtain ⟨a1, a2⟩ := saysN_both a
  obtain ⟨b1, b2⟩ := saysN_both b
  have a3 : f1.map (fun d => He.fnW K d.at_) = f1.map He.DefD.val := congrArg (fun z : He.AlD => z.2) a
  have b3 : f2.map (fun d => He.fnW K d.at_) = f2.map He.DefD.val := congrArg (fun z : He.AlD => z.2) b
  refine Prod.ext ?_ ?_
  · show ((c1 K && c2 K) && (f1 ++ f2).all fun d => d.ok K) = true
    rw [List.all_append, a1, b1, a2, b2]
    rfl
  · show (f1 ++ f2).map (fun d => He.fnW K d.at_) = (f1 ++ f2).map He.DefD.val
    rw [List.map_append, List.map_append, a3, b3]
end
/-- the run, looked at twice -/
theorem RJN {r : PySem.W.OpenRow} {q : Program} {c1 c2 : PySem.W.Frag → Bool} {f1 f2 : List He.DefD} {M : Nat} {loose : List Str} {w : World} (h1 : HandSHeadRun.RunEq r q (hookN c1 f1) (obN c1 f1) M loose w) (h2 : HandSHeadRun.RunEq r q (hookN c2 f2) (obN c2 f2) M loose w) :
    HandSHeadRun.RunEq r q (hookN (fun K => c1 K && c2 K) (f1 ++ f2)) (obN (fun K => c1 K && c2 K) (f1 ++ f2)) M loose w := by
  intro os
  have a := h1 os
  have b := h2 os
  revert a b
  generalize HandSHeadRun.endF _ _ _ _ _ = x
  intro a b
  cases x with
  | none => cases a
  | some s =>
    have a1 := Option.some.inj a
    have b1 := Option.some.inj b
    exact congrArg some (Prod.ext (congrArg (fun z => z.1) a1) (Prod.ext (congrArg (fun z => z.2.1) a1) (obsN_join (congrArg (fun z => z.2.2) a1) (congrArg (fun z => z.2.2) b1))))
/-- what an own class must have, as one truth value -/
def clsB (K : PySem.W.Frag) (x : Str) : Bool := (He.Fa.glo x).ok K && ((He.Fa.cls x).ok K && ((He.Fa.mkr x).ok K && (decide (PySem.W.findIn K (.ref (He.ga K x)) "__class__" = some (some (.builtin "object.__class__"))) &&
  (decide (PySem.W.specialIn K (.builtin "object.__class__") "__get__" = some (some (.builtin "getset_descriptor.__get__"))) && (decide (PySem.W.takesIn K (.builtin "object.__class__") = some true) && decide (PySem.W.mroIn K (He.ga K x) (.type "object") = some true))))))
theorem cls_mk {K : PySem.W.Frag} {h : Heap} {mg : Str → Option Value} {x : Str} (X : K.In h) (G : h.Ns mainGlobals mg) (c : clsB K x = true) : ∃ T : CnT K mg x, T.C = He.ga K x := by
  simp only [clsB, He.Fa.ok, He.eqO, Bool.and_eq_true, decide_eq_true_eq] at c
  obtain ⟨g, ⟨p1, p2, p3, p4⟩, ⟨m1, m2, m3, m4⟩, k1, k2, k3, k4⟩ := c
  exact ⟨⟨He.ga K x, PySem.W.mg_of X G g, ⟨p1, p2, p3, p4⟩, m1, m4, k1, k2, k3, k4⟩, rfl⟩
def cnT {K : PySem.W.Frag} {h : Heap} {mg : Str → Option Value} {x : Str} (X : K.In h) (G : h.Ns mainGlobals mg) (c : clsB K x = true) : CnT K mg x := by
  simp only [clsB, He.Fa.ok, He.eqO, Bool.and_eq_true, decide_eq_true_eq] at c
  exact ⟨He.ga K x, PySem.W.mg_of X G c.1, ⟨c.2.1.1, c.2.1.2.1, c.2.1.2.2.1, c.2.1.2.2.2⟩, c.2.2.1.1, c.2.2.1.2.2.2, c.2.2.2.1, c.2.2.2.2.1, c.2.2.2.2.2.1, c.2.2.2.2.2.2⟩
theorem meth_of {K : PySem.W.Frag} {x m : Str} (c : (He.Fa.meth x m).ok K = true) : PySem.W.findIn K (.ref (He.ga K x)) m = some (some (.ref (He.ma K (He.ga K x) m))) ∧ PySem.W.isFn K (.ref (He.ma K (He.ga K x) m)) = true := by
  simp only [He.Fa.ok, He.eqO, Bool.and_eq_true, decide_eq_true_eq] at c
  exact ⟨c.1, c.2.1⟩
def orB (K : PySem.W.Frag) (x : Str) : Bool := PySem.W.selfFirst K (He.ga K x) && (decide (PySem.W.findIn K (.ref (He.ga K x)) (PySem.dunder "or") = some (some (.ref (He.ma K (He.ga K x) "__or__")))) && (PySem.W.isFn K (.ref (He.ma K (He.ga K x) "__or__")) &&
  (decide (PySem.W.findIn K (.ref (He.ga K x)) (dunderR "or") = some (some (.ref (He.ma K (He.ga K x) "__ror__")))) && (PySem.W.isFn K (.ref (He.ma K (He.ga K x) "__ror__")) && (decide (PySem.W.findIn K (.type "dict") (PySem.dunder "or") = some (some (.builtin "dict.__or__"))) &&
  ((PySem.W.findIn K (.type "dict") (dunderR "or")).isSome && (decide (PySem.W.subIn K (.type "dict") (.ref (He.ga K x)) = some false) && decide (PySem.W.subIn K (.ref (He.ga K x)) (.type "dict") = some false))))))))
theorem or_of {K : PySem.W.Frag} {x : Str} (c : orB K x = true) : OrK K (He.ga K x) (He.ma K (He.ga K x) "__or__") (He.ma K (He.ga K x) "__ror__") := by
  simp only [orB, Bool.and_eq_true, decide_eq_true_eq] at c
  obtain ⟨a, b, d, e, f, g, i, j, k⟩ := c
  exact ⟨⟨a, b, d, e, f⟩, g, Option.isSome_iff_exists.mp i, j, k⟩
theorem and_at {a b : Bool} (h : (a && b) = true) : a = true ∧ b = true := Bool.and_eq_true_iff.mp h
theorem all_get {α : Type} {l : List α} {p : α → Bool} (h : l.all p = true) (i : Nat) {x : α} (e : l[i]? = some x) : p x = true := List.all_eq_true.mp h x (List.mem_of_getElem? e)
/-- a def of the top, a method, as the look reads them -/
def dfD (x : Str) (st : Stmt) : He.DefD := { at_ := (x, none), name := x, qual := x, params := defArgs st, body := defBody st, scope := defScope st }
def mtD (c m qual : Str) (st : Stmt) (dfl : List He.Dv) : He.DefD := { at_ := (c, some m), name := m, qual := qual, params := defArgs st, body := defBody st, scope := defScope st, dfl := dfl }
end Own

set_option Elab.async false
set_option linter.all false
set_option maxRecDepth 100000
set_option maxHeartbeats 4000000
/-! == and != by an own __eq__; an operator without a reflection; comprehensions over the pairs of a dict. -/
namespace Own
open PySem PySem.Spec PyProof.Rows L2
/-- the class has an own __eq__ at f, and object's __ne__ -/
structure EqC (K : PySem.W.Frag) (C f : Addr) : Prop where
  eq : PySem.W.findIn K (.ref C) "__eq__" = some (some (.ref f))
  fn : PySem.W.isFn K (.ref f) = true
  ne : PySem.W.findIn K (.ref C) "__ne__" = some (some (.builtin "object.__ne__"))
  ob : PySem.W.subIn K (.ref C) (.type "object") = some true
  dc : PySem.W.subIn K (.type "dict") (.ref C) = some false
section
variable {prog : Program} {w : World} {A : Around} {E : Value → Shared → Prop} {s : Shared} {K : PySem.W.Frag} {x C f : Addr} {ox : Obj} {od : Option Obj}
/-- what the call of __ne__ finds first -/
theorem ne_bound {b : Value} {Q : Option Value → Shared → Prop} (X : K.In s.heap) (J : PySem.W.InstAt s.heap x ox C od) (e : EqC K C f) (go : wpAny (model prog w) A (call (.builtin "object.__ne__") [.ref x, b]) (fun v => Q (some v)) E s) :
    wpAny (model prog w) A (callSpecialIfBound? (.ref x) "__ne__" [b]) Q E s := by
  have bnd := F.cmp_object.ne.bind (.ref x)
  simp only [callSpecialIfBound?, bindSpecialIfBound?]
  refine wpAny_holding (wpAny_bind (wpAny_bind (wpAny_bind (J.type.here ((PySem.W.looks_findIn X e.ne).here ?_)))))
  simp only [bnd]
  refine wpAny_bind (wpAny_askSetting (wpAny_ite ?_))
  have last : wpAny (model prog w) A (call (.builtin "object.__ne__") ([.ref x] ++ [b]) >>= fun v => pure (some v)) Q E s := wpAny_bind (thn go fun v t h => wpAny_pure h)
  split
  · exact wpAny_bind (wpAny_pure (wpAny_pure last))
  · exact wpAny_tryCatch (wpAny_bind (wpAny_pure (wpAny_pure last)))
/-- a bool comes back -/
def BackB (Q : Bool → Shared → Prop) (v : Value) (t : Shared) : Prop := ∃ r, v = .bool r ∧ Q r t
theorem ne_own {b : Value} {tb : Value} {Q : Value → Shared → Prop} (hu : A.units + 2 < cLine) (X : K.In s.heap) (J : PySem.W.InstAt s.heap x ox C od) (e : EqC K C f) (ty : PySem.W.Looks (model prog w) s.heap (typeOf b) tb) (nf : PySem.W.notFirst K C tb = true)
    (go : wpAny (model prog w) A.in1 (call (.ref f) [.ref x, b]) (BackB fun r t => Q (.bool (!r)) t) E s) : wpAny (model prog w) A (richCompare .NotEq (.ref x) b) Q E s := by
  have hu0 : A.units < cLine := by omega
  have hu1 : A.in1.units < cLine := by show A.units + 1 < cLine; omega
  have core : wpAny (model prog w) A (tryCompare (.ref x) "__ne__" b) (fun r t => ∃ v, r = some v ∧ Q v t) E s := by
    unfold tryCompare
    refine wpAny_bind (ne_bound X J e (wpAny_call ?_))
    refine codeAny_call_builtin F.cmp_object.ne.plain F.cmpEntry_ne ?_
    have sub := PySem.W.looks_subIn (M := model prog w) X e.ob
    have chk : ∀ (E' : Value → Shared → Prop) (R : Unit → Shared → Prop), R () s → wpAny (model prog w) A.in1 (checkBuiltinCall "object.__ne__" ⟨[.ref x, b], []⟩) R E' s := by
      intro E' R r
      simp only [checkBuiltinCall, F.cmpKind_ne, F.cmpSplit_ne]
      refine wpAny_bind ?_
      unfold isInstance
      refine wpAny_bind (J.type.here (sub.here ?_))
      have ha := F.cmpArgs_ne (.ref x) b
      simp only [Bool.not_true, Bool.false_eq_true, if_false]
      cases hsig : Manifest.signature? "object.__ne__" with
      | none => exact wpAny_pure r
      | some sig =>
        simp only [argsOk, hsig] at ha
        have h2 : Bind.checkArgs "object.__ne__" sig ⟨[.ref x, b], []⟩ = pure () := ha
        show wpAny _ _ (Bind.checkArgs "object.__ne__" sig ⟨[.ref x, b], []⟩) _ _ _
        rw [h2]
        exact wpAny_pure r
    refine chk _ _ ?_
    unfold Builtin.«object.__ne__»
    refine wpAny_bind (m := slotArgs _ _ _) (wpAny_pure ?_)
    refine wpAny_bind (wpAny_cRoomFor hu1 ?_)
    refine wpAny_bind (PySem.W.ifBound_K X J e.eq e.fn (thn go fun v t h => ?_))
    obtain ⟨r, rfl, q⟩ := h
    refine wpAny_bind (wpAny_truthy_bool ?_)
    exact wpAny_pure (wpAny_pure ⟨_, rfl, q⟩)
  unfold richCompare
  simp only [oneThing_ref]
  refine wpAny_holding (wpAny_bind (wpAny_cRoomFor hu0 ?_))
  refine wpAny_bind (J.type.here (wpAny_bind (ty.here ?_)))
  have fin : ∀ {k : Option Value → Sem Value}, (∀ v, k (some v) = pure v) → wpAny (model prog w) A (tryCompare (.ref x) "__ne__" b >>= k) Q E s := fun hk => wpAny_bind (thn core fun r t h => by
    obtain ⟨v, rfl, q⟩ := h
    rw [hk]
    exact wpAny_pure q)
  split
  · rename_i q
    have no : PySem.W.subIn K tb (.ref C) = some false := by
      rcases Bool.or_eq_true_iff.mp nf with z | z
      · rw [beq_iff_eq.mp z] at q
        simp at q
      · exact beq_iff_eq.mp z
    refine wpAny_bind ((PySem.W.looks_subIn X no).here ?_)
    simp only [Bool.false_eq_true, if_false]
    exact fin fun v => rfl
  · refine wpAny_bind (wpAny_pure ?_)
    simp only [Bool.false_eq_true, if_false]
    exact fin fun v => rfl
end
section
variable {prog : Program} {w : World} {A : Around} {E : Value → Shared → Prop} {s : Shared} {K : PySem.W.Frag} {x C f : Addr} {ox : Obj} {od : Option Obj}
/-- the class has a def for the operator, none for its reflection -/
structure OpC1 (K : PySem.W.Frag) (C : Addr) (nm : String) (f : Addr) : Prop where
  first : PySem.W.selfFirst K C = true
  own : PySem.W.findIn K (.ref C) (PySem.dunder nm) = some (some (.ref f))
  ofn : PySem.W.isFn K (.ref f) = true
  ref : PySem.W.findIn K (.ref C) (dunderR nm) = some none
theorem bin_left1 {op : Operator} {sym nm T : String} {b : Value} {fo ro : Option Value} {Q : Value → Shared → Prop} (hop : op.info = (sym, nm)) (X : K.In s.heap) (J : PySem.W.InstAt s.heap x ox C od) (o : OpC1 K C nm f) (tb : PySem.W.Looks (model prog w) s.heap (typeOf b) (.type T))
    (t1 : PySem.W.findIn K (.type T) (PySem.dunder nm) = some fo) (t2 : PySem.W.findIn K (.type T) (dunderR nm) = some ro) (apart : PySem.W.subIn K (.type T) (.ref C) = some false)
    (go : wpAny (model prog w) A (call (.ref f) [.ref x, b]) (Told Q) E s) : wpAny (model prog w) A (binaryOp op (.ref x) b) Q E s := by
  obtain ⟨cd, rest, hcd, hm⟩ := PySem.W.ksp_first o.first
  have done := try_own X J o.own o.ofn go
  obtain ⟨hh, gg, dd, tt, os⟩ := s
  have f1 : PySem.W.Looks (model prog w) hh (typeOf (.ref x)) (.ref C) := J.type
  have f2 : PySem.W.Looks (model prog w) hh (typeOf b) (.type T) := tb
  have f3 : PySem.W.Looks (model prog w) hh (fillsNumberSlot (.ref C) nm) true := PySem.W.fills_K X hcd hm o.own
  have f4 := PySem.W.ksp_fillsT (M := model prog w) X t1 t2
  have f5 := PySem.W.looks_subIn (M := model prog w) X apart
  have f6 : PySem.W.Looks (model prog w) hh (numberSlotInPython (.ref C) nm) true := PySem.W.ksp_inPy X o.own o.ref (.inl rfl)
  have f7 : PySem.W.Looks (model prog w) hh (numberSlotInPython (.type T) nm) false := PySem.W.Looks.of_pure rfl
  have f8 := PySem.W.looks_findIn (M := model prog w) X t2
  generalize ((fo.isSome && !isSeqSlot fo) || (ro.isSome && !isSeqSlot ro)) = rb at f4
  have ne : (Value.ref C == Value.type T) = false := Bool.eq_false_iff.mpr fun q => by cases beq_iff_eq.mp q
  simp only [binaryOp, hop]
  refine wpAny_holding (wpAny_bind ?_)
  unfold binaryOp1
  refine wpAny_bind (f1.at (wpAny_bind (f2.at (wpAny_bind (f3.at ?_)))))
  simp only [ne, Bool.false_eq_true, if_false]
  cases rb
  all_goals
    ksp_lk
    refine thn done fun r t h => ?_
    obtain ⟨v, rfl, q⟩ := h
    ksp_lk
    exact q
end
/-- what of the text x - row asks -/
structure SubK (K : PySem.W.Frag) (C f : Addr) : Prop where
  op : OpC1 K C "sub" f
  l1 : ∃ fo, PySem.W.findIn K (.type "list") (PySem.dunder "sub") = some fo
  l2 : ∃ ro, PySem.W.findIn K (.type "list") (dunderR "sub") = some ro
  l3 : PySem.W.subIn K (.type "list") (.ref C) = some false
  t1 : ∃ fo, PySem.W.findIn K (.type "tuple") (PySem.dunder "sub") = some fo
  t2 : ∃ ro, PySem.W.findIn K (.type "tuple") (dunderR "sub") = some ro
  t3 : PySem.W.subIn K (.type "tuple") (.ref C) = some false
section
variable {X : Cx} {CX : CXT} {k : Nat} {C f : Addr} {sp : Sp} {E : XK}
/-- x - row, the row a list or a tuple -/
def rSubO (C : Addr) (sp : Sp) (E : XK) : R2 := fun x y H Q => ∃ a dx fs b, x = .ref a ∧ y = .ref b ∧ H a = some (.ins C dx fs) ∧ ((∃ ys, H b = some (.lst ys)) ∨ ∃ ys, H b = some (.tup ys)) ∧ sp [x, y] H Q E
theorem op_subO (o : SubK X.K C f) (F : FnR X.prog X.w X.K X.mg X.base CX k f sp) (hr : Room k X.A) (hx : Passes CX X E) : OpR X (binaryOp .Sub) (rSubO C sp E) := by
  intro pins s σ H x y v u Q I rx ry h
  obtain ⟨a, dx, fs, b, rfl, rfl, ha, hb, q⟩ := h
  cases rx; cases ry
  obtain ⟨ox, od, J⟩ := ins_at I ha
  have go := call_told (vs := [.ref a, .ref b]) F hr hx I (.cons rfl (.cons rfl .nil)) q
  rcases hb with ⟨ys, hb⟩ | ⟨ys, hb⟩
  · obtain ⟨its, r, ⟨ob, nb, gb, cb, _, db⟩, _⟩ := I.list (.inl (.inl hb))
    have tb : PySem.W.Looks (model X.prog X.w) s.heap (typeOf (.ref b)) (.type "list") := by
      have z := type_ref (M := model X.prog X.w) gb
      rw [cb] at z
      exact z
    obtain ⟨fo, e1⟩ := o.l1
    obtain ⟨ro, e2⟩ := o.l2
    exact bin_left1 (op := .Sub) (nm := "sub") rfl I.kIn J o.op tb e1 e2 o.l3 go
  · obtain ⟨its, r, ⟨ob, gb, cb, nb, db⟩, _⟩ := I.tuple (.inl (.inl hb))
    have tb : PySem.W.Looks (model X.prog X.w) s.heap (typeOf (.ref b)) (.type "tuple") := by
      have z := type_ref (M := model X.prog X.w) gb
      rw [cb] at z
      exact z
    obtain ⟨fo, e1⟩ := o.t1
    obtain ⟨ro, e2⟩ := o.t2
    exact bin_left1 (op := .Sub) (nm := "sub") rfl I.kIn J o.op tb e1 e2 o.t3 go
/-- x == y, x != y: x an instance of the class, y one too or a dict -/
def rEqO (C : Addr) (sp : Sp) (E : XK) (neg : Bool) : R2 := fun x y H Q => ∃ a dx fs b, x = .ref a ∧ y = .ref b ∧ H a = some (.ins C dx fs) ∧ ((∃ dy gs, H b = some (.ins C dy gs)) ∨ ∃ kvs, H b = some (.dK kvs)) ∧
  sp [x, y] H (fun v H' => ∃ r, v = .bl r ∧ Q (.bl (if neg then !r else r)) H') E
theorem type_right {pins : List (Addr × Obj)} {σ : L2.St} {H : Hp} {s : Shared} {b : Addr} (I : Inv X pins σ H s) (e : EqC X.K C f) (hb : (∃ dy gs, H b = some (.ins C dy gs)) ∨ ∃ kvs, H b = some (.dK kvs)) :
    ∃ tb, PySem.W.Looks (model X.prog X.w) s.heap (typeOf (.ref b)) tb ∧ PySem.W.notFirst X.K C tb = true := by
  rcases hb with ⟨dy, gs, hb⟩ | ⟨kvs, hb⟩
  · obtain ⟨oy, oe, J'⟩ := ins_at I hb
    exact ⟨_, J'.type, by simp [PySem.W.notFirst]⟩
  · obtain ⟨_, _, vs, _, md⟩ := dk_of I.hok hb
    obtain ⟨ob, es, ep, hg, ex, _⟩ := id md
    have z := type_ref (M := model X.prog X.w) hg
    rw [ex.1] at z
    exact ⟨_, z, by simp [PySem.W.notFirst, e.dc]⟩
theorem op_eqO (e : EqC X.K C f) (F : FnR X.prog X.w X.K X.mg X.base CX k f sp) (hr : Room k X.A) (hx : Passes CX X E) : OpR X (compareOp .Eq) (rEqO C sp E false) := by
  intro pins s σ H x y v u Q I rx ry h
  obtain ⟨a, dx, fs, b, rfl, rfl, ha, hb, q⟩ := h
  cases rx; cases ry
  obtain ⟨ox, od, J⟩ := ins_at I ha
  obtain ⟨tb, ty, nf⟩ := type_right I e hb
  obtain ⟨m, hF⟩ := I.fr
  show wpAny _ _ (richCompare .Eq (.ref a) (.ref b)) _ _ _
  refine PySem.W.cmp_K (op := .Eq) (tb := tb) hr.units0 hF I.ok.mod.kin J ty nf e.eq e.fn ?_
  refine thn (wpAny_call (run_fnR (us := [.ref a, .ref b]) (vs := [.ref a, .ref b]) F hr hx I (.cons rfl (.cons rfl .nil)) q)) fun v t z => ?_
  obtain ⟨z', H', I', rz, r, ez, qz⟩ := z
  subst ez
  cases rz
  exact ⟨.bl r, H', I', rfl, qz⟩
theorem op_neO (e : EqC X.K C f) (F : FnR X.prog X.w X.K X.mg X.base CX k f sp) (hr : Room (k + 1) X.A) (hx : Passes CX X E) : OpR X (compareOp .NotEq) (rEqO C sp E true) := by
  intro pins s σ H x y v u Q I rx ry h
  obtain ⟨a, dx, fs, b, rfl, rfl, ha, hb, q⟩ := h
  cases rx; cases ry
  obtain ⟨ox, od, J⟩ := ins_at I ha
  obtain ⟨tb, ty, nf⟩ := type_right I e hb
  show wpAny _ _ (richCompare .NotEq (.ref a) (.ref b)) _ _ _
  have hu := hr.units
  refine ne_own (by omega) I.kIn J e ty nf ?_
  refine thn (wpAny_call (codeAny_mono (F X.A.in1 X.stack s H [.ref a, .ref b] [.ref a, .ref b] (fun v H' => ∃ r, v = .bl r ∧ Q (.bl (!r)) H') E hr.in1 I.env0.in1 (.cons rfl (.cons rfl .nil)) q) (R' := fun r s' => match r with | .ok (.ret v) => EP X pins σ (fun v H' => ∃ r, v = .bl r ∧ Q (.bl (!r)) H') v s' | .ok _ => False | .error e => X.xe e s') fun r s' hq => ?_)) fun v t z => ?_
  · cases r with
    | error er => exact hx pins σ H s er s' I hq
    | ok fl =>
      cases fl with
      | ret u => exact I.after hq
      | next => exact False.elim hq
      | brk => exact False.elim hq
      | cont => exact False.elim hq
  · obtain ⟨z', H', I', rz, r, ez, qz⟩ := z
    subst ez
    cases rz
    exact ⟨r, rfl, .bl (!r), H', I', rfl, qz⟩
/-- x in e, e an instance with an own __contains__ -/
structure InC (K : PySem.W.Frag) (C f : Addr) : Prop where
  at_ : PySem.W.findIn K (.ref C) "__contains__" = some (some (.ref f))
  fn : PySem.W.isFn K (.ref f) = true
def rInO (C : Addr) (sp : Sp) (E : XK) : R2 := fun x y H Q => ∃ a dx fs, y = .ref a ∧ H a = some (.ins C dx fs) ∧ sp [y, x] H (fun v H' => ∃ r, v = .bl r ∧ Q (.bl r) H') E
theorem op_inO (e : InC X.K C f) (F : FnR X.prog X.w X.K X.mg X.base CX k f sp) (hr : Room k X.A) (hx : Passes CX X E) : OpR X (compareOp .In) (rInO C sp E) := by
  intro pins s σ H x y v u Q I rx ry h
  obtain ⟨a, dx, fs, rfl, ha, q⟩ := h
  cases ry
  obtain ⟨ox, od, J⟩ := ins_at I ha
  obtain ⟨m, hF⟩ := I.fr
  refine PySem.W.in_K hF I.ok.mod.kin J e.at_ e.fn ?_
  refine thn (wpAny_call (run_fnR (us := [.ref a, v]) (vs := [.ref a, x]) F hr hx I (.cons rfl (.cons rx .nil)) q)) fun w t z => ?_
  obtain ⟨z', H', I', rz, r, ez, qz⟩ := z
  subst ez
  cases rz
  exact wpAny_truthy_bool ⟨.bl r, H', I', rfl, qz⟩
/-- e[i], e an instance with an own __getitem__ -/
structure GetC (K : PySem.W.Frag) (C f : Addr) : Prop where
  at_ : PySem.W.findIn K (.ref C) "__getitem__" = some (some (.ref f))
  fn : PySem.W.isFn K (.ref f) = true
  fi : PySem.W.fnIn K f = true
def tIxO (C : Addr) (sp : Sp) (E : XK) (ta tb : TE) : TE := fun σ H Q => ta σ H fun x H1 => tb σ H1 fun y H2 => ∃ a dx fs, x = .ref a ∧ H2 a = some (.ins C dx fs) ∧ sp [x, y] H2 Q E
theorem pe_ixO {a b : Expr} {ta tb : TE} {pos : Pos} (e : GetC X.K C f) (F : FnR X.prog X.w X.K X.mg X.base CX k f sp) (hr : Room (k + 1) X.A) (hx : Passes CX X E) (ha : PE X a ta) (hb : PE X b tb) (hs : ∀ o i, subscripted b true o i = runValue (.builtin "lifetime.subscript" ⟨[o, i], []⟩)) :
    PE X (.Subscript a b pos) (tIxO C sp E ta tb) := by
  refine ⟨fun pins s σ H Q I h => ?_⟩
  refine Subscript_ (binT ha hb I h fun v u s2 x y H2 I2 rx ry q => ?_)
  obtain ⟨c, dx, fs, rfl, hc, q⟩ := q
  cases rx
  obtain ⟨ox, od, J⟩ := ins_at I2 hc
  obtain ⟨m, hF⟩ := I2.fr
  refine PySem.W.sub_K hF I2.ok.mod.kin J e.at_ e.fi e.fn ?_ (hs _ _)
  refine wpAny_call (codeAny_mono (F X.A.in1 X.stack s2 H2 [.ref c, u] [.ref c, y] Q E hr.in1 I2.env0.in1 (.cons rfl (.cons ry .nil)) q) fun r s' hq => ?_)
  cases r with
  | error er => exact hx pins σ H2 s2 er s' I2 hq
  | ok fl =>
    cases fl with
    | ret u => exact I2.after hq
    | next => exact False.elim hq
    | brk => exact False.elim hq
    | cont => exact False.elim hq
end
end Own

set_option Elab.async false
set_option linter.all false
set_option maxRecDepth 100000
set_option maxHeartbeats 4000000
/-! Comprehensions over the pairs of a dict. -/
namespace Own
open PySem PySem.Spec PyProof.Rows L2
def slots2 (σ : L2.St) (i j : Nat) (k : Key) (v : V) : L2.St := ((wipe σ [i, j]).set i (some (kV k))).set j (some v)
theorem wipe2 {σ : L2.St} {i j : Nat} {k : Key} {v : V} (h : i ≠ j) : wipe (slots2 σ i j k v) [i, j] = wipe σ [i, j] := by
  show (((((σ.set j none).set i none).set i (some (kV k))).set j (some v)).set j none).set i none = (σ.set j none).set i none
  refine List.ext_getElem? fun m => ?_
  simp only [List.getElem?_set, List.length_set]
  by_cases a : i = m
  · subst a
    by_cases b : j = i
    · exact absurd b.symm h
    · simp [b]
  · by_cases b : j = m
    · subst b
      simp [a]
    · simp [a, b]
/-- {k: v for k, v in d.items() if b} -/
theorem dcI_go {K : PySem.W.Frag} {td : TE} {i j n : Nat} {tt : TT} {tk tv : TE} {σ : L2.St} {H : Hp} {Q : VK} {d : Addr} {kvs : Tbl} (b : Key × V → Bool) (hd : H d = some (.dK kvs)) (nd : (kvs.map (·.1)).Nodup) (hz : kvs.length ≤ 100000) (hn : n = 2) (hij : i ≠ j) (ht : ∀ o (Q : VK), Q (.ref d) (upd H d (.frz o (.dK kvs))) → td σ (upd H d (.frz o (.dK kvs))) Q)
    (htt : ∀ o k v H' (R : Bool → Hp → Prop), (k, v) ∈ kvs → Same (upd H d (.frz o (.dK kvs))) H' → R (b (k, v)) H' → tt (slots2 σ i j k v) H' R)
    (hk : ∀ o k v H' (R : VK), (k, v) ∈ kvs → Same (upd H d (.frz o (.dK kvs))) H' → R (kV k) H' → tk (slots2 σ i j k v) H' R)
    (hv : ∀ o k v H' (R : VK), (k, v) ∈ kvs → Same (upd H d (.frz o (.dK kvs))) H' → R v H' → tv (slots2 σ i j k v) H' R)
    (q : ∀ D H', H D = none → Same H H' → H' D = some (.dK (kvs.filter b)) → Q (.ref D) H') : tLockE (tDc (iItems td) (gTup K n (gCons (gName i) (gCons (gName j) gNil))) tt tk tv [i, j]) σ H Q := by
  refine ⟨d, _, hd, True.intro, fun o => ?_⟩
  refine ht _ _ ⟨d, o, kvs, rfl, upd_same, fun D hD => ?_⟩
  have hDd : D ≠ d := by
    rintro rfl
    rw [upd_same] at hD
    cases hD
  have hDn : H D = none := by rw [upd_ne hDd] at hD; exact hD
  let Pv : Nat → Hp → Prop := fun m H' => H' D = some (.dK ((kvs.take m).filter b)) ∧ ExT D (upd H d (.frz o (.dK kvs))) H'
  refine ⟨fun m r H' => r = kvs.length - m ∧ m ≤ kvs.length ∧ Pv m H', ⟨kvs.length, rfl, Nat.zero_le _, upd_same, exT_upd (ExT.refl D _)⟩, ?_⟩
  rintro m r H' ⟨rfl, le, p1, p2⟩
  have sH := ExT.toSame hD p2
  have lk : H' d = some (.frz o (.dK kvs)) := sH _ _ upd_same
  rcases Nat.lt_or_ge m kvs.length with lt | ge
  · refine .inr ⟨⟨lk, lt⟩, Pv (m + 1), fun H2 p' => ⟨kvs.length - (m + 1), by omega, rfl, lt, p'⟩, ?_⟩
    rintro x H2 ⟨T, k, v, e, rfl, nT, rfl⟩
    have mem := List.mem_of_getElem? e
    have sT : Same H' (upd H' T (.tup [kV k, v])) := same_new nT
    have hTD : T ≠ D := by
      rintro rfl
      rw [p1] at nT
      cases nT
    refine ⟨T, _, rfl, .inl (.inl upd_same), hn.symm, kV k, _, rfl, v, _, rfl, rfl, wipe2 hij, ?_⟩
    show tt (slots2 σ i j k v) _ _
    have et : kvs.take (m + 1) = kvs.take m ++ [(k, v)] := by rw [List.take_add_one, e]; rfl
    refine htt o k v _ _ mem (sH.trans sT) ?_
    cases hb : b (k, v) with
    | false =>
      refine ⟨?_, (show ExT D _ _ from p2.same sT)⟩
      rw [et, List.filter_append, List.filter_cons, hb, upd_ne hTD.symm]
      simpa using p1
    | true =>
      refine hk o k v _ _ mem (sH.trans sT) (hv o k v _ _ mem (sH.trans sT) ⟨_, k, rfl, by rw [upd_ne hTD.symm]; exact p1, ?_, ?_, exT_upd (p2.same sT)⟩)
      · have l1 := List.length_filter_le b (kvs.take m)
        have l2 := List.length_take_le m kvs
        exact Nat.lt_of_le_of_lt (show ((kvs.take m).filter b).length ≤ m by omega) (Nat.lt_of_lt_of_le lt (Nat.le_trans hz (by decide)))
      · have no : valV ((kvs.take m).filter b) k = none := by
          cases e2 : valV ((kvs.take m).filter b) k with
          | none => rfl
          | some w =>
            have c := valV_key.mp (show (valV ((kvs.take m).filter b) k).isSome = true by rw [e2]; rfl)
            obtain ⟨z, hz2, ez⟩ := List.mem_map.mp c
            have hz3 := (List.mem_filter.mp hz2).1
            have nd2 : ((kvs.take m).map (·.1) ++ (kvs.drop m).map (·.1)).Nodup := by rw [← List.map_append, List.take_append_drop]; exact nd
            have inD : k ∈ (kvs.drop m).map (·.1) := List.mem_map.mpr ⟨(k, v), List.mem_iff_getElem?.mpr ⟨0, by rw [List.getElem?_drop]; exact e⟩, rfl⟩
            exact absurd rfl ((List.nodup_append.mp nd2).2.2 k (List.mem_map.mpr ⟨z, hz3, ez⟩) k inD)
        rw [upd_same, putK_new _ no, et, List.filter_append, List.filter_cons, hb]
        rfl
  · obtain rfl : m = kvs.length := Nat.le_antisymm le ge
    rw [List.take_length] at p1
    refine .inl ⟨⟨lk, Nat.le_refl _⟩, lk, ?_⟩
    refine q D _ hDn (unlock_same hd sH) ?_
    rw [upd_ne hDd]
    exact p1
/-- [e for k, v in d.items()], e making objects -/
theorem lcItems_go {K : PySem.W.Frag} {td : TE} {i j n : Nat} {te : TE} {σ : L2.St} {H : Hp} {Q : VK} {d : Addr} {kvs : Tbl} (f : Key × V → V) (hd : H d = some (.dK kvs)) (hz : kvs.length ≤ 100000) (hn : n = 2) (hij : i ≠ j) (ht : ∀ o (Q : VK), Q (.ref d) (upd H d (.frz o (.dK kvs))) → td σ (upd H d (.frz o (.dK kvs))) Q)
    (he : ∀ o k v H' (R : VK), (k, v) ∈ kvs → Same (upd H d (.frz o (.dK kvs))) H' → (∀ H'', Same H' H'' → R (f (k, v)) H'') → te (slots2 σ i j k v) H' R)
    (q : ∀ D H', H D = none → Same H H' → H' D = some (.lst (kvs.map f)) → Q (.ref D) H') : tLockE (tLc (iItems td) (gTup K n (gCons (gName i) (gCons (gName j) gNil))) tYes te [i, j]) σ H Q := by
  refine ⟨d, _, hd, True.intro, fun o => ?_⟩
  refine ht _ _ ⟨d, o, kvs, rfl, upd_same, fun D hD => ?_⟩
  have hDd : D ≠ d := by
    rintro rfl
    rw [upd_same] at hD
    cases hD
  have hDn : H D = none := by rw [upd_ne hDd] at hD; exact hD
  let Pv : Nat → Hp → Prop := fun m H' => H' D = some (.lst ((kvs.take m).map f)) ∧ ExT D (upd H d (.frz o (.dK kvs))) H'
  refine ⟨fun m r H' => r = kvs.length - m ∧ m ≤ kvs.length ∧ Pv m H', ⟨kvs.length, rfl, Nat.zero_le _, upd_same, exT_upd (ExT.refl D _)⟩, ?_⟩
  rintro m r H' ⟨rfl, le, p1, p2⟩
  have sH := ExT.toSame hD p2
  have lk : H' d = some (.frz o (.dK kvs)) := sH _ _ upd_same
  rcases Nat.lt_or_ge m kvs.length with lt | ge
  · refine .inr ⟨⟨lk, lt⟩, Pv (m + 1), fun H2 p' => ⟨kvs.length - (m + 1), by omega, rfl, lt, p'⟩, ?_⟩
    rintro x H2 ⟨T, k, v, e, rfl, nT, rfl⟩
    have mem := List.mem_of_getElem? e
    have sT : Same H' (upd H' T (.tup [kV k, v])) := same_new nT
    have hTD : T ≠ D := by
      rintro rfl
      rw [p1] at nT
      cases nT
    refine ⟨T, _, rfl, .inl (.inl upd_same), hn.symm, kV k, _, rfl, v, _, rfl, rfl, wipe2 hij, ?_⟩
    show te (slots2 σ i j k v) _ _
    refine he o k v _ _ mem (sH.trans sT) fun H3 s3 => ?_
    refine ⟨_, s3 _ _ (by rw [upd_ne hTD.symm]; exact p1), ?_, ?_, exT_upd ((p2.same sT).same s3)⟩
    · rw [List.length_map]
      exact Nat.lt_of_le_of_lt (List.length_take_le _ _) (Nat.lt_of_lt_of_le lt (Nat.le_trans hz (by decide)))
    · rw [upd_same, List.take_add_one, e, List.map_append]
      rfl
  · obtain rfl : m = kvs.length := Nat.le_antisymm le ge
    rw [List.take_length] at p1
    refine .inl ⟨⟨lk, Nat.le_refl _⟩, lk, ?_⟩
    refine q D _ hDn (unlock_same hd sH) ?_
    rw [upd_ne hDd]
    exact p1
end Own

set_option Elab.async false
set_option linter.all false
set_option maxRecDepth 100000
set_option maxHeartbeats 4000000
/-! == of tables, whatever it gives; parts of tables. -/
namespace Own
open PySem PySem.Spec PyProof.Rows L2
def hitB (kb : Tbl) : Tbl → Bool
  | [] => true
  | p :: r => match valV kb p.1 with
    | none => false
    | some y => eqV p.2 y && hitB kb r
def eqT (a b : Tbl) : Bool := a.length == b.length && hitB b a
theorem valOk_flat {v : V} (h : valOk v = true) : flatV v = true := by cases v <;> first | rfl | cases h
theorem hits_tab {A : Around} {s : Shared} {P : Program} {w : World} {kb : Tbl} {vb : List (Key × Value)} (rb : KV kb vb) (ob : ∀ p ∈ kb, valOk p.2 = true) : ∀ {ka : Tbl} {va : List (Key × Value)}, KV ka va → (∀ p ∈ ka, valOk p.2 = true) → PySem.W.KeqHits A s vb va (hitB kb ka)
  | _, _, .nil, _ => .nil
  | (k, v) :: ka, (k', u) :: va, .cons h t, ok => by
    obtain ⟨ek, rv⟩ := h
    have ek' : k = k' := ek
    subst ek'
    have rel := rb.val k
    have rest := hits_tab (A := A) (s := s) (P := P) (w := w) rb ob t fun p hp => ok p (by simp [hp])
    show PySem.W.KeqHits A s vb ((k, u) :: va) (match valV kb k with | none => false | some y => eqV v y && hitB kb ka)
    cases e : valV kb k with
    | none =>
      rw [e] at rel
      exact .miss (RelO.none_of rel)
    | some y =>
      rw [e] at rel
      obtain ⟨uy, hy, ry⟩ := RelO.some_of rel
      exact .hit hy (eqAt_V rv ry (valOk_flat (ok (k, v) (by simp))) (valOk_flat (ob _ (valV_mem e)))) rest
section
variable {X : Cx}
def rEqDB : R2 := fun x y H Q => ∃ a b ka kb, x = .ref a ∧ y = .ref b ∧ H a = some (.dK ka) ∧ H b = some (.dK kb) ∧ TOk ka ∧ TOk kb ∧ Q (.bl (eqT ka kb)) H
theorem op_eqDB (hu : X.A.units < cLine) : OpR X (compareOp .Eq) rEqDB := by
  intro pins s σ H x y v u Q I rx ry h
  obtain ⟨a, b, ka, kb, rfl, rfl, ha, hb, ta, tb, q⟩ := h
  cases rx; cases ry
  obtain ⟨_, ya, va, ra, da⟩ := dk_of I.hok ha
  obtain ⟨_, yb, vb, rb, db⟩ := dk_of I.hok hb
  refine PySem.W.keq_eq (knd := mixKind X.prog X.w) (r := hitB kb ka) ya yb da db hu (fun _ => hits_tab (P := X.prog) (w := X.w) rb tb.ok ra ta.ok) ⟨.bl (eqT ka kb), H, I, ?_, q⟩
  have l1 : ka.length = va.length := Paired.length ra
  have l2 : kb.length = vb.length := Paired.length rb
  show Value.bool (va.length == vb.length && hitB kb ka) = Value.bool (eqT ka kb)
  unfold eqT
  rw [l1, l2]
end
theorem eqV_iff {v w : V} (hv : valOk v = true) (hw : valOk w = true) : eqV v w = true ↔ v = w := by
  cases v with
  | int i => cases w with
    | int j => simp [eqV]
    | str y => simp [eqV]
    | _ => cases hw
  | str x => cases w with
    | int j => simp [eqV]
    | str y => simp [eqV]
    | _ => cases hw
  | _ => cases hv
theorem hitB_iff {kb : Tbl} (ob : ∀ p ∈ kb, valOk p.2 = true) : ∀ {ka : Tbl}, (∀ p ∈ ka, valOk p.2 = true) → (hitB kb ka = true ↔ ∀ p ∈ ka, valV kb p.1 = some p.2)
  | [], _ => by simp [hitB]
  | p :: ka, ok => by
    have ih := hitB_iff ob (ka := ka) fun q hq => ok q (by simp [hq])
    show (match valV kb p.1 with | none => false | some y => eqV p.2 y && hitB kb ka) = true ↔ _
    cases e : valV kb p.1 with
    | none =>
      constructor
      · intro z; cases z
      · intro z
        have := z p (by simp)
        rw [e] at this
        cases this
    | some y =>
      have oy := ob _ (valV_mem e)
      show (eqV p.2 y && hitB kb ka) = true ↔ _
      rw [Bool.and_eq_true, eqV_iff (ok p (by simp)) oy, ih]
      constructor
      · rintro ⟨rfl, z⟩ q hq
        rcases List.mem_cons.mp hq with rfl | hq
        · exact e
        · exact z q hq
      · intro z
        have h1 := z p (by simp)
        rw [e] at h1
        exact ⟨(Option.some.inj h1).symm, fun q hq => z q (by simp [hq])⟩
theorem eqT_iff {a b : Tbl} (ha : TOk a) (hb : TOk b) : eqT a b = true ↔ Eqv a b := by
  unfold eqT
  rw [Bool.and_eq_true, beq_iff_eq, hitB_iff hb.ok ha.ok]
  constructor
  · rintro ⟨hl, h⟩ k
    cases e : valV a k with
    | some v => exact (h (k, v) (valV_mem e)).symm
    | none =>
      cases e2 : valV b k with
      | none => rfl
      | some w =>
        have kb := valV_key.mp (show (valV b k).isSome = true by rw [e2]; rfl)
        rw [hb.keys] at kb
        obtain ⟨x, hx, rfl⟩ := List.mem_map.mp kb
        have nx : x ∉ names a := fun m => by
          have := (names_mem ha).mp m
          rw [e] at this
          cases this
        have sub : ∀ y ∈ x :: names a, y ∈ names b := fun y hy => by
          rcases List.mem_cons.mp hy with rfl | hy
          · exact hx
          · have := (names_mem ha).mp hy
            cases e3 : valV a (.inr y) with
            | none => rw [e3] at this; cases this
            | some v =>
              have := h (.inr y, v) (valV_mem e3)
              exact (names_mem hb).mpr (by show (valV b (.inr y)).isSome = true; rw [show valV b (Sum.inr y) = some v from this]; rfl)
        have z := pig (List.nodup_cons.mpr ⟨nx, ha.names_nd⟩) sub
        unfold names at z
        rw [List.length_cons, List.length_map, List.length_map] at z
        omega
  · intro e
    exact ⟨len_eqv ha hb e, fun p hp => by rw [← e]; exact mem_valV ha.nd hp⟩
theorem eqT_congr {a a' b b' : Tbl} (ha : TOk a) (ha' : TOk a') (hb : TOk b) (hb' : TOk b') (e : Eqv a a') (f : Eqv b b') : eqT a b = eqT a' b' := by
  rw [Bool.eq_iff_iff, eqT_iff ha hb, eqT_iff ha' hb']
  exact ⟨fun h => e.symm.trans (h.trans f), fun h => e.trans (h.trans f.symm)⟩
/-- every binding of a is one of b -/
def winB (a b : Tbl) : Bool := a.all fun p => decide (valV b p.1 = some p.2)
theorem winB_congr {a a' b b' : Tbl} (ha : TOk a) (ha' : TOk a') (e : Eqv a a') (f : Eqv b b') : winB a b = winB a' b' := by
  have one : ∀ {a a' b b' : Tbl}, TOk a → TOk a' → Eqv a a' → Eqv b b' → winB a b = true → winB a' b' = true := fun ha ha' e f h => by
    unfold winB at h ⊢
    rw [List.all_eq_true] at h ⊢
    intro p hp
    have m := mem_valV ha'.nd (show (p.1, p.2) ∈ _ from hp)
    rw [← e] at m
    have z := h _ (valV_mem m)
    rw [decide_eq_true_eq] at z ⊢
    rw [← f]
    exact z
  rw [Bool.eq_iff_iff]
  exact ⟨one ha ha' e f, one ha' ha e.symm f.symm⟩
theorem TOk.filter {t : Tbl} (h : TOk t) (b : Key × V → Bool) : TOk (t.filter b) :=
  ⟨h.nd.sublist (List.Sublist.map _ List.filter_sublist), fun p hp => h.id p (List.mem_filter.mp hp).1, fun p hp => h.ok p (List.mem_filter.mp hp).1⟩
theorem valV_filter {t : Tbl} (h : TOk t) (b : Str → Bool) (x : Str) : valV (t.filter fun p => b (txt p.1)) (.inr x) = if b x then valV t (.inr x) else none := by
  cases e : valV (t.filter fun p => b (txt p.1)) (.inr x) with
  | some v =>
    have m := List.mem_filter.mp (valV_mem e)
    have hb : b x = true := m.2
    rw [if_pos hb, mem_valV h.nd m.1]
  | none =>
    split
    · rename_i hb
      cases e2 : valV t (.inr x) with
      | none => rfl
      | some v =>
        have m : ((.inr x, v) : Key × V) ∈ t.filter fun p => b (txt p.1) := List.mem_filter.mpr ⟨valV_mem e2, hb⟩
        have z := mem_valV (h.filter _).nd m
        rw [e] at z
        cases z
    · rfl
theorem filter_eqv {t s : Tbl} (h : TOk t) (g : TOk s) (b : Str → Bool) (e : Eqv t s) : Eqv (t.filter fun p => b (txt p.1)) (s.filter fun p => b (txt p.1)) := fun k => by
  cases k with
  | inl i =>
    have no : ∀ (u : Tbl), TOk u → valV u (Sum.inl i : Key) = none := fun u hu => by
      cases e : valV u (Sum.inl i : Key) with
      | none => rfl
      | some v => have := hu.id _ (valV_mem e); cases this
    rw [no _ (h.filter _), no _ (g.filter _)]
  | inr x => rw [valV_filter h, valV_filter g, e]
end Own

set_option Elab.async false
set_option linter.all false
set_option maxRecDepth 100000
set_option maxHeartbeats 4000000
/-! Walks over a list or a tuple; keys of a dict, filtered; not in by an own __contains__; what the end looks at for these. -/
namespace Own
open PySem PySem.Spec PyProof.Rows L2
section
variable {X : Cx} {CX : CXT} {k : Nat} {C f : Addr} {sp : Sp} {E : XK}
theorem pi_or {tg l : Expr} {t1 t2 : TI} (h1 : PI X tg l t1) (h2 : PI X tg l t2) : PI X tg l (fun σ H R => t1 σ H R ∨ t2 σ H R) :=
  ⟨fun pins s σ H R I h => h.elim (h1.run pins s σ H R I) (h2.run pins s σ H R I)⟩
def rNotInO (C : Addr) (sp : Sp) (E : XK) : R2 := fun x y H Q => ∃ a dx fs, y = .ref a ∧ H a = some (.ins C dx fs) ∧ sp [y, x] H (fun v H' => ∃ r, v = .bl r ∧ Q (.bl (!r)) H') E
theorem op_notInO (e : InC X.K C f) (F : FnR X.prog X.w X.K X.mg X.base CX k f sp) (hr : Room k X.A) (hx : Passes CX X E) : OpR X (compareOp .NotIn) (rNotInO C sp E) := by
  intro pins s σ H x y v u Q I rx ry h
  obtain ⟨a, dx, fs, rfl, ha, q⟩ := h
  cases ry
  obtain ⟨ox, od, J⟩ := ins_at I ha
  obtain ⟨m, hF⟩ := I.fr
  refine PySem.W.notIn_K hF I.ok.mod.kin J e.at_ e.fn ?_
  refine thn (wpAny_call (run_fnR (us := [.ref a, v]) (vs := [.ref a, x]) F hr hx I (.cons rfl (.cons rx .nil)) q)) fun w t z => ?_
  obtain ⟨z', H', I', rz, r, ez, qz⟩ := z
  subst ez
  cases rz
  exact wpAny_truthy_bool ⟨.bl (!r), H', I', rfl, qz⟩
end
section
variable {X : Cx} {s : Shared} {H : Hp} {scope : Scope} {cenv : Env} {fp : List Addr}
theorem pgB_tup {es : List Expr} {k n : Nat} {t : TGs} {pos : Pos} (hc : X.calm = true) (h : PGs (X.blk s H scope cenv fp) es t)
    (hn : (assignEach es (X.blk s H scope cenv fp).env).length = n := by rfl) (hst : (assignEach es (X.blk s H scope cenv fp).env).findIdx? (·.1) = none := by rfl) : PG (X.blk s H scope cenv fp) (.Tuple es k pos) (gTup X.K n t) := pg_tup hc h hn hst
theorem peB_fld {e : Expr} {ta : TE} {f : Str} {pos : Pos} (he : PE (X.blk s H scope cenv fp) e ta) (hb : attributeBase e f (X.blk s H scope cenv fp).env (eval e (X.blk s H scope cenv fp).env) = eval e (X.blk s H scope cenv fp).env) : PE (X.blk s H scope cenv fp) (.Attribute e f pos) (tFld X.K ta f) := pe_fld he hb
theorem callB_isi : CallR (X.blk s H scope cenv fp) (.builtin "isinstance") (rIsi X.K) := call_isi
end
/-- a pure comprehension over whatever gives the items of xs in order -/
theorem lcY_go {α : Type} {J : It} {xs : List V} {G : Hp → Prop} (w : Walk J xs.length G (YAt xs)) {j : Nat} {tt : TT} {te : TE} {σ : L2.St} {H : Hp} {Q : VK} (l : List α) (b : α → Bool) (g : α → V) (hG : ∀ D H', H D = none → ExT D H H' → G H') (hlen : xs.length = l.length) (hz : l.length ≤ 100000)
    (htt : ∀ (i : Nat) x z H' (R : Bool → Hp → Prop), xs[i]? = some x → l[i]? = some z → Same H H' → R (b z) H' → tt ((wipe σ [j]).set j (some x)) H' R)
    (hte : ∀ (i : Nat) x z H' (R : VK), xs[i]? = some x → l[i]? = some z → b z = true → Same H H' → R (g z) H' → te ((wipe σ [j]).set j (some x)) H' R)
    (q : ∀ D H', H D = none → Same H H' → H' D = some (.lst ((l.filter b).map g)) → Q (.ref D) H') : tLc (fun _ H R => R J H) (gName j) tt te [j] σ H Q := by
  refine fun D hD => ?_
  refine lc_it w (fun i H' => H' D = some (.lst (((l.take i).filter b).map g)) ∧ ExT D H H') ⟨upd_same, exT_upd (ExT.refl D H)⟩ (fun i H' _ p => hG D H' hD p.2) ?_ ?_
  · rintro i x H' H2 hi ⟨p1, p2⟩ ⟨rfl, hx⟩
    obtain ⟨z, hzz⟩ : ∃ z, l[i]? = some z := ⟨l[i]'(by omega), List.getElem?_eq_getElem (by omega)⟩
    have e : l.take (i + 1) = l.take i ++ [z] := by rw [List.take_add_one, hzz]; rfl
    refine ⟨wipe_set, htt i x z H2 _ hx hzz (ExT.toSame hD p2) ?_⟩
    cases hb : b z with
    | true =>
      refine hte i x z H2 _ hx hzz hb (ExT.toSame hD p2) ⟨_, p1, ?_, ?_, exT_upd p2⟩
      · rw [List.length_map]
        exact Nat.lt_of_le_of_lt (Nat.le_trans (List.length_filter_le _ _) (List.length_take_le _ _)) (Nat.lt_of_lt_of_le (show i < l.length by omega) (Nat.le_trans hz (by decide)))
      · rw [e, List.filter_append, List.map_append]
        simp only [List.filter_cons, hb, if_true, List.filter_nil, List.map_cons, List.map_nil]
        exact upd_same
    | false =>
      refine ⟨?_, p2⟩
      rw [e, List.filter_append]
      simp only [List.filter_cons, hb, List.filter_nil]
      rw [p1]
      simp
  · rintro H' ⟨p1, p2⟩
    rw [hlen, List.take_length] at p1
    exact q D H' hD (ExT.toSame hD p2) p1
theorem sqT_same {K : PySem.W.Frag} {H H' : Hp} {a : Addr} {xs : List V} (s : Same H H') (h : SqT K H a xs) : SqT K H' a xs := SqT.tu (Same.tu s) h
/-- .. over a list or a tuple -/
theorem lcLT_go {α : Type} {K : PySem.W.Frag} {t1 t2 : TE} {j : Nat} {tt : TT} {te : TE} {σ : L2.St} {H : Hp} {Q : VK} {a : Addr} {xs : List V} (l : List α) (b : α → Bool) (g : α → V) (ht1 : ∀ Q : VK, Q (.ref a) H → t1 σ H Q) (ht2 : ∀ Q : VK, Q (.ref a) H → t2 σ H Q) (ha : SqL K H a xs ∨ SqT K H a xs) (hlen : xs.length = l.length) (hz : l.length ≤ 100000)
    (htt : ∀ (i : Nat) x z H' (R : Bool → Hp → Prop), xs[i]? = some x → l[i]? = some z → Same H H' → R (b z) H' → tt ((wipe σ [j]).set j (some x)) H' R)
    (hte : ∀ (i : Nat) x z H' (R : VK), xs[i]? = some x → l[i]? = some z → b z = true → Same H H' → R (g z) H' → te ((wipe σ [j]).set j (some x)) H' R)
    (q : ∀ D H', H D = none → Same H H' → H' D = some (.lst ((l.filter b).map g)) → Q (.ref D) H') : tLc (fun σ H R => iList K t1 σ H R ∨ iTup K t2 σ H R) (gName j) tt te [j] σ H Q := by
  rcases ha with ha | ha
  · exact .inl (ht1 _ ⟨a, rfl, ⟨xs, ha⟩, lcY_go walk_list l b g (fun D H' hD v => sq_same (ExT.toSame hD v) ha) hlen hz htt hte q⟩)
  · exact .inr (ht2 _ ⟨a, rfl, ⟨xs, ha⟩, lcY_go walk_tup l b g (fun D H' hD v => sqT_same (ExT.toSame hD v) ha) hlen hz htt hte q⟩)
/-- [e for k in d if b], pure -/
theorem lcKeys_go {td : TE} {j : Nat} {tt : TT} {te : TE} {σ : L2.St} {H : Hp} {Q : VK} {d : Addr} {kvs : Tbl} (b : Key × V → Bool) (g : Key × V → V) (hd : H d = some (.dK kvs)) (hz : kvs.length ≤ 100000) (ht : ∀ o (Q : VK), Q (.ref d) (upd H d (.frz o (.dK kvs))) → td σ (upd H d (.frz o (.dK kvs))) Q)
    (htt : ∀ o k v H' (R : Bool → Hp → Prop), (k, v) ∈ kvs → Same (upd H d (.frz o (.dK kvs))) H' → R (b (k, v)) H' → tt ((wipe σ [j]).set j (some (kV k))) H' R)
    (hte : ∀ o k v H' (R : VK), (k, v) ∈ kvs → Same (upd H d (.frz o (.dK kvs))) H' → R (g (k, v)) H' → te ((wipe σ [j]).set j (some (kV k))) H' R)
    (q : ∀ D H', H D = none → Same H H' → H' D = some (.lst ((kvs.filter b).map g)) → Q (.ref D) H') : tLockE (tLc (iKeys td) (gName j) tt te [j]) σ H Q := by
  refine ⟨d, _, hd, True.intro, fun o => ?_⟩
  refine ht _ _ ⟨d, o, rfl, .inl ⟨kvs, upd_same, ?_⟩⟩
  refine fun D hD => ?_
  have hDd : D ≠ d := by
    rintro rfl
    rw [upd_same] at hD
    cases hD
  have hDn : H D = none := by rw [upd_ne hDd] at hD; exact hD
  let Pv : Nat → Hp → Prop := fun m H' => H' D = some (.lst (((kvs.take m).filter b).map g)) ∧ ExT D (upd H d (.frz o (.dK kvs))) H'
  refine ⟨fun m r H' => r = kvs.length - m ∧ m ≤ kvs.length ∧ Pv m H', ⟨kvs.length, rfl, Nat.zero_le _, upd_same, exT_upd (ExT.refl D _)⟩, ?_⟩
  rintro m r H' ⟨rfl, le, p1, p2⟩
  have sH := ExT.toSame hD p2
  have lk : H' d = some (.frz o (.dK kvs)) := sH _ _ upd_same
  rcases Nat.lt_or_ge m kvs.length with lt | ge
  · refine .inr ⟨⟨lk, lt⟩, Pv (m + 1), fun H2 p' => ⟨kvs.length - (m + 1), by omega, rfl, lt, p'⟩, ?_⟩
    rintro x H2 ⟨rfl, k, v, e, rfl⟩
    have mem := List.mem_of_getElem? e
    refine ⟨wipe_set, htt o k v H2 _ mem sH ?_⟩
    have et : kvs.take (m + 1) = kvs.take m ++ [(k, v)] := by rw [List.take_add_one, e]; rfl
    cases hb : b (k, v) with
    | false =>
      refine ⟨?_, (show ExT D _ _ from p2)⟩
      rw [et, List.filter_append, List.filter_cons, hb]
      simpa using p1
    | true =>
      refine hte o k v H2 _ mem sH ⟨_, p1, ?_, ?_, exT_upd p2⟩
      · rw [List.length_map]
        exact Nat.lt_of_le_of_lt (Nat.le_trans (List.length_filter_le _ _) (List.length_take_le _ _)) (Nat.lt_of_lt_of_le lt (Nat.le_trans hz (by decide)))
      · rw [upd_same, et, List.filter_append, List.filter_cons, hb, List.map_append]
        rfl
  · obtain rfl : m = kvs.length := Nat.le_antisymm le ge
    rw [List.take_length] at p1
    refine .inl ⟨⟨lk, Nat.le_refl _⟩, lk, ?_⟩
    refine q D _ hDn (unlock_same hd sH) ?_
    rw [upd_ne hDd]
    exact p1
/-! what the end looks at -/
def eqB (K : PySem.W.Frag) (x : Str) : Bool := decide (PySem.W.findIn K (.ref (He.ga K x)) "__eq__" = some (some (.ref (He.ma K (He.ga K x) "__eq__")))) && (PySem.W.isFn K (.ref (He.ma K (He.ga K x) "__eq__")) &&
  (decide (PySem.W.findIn K (.ref (He.ga K x)) "__ne__" = some (some (.builtin "object.__ne__"))) && (decide (PySem.W.subIn K (.ref (He.ga K x)) (.type "object") = some true) && decide (PySem.W.subIn K (.type "dict") (.ref (He.ga K x)) = some false))))
theorem eq_of {K : PySem.W.Frag} {x : Str} (c : eqB K x = true) : EqC K (He.ga K x) (He.ma K (He.ga K x) "__eq__") := by
  simp only [eqB, Bool.and_eq_true, decide_eq_true_eq] at c
  obtain ⟨a, b, d, e, f⟩ := c
  exact ⟨a, b, d, e, f⟩
def inB (K : PySem.W.Frag) (x : Str) : Bool := decide (PySem.W.findIn K (.ref (He.ga K x)) "__contains__" = some (some (.ref (He.ma K (He.ga K x) "__contains__")))) && PySem.W.isFn K (.ref (He.ma K (He.ga K x) "__contains__"))
theorem in_of {K : PySem.W.Frag} {x : Str} (c : inB K x = true) : InC K (He.ga K x) (He.ma K (He.ga K x) "__contains__") := by
  simp only [inB, Bool.and_eq_true, decide_eq_true_eq] at c
  exact ⟨c.1, c.2⟩
def getB (K : PySem.W.Frag) (x : Str) : Bool := decide (PySem.W.findIn K (.ref (He.ga K x)) "__getitem__" = some (some (.ref (He.ma K (He.ga K x) "__getitem__")))) && (PySem.W.isFn K (.ref (He.ma K (He.ga K x) "__getitem__")) && PySem.W.fnIn K (He.ma K (He.ga K x) "__getitem__"))
theorem get_of {K : PySem.W.Frag} {x : Str} (c : getB K x = true) : GetC K (He.ga K x) (He.ma K (He.ga K x) "__getitem__") := by
  simp only [getB, Bool.and_eq_true, decide_eq_true_eq] at c
  exact ⟨c.1, c.2.1, c.2.2⟩
def subB (K : PySem.W.Frag) (x : Str) : Bool := PySem.W.selfFirst K (He.ga K x) && (decide (PySem.W.findIn K (.ref (He.ga K x)) (PySem.dunder "sub") = some (some (.ref (He.ma K (He.ga K x) "__sub__")))) && (PySem.W.isFn K (.ref (He.ma K (He.ga K x) "__sub__")) &&
  (decide (PySem.W.findIn K (.ref (He.ga K x)) (dunderR "sub") = some none) && ((PySem.W.findIn K (.type "list") (PySem.dunder "sub")).isSome && ((PySem.W.findIn K (.type "list") (dunderR "sub")).isSome && (decide (PySem.W.subIn K (.type "list") (.ref (He.ga K x)) = some false) &&
  ((PySem.W.findIn K (.type "tuple") (PySem.dunder "sub")).isSome && ((PySem.W.findIn K (.type "tuple") (dunderR "sub")).isSome && decide (PySem.W.subIn K (.type "tuple") (.ref (He.ga K x)) = some false)))))))))
theorem sub_of {K : PySem.W.Frag} {x : Str} (c : subB K x = true) : SubK K (He.ga K x) (He.ma K (He.ga K x) "__sub__") := by
  simp only [subB, Bool.and_eq_true, decide_eq_true_eq] at c
  obtain ⟨a, b, d, e, f, g, i, j, k, l⟩ := c
  exact ⟨⟨a, b, d, e⟩, Option.isSome_iff_exists.mp f, Option.isSome_iff_exists.mp g, i, Option.isSome_iff_exists.mp j, Option.isSome_iff_exists.mp k, l⟩
end Own

set_option Elab.async false
set_option linter.all false
set_option maxRecDepth 100000
set_option maxHeartbeats 4000000
namespace Own
open PySem PySem.Spec PyProof.Rows L2
theorem pmap {α β : Type} {R S : α → β → Prop} : ∀ {l : List α} {m : List β}, Paired R l m → (∀ x y, x ∈ l → R x y → S x y) → Paired S l m
  | _, _, .nil, _ => .nil
  | _, _, .cons a r, h => .cons (h _ _ (by simp) a) (pmap r fun x y m e => h x y (by simp [m]) e)
theorem al_tup {K : PySem.W.Frag} {H : Hp} {a b : Addr} {k v : V} (ha : H a = some (.tup [k, v])) (hb : H b = some (.tup [k, v])) (hk : plainV k = true) (hv : plainV v = true) : Alike K H 1 (.ref a) (.ref b) :=
  .tup (.inl (.inl ha)) (.inl (.inl hb)) rfl fun i x y e1 e2 => paired_get (al2 hk hv) e1 e2
theorem valOk_plain {v : V} (h : valOk v = true) : plainV v = true := by
  cases v <;> first | rfl | cases h
theorem eqNil_go {K : PySem.W.Frag} {p e : Addr} {l : List Str} {H : Hp} {Q : VK} (h : SqL K H p (l.map V.str)) (he : SqL K H e []) (ho : ∀ x ∈ l, PyData.strOk x = true) (q : Q (.bl l.isEmpty) H) : rEqD K (.ref p) (.ref e) H Q := by
  refine ⟨.list (l.map .str), .list [], .lst h (dp_strs l), .lst he .nil, strs_shaped l ho, strs_shaped [] (by simp), ?_⟩
  have z : PyData.eqv (.list (l.map PyData.str)) (.list []) = l.isEmpty := by
    cases l with
    | nil => simp [PyData.eqv, PyData.eqvAll]
    | cons x l => simp [PyData.eqv, PyData.eqvAll]
  rw [z]
  exact q
theorem ident_ok {x : Str} (h : isIdent x = true) : PyData.strOk x = true := word_ok (by unfold isIdent at h; simp only [Bool.and_eq_true] at h; exact h.1.1)
theorem kV_txt {t : Tbl} (ht : TOk t) {k : Key} {v : V} (m : (k, v) ∈ t) : kV k = V.str (txt k) := by
  have e := keyId_txt (ht.id _ m)
  dsimp only at e
  rw [e]
  rfl
/-- a table filled name by name -/
theorem new_key {kvs : Tbl} {us : List Str} {i : Nat} {y : Str} (hk : kvs.map (·.1) = (us.take i).map Sum.inr) (nd : us.Nodup) (hy : us[i]? = some y) : valV kvs (.inr y) = none := by
  have hi : i < us.length := (List.getElem?_eq_some_iff.mp hy).1
  cases ev : valV kvs (.inr y) with
  | none => rfl
  | some w =>
    have c := valV_key.mp (show (valV kvs (.inr y)).isSome = true by rw [ev]; rfl)
    rw [hk] at c
    obtain ⟨z, hz, ez⟩ := List.mem_map.mp c
    cases ez
    exact absurd (List.getElem?_eq_some_iff.mp hy).2 (fun e => by
      obtain ⟨j, hj, ej⟩ := List.mem_iff_getElem.mp hz
      rw [List.getElem_take] at ej
      have hj' : j < i := by
        have := List.length_take_le i us
        omega
      have := (List.getElem_inj (h₀ := by omega) (h₁ := hi) nd).mp (ej.trans e.symm)
      omega)
/-- two lists of the same texts are told equal -/
theorem strs_go {K : PySem.W.Frag} {r : Bool} {p q : Addr} {l : List Str} {H : Hp} {Q : VK} (h1 : H p = some (.lst (l.map V.str))) (h2 : H q = some (.lst (l.map V.str))) (k : Q (.bl r) H) : rEqA K r (.ref p) (.ref q) H Q := by
  refine ⟨1, p, q, _, _, by decide, rfl, rfl, .inl (.inl h1), .inl (.inl h2), rfl, fun i x y e1 e2 => ?_, k⟩
  rw [e1] at e2
  cases e2
  rw [List.getElem?_map] at e1
  obtain ⟨z, ez, rfl⟩ := Option.map_eq_some_iff.mp e1
  exact .same rfl
section
variable {X : Cx} {s : Shared} {H : Hp} {scope : Scope} {cenv : Env} {fp : List Addr}
theorem callB_lenL : CallR (X.blk s H scope cenv fp) (.builtin "len") (fun xs H Q => ∃ p ys, xs = [V.ref p] ∧ SqL X.K H p ys ∧ Q (.int ys.length) H) := call_lenL
theorem callB_lenT : CallR (X.blk s H scope cenv fp) (.builtin "len") (fun xs H Q => ∃ p ys, xs = [V.ref p] ∧ SqT X.K H p ys ∧ Q (.int ys.length) H) := call_lenT
theorem opB_eqD (hu : X.A.units + 64 < cLine) : OpR (X.blk s H scope cenv fp) (compareOp .Eq) (rEqD X.K) := op_eqD hu
theorem opB_neD (hu : X.A.units + 64 < cLine) : OpR (X.blk s H scope cenv fp) (compareOp .NotEq) (rNeD X.K) := op_neD hu
end
end Own

set_option Elab.async false
set_option linter.all false
set_option maxRecDepth 100000
set_option maxHeartbeats 4000000
/-! Exceptions that leave a def: made with their fields, raised, taken by a try. -/
namespace Own
open PySem PySem.Spec PyProof.Rows L2
section
variable {X : Cx} {CX : CXT} {k : Nat} {C fI : Addr} {e : Expr} {es : List Expr} {ta : TA} {p pos : Pos} {sp : Sp}
theorem pmkN {x : Str} {fd : FuncData} {ps : List Str} (T : OexC X.K C)
    (iC : PySem.W.findIn X.K (.ref C) "__init__" = some (some (.ref fI)))
    (tI : PySem.W.typeIn X.K (.ref fI) = some (.type "function"))
    (F1 : FnOk X.prog X.w X.K X.mg X.base CX k fI fd ps sp) (hr : Room (k + 1) X.A) (hb : Binds X.K fd ps []) (hx : Passes CX X E0) (hm : X.mg x = some (.ref C)) (hg : Gl X x) (ha : PA X (e :: es) ta)
    (hdb : (x == ("__debug__" : Str)) = false := by decide)
    (he : starEach (e :: es) X.env = (false, eval e X.env) :: starEach es X.env := by rfl)
    (hpl : (backTo pos (starEach es X.env)).any (·.1) = false := by rfl) : L2N.PMk X (.Call (.Name x p) (e :: es) [] pos) (tMkO C sp [] ta) := by
  intro pins s σ H Q I h
  obtain ⟨nm, q, N, bs, bm, sn, sub, ab, col, dd, k0, k1, k2, k3, k5, hC, hbm⟩ := T.cls
  refine wpAny_Call_Name_kw (ld_glob I hg hm ?_ hdb)
  refine PySem.W.callWith_K (h₀ := X.base) I.ok.mod.kin T.kC ?_ he hpl
  refine thn (ha.run pos pins s σ H _ I h) fun us s1 hh => ?_
  obtain ⟨vs, H1, I1, r1, hz, q1⟩ := hh
  refine ⟨I1.kIn, ?_⟩
  show wpAny _ _ (call (.ref C) us) _ _ _
  obtain ⟨hp, g, dr, tk, os⟩ := s1
  generalize hA : hp.objs.size + 1 = a
  have hsz : hp.objs.size ≤ a := by omega
  have hq := q1 a (I1.hok.fresh hsz)
  have kk : ∀ b o, hp.get? b = some o → ((hp.push (PySem.W.kdv_tup us)).push (PySem.HandSPX.excO C hp.objs.size)).get? b = some o :=
    fun b o z => Heap.get?_push_of_some _ (Heap.get?_push_of_some _ z)
  have hget : ((hp.push (PySem.W.kdv_tup us)).push (PySem.HandSPX.excO C hp.objs.size)).get? a = some (PySem.HandSPX.excO C hp.objs.size) := by
    rw [← hA]
    heap_get
  have I2 := I1.laid (t' := tk) (a := a) (o := exo a C none) kk hsz (exo_ok hget)
  have r2 : Vals (V.ref a :: (vs ++ [])) (Value.ref a :: (us ++ [])) := .cons rfl (by simpa using r1)
  have hl : (Value.ref a :: us ++ []).length = ps.length := by
    have z := r2.length
    rw [F1.len _ _ _ _ hq] at z
    exact z.symm
  have hus : us.length ≤ sizeLine := by
    have z := Paired.length r1
    rw [sizeLine_eq]
    omega
  subst hA
  refine wpAny_call (PySem.HandSPX.call_own F.excBase_ValueError (fun Y => PySem.HandSPX.refsVE_contains Y bm hbm) (I1.kIn _ _ hC) (PySem.W.looks_findIn I1.kIn iC) (fun self => PySem.W.bind_fn I1.kIn self tI) hus ?_)
  have bd := hb _ (Value.ref (hp.objs.size + 1) :: us) I2.kIn hl
  refine codeAny_mono (F1.run _ X.stack _ _ _ _ _ _ E0 (hr.make C us []) (I2.env0.make C us []) bd r2 hq) fun r s' hq' => ?_
  cases r with
  | error er => exact hx pins σ _ _ er s' I2 hq'
  | ok fl =>
    cases fl with
    | ret u =>
      obtain ⟨v, H2, os2, bare2, un2, hok2, rv, ev, d, fs, ea, ed, hd1, q2⟩ := hq'
      subst ev
      obtain ⟨h2, g2, d2, t2, os'⟩ := s'
      obtain ⟨t0, G, J, kG, ge, hoe, na⟩ := mk_end0 (d2 := d2) (t2 := t2) I1 hsz kk un2 hok2 os2 bare2 ea ed hd1
      have zn : L2N.Zn (.ref C) (some d) ({ cls := .ref C, dict := some d, data := .fields #[.ref t0, .none, .none, .none, .bool false, .none] } : Obj) := ⟨rfl, rfl, fun ws hw => by cases hw; rfl⟩
      exact ⟨rv, hp.objs.size + 1, _, _, ⟨G, g2, d2, t2, os'⟩, _, .ref C, some d, rfl, J, kG, ge, hoe, zn, rfl, rfl, na, rfl, bare2, raises_own T.exC T.tyC, q2⟩
    | next => exact hq'.elim
    | brk => exact hq'.elim
    | cont => exact hq'.elim
/-- C(v), C(v, u): what is left to say when the fields are known -/
def RZ1 (C : Addr) (f : Str) (v : V) (H : Hp) (Q : XK) : Prop := [v].length ≤ 1000 ∧ ∀ a, H a = none → spE1 C f [.ref a, v] (upd H a (exo a C none))
  (fun z H2 => z = .non ∧ ∃ (d : Addr) (fs : List (Str × V)), H2 a = some (exo a C (some d)) ∧ H2 d = some (exd d fs) ∧ H d = none ∧ Q (.ref C) (some d) (upd (del H2 a) d (.xd fs))) (fun _ _ _ => False)
def RZ2 (C : Addr) (f g : Str) (v u : V) (H : Hp) (Q : XK) : Prop := [v, u].length ≤ 1000 ∧ ∀ a, H a = none → spE2 C f g [.ref a, v, u] (upd H a (exo a C none))
  (fun z H2 => z = .non ∧ ∃ (d : Addr) (fs : List (Str × V)), H2 a = some (exo a C (some d)) ∧ H2 d = some (exd d fs) ∧ H d = none ∧ Q (.ref C) (some d) (upd (del H2 a) d (.xd fs))) (fun _ _ _ => False)
theorem rz1_eq {C : Addr} {f : Str} {te : TE} : tMkO C (spE1 C f) [] (tCons te tNil) = fun σ H Q => te σ H fun v H1 => RZ1 C f v H1 Q := rfl
theorem rz2_eq {C : Addr} {f g : Str} {te tu : TE} : tMkO C (spE2 C f g) [] (tCons te (tCons tu tNil)) = fun σ H Q => te σ H fun v H1 => tu σ H1 fun u H2 => RZ2 C f g v u H2 Q := rfl
theorem del_upd {H : Hp} {a d : Addr} {o1 o2 o3 o4 : HO} (na : H a = none) (hd : d ≠ a) : upd (del (upd (upd (upd H a o1) d o2) a o3) a) d o4 = upd H d o4 := by
  funext b
  by_cases h : b = d
  · rw [h, upd_same, upd_same]
  · rw [upd_ne h, upd_ne h]
    by_cases g : b = a
    · rw [g, del_same, na]
    · rw [del_ne g, upd_ne g, upd_ne h, upd_ne g]
theorem del_upd2 {H : Hp} {a d : Addr} {o1 o2 o3 o4 o5 : HO} (na : H a = none) (hd : d ≠ a) : upd (del (upd (upd (upd (upd H a o1) d o2) a o3) d o5) a) d o4 = upd H d o4 := by
  funext b
  by_cases h : b = d
  · rw [h, upd_same, upd_same]
  · rw [upd_ne h, upd_ne h]
    by_cases g : b = a
    · rw [g, del_same, na]
    · rw [del_ne g, upd_ne h, upd_ne g, upd_ne h, upd_ne g]
theorem rz1_go {C : Addr} {f : Str} {v : V} {H : Hp} {Q : XK} (q : ∀ d, H d = none → Q (.ref C) (some d) (upd H d (.xd [(f, v)]))) : RZ1 C f v H Q :=
  ⟨by show 1 ≤ 1000; decide, fun a na => ⟨a, v, rfl, upd_same, fun dx nd hne => by
    have nd' : H dx = none := by rw [upd_ne hne] at nd; exact nd
    exact ⟨rfl, dx, _, upd_same, by rw [upd_ne hne, upd_same], nd', by rw [del_upd na hne]; exact q dx nd'⟩⟩⟩
theorem rz2_go {C : Addr} {f g : Str} {v u : V} {H : Hp} {Q : XK} (q : ∀ d, H d = none → Q (.ref C) (some d) (upd H d (.xd [(g, u), (f, v)]))) : RZ2 C f g v u H Q :=
  ⟨by show 2 ≤ 1000; decide, fun a na => ⟨a, v, u, rfl, upd_same, fun dx nd hne => by
    have nd' : H dx = none := by rw [upd_ne hne] at nd; exact nd
    exact ⟨rfl, dx, _, by rw [upd_ne hne.symm, upd_same], upd_same, nd', by rw [del_upd2 na hne]; exact q dx nd'⟩⟩⟩
end
/-- what a raising def of ours wishes of its own X -/
theorem takesN {X : Cx} {E : XK} {E₁ : Value → Shared → Prop} (hs : X.stack = X.env :: X.outer) (hf : X.env.frame = some X.env.locals) (hex : X.ex = [])
    (hx : X.xe = fun e s' => wpAny (model X.prog X.w) X.A (leaving X.env e) (fun _ s'' => L2N.CX X.prog X.w X.outer X.H_0 X.s_0 E e s'') E₁ s') : L2N.Takes X (fun cls d _ H => E cls d H) := L2N.takes_of hs hf hex hx
theorem passN {X : Cx} : Passes (L2N.CX X.prog X.w) X E0 := fun _ _ _ _ _ _ _ h => by
  obtain ⟨_, _, _, _, _, _, _, _, _, _, _, _, z⟩ := h
  exact z.elim
theorem takesN0 {X : Cx} : L2N.Takes X (fun _ _ _ _ => False) := fun _ _ x => by
  obtain ⟨_, _, _, _, _, _, _, _, _, _, _, _, _, _, _, _, z⟩ := x
  exact z.elim
/-- a def that may raise keeps its promise -/
theorem okX {P : Program} {w : World} {K : PySem.W.Frag} {mg : Str → Option Value} {base : Heap} {x qual : Str} {st : Stmt} {f : Addr} {fd : FuncData} {N ps : List Str} {k : Nat} {sp : Sp} (F : Fun K x qual st f fd) (S : FnScope N ps (defScope st)) (len : ∀ vs H Q E, sp vs H Q E → vs.length = ps.length)
    (body : ∀ (cdv : Value) (A : Around) (outer : List Env) (s : Shared) (H : Hp) (vs : List V) (Q : VK) (E : XK), Room k (A.deeper (envOfC qual (defScope st) s.heap.objs.size f cdv)) → sp vs H Q E →
      ∃ t, PSs (cxOf (L2N.CX P w) P w K mg base N qual (defScope st) f cdv A outer s H E) (defBody st) t ∧ t { nx := fun _ H' => Q .non H', rt := Q } (start N vs) H) : FnOk P w K mg base (L2N.CX P w) (k + 1) f fd ps sp := by
  obtain ⟨oc, od, kV, doc, pm, an, cdv, ct, osl, rfl, lk, hcd⟩ := F.ex
  refine fn_of lk hcd S len fun A outer s H vs Q E hr hsp => ?_
  exact body cdv A outer s H vs Q E hr hsp
end Own

set_option Elab.async false
set_option linter.all false
set_option maxRecDepth 100000
set_option maxHeartbeats 4000000
/-! A try around an own e[i]; isinstance, fields and == in an except suite. -/
namespace Own
open PySem PySem.Spec PyProof.Rows L2
section
variable {X : Cx} {CX : CXT} {k : Nat} {C f : Addr} {sp : Sp} {E : L2.St → XK}
def tIxS (C : Addr) (sp : Sp) (E : L2.St → XK) (ta tb : TE) : TE := fun σ H Q => ta σ H fun x H1 => tb σ H1 fun y H2 => ∃ a dx fs, x = .ref a ∧ H2 a = some (.ins C dx fs) ∧ sp [x, y] H2 Q (E σ)
theorem pe_ixS {a b : Expr} {ta tb : TE} {pos : Pos} (e : GetC X.K C f) (F : FnR X.prog X.w X.K X.mg X.base CX k f sp) (hr : Room (k + 1) X.A) (hx : ∀ σ, PassesAt CX X σ (E σ)) (ha : PE X a ta) (hb : PE X b tb) (hs : ∀ o i, subscripted b true o i = runValue (.builtin "lifetime.subscript" ⟨[o, i], []⟩)) :
    PE X (.Subscript a b pos) (tIxS C sp E ta tb) := by
  refine ⟨fun pins s σ H Q I h => Subscript_ (binT ha hb I h fun v u s2 x y H2 I2 rx ry q => ?_)⟩
  obtain ⟨c, dx, fs, rfl, hc, q⟩ := q
  cases rx
  obtain ⟨ox, od, J⟩ := ins_at I2 hc
  obtain ⟨m, hF⟩ := I2.fr
  refine PySem.W.sub_K hF I2.ok.mod.kin J e.at_ e.fi e.fn (wpAny_call (codeAny_mono (F X.A.in1 X.stack s2 H2 [.ref c, u] [.ref c, y] Q (E σ) hr.in1 I2.env0.in1 (.cons rfl (.cons ry .nil)) q) fun r s' hq => ?_)) (hs _ _)
  cases r with
  | error er => exact hx σ pins H2 s2 er s' I2 hq
  | ok fl => cases fl with
    | ret u => exact I2.after hq
    | next => exact False.elim hq
    | brk => exact False.elim hq
    | cont => exact False.elim hq
/-- one of two ways to see an operator -/
theorem op_alt {op : Value → Value → Sem Value} {r1 r2 : R2} (h1 : OpR X op r1) (h2 : OpR X op r2) : OpR X op (fun x y H Q => r1 x y H Q ∨ r2 x y H Q) :=
  fun pins s σ H x y v u Q I rx ry h => h.elim (h1 pins s σ H x y v u Q I rx ry) (h2 pins s σ H x y v u Q I rx ry)
end
/-- isinstance(e, c), e the exception that the suite holds, with its dict -/
def rIsX (K : PySem.W.Frag) (a : Addr) (cls : Value) (d : Option Addr) : List V → Hp → VK → Prop := fun xs H Q => ∃ (D dd : Addr) (fs : List (Str × V)) (c : V) (cv : Value) (b : Bool), xs = [.ref a, c] ∧ cls = .ref D ∧ d = some dd ∧ H dd = some (.xd fs) ∧ ExcC K D ∧ (∀ u, RelV c u → u = cv) ∧ PySem.W.kitOne K (.ref D) cv = some b ∧ Q (.bl b) H
section
variable {X : Cx} {a : Addr} {oe : Obj} {cls : Value} {d : Option Addr} {pn : List (Addr × Obj)}
theorem call_isX (hz : L2N.Zn cls d oe) (hf : ∃ vs, oe.data = .fields vs) : CallR (X.suite a ((a, oe) :: pn)) (.builtin "isinstance") (rIsX X.K a cls d) := by
  intro pins s σ H xs us Q I r h
  obtain ⟨D, dd, fs, c, cv, b, rfl, rfl, rfl, hd, C, hcv, e, q⟩ := h
  cases r with
  | cons rx rr =>
    cases rr with
    | cons rt rr =>
      cases rr
      cases rx
      have ec := hcv _ rt
      subst ec
      have cl : (PySem.W.clsIn X.K D).isSome = true := by
        obtain ⟨cd, hc, _⟩ := PySem.W.any_some C.hd
        rw [hc]; rfl
      obtain ⟨ha, _⟩ := I.pin (a, oe) (List.mem_append_left _ List.mem_cons_self)
      obtain ⟨vs, hv⟩ := hf
      obtain ⟨mA, hns, _⟩ := (show ObjOk X.prog X.w H s.heap dd (.xd fs) from I.hok dd _ hd)
      obtain ⟨od, hod, _⟩ := lookIn_ns hns
      have J : PySem.W.InstAt s.heap a oe D (some od) := ⟨ha, hz.1, by unfold PySem.W.notCls; rw [hv] <;> rfl, by rw [hz.2.1]; exact hod⟩
      exact PySem.W.kia_one (PySem.W.kitx_exc cl C.hg C.hk C.hs C.ha C.hn C.ht C.hm) I.kIn J e (fun z => nomatch z) fun tk => ⟨.bl b, H, I.kept (t' := tk) fun _ _ z => z, rfl, q⟩
/-- e.f, e the exception that the suite holds -/
def tXfN (K : PySem.W.Frag) (a : Addr) (cls : Value) (d : Option Addr) (f : Str) (te : TE) : TE := fun σ H Q => te σ H fun x H1 => x = .ref a ∧ ∃ (C dd : Addr) (fs : List (Str × V)) (v : V), cls = .ref C ∧ XfC K C ∧ PySem.W.findIn K (.ref C) f = some none ∧ d = some dd ∧ H1 dd = some (.xd fs) ∧ fs.lookup f = some v ∧ Q v H1
theorem pe_xfN {e : Expr} {te : TE} {pos : Pos} {n : Str} (hz : L2N.Zn cls d oe) (hf : ∃ vs, oe.data = .fields vs) (he : PE (X.suite a ((a, oe) :: pn)) e te)
    (hb : attributeBase e n X.env (eval e X.env) = eval e X.env := by rfl) : PE (X.suite a ((a, oe) :: pn)) (.Attribute e n pos) (tXfN X.K a cls d n te) := by
  refine ⟨fun pins s σ H Q I h => attr_of hb (thn (he.run pins s σ H _ I h) fun u s1 hh => ?_)⟩
  obtain ⟨x, H1, I1, rx, rfl, C, dd, fs, v, rfl, T, hno, rfl, ea, l, q⟩ := hh
  cases rx
  obtain ⟨ha, _⟩ := I1.pin (a, oe) (List.mem_append_left _ List.mem_cons_self)
  obtain ⟨vs, hd⟩ := hf
  obtain ⟨mA, hns, hr⟩ := (show ObjOk X.prog X.w H1 s1.heap dd (.xd fs) from I1.hok dd _ ea)
  obtain ⟨od, ho, hl⟩ := lookIn_ns hns
  have rel := hr n
  rw [l] at rel
  obtain ⟨w, hw, rw'⟩ := RelO.some_of rel
  have J : PySem.W.InstAt s1.heap a oe C (some od) := ⟨ha, hz.1, by unfold PySem.W.notCls; rw [hd] <;> rfl, by rw [hz.2.1]; exact ho⟩
  exact HandSPX.exc_get I1.kIn J T.ga T.gg T.exC (PySem.W.findObj_own T.hdC hno rfl (by rw [hl, hw])) (handed_of rw') ⟨v, H1, I1.tok _, rw', q⟩
theorem hotN (hz : L2N.Zn cls d oe) (hf : ∃ vs, oe.data = .fields vs) : L2H.HotC (X.suite a ((a, oe) :: pn)) := by
  obtain ⟨vs, hd⟩ := hf
  exact ⟨(a, oe), ⟨rfl, vs, hd, hz.2.2 vs hd⟩, List.mem_cons_self⟩
end
section
variable {X : Cx} {CX : CXT} {k : Nat} {C f : Addr} {fd : FuncData} {ps : List Str} {sp : Sp}
/-- == by an own __eq__ while an exception is handled -/
theorem opH_eqO (hc : L2H.HotC X) (e : EqC X.K C f) (F : L2H.FnH X.prog X.w X.K X.mg X.base CX k f fd ps sp) (hb : Binds X.K fd ps []) (hr : L2H.RoomH k X.A) (hu : X.A.units < cLine) (hx : ∀ σ, PassesAt CX X σ E0) : OpR X (compareOp .Eq) (rEqO C sp E0 false) := by
  intro pins s σ H x y v u Q I rx ry h
  obtain ⟨a, dx, fs, b, rfl, rfl, ha, hy, q⟩ := h
  cases rx; cases ry
  obtain ⟨ox, od, J⟩ := ins_at I ha
  obtain ⟨tb, ty, nf⟩ := type_right I e hy
  obtain ⟨m, hF⟩ := I.fr
  show wpAny _ _ (richCompare .Eq (.ref a) (.ref b)) _ _ _
  refine PySem.W.cmp_K (op := .Eq) (tb := tb) hu hF I.ok.mod.kin J ty nf e.eq e.fn ?_
  refine thn (L2H.run_fnH (us := [.ref a, .ref b]) (vs := [.ref a, .ref b]) (E := fun _ => E0) F hr hc hb (hx σ) I (.cons rfl (.cons rfl .nil)) q) fun v t z => ?_
  obtain ⟨z', H', I', rz, r, ez, qz⟩ := z
  subst ez
  cases rz
  exact ⟨.bl r, H', I', rfl, qz⟩
end
/-- a def in such a place -/
theorem okH {P : Program} {w : World} {K : PySem.W.Frag} {mg : Str → Option Value} {base : Heap} {x qual : Str} {st : Stmt} {f : Addr} {fd : FuncData} {N ps : List Str} {k : Nat} {sp : Sp} (F : Fun K x qual st f fd) (S : FnScope N ps (defScope st)) (len : ∀ vs H Q E, sp vs H Q E → vs.length = ps.length)
    (body : ∀ (cdv : Value) (A : Around) (outer : List Env) (s : Shared) (H : Hp) (vs : List V) (Q : VK) (E : XK) (p : Addr × Obj), L2H.Hot1 A p → L2H.RoomH k (A.deeper (envOfC qual (defScope st) s.heap.objs.size f cdv)) → sp vs H Q E →
      ∃ t, PSs (L2H.cxH (L2N.CX P w) P w K mg base N qual (defScope st) f cdv A outer s H E p) (defBody st) t ∧ t { nx := fun _ H' => Q .non H', rt := Q } (start N vs) H) : L2H.FnH P w K mg base (L2N.CX P w) (k + 1) f fd ps sp := by
  obtain ⟨oc, od, kV, doc, pm, an, cdv, ct, osl, rfl, lk, hcd⟩ := F.ex
  refine L2H.fn_ofH lk hcd S len fun A outer s H vs Q E p hp hr hsp => ?_
  exact body cdv A outer s H vs Q E p hp hr hsp
theorem passAtN {X : Cx} {σ : L2.St} : PassesAt (L2N.CX X.prog X.w) X σ E0 := fun _ _ _ _ _ _ h => by
  obtain ⟨_, _, _, _, _, _, _, _, _, _, _, _, z⟩ := h
  exact z.elim
theorem opX_eqD {X : Cx} {a : Addr} {pn : List (Addr × Obj)} (hu : X.A.units + 64 < cLine) : OpR (X.suite a pn) (compareOp .Eq) (rEqD X.K) := op_eqD (X := X.suite a pn) hu
theorem opX_neD {X : Cx} {a : Addr} {pn : List (Addr × Obj)} (hu : X.A.units + 64 < cLine) : OpR (X.suite a pn) (compareOp .NotEq) (rNeD X.K) := op_neD (X := X.suite a pn) hu
end Own

set_option Elab.async false
set_option linter.all false
set_option maxRecDepth 100000
set_option maxHeartbeats 4000000
/-! len(x), bool(x), str(x) by own methods. -/
namespace Own
open PySem PySem.Spec PyProof.Rows L2
structure LenC (K : PySem.W.Frag) (C f : Addr) : Prop where
  at_ : PySem.W.findIn K (.ref C) "__len__" = some (some (.ref f))
  fn : PySem.W.isFn K (.ref f) = true
  nb : PySem.W.findIn K (.ref C) "__bool__" = some none
def lenB (K : PySem.W.Frag) (x : Str) : Bool := decide (PySem.W.findIn K (.ref (He.ga K x)) "__len__" = some (some (.ref (He.ma K (He.ga K x) "__len__")))) && (PySem.W.isFn K (.ref (He.ma K (He.ga K x) "__len__")) && decide (PySem.W.findIn K (.ref (He.ga K x)) "__bool__" = some none))
theorem len_of {K : PySem.W.Frag} {x : Str} (c : lenB K x = true) : LenC K (He.ga K x) (He.ma K (He.ga K x) "__len__") := by
  simp only [lenB, Bool.and_eq_true, decide_eq_true_eq] at c
  exact ⟨c.1, c.2.1, c.2.2⟩
structure StrC (K : PySem.W.Frag) (C f : Addr) : Prop where
  at_ : PySem.W.findIn K (.ref C) "__str__" = some (some (.ref f))
  fn : PySem.W.isFn K (.ref f) = true
def strB (K : PySem.W.Frag) (x : Str) : Bool := decide (PySem.W.findIn K (.ref (He.ga K x)) "__str__" = some (some (.ref (He.ma K (He.ga K x) "__str__")))) && PySem.W.isFn K (.ref (He.ma K (He.ga K x) "__str__"))
theorem str_of {K : PySem.W.Frag} {x : Str} (c : strB K x = true) : StrC K (He.ga K x) (He.ma K (He.ga K x) "__str__") := by
  simp only [strB, Bool.and_eq_true, decide_eq_true_eq] at c
  exact ⟨c.1, c.2⟩
section
variable {prog : Program} {w : World} {A : Around} {E : Value → Shared → Prop} {s : Shared} {K : PySem.W.Frag} {x C f : Addr} {ox : Obj} {od : Option Obj}
def CountBack (Q : Int → Shared → Prop) (v : Value) (t : Shared) : Prop := ∃ n u, v = .int n u ∧ (0 ≤ n ∧ n < 2 ^ 63) ∧ ∀ tk, Q n { t with toks := tk }
/-- the body of len over an own instance -/
theorem len_body {Q : Int → Shared → Prop} (X : K.In s.heap) (J : PySem.W.InstAt s.heap x ox C od) (c : LenC K C f) (go : wpAny (model prog w) A (call (.ref f) [.ref x]) (CountBack Q) E s) :
    wpAny (model prog w) A (Builtin.«len» ⟨[.ref x], []⟩) (fun fin s' => ∃ n u, fin = .done (.ret (.int n u)) ∧ Q n s') E s := by
  unfold Builtin.«len»
  refine wpAny_bind (m := oneArg "len" _) (wpAny_pure ?_)
  refine wpAny_bind (m := callSpecial? (.ref x) (Str.ofString "__len__")) (PySem.W.special_fn X J c.at_ (beq_iff_eq.mp c.fn) (thn go fun r s' hr => ?_))
  obtain ⟨n, u, rfl, ⟨h0, h1⟩, hq⟩ := hr
  refine wpAny_bind (wpAny_holding (wpAny_pure (wpAny_bind (wpAny_letGo ?_))))
  show wpAny _ _ (if n < 0 then _ else _) _ _ _
  rw [if_neg (by omega)]
  show wpAny _ _ (if n ≥ 2 ^ 63 then _ else _) _ _ _
  rw [if_neg (by omega)]
  exact wpAny_bind (wpAny_mkInt (wpAny_pure ⟨n, _, rfl, hq _⟩))
theorem truthy_len {Q : Bool → Shared → Prop} (X : K.In s.heap) (J : PySem.W.InstAt s.heap x ox C od) (c : LenC K C f) (go : wpAny (model prog w) A.in1 (call (.ref f) [.ref x]) (CountBack fun n => Q (n != 0)) E s) :
    wpAny (model prog w) A (truthy (.ref x)) Q E s := by
  have key : wpAny (model prog w) A (runValue (.builtin "len" ⟨[.ref x], []⟩)) (fun r s' => ∃ n u, r = .int n u ∧ Q (n != 0) s') E s := by
    refine wpAny_runValue (codeAny_builtin entry_len ?_)
    rw [Around.under_plainId plain_len _]
    exact thn (len_body X J c go) fun fin s' h' => by obtain ⟨n, u, rfl, hq⟩ := h'; exact ⟨n, u, rfl, hq⟩
  unfold truthy
  refine wpAny_bind (m := callSpecial? (.ref x) (Str.ofString "__bool__")) (wpAny_bind (wpAny_bind (J.type.here ((PySem.W.looks_findIn X c.nb).here (wpAny_pure ?_)))))
  refine wpAny_bind (wpAny_bind (J.type.here ((PySem.W.looks_findIn X c.at_).here ?_)))
  refine wpAny_bind (thn key fun r s' h' => ?_)
  obtain ⟨n, u, rfl, hq⟩ := h'
  exact wpAny_pure hq
theorem bool_new (x : Value) : MeetsIn prog w (Builtin.«bool.__new__» ⟨[.type "bool", x], []⟩) (fun A R s => wpAny (model prog w) A.in1 (truthy x) (fun b s' => R (.ok (.ret (.bool b))) s') (fun e s' => R (.error e) s') s) := by
  intro A R s h
  obtain ⟨hp, g, d, tk, os⟩ := s
  have f1 := F.conv_sub_bool
  repeat (any_goals (first | assumption | (with_reducible refine thn h fun b s' hb => ?_) | wp_step))
  all_goals first | exact hb | skip
theorem call_bool_any {x : Value} {Q : Value → Shared → Prop} (h : wpAny (model prog w) A.in1.in1 (truthy x) (fun b s' => Q (.bool b) s') E s) : wpAny (model prog w) A (call (.type "bool") [x]) Q E s :=
  callType_newIn F.called_bool F.newNe_bool (F.typeCall_bool_1 x) (F.newCall_bool_1 x) (fun obj => F.args_object_init_2 obj x) F.entry_bool_new (bool_new x) (thn h fun b s' q => ⟨rfl, q⟩)
end
section
variable {X : Cx} {CX : CXT} {k : Nat} {C f : Addr} {sp : Sp} {E : XK}
def rLenO (C : Addr) (sp : Sp) (E : XK) : List V → Hp → VK → Prop := fun xs H Q => ∃ a dx fs, xs = [V.ref a] ∧ H a = some (.ins C dx fs) ∧ sp [.ref a] H (fun v H' => ∃ n : Nat, v = .int n ∧ n ≤ 1000000 ∧ Q (.int n) H') E
theorem call_lenO (c : LenC X.K C f) (F : FnR X.prog X.w X.K X.mg X.base CX k f sp) (hr : Room (k + 1) X.A) (hx : Passes CX X E) : CallR X (.builtin "len") (rLenO C sp E) := by
  intro pins s σ H xs us Q I r h
  obtain ⟨a, dx, fs, rfl, ha, q⟩ := h
  obtain rfl := Vals.ref1 r
  obtain ⟨ox, od, J⟩ := ins_at I ha
  obtain ⟨m, hF⟩ := I.fr
  refine PySem.W.len_K hF I.ok.mod.kin J c.at_ c.fn (wpAny_call (codeAny_mono (F X.A.in1 X.stack s H [.ref a] [.ref a] _ E hr.in1 I.env0.in1 (.cons rfl .nil) q) fun r s' hq => ?_))
  cases r with
  | error er => exact hx pins σ H s er s' I hq
  | ok fl => cases fl with
    | ret u =>
      obtain ⟨z', H', I', rz, n, ez, hn, qz⟩ := I.after hq
      subst ez
      obtain ⟨t, rfl⟩ := rz
      exact ⟨⟨by omega, by omega⟩, .int n, H', I'.tok _, ⟨_, rfl⟩, qz⟩
    | next => exact False.elim hq
    | brk => exact False.elim hq
    | cont => exact False.elim hq
def rBoolO (C : Addr) (sp : Sp) (E : XK) : List V → Hp → VK → Prop := fun xs H Q => ∃ a dx fs, xs = [V.ref a] ∧ H a = some (.ins C dx fs) ∧ sp [.ref a] H (fun v H' => ∃ n : Nat, v = .int n ∧ n ≤ 1000000 ∧ Q (.bl (decide (n ≠ 0))) H') E
theorem call_boolO (c : LenC X.K C f) (F : FnR X.prog X.w X.K X.mg X.base CX k f sp) (hr : Room (k + 3) X.A) (hx : Passes CX X E) : CallR X (.type "bool") (rBoolO C sp E) := by
  intro pins s σ H xs us Q I r h
  obtain ⟨a, dx, fs, rfl, ha, q⟩ := h
  obtain rfl := Vals.ref1 r
  obtain ⟨ox, od, J⟩ := ins_at I ha
  refine call_bool_any (truthy_len I.kIn J c (wpAny_call (codeAny_mono (F X.A.in1.in1.in1 X.stack s H [.ref a] [.ref a] _ E hr.in1.in1.in1 I.env0.in1.in1.in1 (.cons rfl .nil) q) fun r s' hq => ?_)))
  cases r with
  | error er => exact hx pins σ H s er s' I hq
  | ok fl => cases fl with
    | ret u =>
      obtain ⟨z', H', I', rz, n, ez, hn, qz⟩ := I.after hq
      subst ez
      obtain ⟨t, rfl⟩ := rz
      refine ⟨_, _, rfl, ⟨by omega, by omega⟩, fun tk => ⟨.bl (decide (n ≠ 0)), H', I'.tok _, ?_, qz⟩⟩
      show Value.bool ((n : Int) != 0) = Value.bool (decide (n ≠ 0))
      congr 1
      cases n <;> simp <;> omega
    | next => exact False.elim hq
    | brk => exact False.elim hq
    | cont => exact False.elim hq
def rStrO (C : Addr) (sp : Sp) (E : XK) : List V → Hp → VK → Prop := fun xs H Q => ∃ a dx fs, xs = [V.ref a] ∧ H a = some (.ins C dx fs) ∧ sp [.ref a] H (fun v H' => ∃ y : Str, v = .str y ∧ Q (.str y) H') E
theorem call_strO (c : StrC X.K C f) (F : FnR X.prog X.w X.K X.mg X.base CX k f sp) (hr : Room (k + 2) X.A) (hx : Passes CX X E) : CallR X (.type "str") (rStrO C sp E) := by
  intro pins s σ H xs us Q I r h
  obtain ⟨a, dx, fs, rfl, ha, q⟩ := h
  obtain rfl := Vals.ref1 r
  obtain ⟨ox, od, J⟩ := ins_at I ha
  have un := hr.in1.in1.un
  refine PySem.W.kso_call (by omega) I.kIn J c.at_ c.fn (wpAny_call (codeAny_mono (F X.A.in1.in1 X.stack s H [.ref a] [.ref a] _ E hr.in1.in1 I.env0.in1.in1 (.cons rfl .nil) q) fun r s' hq => ?_))
  cases r with
  | error er => exact hx pins σ H s er s' I hq
  | ok fl => cases fl with
    | ret u =>
      obtain ⟨z', H', I', rz, y, ez, qz⟩ := I.after hq
      subst ez
      obtain ⟨t, rfl⟩ := rz
      exact ⟨.str y, H', I', ⟨t, rfl⟩, qz⟩
    | next => exact False.elim hq
    | brk => exact False.elim hq
    | cont => exact False.elim hq
end
theorem call_alt {X : Cx} {f : Value} {r1 r2 : List V → Hp → VK → Prop} (h1 : CallR X f r1) (h2 : CallR X f r2) : CallR X f (fun xs H Q => r1 xs H Q ∨ r2 xs H Q) :=
  fun pins s σ H xs us Q I r h => h.elim (h1 pins s σ H xs us Q I r) (h2 pins s σ H xs us Q I r)
/-- [(y, f y) for y in ys] -/
theorem lcPairs_go {K : PySem.W.Frag} {tl : TE} {j : Nat} {te : TE} {σ : L2.St} {H : Hp} {Q : VK} {a : Addr} {ys : List Str} (f : Str → V) (ht : ∀ Q : VK, Q (.ref a) H → tl σ H Q) (ha : SqL K H a (ys.map V.str)) (hz : ys.length ≤ 100000)
    (hte : ∀ y H' (R : VK), y ∈ ys → Same H H' → (∀ T H2, H' T = none → Same H' H2 → H2 T = some (.tup [.str y, f y]) → R (.ref T) H2) → te ((wipe σ [j]).set j (some (.str y))) H' R)
    (q : ∀ D H' ts, H D = none → Same H H' → H' D = some (.lst (ts.map V.ref)) → Paired (fun (t : Addr) (y : Str) => H' t = some (.tup [.str y, f y])) ts ys → Q (.ref D) H') : tLc (iList K tl) (gName j) tYes te [j] σ H Q := by
  refine lcI_go (K := K) (fun D i acc H' => ∃ us : List Addr, acc = us.map V.ref ∧ Paired (fun (t : Addr) (y : Str) => H' t = some (.tup [.str y, f y])) us (ys.take i) ∧ ExT D H H' ∧ ∀ t ∈ us, t ≠ D) ht ha (fun D i acc H' hi p hD => by obtain ⟨us, _, _, v, _⟩ := p; exact sq_same (ExT.toSame hD v) ha) (fun D H' hD s r => ⟨[], rfl, .nil, Same.exT s, by simp⟩) (fun D i v acc H' hxi hD hacc hla p => ?_) (fun D H9 acc hD hacc hla p => ?_)
  · obtain ⟨us, rfl, pu, vv, nu⟩ := p
    rw [List.getElem?_map] at hxi
    obtain ⟨y, hy, rfl⟩ := Option.map_eq_some_iff.mp hxi
    have hi : i < ys.length := (List.getElem?_eq_some_iff.mp hy).1
    refine hte y H' _ (List.mem_of_getElem? hy) (ExT.toSame hD vv) fun T H4 nT sT rT => ?_
    have hT : T ≠ D := by
      rintro rfl
      rw [hacc] at nT
      cases nT
    refine ⟨_, sT _ _ hacc, ?_, _, upd_same, ?_, us ++ [T], by rw [List.map_append]; rfl, ?_, exT_upd (vv.same sT), ?_⟩
    · rw [List.length_map] at hla ⊢
      exact Nat.lt_of_le_of_lt hla (Nat.lt_of_lt_of_le hi (Nat.le_trans hz (by decide)))
    · rw [List.length_append]
      exact Nat.succ_le_succ hla
    · rw [List.take_add_one, hy]
      refine paired_app (pmap pu fun t y m e => ?_) (.cons ?_ .nil)
      · rw [upd_ne (nu t m)]
        exact sT _ _ e
      · rw [upd_ne hT]
        exact rT
    · intro t mt
      rcases List.mem_append.mp mt with m | m
      · exact nu t m
      · have : t = T := by simpa using m
        rw [this]
        exact hT
  · obtain ⟨us, rfl, pu, vv, nu⟩ := p
    rw [List.length_map, List.take_length] at pu
    exact q D H9 us hD (ExT.toSame hD vv) hacc pu
/-- the rows of a sorted table, told equal to pairs made of it -/
theorem rowsV_go {K : PySem.W.Frag} {H : Hp} {l1 l2 : Addr} {ts us : List Addr} {X : Tbl} {f : Str → V} {ys : List Str} {r : Bool} {Q : VK} (h1 : H l1 = some (.lst (ts.map V.ref))) (p1 : Paired (fun (t : Addr) (q : Key × V) => H t = some (.tup [kV q.1, q.2])) ts (byN X ys)) (h2 : H l2 = some (.lst (us.map V.ref))) (p2 : Paired (fun (t : Addr) (y : Str) => H t = some (.tup [.str y, f y])) us ys)
    (hv : ∀ y ∈ ys, valV X (.inr y) = some (f y) ∧ plainV (f y) = true) (q : Q (.bl r) H) : rEqA K r (.ref l1) (.ref l2) H Q := by
  have lt : ts.length = ys.length := by
    have z := Paired.length p1
    unfold byN at z
    rw [List.length_map] at z
    exact z
  have lu : us.length = ys.length := Paired.length p2
  refine ⟨1, l1, l2, _, _, by decide, rfl, rfl, .inl (.inl h1), .inl (.inl h2), by rw [List.length_map, List.length_map]; omega, fun i a b e1 e2 => ?_, q⟩
  rw [List.getElem?_map] at e1 e2
  obtain ⟨ta, ea, rfl⟩ := Option.map_eq_some_iff.mp e1
  obtain ⟨tb, eb, rfl⟩ := Option.map_eq_some_iff.mp e2
  have hi : i < ys.length := by
    have := (List.getElem?_eq_some_iff.mp ea).1
    omega
  have ey : ys[i]? = some ys[i] := List.getElem?_eq_getElem hi
  obtain ⟨e3, ov⟩ := hv _ (List.getElem_mem hi)
  have q1 := paired_get p1 ea (show (byN X ys)[i]? = some (Sum.inr ys[i], f ys[i]) by unfold byN; rw [List.getElem?_map, ey]; show some (Sum.inr ys[i], (valV X (Sum.inr ys[i])).getD .non) = _; rw [e3]; rfl)
  have q2 := paired_get p2 eb ey
  exact al_tup q1 q2 rfl ov
theorem forLC_go {K : PySem.W.Frag} {tl : TE} {j : Nat} {tb : TS} {D : Ends} {σ : L2.St} {H : Hp} (C : Addr → Hp → Prop) (ht : ∀ R : VK, (∀ a H1, C a H1 → R (.ref a) H1) → tl σ H R) (k : ∀ a H1, C a H1 → tFor (iList K fun _ H R => R (.ref a) H) (gName j) tb D σ H1) : tFor (iList K tl) (gName j) tb D σ H := ht _ fun a H1 c => k a H1 c
theorem dispC_go {x : Str} {v : V} {σ : L2.St} {H : Hp} {Q : VK} (k : ∀ p H', H p = none → Same H H' → H' p = some (.dK [(Sum.inr x, v)]) → Q (.ref p) H') : tDisp [(tC (.str x), tC v)] σ H Q := by
  intro p np
  refine ⟨upd_same, [(Sum.inr x, v)], rfl, by simp, k p _ np (fun b o e => ?_) upd_same⟩
  have hb : b ≠ p := by rintro rfl; rw [np] at e; cases e
  rw [upd_ne hb, upd_ne hb]
  exact e
end Own

set_option Elab.async false
set_option linter.all false
set_option maxRecDepth 100000
set_option maxHeartbeats 4000000
/-! A lambda handed to a def beside one more name; a def whose code object is known; the end with tables. -/
namespace Own
open PySem PySem.Spec PyProof.Rows L2
theorem flying_mono {B h : Heap} {l : List Env} {e : Addr} {Z Z' : Obj → Prop} (m : ∀ o, Z o → Z' o) (f : HandSPX.FlyingZ B l e Z h) : HandSPX.FlyingZ B l e Z' h := by
  obtain ⟨a, b, c, oe, vs, T, oT, ts, h1, h2, r⟩ := f
  exact ⟨a, b, c, oe, vs, T, oT, ts, h1, m _ h2, r⟩
theorem cx_of {P : Program} {w : World} {outer : List Env} {H : Hp} {s : Shared} {E : XK} {u : Value} {s' : Shared} (c : L2N.CX P w outer H s E u s') : L2.CX P w outer H s E u s' := by
  obtain ⟨a, B, H', cls, d, e, fl, r⟩ := c
  exact ⟨a, B, H', cls, d, e, flying_mono (fun _ z => L2N.Zn.zc z) fl, r⟩
theorem fnL {P : Program} {w : World} {K : PySem.W.Frag} {mg : Str → Option Value} {base : Heap} {k : Nat} {f : Addr} {fd : FuncData} {ps : List Str} {sp : Sp} (F : FnOk P w K mg base (L2N.CX P w) k f fd ps sp) : FnOk P w K mg base (L2.CX P w) k f fd ps sp :=
  ⟨F.len, fun A outer s H args us vs Q E hr e0 hb r hsp => codeAny_mono (F.run A outer s H args us vs Q E hr e0 hb r hsp) fun r s' h => by
    cases r with
    | error e => exact cx_of h
    | ok fl => cases fl <;> exact h⟩
/-- a def whose code object is at c -/
theorem okC {P : Program} {w : World} {K : PySem.W.Frag} {mg : Str → Option Value} {base : Heap} {x qual : Str} {st : Stmt} {f c : Addr} {fd : FuncData} {N ps : List Str} {k : Nat} {sp : Sp} (F : Fun K x qual st f fd) (S : FnScope N ps (defScope st)) (hc : fd.code = .ref c) (len : ∀ vs H Q E, sp vs H Q E → vs.length = ps.length)
    (body : ∀ (A : Around) (outer : List Env) (s : Shared) (H : Hp) (vs : List V) (Q : VK) (E : XK), Room k (A.deeper (envOfC qual (defScope st) s.heap.objs.size f (.ref c))) → sp vs H Q E →
      ∃ t, PSs (cxOf CX0 P w K mg base N qual (defScope st) f (.ref c) A outer s H E).nox (defBody st) t ∧ t { nx := fun _ H' => Q .non H', rt := Q } (start N vs) H) : FnOk P w K mg base CX0 (k + 1) f fd ps sp := by
  obtain ⟨oc, od, kV, doc, pm, an, cdv, ct, osl, rfl, lk, hcd⟩ := F.ex
  obtain rfl : cdv = .ref c := hc
  refine fn_of lk hcd S len fun A outer s H vs Q E hr hsp => ?_
  obtain ⟨t, h, q⟩ := body A outer s H vs Q E hr hsp
  exact ⟨t, h.nox, q⟩
theorem code_of {K : PySem.W.Frag} {x qual : Str} {st : Stmt} {p : Str × Option Str} {fd : FuncData} (F : Fun K x qual st (He.fAd K p) fd) : fd.code = .ref (He.codeOf K p) := by
  obtain ⟨oc, od, kV, doc, pm, an, cdv, ct, osl, rfl, lk, hcd⟩ := F.ex
  obtain ⟨c, e⟩ := He.codeIn_ref hcd
  have e2 := He.codeOf_eq lk (show _ = Value.ref c from e)
  rw [e2]
  exact e
section
variable {X : Cx} {pins : List (Addr × Obj)} {σ : L2.St} {H : Hp} {s : Shared}
/-- a name read where the state is known to stay -/
theorem ld_var {E : Value → Shared → Prop} {i : Nat} {x : Str} {pos : Pos} {v : V} (I : Inv X pins σ H s) (hN : X.N[i]? = some x) (hv : Vis X.env.scope x) (e : σ[i]? = some (some v)) (hd : (x == ("__debug__" : Str)) = false := by decide) (hcd : (x == ("__classdict__" : Str)) = false := by decide) :
    ∃ u, RelV v u ∧ ∀ Q : Value → Shared → Prop, Q u s → wpAny (model X.prog X.w) X.A (eval (.Name x pos) X.env) Q E s := by
  obtain ⟨m, hn, hl⟩ := I.loc
  obtain ⟨u, r, l⟩ := hl i x v hN e hv
  refine ⟨u, r, fun Q fin => ?_⟩
  rcases l with ⟨hk, hm⟩ | ⟨hk, c, hc, hcell⟩
  · exact wpAny_Name (wpAny_loadName_local I.ok.kind hk hn hm fin) hd
  · rcases hk with hk | hk
    · exact wpAny_Name (wpAny_loadName_cell I.ok.kind hk hc hcell fin) hd
    · exact wpAny_Name (wpAny_loadName_free I.ok.kind hk hc hcell fin hcd) hd
end
/-- a parameter that holds a lambda, called; what leaves it may be told with the slots of the frame -/
theorem pe_actS {X : Cx} {pins : List (Addr × Obj)} {σ : L2.St} {H : Hp} {s : Shared} {CXg : CXT} {Eg : XK} {Ng : List Str} {qg : Str} {sg : Scope} {g f c' : Addr} {cdg pm ctv : Value} {params : Arguments} {body : Expr} {scope : Scope} {k i : Nat} {a : Str} {pn : List (Addr × Obj)} {xe : Value → Shared → Prop} {Ew : L2.St → XK} {tb : XK → TE} {p1 p2 : Pos}
    (I : Inv X pins σ H s) (L : LamX.LamS X.env.scope scope) (hf : s.heap.get? f = some (PySem.W.kla_obj "<lambda>" (X.env.qual ++ "<lambda>") params body scope (cloFrom X.env.cells scope.names []) pm c' ctv)) (hfn : H f = none) (hfr : f ∉ frs X.stack)
    (hbind : ∀ (q : Str) (cl : List (Str × Addr)) (pm cv ctv : Value), bindArgs (PySem.W.kla_fn "<lambda>" q params body scope cl pm cv ctv) ⟨[], []⟩ = pure [])
    (hx : ∀ σ, PassesAt (L2.CX X.prog X.w) ((cxOf CXg X.prog X.w X.K X.mg X.base Ng qg sg g cdg X.A X.stack s H Eg).tr pn xe) σ (Ew σ)) (hr : Room (k + 1) (X.A.deeper (envOfC qg sg s.heap.objs.size g cdg)))
    (hbody : ∀ (A : Around) (outer : List Env) (s : Shared) (H : Hp) (E : XK), Room k (A.deeper (LamX.lamEnv X scope s.heap.objs.size f c')) → PE (LamX.lamCx X A outer s H E scope f c') body (tb E))
    (hN : Ng[i]? = some a) (hv : Vis sg a) (hd : (a == ("__debug__" : Str)) = false) (hcd : (a == ("__classdict__" : Str)) = false) :
    PE ((cxOf CXg X.prog X.w X.K X.mg X.base Ng qg sg g cdg X.A X.stack s H Eg).tr pn xe) (.Call (.Name a p1) [] [] p2)
      (fun σZ HZ Q => σZ[i]? = some (some (.ref f)) ∧ HZ c' = some (LamX.CodeO c' (X.env.qual ++ "<lambda>")) ∧ tb (Ew σZ) σ HZ Q) := by
  refine ⟨fun pinsZ sZ σZ HZ Q J ⟨hs, hc, ht⟩ => ?_⟩
  obtain ⟨u, ru, ld⟩ := ld_var (E := xe) (pos := p1) J hN hv hs hd hcd
  obtain rfl : u = Value.ref f := ru
  refine wpAny_Call_Name_kw (ld _ ?_)
  have here := J.base.keep f _ hf hfn hfr (fun z => nomatch (show f ∈ ([] : List Addr) from z))
  obtain ⟨⟨oc, vs, t, o1, o2, o3⟩, _, _⟩ := J.hok c' _ hc
  have run : codeAny (model X.prog X.w) (X.A.deeper (envOfC qg sg s.heap.objs.size g cdg)) (.call (.ref f) ⟨[], []⟩) (CR (L2.CX X.prog X.w) (envOfC qg sg s.heap.objs.size g cdg :: X.stack) X.prog X.w HZ sZ Q (Ew σZ)) sZ := by
    refine PySem.W.kla_callFunE hr.depth here rfl L.co L.gen rfl ⟨c', oc, vs, t, rfl, o1, o2, o3⟩ ?_
    rw [hbind]
    refine wpAny_pure (wpAny_newFunctionEnv (fun y hy => (L.own y hy).2) (fun y hy => absurd hy (by simp)) (fun h1 ns sb => ⟨J.nolimit.fresh _ sb, ?_⟩) L.kind)
    have stay : ∀ b o, sZ.heap.get? b = some o → h1.get? b = some o := fun b o e => sb.extBut b o (Nat.ne_of_lt (Heap.lt_size e)) (Heap.get?_push_of_some _ e)
    refine PySem.W.kla_codeExpr (wpAny_mono ((hbody _ _ sZ HZ (Ew σZ) (hr.deeper _)).run [] _ _ HZ Q (LamX.lam_start2 (tk := sZ.toks + ([] : List (Str × Value)).length) I L J.env0 hr.hd J.base ns stay) ht) (fun v s' z => ?_) fun e s' z => z)
    obtain ⟨w', H', J', rv, q⟩ := z
    exact ⟨w', H', J'.os, J'.bare, J'.base, J'.hok, rv, q⟩
  refine PySem.W.callWith_F0 ⟨_, _, _, _, here⟩ (wpAny_call (codeAny_mono run fun r s' z => ?_))
  cases r with
  | error e => exact hx σZ pinsZ HZ sZ e s' J z
  | ok fl => cases fl with
    | ret u => exact J.after z
    | next => exact False.elim z
    | brk => exact False.elim z
    | cont => exact False.elim z
/-- what the def does with the lambda at its first parameter and the value at its second -/
def Gives2 (X : Cx) (Ng : List Str) (x : Str) (sg : Scope) (g : Addr) (bg : List Stmt) (a : Str) (k : Nat) (q : Str) (TT : (XK → Hp → VK → Prop) → V → Hp → VK → Prop) : Prop :=
  ∀ (cdg : Value) (f c' : Addr) (s : Shared) (H : Hp) (v : V) (Q : VK) (tl : XK → Hp → VK → Prop),
    (∀ (W : WX) (pn : List (Addr × Obj)) (xe : Value → Shared → Prop) (p1 p2 : Pos), L2.Takes ((cxOf CX0 X.prog X.w X.K X.mg X.base Ng x sg g cdg X.A X.stack s H C8.E0).tr pn xe) W →
      PE ((cxOf CX0 X.prog X.w X.K X.mg X.base Ng x sg g cdg X.A X.stack s H C8.E0).tr pn xe) (.Call (.Name a p1) [] [] p2) (fun σZ HZ Q => σZ[0]? = some (some (.ref f)) ∧ HZ c' = some (LamX.CodeO c' q) ∧ tl (WE W σZ) HZ Q)) →
    H c' = some (LamX.CodeO c' q) → Room k (X.A.deeper (envOfC x sg s.heap.objs.size g cdg)) → TT tl v H Q →
    ∃ t, PSs (cxOf CX0 X.prog X.w X.K X.mg X.base Ng x sg g cdg X.A X.stack s H C8.E0).nox bg t ∧ t { nx := fun _ H' => Q .non H', rt := Q } (L2.start Ng [.ref f, v]) H
def tLam2 (T : List (Addr × Str)) (j : Nat) (TT : (XK → Hp → VK → Prop) → V → Hp → VK → Prop) (t : XK → TE) : TE := fun σ H Q => LamX.Tabs T H ∧ ∃ v, σ[j]? = some (some v) ∧ ∀ H1, LamX.ExtN H H1 → LamX.Tabs T H1 → TT (fun E H' Q' => t E σ H' Q') v H1 Q
/-- x(lambda: body, y) -/
theorem pe_lam2 {X : Cx} {T : List (Addr × Str)} {TT : (XK → Hp → VK → Prop) → V → Hp → VK → Prop} {x a b y : Str} {g c P : Addr} {k j : Nat} {st : Stmt} {fd : FuncData} {Ng : List Str}
    {params : Arguments} {body : Expr} {scope : Scope} {t : XK → TE} {p lpos py pos : Pos} (hg : Gl X x) (hm : X.mg x = some (.ref g)) (F : Fun X.K x x st g fd) (hb : L2.Binds X.K fd [a, b] []) (Sg : FnScope Ng [a, b] (defScope st)) (hNg : Ng[0]? = some a) (hva : Vis (defScope st) a)
    (hG : Gives2 X Ng x (defScope st) g (defBody st) a (k + 1) (X.env.qual ++ "<lambda>") TT) (hN : X.N[j]? = some y) (hv : Vis X.env.scope y)
    (TB : LamX.TabB X.base X.mg c P) (hcode : X.env.code = .ref c) (hmT : (P, X.env.qual ++ "<lambda>") ∈ T) (hu : ∀ p ∈ T, p.1 = P → p.2 = X.env.qual ++ "<lambda>") (hr : Room (k + 2) X.A) (L : LamX.LamS X.env.scope scope) (hdef : defaultsOf params X.env = ([], []))
    (hbind : ∀ (q : Str) (cl : List (Str × Addr)) (pm cv ctv : Value), bindArgs (PySem.W.kla_fn "<lambda>" q params body scope cl pm cv ctv) ⟨[], []⟩ = pure [])
    (hbody : ∀ (A : Around) (outer : List Env) (s : Shared) (H : Hp) (E : XK) (f c' : Addr), Room k (A.deeper (LamX.lamEnv X scope s.heap.objs.size f c')) → PE (LamX.lamCx X A outer s H E scope f c') body (t E))
    (hdb : (x == ("__debug__" : Str)) = false := by decide) (hd : (a == ("__debug__" : Str)) = false := by decide) (hcd : (a == ("__classdict__" : Str)) = false := by decide) (hyd : (y == ("__debug__" : Str)) = false := by decide) (hycd : (y == ("__classdict__" : Str)) = false := by decide) :
    PE X (.Call (.Name x p) [.Lambda params body scope lpos, .Name y py] [] pos) (tLam2 T j TT t) := by
  refine ⟨fun pins s σ H Q I h => ?_⟩
  obtain ⟨hT, v, hy, h⟩ := h
  obtain ⟨oc, od, kV, doc, pm, an, cdv, ct, osl, rfl, lk, hcg⟩ := F.ex
  refine wpAny_Call_Name_kw (ld_glob I hg hm ?_ hdb)
  refine PySem.W.callWith_K (h₀ := X.base) I.ok.mod.kin F.kp ?_ (by rfl) (by rfl)
  show wpAny _ _ (spliced ((false, eval (.Lambda params body scope lpos) X.env) :: (false, eval (.Name y py) X.env) :: backTo pos (starEach [] X.env))) _ _ s
  refine Calls.spliced_cons (LamX.lam_make2 I TB hcode hmT hu hT hdef (L.has I.ok) fun f c' pm' ctv H1 s' I1 eN T1 hf hfn hfr hco => ?_)
  obtain ⟨u, ru, ld⟩ := ld_var (E := X.xe) (pos := py) I1 hN hv hy hyd hycd
  refine Calls.spliced_cons (ld _ ?_)
  refine Calls.spliced_nil ⟨I1.kIn, ?_⟩
  have rc : codeAny (model X.prog X.w) X.A (.call (.ref g) ⟨[.ref f, u], []⟩) (CR CX0 X.stack X.prog X.w H1 s' Q C8.E0) s' := by
    refine LamX.run_ofS (N := Ng) (ps := [a, b]) (us := [.ref f, u]) (vs := [.ref f, v]) lk hcg Sg hr I1.env0 (hb s' [.ref f, u] I1.kIn rfl) (.cons rfl (.cons ru .nil)) rfl fun hr' => ?_
    obtain ⟨t', ht', hq'⟩ := hG cdv f c' s' H1 v Q (fun E H' Q' => t E σ H' Q') (fun W pn xe p1 p2 tk => pe_actS (i := 0) (tb := t) I1 L hf hfn hfr hbind (fun σ => L2.passAt tk σ) hr' (fun A outer s H E hr2 => hbody A outer s H E f c' hr2) hNg hva hd hcd) hco hr' (h H1 eN T1)
    exact ⟨t', ht'.nox, hq'⟩
  refine wpAny_call (codeAny_mono rc fun r s2 hq => ?_)
  cases r with
  | error e => exact (show False from hq).elim
  | ok fl =>
    cases fl with
    | ret u => exact I1.after hq
    | next => exact False.elim hq
    | brk => exact False.elim hq
    | cont => exact False.elim hq
/-! ### the end with tables -/
def obsY (chk : PySem.W.Frag → Bool) (fn : List He.DefD) (tf : List He.Defn) (g : Addr → Option Obj) (as : List Addr) : He.AlD := ((obsN chk fn (He.frT g as)).1 && He.tabsB g tf (He.frT g as), (obsN chk fn (He.frT g as)).2)
/-- the defs' tables: empty, not told by K -/
def TabsY (tf : List He.Defn) (K : PySem.W.Frag) (h : Heap) : Prop := ∀ p ∈ tf, PySem.W.codeHdIn K (He.cT K p).1 (He.cT K p).2 = true ∧ K.lookup (He.cT K p).2 = none ∧ h.get? (He.cT K p).2 = some { cls := .none, data := .fields #[] }
theorem saysY {chk : PySem.W.Frag → Bool} {fn : List He.DefD} {tf : List He.Defn} {h : Heap} {as : List Addr} (e : obsY chk fn tf h.get? as = He.valD fn) : obsN chk fn (He.frT h.get? as) = He.valD fn ∧ TabsY tf (He.frT h.get? as) h := by
  have e1 : ((obsN chk fn (He.frT h.get? as)).1 && He.tabsB h.get? tf (He.frT h.get? as)) = true := congrArg (fun z : He.AlD => z.1) e
  have e2 : (obsY chk fn tf h.get? as).2 = (He.valD fn).2 := congrArg (fun z : He.AlD => z.2) e
  obtain ⟨h1, h2⟩ := He.ba e1
  refine ⟨Prod.ext h1 e2, fun p hp => ?_⟩
  obtain ⟨h3, h4⟩ := He.ba (List.all_eq_true.mp h2 p hp)
  refine ⟨h3, ?_⟩
  cases q : h.get? (He.cT (He.frT h.get? as) p).2 with
  | none =>
    rw [q] at h4
    cases h4
  | some o =>
    rw [q] at h4
    exact ⟨He.frT_none q h4, by rw [He.emptyTab_eq h4]⟩
def hookY (chk : PySem.W.Frag → Bool) (fn : List He.DefD) (tf : List He.Defn) : PySem.W.Hook where
  α := He.AlD
  obs := fun s => obsY chk fn tf s.heap.get? (List.range s.heap.objs.size)
  val := fun _ => He.valD fn
  says := fun _ h => ∃ K : PySem.W.Frag, K.In h ∧ obsN chk fn K = He.valD fn ∧ TabsY tf K h
  of := fun _ _ e => ⟨_, He.frT_in, saysY e⟩
  keeps := fun _ _ _ ⟨K, hK, c, t⟩ k => ⟨K, PySem.W.Frag.In.keeps hK k, c, fun p hp => ⟨(t p hp).1, (t p hp).2.1, k _ _ (t p hp).2.2⟩⟩
def obY (chk : PySem.W.Frag → Bool) (fn : List He.DefD) (tf : List He.Defn) (s : PySem.W.SharedT) : He.AlD := obsY chk fn tf (HandSHeadRun.getT s) (List.range s.n)
theorem obY_eq {chk : PySem.W.Frag → Bool} {fn : List He.DefD} {tf : List He.Defn} (s : PySem.W.SharedT) : obY chk fn tf s = (hookY chk fn tf).obs s.abs := by
  have look : HandSHeadRun.getT s = s.abs.heap.get? := funext (HandSHeadRun.getT_eq s)
  have size : s.n = s.abs.heap.objs.size := (PySem.W.absHeap_size s.tree s.n s.life).symm
  show obsY chk fn tf (HandSHeadRun.getT s) (List.range s.n) = obsY chk fn tf s.abs.heap.get? (List.range s.abs.heap.objs.size)
  rw [look, size]
/-- the law's promise with its own table -/
theorem lawAtY {l : PySem.W.OpenLaw} {w : World} {K : PySem.W.Frag} {CX : CXT} {k n : Nat} {x : Str} {mg : Str → Option Value} {fa : Addr} {h : Heap} {fd : FuncData} {sp : Sp} (KX : K.In h) {tf : List He.Defn} (t : TabsY tf K h)
    (hb : ∀ (s : Shared) (u : Value), BindsTo s fd ⟨[u], []⟩ [(x, u)])
    (hs : ∀ (H : Hp) (a : Addr) (ns : List Int), ns.length ≤ n → (∀ p ∈ tf, H (He.cT K p).2 = some (.tbl #[])) → SqL K H a (ns.map V.int) → sp [.ref a] H (fun v _ => v = .bl true) fun _ _ _ => False)
    (hF : ∀ base : Heap, K.In base → base.Ns mainGlobals mg → (∀ p ∈ tf, LamX.TabB base mg (He.cT K p).1 (He.cT K p).2) → FnOk l.prog w K mg base CX k fa fd [x] sp) : LamX.LawAtS l w K CX k n x mg fa h := by
  have at_ : ∀ {c : Addr × Addr}, c ∈ tf.map (He.cT K) → ∃ p ∈ tf, He.cT K p = c := fun hc => List.mem_map.mp hc
  refine ⟨fd, tf.map (He.cT K), sp, fun c hc => ?_, fun c hc => ?_, fun c hc => ?_, hb, fun H a ns hl _ hT hS => hs H a ns hl (fun p hp => hT _ (List.mem_map.mpr ⟨p, hp, rfl⟩)) hS, fun base k1 k2 k3 => hF base k1 k2 fun p hp => k3 _ (List.mem_map.mpr ⟨p, hp, rfl⟩)⟩
  · obtain ⟨p, hp, rfl⟩ := at_ hc
    exact (t p hp).2.2
  · obtain ⟨p, hp, rfl⟩ := at_ hc
    exact (t p hp).2.1
  · obtain ⟨p, hp, rfl⟩ := at_ hc
    exact PySem.W.codeHd_of_K KX (t p hp).1
end Own

set_option Elab.async false
set_option linter.all false
set_option maxRecDepth 100000
set_option maxHeartbeats 4000000
/-! | of an own instance with a value of a built-in type, on either side. -/
namespace Own
open PySem PySem.Spec PyProof.Rows L2
section
variable {prog : Program} {w : World} {A : Around} {E : Value → Shared → Prop} {s : Shared} {K : PySem.W.Frag} {x C f : Addr} {ox : Obj} {od : Option Obj}
theorem int_declines {i : Int} {t : Tok} (g : s.heap.get? x = some ox) (pl : ox.data = .plain) : wpAny (model prog w) A (tryMethod (.int i t) (PySem.dunder "or") (.ref x)) (fun r t' => r = none ∧ t' = s) E s := by
  unfold tryMethod
  refine wpAny_bind (wpAny_callSpecial?_slot (typeIs_int s i t) F.slot_int_or (GQ.call_here F.slot_int_or (typeIs_int s i t) F.entry_int_or (F.args_int_or_2 _ _) ?_))
  unfold Builtin.«int.__or__» Builtin.Int.intBinary
  refine wpAny_bind (m := slotArgs _ _ _) (wpAny_pure ?_)
  refine wpAny_bind (m := Builtin.Int.intOfSelf _) (wpAny_bind (m := asInt? _) (wpAny_pure (wpAny_pure ?_)))
  refine wpAny_bind (m := asInt? (.ref x)) (wpAny_bind (wpAny_load g ?_))
  rw [pl]
  refine wpAny_pure ?_
  refine wpAny_bind (wpAny_rule (wpAny_pure ?_))
  exact wpAny_pure ⟨rfl, rfl⟩
theorem bool_declines {b : Bool} (g : s.heap.get? x = some ox) (pl : ox.data = .plain) : wpAny (model prog w) A (tryMethod (.bool b) (PySem.dunder "or") (.ref x)) (fun r t' => r = none ∧ t' = s) E s := by
  unfold tryMethod
  refine wpAny_bind (wpAny_callSpecial?_slot (typeIs_bool' s b) F.slot_bool_or (GQ.call_here F.slot_bool_or (typeIs_bool' s b) F.entry_bool_or (F.args_bool_or_2 _ _) ?_))
  unfold Builtin.«bool.__or__»
  refine wpAny_bind (m := slotArgs _ _ _) (wpAny_pure ?_)
  refine wpAny_bind (m := asInt? (.ref x)) (wpAny_bind (wpAny_load g ?_))
  rw [pl]
  refine wpAny_pure ?_
  refine wpAny_bind (wpAny_rule (wpAny_pure ?_))
  exact wpAny_pure ⟨rfl, rfl⟩
/-- a op x, a of a built-in type without such an operator -/
theorem bin_right0 {op : Operator} {sym nm T : String} {g : Addr} {a : Value} {Q : Value → Shared → Prop} (hop : op.info = (sym, nm)) (X : K.In s.heap) (J : PySem.W.InstAt s.heap x ox C od) (o : OpC K C nm f g) (ta : PySem.W.Looks (model prog w) s.heap (typeOf a) (.type T))
    (t1 : PySem.W.findIn K (.type T) (PySem.dunder nm) = some none) (t2 : PySem.W.findIn K (.type T) (dunderR nm) = some none)
    (go : wpAny (model prog w) A (call (.ref g) [.ref x, a]) (Told Q) E s) : wpAny (model prog w) A (binaryOp op a (.ref x)) Q E s := by
  obtain ⟨cd, rest, hcd, hm⟩ := PySem.W.ksp_first o.first
  have done := try_own X J o.ref o.rfn go
  obtain ⟨hh, gg, dd, tt, os⟩ := s
  have f1 : PySem.W.Looks (model prog w) hh (typeOf (.ref x)) (.ref C) := J.type
  have f2 : PySem.W.Looks (model prog w) hh (typeOf a) (.type T) := ta
  have f3 : PySem.W.Looks (model prog w) hh (fillsNumberSlot (.ref C) nm) true := PySem.W.fills_K X hcd hm o.own
  have f4 : PySem.W.Looks (model prog w) hh (fillsNumberSlot (.type T) nm) false := PySem.W.ksp_fillsT (M := model prog w) X t1 t2
  have ne : (Value.type T == Value.ref C) = false := Bool.eq_false_iff.mpr fun q => by cases beq_iff_eq.mp q
  simp only [binaryOp, hop]
  refine wpAny_holding (wpAny_bind ?_)
  unfold binaryOp1
  refine wpAny_bind (f2.at (wpAny_bind (f1.at (wpAny_bind (f4.at ?_)))))
  simp only [ne, Bool.false_eq_true, if_false]
  ksp_lk
  refine thn done fun r t h => ?_
  obtain ⟨v, rfl, q⟩ := h
  ksp_lk
  exact q
end
/-- what the text says of a built-in type's | -/
structure OrT (K : PySem.W.Frag) (C : Addr) (T : String) (fo ro : Option Value) : Prop where
  t1 : PySem.W.findIn K (.type T) (PySem.dunder "or") = some fo
  t2 : PySem.W.findIn K (.type T) (dunderR "or") = some ro
  ap : PySem.W.subIn K (.type T) (.ref C) = some false
  pa : PySem.W.subIn K (.ref C) (.type T) = some false
def ortB (K : PySem.W.Frag) (x : Str) (T : String) (fo ro : Option Value) : Bool := decide (PySem.W.findIn K (.type T) (PySem.dunder "or") = some fo) && (decide (PySem.W.findIn K (.type T) (dunderR "or") = some ro) && (decide (PySem.W.subIn K (.type T) (.ref (He.ga K x)) = some false) && decide (PySem.W.subIn K (.ref (He.ga K x)) (.type T) = some false)))
theorem ort_of {K : PySem.W.Frag} {x : Str} {T : String} {fo ro : Option Value} (c : ortB K x T fo ro = true) : OrT K (He.ga K x) T fo ro := by
  unfold ortB at c
  obtain ⟨a, c⟩ := He.ba c
  obtain ⟨b, c⟩ := He.ba c
  obtain ⟨d, e⟩ := He.ba c
  exact ⟨of_decide_eq_true a, of_decide_eq_true b, of_decide_eq_true d, of_decide_eq_true e⟩
/-- a value of a built-in type that declines | with an instance -/
inductive Odd (K : PySem.W.Frag) (C : Addr) (H : Hp) : V → Prop where
  | int {i : Int} (o : OrT K C "int" (some (.builtin "int.__or__")) (some (.builtin "int.__ror__"))) : Odd K C H (.int i)
  | bl {b : Bool} (o : OrT K C "bool" (some (.builtin "bool.__or__")) (some (.builtin "bool.__ror__"))) : Odd K C H (.bl b)
  | no {v : V} {T : String} (o : OrT K C T none none) (ty : TyX K H v (.type T)) : Odd K C H v
section
variable {X : Cx} {pins : List (Addr × Obj)} {σ : L2.St} {H : Hp} {s : Shared} {CX : CXT} {k : Nat} {C f g : Addr} {spF spG : Sp} {E : XK}
theorem Odd.ty {K : PySem.W.Frag} {v : V} (o : Odd K C H v) : ∃ T fo ro, OrT K C T fo ro ∧ TyX K H v (.type T) := by
  cases o with
  | int o => exact ⟨_, _, _, o, .base (.int _)⟩
  | bl o => exact ⟨_, _, _, o, .base (.bl _)⟩
  | no o ty => exact ⟨_, _, _, o, ty⟩
def rOrL (K : PySem.W.Frag) (C : Addr) (spF : Sp) (E : XK) : R2 := fun x y H Q => ∃ a dx fs, x = .ref a ∧ H a = some (.ins C dx fs) ∧ Odd K C H y ∧ spF [x, y] H Q E
def rOrG (K : PySem.W.Frag) (C : Addr) (spG : Sp) (E : XK) : R2 := fun x y H Q => ∃ b dx fs, y = .ref b ∧ H b = some (.ins C dx fs) ∧ Odd K C H x ∧ spG [y, x] H Q E
theorem op_orL (o : OrK X.K C f g) (F : FnR X.prog X.w X.K X.mg X.base CX k f spF) (hr : Room k X.A) (hx : Passes CX X E) : OpR X (binaryOp .BitOr) (rOrL X.K C spF E) := by
  intro pins s σ H x y v u Q I rx ry h
  obtain ⟨a, dx, fs, rfl, ha, od, q⟩ := h
  cases rx
  obtain ⟨ox, ob, J⟩ := ins_at I ha
  obtain ⟨T, fo, ro, t, ty⟩ := od.ty
  obtain ⟨P0, kt, hp, _⟩ := kit_of I ry ty
  exact bin_left (op := .BitOr) (nm := "or") rfl I.kIn J o.op (kt.ty _ _ I.kIn hp) t.t1 t.t2 t.ap (call_told (vs := [.ref a, y]) F hr hx I (.cons rfl (.cons ry .nil)) q)
theorem op_orG (o : OrK X.K C f g) (G : FnR X.prog X.w X.K X.mg X.base CX k g spG) (hr : Room k X.A) (hx : Passes CX X E) : OpR X (binaryOp .BitOr) (rOrG X.K C spG E) := by
  intro pins s σ H x y v u Q I rx ry h
  obtain ⟨b, dx, fs, rfl, hb, od, q⟩ := h
  cases ry
  obtain ⟨mA, O, _⟩ := ins_get I.hok hb
  obtain ⟨ob, J, _⟩ := O.look
  have go := call_told (vs := [.ref b, x]) G hr hx I (.cons rfl (.cons rx .nil)) q
  cases od with
  | int t =>
    obtain ⟨tk, rfl⟩ := (show ∃ t, v = Value.int _ t from rx)
    obtain ⟨P0, kt, hp, _⟩ := kit_of I rx (.base (.int _))
    exact bin_right (op := .BitOr) (nm := "or") rfl I.kIn J o.op (kt.ty _ _ I.kIn hp) t.t1 t.t2 rfl t.pa (int_declines J.at_ rfl) go
  | bl t =>
    obtain rfl : v = Value.bool _ := rx
    obtain ⟨P0, kt, hp, _⟩ := kit_of I (x := .bl _) rfl (.base (.bl _))
    exact bin_right (op := .BitOr) (nm := "or") rfl I.kIn J o.op (kt.ty _ _ I.kIn hp) t.t1 t.t2 rfl t.pa (bool_declines J.at_ rfl) go
  | no t ty =>
    obtain ⟨P0, kt, hp, _⟩ := kit_of I rx ty
    exact bin_right0 (op := .BitOr) (nm := "or") rfl I.kIn J o.op (kt.ty _ _ I.kIn hp) t.t1 t.t2 go
end
end Own

set_option Elab.async false
set_option linter.all false
set_option maxRecDepth 100000
set_option maxHeartbeats 4000000
/-! Properties of an own class: their getters as defs of the text. -/
namespace Own
open PySem PySem.Spec PyProof.Rows L2
/-- a def of the text that stands at f, under no name -/
structure FunG (K : PySem.W.Frag) (x qual : Str) (st : Stmt) (f : Addr) (fd : FuncData) : Prop where
  ex : ∃ (oc : Value) (od : Option Addr) (kV doc pm : Value) (an : Option Addr) (cdv ct : Value) (osl : Array (Option Value)),
    fd = PySem.W.fnOf x qual (defArgs st) (defBody st) (defScope st) .none kV doc pm an cdv ct ∧ K.lookup f = some ⟨oc, od, .func fd, osl⟩ ∧ PySem.W.codeIn K cdv qual = true
/-- a property m of the class at C -/
structure PrT (K : PySem.W.Frag) (C : Addr) (m q : Str) (st : Stmt) where
  p : Addr
  a : Addr
  d : FuncData
  F : FunG K m q st a d
  pr : PropOf K C m p a
  b : Binds K d ["self"] []
theorem okG {P : Program} {w : World} {K : PySem.W.Frag} {mg : Str → Option Value} {base : Heap} {x qual : Str} {st : Stmt} {f : Addr} {fd : FuncData} {N ps : List Str} {k : Nat} {sp : Sp} (F : FunG K x qual st f fd) (S : FnScope N ps (defScope st)) (len : ∀ vs H Q E, sp vs H Q E → vs.length = ps.length)
    (body : ∀ (cdv : Value) (A : Around) (outer : List Env) (s : Shared) (H : Hp) (vs : List V) (Q : VK) (E : XK), Room k (A.deeper (envOfC qual (defScope st) s.heap.objs.size f cdv)) → sp vs H Q E →
      ∃ t, PSs (cxOf CX0 P w K mg base N qual (defScope st) f cdv A outer s H E).nox (defBody st) t ∧ t { nx := fun _ H' => Q .non H', rt := Q } (start N vs) H) : FnOk P w K mg base CX0 (k + 1) f fd ps sp := by
  obtain ⟨oc, od, kV, doc, pm, an, cdv, ct, osl, rfl, lk, hcd⟩ := F.ex
  refine fn_of lk hcd S len fun A outer s H vs Q E hr hsp => ?_
  obtain ⟨t, h, q⟩ := body cdv A outer s H vs Q E hr hsp
  exact ⟨t, h.nox, q⟩
theorem FunG.binds {K : PySem.W.Frag} {x qual : Str} {st : Stmt} {f : Addr} {fd : FuncData} {ps : List Str} (F : FunG K x qual st f fd)
    (h : ∀ (kV doc pm : Value) (an : Option Addr) (cdv ct : Value) (us : List Value), us.length = ps.length → bindArgs (PySem.W.fnOf x qual (defArgs st) (defBody st) (defScope st) .none kV doc pm an cdv ct) ⟨us, []⟩ = pure (ps.zip us)) : Binds K fd ps [] := by
  obtain ⟨oc, od, kV, doc, pm, an, cdv, ct, osl, rfl, lk, hcd⟩ := F.ex
  exact .all (h kV doc pm an cdv ct)
/-! ### the look -/
/-- where the getter of the property m stands -/
def prA (K : PySem.W.Frag) (C : Addr) (m : Str) : Addr := match PySem.W.recIn K (He.ma K C m) "property" with
  | some (.ref g :: _) => g
  | _ => 0
def fnWA (K : PySem.W.Frag) (a : Addr) : He.FnW := match K.lookup a with
  | some ⟨_, _, .func fd, _⟩ => some (fd.name, fd.qualname, fd.params, fd.body, fd.scope, fd.globals, fd.closure, fd.builtins)
  | _ => none
/-- class, property, qualified name, the def -/
structure PrD where
  c : Str
  m : Str
  qual : Str
  st : Stmt
def PrD.val (d : PrD) : He.FnW := some (d.m, d.qual, defArgs d.st, .stmts (defBody d.st), defScope d.st, mainGlobals, [], builtinsNs)
def PrD.at_ (K : PySem.W.Frag) (d : PrD) : Addr := prA K (He.ga K d.c) d.m
def PrD.ok (K : PySem.W.Frag) (d : PrD) : Bool := decide (PySem.W.findIn K (.ref (He.ga K d.c)) d.m = some (some (.ref (He.ma K (He.ga K d.c) d.m)))) && (decide (PySem.W.specialIn K (.ref (He.ma K (He.ga K d.c) d.m)) "__get__" = some (some (.builtin "property.__get__"))) &&
  (decide (PySem.W.takesIn K (.ref (He.ma K (He.ga K d.c) d.m)) = some true) && ((match PySem.W.recIn K (He.ma K (He.ga K d.c) d.m) "property" with
  | some (.ref _ :: _) => true
  | _ => false) && (match K.lookup (d.at_ K) with
  | some ⟨_, _, .func fd, _⟩ => PySem.W.codeIn K fd.code d.qual && (match fd.defaults with
    | .none => true
    | _ => false)
  | _ => false))))
theorem prD_ok {K : PySem.W.Frag} {d : PrD} (e : fnWA K (d.at_ K) = d.val) (c : d.ok K = true) : PropOf K (He.ga K d.c) d.m (He.ma K (He.ga K d.c) d.m) (d.at_ K) ∧ ∃ fd, FunG K d.m d.qual d.st (d.at_ K) fd := by
  unfold PrD.ok at c
  obtain ⟨c1, c⟩ := He.ba c
  obtain ⟨c2, c⟩ := He.ba c
  obtain ⟨c3, c⟩ := He.ba c
  obtain ⟨c4, c5⟩ := He.ba c
  refine ⟨⟨of_decide_eq_true c1, of_decide_eq_true c2, of_decide_eq_true c3, ?_⟩, ?_⟩
  · unfold PrD.at_ prA
    split at c4
    · rename_i g rest h
      rw [h]
      exact ⟨rest, rfl⟩
    · cases c4
  · unfold fnWA at e
    cases q : K.lookup (d.at_ K) with
    | none =>
      rw [q] at c5
      cases c5
    | some o =>
      obtain ⟨oc, od, dt, osl⟩ := o
      rw [q] at c5 e
      cases dt with
      | func fd =>
        obtain ⟨n1, n2, n3, n4, n5, n6, n7, n8, n9, n10, n11, n12, n13, n14, n15⟩ := fd
        have e2 : (some (n1, n2, n3, n4, n5, n6, n7, n15) : He.FnW) = some (d.m, d.qual, defArgs d.st, .stmts (defBody d.st), defScope d.st, mainGlobals, [], builtinsNs) := e
        simp only [Option.some.injEq, Prod.mk.injEq] at e2
        obtain ⟨rfl, rfl, rfl, rfl, rfl, rfl, rfl, rfl⟩ := e2
        obtain ⟨k1, k2⟩ := He.ba c5
        cases n8 with
        | none => exact ⟨_, ⟨oc, od, n9, n10, n11, n12, n13, n14, osl, rfl, q, k1⟩⟩
        | _ => cases k2
      | _ => cases c5
end Own

set_option Elab.async false
set_option linter.all false
set_option maxRecDepth 100000
set_option maxHeartbeats 4000000
/-! {k: f k for k in d}. -/
namespace Own
open PySem PySem.Spec PyProof.Rows L2
theorem keys_map (g : Key × V → V) (l : Tbl) : ((l.map fun p => (p.1, g p)).map (·.1)) = l.map (·.1) := by
  rw [List.map_map]
  rfl
theorem dcKeys_go {td : TE} {j : Nat} {tk tv : TE} {σ : L2.St} {H : Hp} {Q : VK} {d : Addr} {kvs : Tbl} (g : Key × V → V) (hd : H d = some (.dK kvs)) (nd : (kvs.map (·.1)).Nodup) (hz : kvs.length ≤ 100000) (ht : ∀ o (Q : VK), Q (.ref d) (upd H d (.frz o (.dK kvs))) → td σ (upd H d (.frz o (.dK kvs))) Q)
    (hk : ∀ o k v H' (R : VK), (k, v) ∈ kvs → Same (upd H d (.frz o (.dK kvs))) H' → R (kV k) H' → tk ((wipe σ [j]).set j (some (kV k))) H' R)
    (hv : ∀ o k v H' (R : VK), (k, v) ∈ kvs → Same (upd H d (.frz o (.dK kvs))) H' → R (g (k, v)) H' → tv ((wipe σ [j]).set j (some (kV k))) H' R)
    (q : ∀ D H', H D = none → Same H H' → H' D = some (.dK (kvs.map fun p => (p.1, g p))) → Q (.ref D) H') : tLockE (tDc (iKeys td) (gName j) tYes tk tv [j]) σ H Q := by
  refine ⟨d, _, hd, True.intro, fun o => ?_⟩
  refine ht _ _ ⟨d, o, rfl, .inl ⟨kvs, upd_same, ?_⟩⟩
  refine fun D hD => ?_
  have hDd : D ≠ d := by
    rintro rfl
    rw [upd_same] at hD
    cases hD
  have hDn : H D = none := by rw [upd_ne hDd] at hD; exact hD
  let Pv : Nat → Hp → Prop := fun m H' => H' D = some (.dK ((kvs.take m).map fun p => (p.1, g p))) ∧ ExT D (upd H d (.frz o (.dK kvs))) H'
  refine ⟨fun m r H' => r = kvs.length - m ∧ m ≤ kvs.length ∧ Pv m H', ⟨kvs.length, rfl, Nat.zero_le _, upd_same, exT_upd (ExT.refl D _)⟩, ?_⟩
  rintro m r H' ⟨rfl, le, p1, p2⟩
  have sH := ExT.toSame hD p2
  have lk : H' d = some (.frz o (.dK kvs)) := sH _ _ upd_same
  rcases Nat.lt_or_ge m kvs.length with lt | ge
  · refine .inr ⟨⟨lk, lt⟩, Pv (m + 1), fun H2 p' => ⟨kvs.length - (m + 1), by omega, rfl, lt, p'⟩, ?_⟩
    rintro x H2 ⟨rfl, k, v, e, rfl⟩
    have mem := List.mem_of_getElem? e
    refine ⟨wipe_set, ?_⟩
    have et : kvs.take (m + 1) = kvs.take m ++ [(k, v)] := by rw [List.take_add_one, e]; rfl
    have fin : H2 D = some (.dK ((kvs.take m).map fun p => (p.1, g p))) := p1
    have no : valV ((kvs.take m).map fun p => (p.1, g p)) k = none := by
      cases e2 : valV ((kvs.take m).map fun p => (p.1, g p)) k with
      | none => rfl
      | some w =>
        have c := valV_key.mp (show (valV ((kvs.take m).map fun p => (p.1, g p)) k).isSome = true by rw [e2]; rfl)
        rw [keys_map] at c
        have nd2 : ((kvs.take m).map (·.1) ++ (kvs.drop m).map (·.1)).Nodup := by rw [← List.map_append, List.take_append_drop]; exact nd
        have inD : k ∈ (kvs.drop m).map (·.1) := List.mem_map.mpr ⟨(k, v), List.mem_iff_getElem?.mpr ⟨0, by rw [List.getElem?_drop]; exact e⟩, rfl⟩
        exact absurd rfl ((List.nodup_append.mp nd2).2.2 k c k inD)
    refine hk o k v _ _ mem sH (hv o k v _ _ mem sH ⟨_, k, rfl, fin, ?_, ?_, exT_upd p2⟩)
    · rw [List.length_map]
      exact Nat.lt_of_le_of_lt (List.length_take_le _ _) (Nat.lt_of_lt_of_le lt (Nat.le_trans hz (by decide)))
    · rw [upd_same, putK_new _ no, et, List.map_append]
      rfl
  · obtain rfl : m = kvs.length := Nat.le_antisymm le ge
    rw [List.take_length] at p1
    refine .inl ⟨⟨lk, Nat.le_refl _⟩, lk, ?_⟩
    refine q D _ hDn (unlock_same hd sH) ?_
    rw [upd_ne hDd]
    exact p1
end Own

set_option Elab.async false
set_option linter.all false
set_option maxRecDepth 100000
set_option maxHeartbeats 4000000
/-! A nested def handed to a method, and called there by the parameter that holds it. -/
namespace Own
open PySem PySem.Spec PyProof.Rows L2
/-- a promise that speaks of the state at the call, too -/
abbrev SpS : Type := List Env → Shared → Sp
structure FnSt (P : Program) (w : World) (K : PySem.W.Frag) (mg : Str → Option Value) (base : Heap) (CX : CXT) (k : Nat) (f : Addr) (fd : FuncData) (ps : List Str) (sp : SpS) : Prop where
  len : ∀ outer s vs H Q E, sp outer s vs H Q E → vs.length = ps.length
  run : ∀ (A : Around) (outer : List Env) (s : Shared) (H : Hp) (args : Args) (us : List Value) (vs : List V) (Q : VK) (E : XK), Room k A → Env0 P w K mg base A outer s H → BindsTo s fd args (ps.zip us) → Vals vs us → sp outer s vs H Q E →
    codeAny (model P w) A (.call (.ref f) args) (CR CX outer P w H s Q E) s
theorem FnSt.mono {P : Program} {w : World} {K : PySem.W.Frag} {mg : Str → Option Value} {base : Heap} {CX : CXT} {j k : Nat} {f : Addr} {fd : FuncData} {ps : List Str} {sp : SpS} (F : FnSt P w K mg base CX j f fd ps sp) (h : j ≤ k) : FnSt P w K mg base CX k f fd ps sp :=
  ⟨F.len, fun A outer s H args us vs Q E hr => F.run A outer s H args us vs Q E (hr.mono h)⟩
theorem okS {P : Program} {w : World} {K : PySem.W.Frag} {mg : Str → Option Value} {base : Heap} {CX : CXT} {x qual : Str} {st : Stmt} {f : Addr} {fd : FuncData} {N ps : List Str} {k : Nat} {sp : SpS} (F : Fun K x qual st f fd) (S : FnScope N ps (defScope st)) (len : ∀ outer s vs H Q E, sp outer s vs H Q E → vs.length = ps.length)
    (body : ∀ (cdv : Value) (A : Around) (outer : List Env) (s : Shared) (H : Hp) (vs : List V) (Q : VK) (E : XK), Room k (A.deeper (envOfC qual (defScope st) s.heap.objs.size f cdv)) → Env0 P w K mg base A outer s H → sp outer s vs H Q E →
      ∃ t, PSs (cxOf CX P w K mg base N qual (defScope st) f cdv A outer s H E) (defBody st) t ∧ t { nx := fun _ H' => Q .non H', rt := Q } (start N vs) H) : FnSt P w K mg base CX (k + 1) f fd ps sp := by
  obtain ⟨oc, od, kV, doc, pm, an, cdv, ct, osl, rfl, lk, hcd⟩ := F.ex
  refine ⟨len, fun A outer s H args us vs Q E hr e0 hb r hsp => ?_⟩
  exact LamX.run_ofS lk hcd S hr e0 hb r (len outer s vs H Q E hsp) fun hr2 => body cdv A outer s H vs Q E hr2 e0 hsp
section
variable {X : Cx} {CX : CXT} {k : Nat} {C f : Addr} {fd : FuncData} {ps : List Str} {sp : SpS} {E : XK} {e o : Expr} {es : List Expr} {m : Str} {apos pos : Pos} {ta : TE} {t : TA}
theorem run_st {pins : List (Addr × Obj)} {σ : L2.St} {H : Hp} {s : Shared} {Q : VK} {us : List Value} {vs : List V} (F : FnSt X.prog X.w X.K X.mg X.base CX k f fd ps sp) (hr : Room k X.A) (hb : Binds X.K fd ps []) (hx : Passes CX X E)
    (I : Inv X pins σ H s) (r : Vals vs us) (h : sp X.stack s vs H Q E) : wpAny (model X.prog X.w) X.A (call (.ref f) us) (EP X pins σ Q) X.xe s := by
  have hl : us.length = ps.length := by rw [← r.length]; exact F.len _ _ _ _ _ _ h
  have hl0 : (us ++ ([] : List Value)).length = ps.length := by rw [List.append_nil]; exact hl
  have bd := hb s us I.kIn hl0
  rw [List.append_nil] at bd
  refine wpAny_call (codeAny_mono (F.run X.A X.stack s H ⟨us, []⟩ us vs Q E hr I.env0 bd r h) fun r s' hq => ?_)
  cases r with
  | error e => exact hx pins σ H s e s' I hq
  | ok fl => cases fl with
    | ret u => exact I.after hq
    | next => exact False.elim hq
    | brk => exact False.elim hq
    | cont => exact False.elim hq
/-- the cells that a def made at its entry are no frames -/
theorem cells_out {pins : List (Addr × Obj)} {σ : L2.St} {H : Hp} {s : Shared} (I : Inv X pins σ H s) {x : Str} {c : Addr} (hf : X.fn x = true) (e : X.env.cells.lookup x = some c) : c ∉ frs X.stack := fun hc => by
  rcases List.mem_cons.mp (I.stkSub c hc) with z | z
  · exact I.cne x c e z
  · obtain ⟨_, o, ho, _⟩ := I.ok.funs.mem z
    exact Nat.lt_irrefl _ (Nat.lt_of_lt_of_le (Heap.lt_size ho) (I.ok.cab x c hf e))
/-- o.m(e, ..), told with the slots of the frame that calls -/
def tMethS (C : Addr) (m : Str) (spA : L2.St → Sp) (E : XK) (ta : TE) (t : TA) : TE := fun σ H Q => ta σ H fun x H1 => ∃ a dx fs, x = .ref a ∧ H1 a = some (.ins C dx fs) ∧ fs.lookup m = none ∧ t σ H1 fun vs H2 => spA σ (x :: vs) H2 Q E
theorem pe_methS {pl : Sem Bool} {spA : L2.St → Sp} (he : PE X o ta) (c : Cls X.K C) (hm : Meth X.K C m f) (F : FnSt X.prog X.w X.K X.mg X.base CX k f fd ps sp) (hr : Room k X.A) (hb : Binds X.K fd ps []) (hx : Passes CX X E)
    (hs : ∀ (pins : List (Addr × Obj)) (σ : L2.St) (H : Hp) (s : Shared) (vs : List V) (Q : VK), Inv X pins σ H s → spA σ vs H Q E → sp X.stack s vs H Q E) (ha : PA X (e :: es) t)
    (hst : starEach (e :: es) X.env = (false, eval e X.env) :: starEach es X.env := by rfl) (hpl : (backTo pos (starEach es X.env)).any (·.1) = false := by rfl)
    (ht : eval (.Call (.Attribute o m apos) (e :: es) [] pos) X.env = (do
      let ov ← eval o X.env
      standAt apos.atName
      let (f, first) ← holding [ov] (getMethod ov m pl)
      callWith pos f first (backTo pos (starEach (e :: es) X.env)) (backToKw pos (keywordEach [] X.env))) := by rfl) :
    PE X (.Call (.Attribute o m apos) (e :: es) [] pos) (tMethS C m spA E ta t) := by
  refine ⟨fun pins s σ H Q I h => PySem.W.methodCall_KW (pl := pl) (thn (he.run pins s σ H _ I h) fun u s1 z => ?_) ht⟩
  obtain ⟨x, H1, I1, rx, a, dx, fs, rfl, ea, l, q⟩ := z
  obtain rfl : u = Value.ref a := rx
  refine getmeth_ok I1 ea c hm l (PySem.W.callWith_K (first := [.ref a]) (h₀ := X.base) I.ok.mod.kin hm.kp (thn (ha.run pos pins s1 σ H1 _ I1 q) fun us s2 z => ?_) hst hpl)
  obtain ⟨vs, H2, I2, r, q2⟩ := z
  exact ⟨I2.kIn, run_st (us := .ref a :: us) (vs := .ref a :: vs) F hr hb hx I2 (.cons rfl r) (hs _ _ _ _ _ _ I2 q2)⟩
/-- a(e, ..), a a parameter that holds a nested def whose cells are not this frame's -/
def tCallF (i : Nat) (f : Addr) (F : NdefX.NF) (ws : List (Option V)) (sp : List (Option V) → Sp) (E : XK) (t : TA) : TE := fun σ H Q => σ[i]? = some (some (.ref f)) ∧ H f = some (NdefX.FnO f F) ∧
  t σ H fun vs H1 => H1 f = some (NdefX.FnO f F) ∧ H1 F.c = some (LamX.CodeO F.c F.qual) ∧ sp ws vs H1 Q E
theorem pe_callF {F : NdefX.NF} {fr : List Str} {ws : List (Option V)} {i : Nat} {x : Str} {p : Pos} {sp : List (Option V) → Sp} (Fn : NdefX.NOk X.prog X.w X.K X.mg X.base CX k f F ps fr sp) (Cl : NdefX.CellsAt F.cl fr ws X.s_0.heap X.H_0) (nf : ∀ y c, F.cl.lookup y = some c → c ∉ X.fs) (hex : ∀ y c, F.cl.lookup y = some c → c ∉ X.ex)
    (hr : Room k X.A) (hx : Passes CX X E) (hN : X.N[i]? = some x) (hv : Vis X.env.scope x) (ha : PA X (e :: es) t)
    (hd : (x == ("__debug__" : Str)) = false := by decide) (hcd : (x == ("__classdict__" : Str)) = false := by decide)
    (he : starEach (e :: es) X.env = (false, eval e X.env) :: starEach es X.env := by rfl) (hpl : (backTo pos (starEach es X.env)).any (·.1) = false := by rfl) :
    PE X (.Call (.Name x p) (e :: es) [] pos) (tCallF i f F ws sp E t) := by
  refine ⟨fun pins s σ H Q I h => ?_⟩
  obtain ⟨hs, hf, ht⟩ := h
  obtain ⟨u, ru, ld⟩ := ld_var (E := X.xe) (pos := p) I hN hv hs hd hcd
  obtain rfl : u = Value.ref f := ru
  refine wpAny_Call_Name_kw (ld _ ?_)
  refine PySem.W.callWith_F (first := []) (NdefX.fnAt_of I hf) (thn (ha.run pos pins s σ H _ I ht) fun us s2 z => ?_) he hpl
  obtain ⟨vs, H2, I2, r, h1, h2, q⟩ := z
  refine ⟨NdefX.fnAt_of I2 h1, wpAny_call (codeAny_mono (Fn.run X.A X.stack s2 H2 us vs ws Q E hr I2.env0 h1 h2 (Cl.later nf hex I2) r q) fun r s' hq => ?_)⟩
  cases r with
  | error e => exact hx pins σ H2 s2 e s' I2 hq
  | ok fl => cases fl with
    | ret u => exact I2.after hq
    | next => exact False.elim hq
    | brk => exact False.elim hq
    | cont => exact False.elim hq
end
end Own

set_option Elab.async false
set_option linter.all false
set_option maxRecDepth 100000
set_option maxHeartbeats 4000000
/-! The look with tables and properties. -/
namespace Own
open PySem PySem.Spec PyProof.Rows L2
def obsZ (chk : PySem.W.Frag → Bool) (fn : List He.DefD) (tf : List He.Defn) (pr : List PrD) (g : Addr → Option Obj) (as : List Addr) : He.AlD := ((obsY chk fn tf g as).1 && pr.all fun d => d.ok (He.frT g as), (obsY chk fn tf g as).2 ++ pr.map fun d => fnWA (He.frT g as) (d.at_ (He.frT g as)))
def valZ (fn : List He.DefD) (pr : List PrD) : He.AlD := (true, fn.map He.DefD.val ++ pr.map PrD.val)
def PropsZ (pr : List PrD) (K : PySem.W.Frag) : Prop := ∀ d ∈ pr, fnWA K (d.at_ K) = d.val ∧ d.ok K = true
theorem saysZ {chk : PySem.W.Frag → Bool} {fn : List He.DefD} {tf : List He.Defn} {pr : List PrD} {h : Heap} {as : List Addr} (e : obsZ chk fn tf pr h.get? as = valZ fn pr) : obsN chk fn (He.frT h.get? as) = He.valD fn ∧ TabsY tf (He.frT h.get? as) h ∧ PropsZ pr (He.frT h.get? as) := by
  have e1 : ((obsY chk fn tf h.get? as).1 && pr.all fun d => d.ok (He.frT h.get? as)) = true := congrArg (fun z : He.AlD => z.1) e
  have e2 : (obsZ chk fn tf pr h.get? as).2 = (valZ fn pr).2 := congrArg (fun z : He.AlD => z.2) e
  have e3 : (obsY chk fn tf h.get? as).2 ++ (pr.map fun d => fnWA (He.frT h.get? as) (d.at_ (He.frT h.get? as))) = fn.map He.DefD.val ++ pr.map PrD.val := e2
  obtain ⟨h1, h2⟩ := He.ba e1
  have l : (obsY chk fn tf h.get? as).2.length = (fn.map He.DefD.val).length := by
    show (fn.map _).length = _
    rw [List.length_map, List.length_map]
  obtain ⟨e4, e5⟩ := List.append_inj e3 l
  obtain ⟨a, b⟩ := saysY (chk := chk) (fn := fn) (tf := tf) (h := h) (as := as) (Prod.ext h1 e4)
  refine ⟨a, b, fun d hd => ⟨?_, List.all_eq_true.mp h2 d hd⟩⟩
  exact List.map_inj_left.mp e5 d hd
def hookZ (chk : PySem.W.Frag → Bool) (fn : List He.DefD) (tf : List He.Defn) (pr : List PrD) : PySem.W.Hook where
  α := He.AlD
  obs := fun s => obsZ chk fn tf pr s.heap.get? (List.range s.heap.objs.size)
  val := fun _ => valZ fn pr
  says := fun _ h => ∃ K : PySem.W.Frag, K.In h ∧ obsN chk fn K = He.valD fn ∧ TabsY tf K h ∧ PropsZ pr K
  of := fun _ _ e => ⟨_, He.frT_in, saysZ e⟩
  keeps := fun _ _ _ ⟨K, hK, c, t, p⟩ k => ⟨K, PySem.W.Frag.In.keeps hK k, c, fun p hp => ⟨(t p hp).1, (t p hp).2.1, k _ _ (t p hp).2.2⟩, p⟩
def obZ (chk : PySem.W.Frag → Bool) (fn : List He.DefD) (tf : List He.Defn) (pr : List PrD) (s : PySem.W.SharedT) : He.AlD := obsZ chk fn tf pr (HandSHeadRun.getT s) (List.range s.n)
theorem obZ_eq {chk : PySem.W.Frag → Bool} {fn : List He.DefD} {tf : List He.Defn} {pr : List PrD} (s : PySem.W.SharedT) : obZ chk fn tf pr s = (hookZ chk fn tf pr).obs s.abs := by
  have look : HandSHeadRun.getT s = s.abs.heap.get? := funext (HandSHeadRun.getT_eq s)
  have size : s.n = s.abs.heap.objs.size := (PySem.W.absHeap_size s.tree s.n s.life).symm
  show obsZ chk fn tf pr (HandSHeadRun.getT s) (List.range s.n) = obsZ chk fn tf pr s.abs.heap.get? (List.range s.abs.heap.objs.size)
  rw [look, size]
end Own

set_option Elab.async false
set_option linter.all false
set_option maxRecDepth 100000
set_option maxHeartbeats 4000000
/-! == and != of two instances of a class that has neither for itself: the same object or not. -/
namespace Own
open PySem PySem.Spec PyProof.Rows L2
/-- the class compares as object does -/
structure EqP (K : PySem.W.Frag) (C : Addr) : Prop where
  eq : PySem.W.findIn K (.ref C) "__eq__" = some (some (.builtin "object.__eq__"))
  ne : PySem.W.findIn K (.ref C) "__ne__" = some (some (.builtin "object.__ne__"))
  ob : PySem.W.subIn K (.ref C) (.type "object") = some true
def eqpB (K : PySem.W.Frag) (x : Str) : Bool := decide (PySem.W.findIn K (.ref (He.ga K x)) "__eq__" = some (some (.builtin "object.__eq__"))) && (decide (PySem.W.findIn K (.ref (He.ga K x)) "__ne__" = some (some (.builtin "object.__ne__"))) && decide (PySem.W.subIn K (.ref (He.ga K x)) (.type "object") = some true))
theorem eqp_of {K : PySem.W.Frag} {x : Str} (h : eqpB K x = true) : EqP K (He.ga K x) := by
  simp only [eqpB, Bool.and_eq_true, decide_eq_true_eq] at h
  exact ⟨h.1, h.2.1, h.2.2⟩
section
variable {prog : Program} {w : World} {A : Around} {E : Value → Shared → Prop} {s : Shared} {K : PySem.W.Frag} {x y C f : Addr} {ox oy : Obj} {od oe : Option Obj}
theorem chk_ob {id n : String} {b : Value} {R : Unit → Shared → Prop} (X : K.In s.heap) (J : PySem.W.InstAt s.heap x ox C od) (e : EqP K C) (hk : builtinKind id = some .slot) (hs : splitId id = some ("object", n)) (ha : argsOk id ⟨[.ref x, b], []⟩) (r : R () s) :
    wpAny (model prog w) A (checkBuiltinCall id ⟨[.ref x, b], []⟩) R E s := by
  have sub := PySem.W.looks_subIn (M := model prog w) X e.ob
  simp only [checkBuiltinCall, hk, hs]
  refine wpAny_bind ?_
  unfold isInstance
  refine wpAny_bind (J.type.here (sub.here ?_))
  simp only [Bool.not_true, Bool.false_eq_true, if_false]
  cases hsig : Manifest.signature? id with
  | none => exact wpAny_pure r
  | some sig =>
    simp only [argsOk, hsig] at ha
    have h2 : Bind.checkArgs id sig ⟨[.ref x, b], []⟩ = pure () := ha
    show wpAny _ _ (Bind.checkArgs id sig ⟨[.ref x, b], []⟩) _ _ _
    rw [h2]
    exact wpAny_pure r
theorem call_bound {nm : Str} {id : String} {b : Value} {Q : Option Value → Shared → Prop} (X : K.In s.heap) (J : PySem.W.InstAt s.heap x ox C od) (hf : PySem.W.findIn K (.ref C) nm = some (some (.builtin id))) (bnd : bindSpecial (.builtin id) (.ref x) = pure (.builtin id, [.ref x]))
    (go : wpAny (model prog w) A (call (.builtin id) [.ref x, b]) (fun v => Q (some v)) E s) : wpAny (model prog w) A (callSpecialIfBound? (.ref x) nm [b]) Q E s := by
  simp only [callSpecialIfBound?, bindSpecialIfBound?]
  refine wpAny_holding (wpAny_bind (wpAny_bind (wpAny_bind (J.type.here ((PySem.W.looks_findIn X hf).here ?_)))))
  simp only [bnd]
  refine wpAny_bind (wpAny_askSetting (wpAny_ite ?_))
  have last : wpAny (model prog w) A (call (.builtin id) ([.ref x] ++ [b]) >>= fun v => pure (some v)) Q E s := wpAny_bind (thn go fun v t h => wpAny_pure h)
  split
  · exact wpAny_bind (wpAny_pure (wpAny_pure last))
  · exact wpAny_tryCatch (wpAny_bind (wpAny_pure (wpAny_pure last)))
theorem eq_call {Q : Value → Shared → Prop} (X : K.In s.heap) (J : PySem.W.InstAt s.heap x ox C od) (J' : PySem.W.InstAt s.heap y oy C oe) (e : EqP K C) (q : Q (if x = y then .bool true else .notImplemented) s) :
    wpAny (model prog w) A (call (.builtin "object.__eq__") [.ref x, .ref y]) Q E s := by
  refine wpAny_call (codeAny_call_builtin F.cmp_object.eq.plain F.cmpEntry_eq (chk_ob X J e F.cmpKind_eq F.cmpSplit_eq (F.cmpArgs_eq _ _) ?_))
  by_cases h : x = y
  · subst h
    rw [if_pos rfl] at q
    exact objEq_entry_same q
  · rw [if_neg h] at q
    exact objEq_entry_other h J.at_ J'.at_ (by rw [J.cls]; intro z; cases z) q
theorem eq_bd {Q : Option Value → Shared → Prop} (X : K.In s.heap) (J : PySem.W.InstAt s.heap x ox C od) (J' : PySem.W.InstAt s.heap y oy C oe) (e : EqP K C) (q : Q (some (if x = y then .bool true else .notImplemented)) s) :
    wpAny (model prog w) A (callSpecialIfBound? (.ref x) "__eq__" [.ref y]) Q E s := call_bound X J e.eq (F.cmp_object.eq.bind _) (eq_call X J J' e q)
theorem eq_try {Q : Option Value → Shared → Prop} (X : K.In s.heap) (J : PySem.W.InstAt s.heap x ox C od) (J' : PySem.W.InstAt s.heap y oy C oe) (e : EqP K C) (q : Q (if x = y then some (.bool true) else none) s) :
    wpAny (model prog w) A (tryCompare (.ref x) "__eq__" (.ref y)) Q E s := by
  unfold tryCompare
  refine wpAny_bind (eq_bd X J J' e ?_)
  by_cases h : x = y
  · simp only [if_pos h] at q ⊢
    exact wpAny_pure q
  · simp only [if_neg h] at q ⊢
    exact wpAny_pure q
theorem ne_call {Q : Value → Shared → Prop} (hu : A.units + 1 < cLine) (X : K.In s.heap) (J : PySem.W.InstAt s.heap x ox C od) (J' : PySem.W.InstAt s.heap y oy C oe) (e : EqP K C) (q : Q (if x = y then .bool false else .notImplemented) s) :
    wpAny (model prog w) A (call (.builtin "object.__ne__") [.ref x, .ref y]) Q E s := by
  refine wpAny_call (codeAny_call_builtin F.cmp_object.ne.plain F.cmpEntry_ne (chk_ob X J e F.cmpKind_ne F.cmpSplit_ne (F.cmpArgs_ne _ _) ?_))
  unfold Builtin.«object.__ne__»
  refine wpAny_bind (m := slotArgs _ _ _) (wpAny_pure ?_)
  refine wpAny_bind (wpAny_cRoomFor hu ?_)
  refine wpAny_bind (eq_bd X J J' e ?_)
  by_cases h : x = y
  · simp only [if_pos h] at q ⊢
    refine wpAny_bind (wpAny_truthy_bool ?_)
    exact wpAny_pure q
  · simp only [if_neg h] at q ⊢
    exact wpAny_pure q
theorem ne_try {Q : Option Value → Shared → Prop} (hu : A.units + 1 < cLine) (X : K.In s.heap) (J : PySem.W.InstAt s.heap x ox C od) (J' : PySem.W.InstAt s.heap y oy C oe) (e : EqP K C) (q : Q (if x = y then some (.bool false) else none) s) :
    wpAny (model prog w) A (tryCompare (.ref x) "__ne__" (.ref y)) Q E s := by
  unfold tryCompare
  refine wpAny_bind (call_bound X J e.ne (F.cmp_object.ne.bind _) (ne_call hu X J J' e ?_))
  by_cases h : x = y
  · simp only [if_pos h] at q ⊢
    exact wpAny_pure q
  · simp only [if_neg h] at q ⊢
    exact wpAny_pure q
theorem eq_plainI {Q : Value → Shared → Prop} (hu : A.units < cLine) (X : K.In s.heap) (J : PySem.W.InstAt s.heap x ox C od) (J' : PySem.W.InstAt s.heap y oy C oe) (e : EqP K C) (q : Q (.bool (decide (x = y))) s) :
    wpAny (model prog w) A (richCompare .Eq (.ref x) (.ref y)) Q E s := by
  unfold richCompare
  simp only [oneThing_ref]
  refine wpAny_holding (wpAny_bind (wpAny_cRoomFor hu ?_))
  refine wpAny_bind (J.type.here (wpAny_bind (J'.type.here ?_)))
  rw [if_neg (by simp)]
  refine wpAny_bind (wpAny_pure ?_)
  simp only [Bool.false_eq_true, if_false]
  refine wpAny_bind (eq_try X J J' e ?_)
  by_cases h : x = y
  · subst h
    simp only [if_true]
    rw [decide_eq_true rfl] at q
    exact wpAny_pure q
  · simp only [if_neg h, Bool.not_false, if_true]
    refine wpAny_bind (eq_try X J' J e ?_)
    rw [if_neg (fun z => h z.symm)]
    refine wpAny_bind (wpAny_rule ?_)
    refine wpAny_bind (wpAny_isSame_ref_other h J.at_ J'.at_ (by rw [J.cls]; intro z; cases z) ?_)
    rw [decide_eq_false h] at q
    exact wpAny_pure q
theorem ne_plainI {Q : Value → Shared → Prop} (hu : A.units + 2 < cLine) (X : K.In s.heap) (J : PySem.W.InstAt s.heap x ox C od) (J' : PySem.W.InstAt s.heap y oy C oe) (e : EqP K C) (q : Q (.bool (!decide (x = y))) s) :
    wpAny (model prog w) A (richCompare .NotEq (.ref x) (.ref y)) Q E s := by
  have hu0 : A.units < cLine := by omega
  have hu1 : A.units + 1 < cLine := by omega
  unfold richCompare
  simp only [oneThing_ref]
  refine wpAny_holding (wpAny_bind (wpAny_cRoomFor hu0 ?_))
  refine wpAny_bind (J.type.here (wpAny_bind (J'.type.here ?_)))
  rw [if_neg (by simp)]
  refine wpAny_bind (wpAny_pure ?_)
  simp only [Bool.false_eq_true, if_false]
  refine wpAny_bind (ne_try hu1 X J J' e ?_)
  by_cases h : x = y
  · subst h
    simp only [if_true]
    rw [decide_eq_true rfl] at q
    exact wpAny_pure q
  · simp only [if_neg h, Bool.not_false, if_true]
    refine wpAny_bind (ne_try hu1 X J' J e ?_)
    rw [if_neg (fun z => h z.symm)]
    refine wpAny_bind (wpAny_rule ?_)
    refine wpAny_bind (wpAny_isSame_ref_other h J.at_ J'.at_ (by rw [J.cls]; intro z; cases z) ?_)
    rw [decide_eq_false h] at q
    exact wpAny_pure q
end
theorem hu3_of {A : Around} {k : Nat} (hr : Room k A) : A.units + 2 < cLine := Nat.lt_of_le_of_lt (Nat.add_le_add_left (by decide : 2 ≤ 64) _) hr.units
section
variable {X : Cx} {C : Addr}
def rEqI (C : Addr) (neg : Bool) : R2 := fun x y H Q => ∃ a dx fs b dy gs, x = .ref a ∧ y = .ref b ∧ H a = some (.ins C dx fs) ∧ H b = some (.ins C dy gs) ∧ Q (.bl (if neg then !decide (a = b) else decide (a = b))) H
theorem op_eqI (e : EqP X.K C) (hu : X.A.units < cLine) : OpR X (compareOp .Eq) (rEqI C false) := by
  intro pins s σ H x y v u Q I rx ry h
  obtain ⟨a, dx, fs, b, dy, gs, rfl, rfl, ha, hb, q⟩ := h
  cases rx; cases ry
  obtain ⟨ox, od, J⟩ := ins_at I ha
  obtain ⟨oy, oe, J'⟩ := ins_at I hb
  show wpAny _ _ (richCompare .Eq (.ref a) (.ref b)) _ _ _
  exact eq_plainI hu I.kIn J J' e ⟨.bl (decide (a = b)), H, I, rfl, q⟩
theorem op_neI (e : EqP X.K C) (hu : X.A.units + 2 < cLine) : OpR X (compareOp .NotEq) (rEqI C true) := by
  intro pins s σ H x y v u Q I rx ry h
  obtain ⟨a, dx, fs, b, dy, gs, rfl, rfl, ha, hb, q⟩ := h
  cases rx; cases ry
  obtain ⟨ox, od, J⟩ := ins_at I ha
  obtain ⟨oy, oe, J'⟩ := ins_at I hb
  show wpAny _ _ (richCompare .NotEq (.ref a) (.ref b)) _ _ _
  exact ne_plainI hu I.kIn J J' e ⟨.bl (!decide (a = b)), H, I, rfl, q⟩
end
end Own

set_option Elab.async false
set_option linter.all false
set_option maxRecDepth 100000
set_option maxHeartbeats 4000000
/-! Lambdas as objects: made anywhere (in lambdas too), handed on, called in any frame; what is called may raise. -/
namespace Own
open PySem PySem.Spec PyProof.Rows L2
/-- a code object of the name q whose own table lies at P -/
def CodeH (c : Addr) (q : Str) (P : Addr) : HO := .ext fun h => h.CodeRec (.ref c) q ∧ PySem.W.CodeHd h c P
/-- the object at f is the lambda F with this body -/
def LamO (f : Addr) (F : NdefX.NF) (e : Expr) : HO := .ext fun h => ∃ pm ctv : Value, h.get? f = some (PySem.W.kla_obj "<lambda>" F.qual F.params e F.scope F.cl pm F.c ctv)
theorem codeH_at {P : Program} {w : World} {H : Hp} {h : Heap} {c Pt : Addr} {q : Str} (hok : HOk P w H h) (e : H c = some (CodeH c q Pt)) : h.CodeRec (.ref c) q ∧ PySem.W.CodeHd h c Pt := (hok c _ e).1
theorem lamO_at {P : Program} {w : World} {H : Hp} {h : Heap} {f : Addr} {F : NdefX.NF} {e : Expr} (hok : HOk P w H h) (x : H f = some (LamO f F e)) : ∃ pm ctv : Value, h.get? f = some (PySem.W.kla_obj "<lambda>" F.qual F.params e F.scope F.cl pm F.c ctv) := (hok f _ x).1
/-- the name of what is made within q -/
abbrev qSub (q : Str) : Str := (q ++ ".<locals>.") ++ "<lambda>"
/-- the tables T: all that they tell has its own table in T -/
structure TabsC (base : Heap) (mg : Str → Option Value) (T : List (Addr × Str)) (H : Hp) : Prop where
  at_ : ∀ p ∈ T, (mainGlobals ≠ p.1 ∧ base.BuiltinsAt mg p.1) ∧ ∃ ps : Array Value, H p.1 = some (.tbl ps) ∧ TriplesOk ps.toList ∧ ∀ (pos : Pos) (cv : Value), codeAmong pos ps.toList = some cv → ∃ c P', cv = .ref c ∧ H c = some (CodeH c p.2 P') ∧ (P', qSub p.2) ∈ T
  one : ∀ p ∈ T, ∀ p' ∈ T, p.1 = p'.1 → p.2 = p'.2
/-- tables with these among them -/
def TW (base : Heap) (mg : Str → Option Value) (B : List (Addr × Str)) (H : Hp) : Prop := ∃ T, TabsC base mg T H ∧ ∀ p ∈ B, p ∈ T
/-- what tables need to stay -/
def KeepT (H H' : Hp) : Prop := ∀ b o, H b = some o → (∀ xs, o ≠ .lst xs) → (∀ C dx fs, o ≠ .ins C dx fs) → (∀ kv, o ≠ .dK kv) → H' b = some o
theorem KeepT.same {H H' : Hp} (s : Same H H') : KeepT H H' := fun b o e _ _ _ => s b o e
theorem KeepT.trans {H H1 H2 : Hp} (a : KeepT H H1) (b : KeepT H1 H2) : KeepT H H2 := fun c o e h1 h2 h3 => b c o (a c o e h1 h2 h3) h1 h2 h3
theorem TW.keep {base : Heap} {mg : Str → Option Value} {B : List (Addr × Str)} {H H' : Hp} (t : TW base mg B H) (k : KeepT H H') : TW base mg B H' := by
  obtain ⟨T, ⟨ta, t1⟩, sub⟩ := t
  refine ⟨T, ⟨fun p hp => ?_, t1⟩, sub⟩
  obtain ⟨g, ps, e, tr, cs⟩ := ta p hp
  refine ⟨g, ps, k _ _ e (fun _ z => by cases z) (fun _ _ _ z => by cases z) (fun _ z => by cases z), tr, fun pos cv hc => ?_⟩
  obtain ⟨c, P', ec, hcc, hm⟩ := cs pos cv hc
  exact ⟨c, P', ec, k _ _ hcc (fun _ z => (by unfold CodeH at z; cases z)) (fun _ _ _ z => (by unfold CodeH at z; cases z)) (fun _ z => (by unfold CodeH at z; cases z)), hm⟩
theorem TW.same {base : Heap} {mg : Str → Option Value} {B : List (Addr × Str)} {H H' : Hp} (t : TW base mg B H) (s : Same H H') : TW base mg B H' := t.keep (.same s)
theorem TW.sub {base : Heap} {mg : Str → Option Value} {B B' : List (Addr × Str)} {H : Hp} (t : TW base mg B H) (s : ∀ p ∈ B', p ∈ B) : TW base mg B' H := let ⟨T, a, b⟩ := t; ⟨T, a, fun p hp => b p (s p hp)⟩
/-- an object that is no table's and no code's may change -/
theorem keepT_upd {H : Hp} {a : Addr} {u : HO} {o : HO} (e : H a = some u) (n : (∃ xs, u = .lst xs) ∨ (∃ C dx fs, u = .ins C dx fs) ∨ ∃ kv, u = .dK kv) : KeepT H (upd H a o) := fun b x hb h1 h2 h3 => by
  rw [upd_ne (fun z => ?_)]
  · exact hb
  · rw [z, e] at hb
    cases hb
    rcases n with ⟨xs, z⟩ | ⟨C, dx, fs, z⟩ | ⟨kv, z⟩
    · exact h1 _ z
    · exact h2 _ _ _ z
    · exact h3 _ z
theorem tw_start {base : Heap} {mg : Str → Option Value} {B : List (Addr × Str)} {H : Hp} (h : ∀ p ∈ B, H p.1 = some (.tbl #[])) (g : ∀ p ∈ B, mainGlobals ≠ p.1 ∧ base.BuiltinsAt mg p.1) (o : ∀ p ∈ B, ∀ p' ∈ B, p.1 = p'.1 → p.2 = p'.2) : TW base mg B H :=
  ⟨B, ⟨fun p hp => ⟨g p hp, #[], h p hp, True.intro, fun pos cv hc => by
    have z : codeAmong pos [] = some cv := hc
    simp [codeAmong] at z⟩, o⟩, fun _ h => h⟩
/-! ### cells -/
/-- from one moment to a later one: what cells hold stays, if the frames are not theirs -/
def CK (outer : List Env) (s : Shared) (H : Hp) (outer' : List Env) (s' : Shared) (H' : Hp) : Prop :=
  ∀ (cl : List (Str × Addr)) (fr : List Str) (ws : List (Option V)), NdefX.CellsAt cl fr ws s.heap H → (∀ y c, cl.lookup y = some c → c ∉ frs outer) → NdefX.CellsAt cl fr ws s'.heap H' ∧ ∀ y c, cl.lookup y = some c → c ∉ frs outer'
theorem CK.trans {o1 o2 o3 : List Env} {s1 s2 s3 : Shared} {H1 H2 H3 : Hp} (a : CK o1 s1 H1 o2 s2 H2) (b : CK o2 s2 H2 o3 s3 H3) : CK o1 s1 H1 o3 s3 H3 := fun cl fr ws c n => let ⟨c2, n2⟩ := a cl fr ws c n; b cl fr ws c2 n2
theorem ck_inv {X : Cx} {pins : List (Addr × Obj)} {σ : L2.St} {H : Hp} {s : Shared} (I : Inv X pins σ H s) (hex : X.ex = []) : CK X.outer X.s_0 X.H_0 X.stack s H := fun cl fr ws C n => by
  refine ⟨C.later n (fun y c _ z => by rw [hex] at z; cases z) I, fun y c e z => ?_⟩
  rcases List.mem_cons.mp (I.stkSub c z) with z | z
  · obtain ⟨_, v, o, ho, _⟩ := C.all y c e
    have h1 := Heap.lt_size ho
    rw [z] at h1
    exact Nat.lt_irrefl _ (Nat.lt_of_lt_of_le h1 I.ok.above)
  · exact n y c e z
/-! ### what may be called -/
structure CB where
  O : HO
  c : Addr
  q : Str
  cl : List (Str × Addr)
  P : Addr
abbrev SpC : Type := List Env → Shared → List (Option V) → Sp
structure CbOk (P : Program) (w : World) (K : PySem.W.Frag) (mg : Str → Option Value) (base : Heap) (CX : CXT) (k : Nat) (f : Addr) (B : CB) (ps fr : List Str) (sp : SpC) : Prop where
  fn : ∀ H h, HOk P w H h → H f = some B.O → PySem.W.FnAt f h
  ni : (∀ xs, B.O ≠ .lst xs) ∧ (∀ C dx fs, B.O ≠ .ins C dx fs) ∧ (∀ kv, B.O ≠ .dK kv) ∧ ∀ ps, B.O ≠ .tbl ps
  len : ∀ outer s ws vs H Q E, sp outer s ws vs H Q E → vs.length = ps.length
  run : ∀ (A : Around) (outer : List Env) (s : Shared) (H : Hp) (us : List Value) (vs : List V) (ws : List (Option V)) (Q : VK) (E : XK), Room k A → Env0 P w K mg base A outer s H → H f = some B.O → H B.c = some (CodeH B.c B.q B.P) →
    NdefX.CellsAt B.cl fr ws s.heap H → Vals vs us → sp outer s ws vs H Q E → codeAny (model P w) A (.call (.ref f) ⟨us, []⟩) (CR CX outer P w H s Q E) s
theorem lamO_ne {f : Addr} {F : NdefX.NF} {e : Expr} : (∀ xs, LamO f F e ≠ .lst xs) ∧ (∀ C dx fs, LamO f F e ≠ .ins C dx fs) ∧ (∀ kv, LamO f F e ≠ .dK kv) ∧ ∀ ps, LamO f F e ≠ .tbl ps :=
  ⟨fun _ z => (by unfold LamO at z; cases z), fun _ _ _ z => (by unfold LamO at z; cases z), fun _ z => (by unfold LamO at z; cases z), fun _ z => (by unfold LamO at z; cases z)⟩
theorem codeH_ne {c : Addr} {q : Str} {P : Addr} : (∀ xs, CodeH c q P ≠ .lst xs) ∧ (∀ C dx fs, CodeH c q P ≠ .ins C dx fs) ∧ (∀ kv, CodeH c q P ≠ .dK kv) ∧ ∀ ps, CodeH c q P ≠ .tbl ps :=
  ⟨fun _ z => (by unfold CodeH at z; cases z), fun _ _ _ z => (by unfold CodeH at z; cases z), fun _ z => (by unfold CodeH at z; cases z), fun _ z => (by unfold CodeH at z; cases z)⟩
abbrev cbL (f : Addr) (F : NdefX.NF) (e : Expr) (Pt : Addr) : CB := ⟨LamO f F e, F.c, F.qual, F.cl, Pt⟩
section
variable {CX : CXT} {P : Program} {w : World} {K : PySem.W.Frag} {mg : Str → Option Value} {base : Heap} {N ps fr : List Str} {F : NdefX.NF} {f : Addr} {k j : Nat} {sp sp' : SpC} {B : CB} {e : Expr}
theorem CbOk.mono (o : CbOk P w K mg base CX j f B ps fr sp) (h : j ≤ k) : CbOk P w K mg base CX k f B ps fr sp := ⟨o.fn, o.ni, o.len, fun A outer s H us vs ws Q E hr => o.run A outer s H us vs ws Q E (hr.mono h)⟩
/-- a lambda by its body -/
theorem cb_lam {Pt : Addr} (S : NdefX.NScope N ps fr F.scope) (hb : ∀ (pm ctv : Value) (us : List Value), us.length = ps.length → bindArgs (PySem.W.kla_fn "<lambda>" F.qual F.params e F.scope F.cl pm (.ref F.c) ctv) ⟨us, []⟩ = pure (ps.zip us)) (len : ∀ outer s ws vs H Q E, sp outer s ws vs H Q E → vs.length = ps.length)
    (body : ∀ (A : Around) (outer : List Env) (s : Shared) (H : Hp) (vs : List V) (ws : List (Option V)) (Q : VK) (E : XK), Room k (A.deeper (NdefX.envF F f s.heap.objs.size)) → H f = some (LamO f F e) → H F.c = some (CodeH F.c F.qual Pt) → NdefX.CellsAt F.cl fr ws s.heap H → sp outer s ws vs H Q E →
      ∃ t, PE (NdefX.ncx CX P w K mg base N F f A outer s H E) e t ∧ t (NdefX.startF N vs ws) H Q) : CbOk P w K mg base CX (k + 1) f (cbL f F e Pt) ps fr sp := by
  refine ⟨fun H h ok x => let ⟨pm, ctv, ho⟩ := lamO_at ok x; ⟨_, _, _, _, ho⟩, lamO_ne, len, fun A outer s H us vs ws Q E hr e0 hf hc C r hsp => ?_⟩
  have ll := len _ _ _ _ _ _ _ hsp
  obtain ⟨pm, ctv, ho⟩ := lamO_at e0.hok hf
  have noLim : s.heap.NoLimit := e0.mod.nolimit.keeps fun b o x => (e0.bs b o x).1
  refine PySem.W.kla_callFunE hr.depth ho rfl S.co S.gen rfl (codeH_at e0.hok hc).1 ?_
  rw [hb pm ctv us (by rw [← r.length]; exact ll)]
  refine wpAny_pure (wpAny_newFunctionEnv S.nocell (fun ⟨n, _⟩ hy => S.par n (List.of_mem_zip hy).1) (fun h1 ns sb => ⟨noLim.fresh _ sb, ?_⟩) S.kind)
  have grow : ∀ b o, s.heap.get? b = some o → h1.get? b = some o := fun b o x => sb.extBut b o (Nat.ne_of_lt (Heap.lt_size x)) (Heap.get?_push_of_some _ x)
  obtain ⟨t, ht, hq⟩ := body A outer s H vs ws Q E (hr.deeper _) hf hc C hsp
  have I : Inv (NdefX.ncx CX P w K mg base N F f A outer s H E) [] (NdefX.startF N vs ws) H { s with heap := h1, toks := s.toks + (ps.zip us).length } := NdefX.inv_startN S hr.hd e0 ll r C ns grow
  refine PySem.W.kla_codeExpr (wpAny_mono (ht.run [] _ _ H Q I hq) (fun v s' z => ?_) fun x s' z => z)
  obtain ⟨v', H', J, rv, q⟩ := z
  exact ⟨v', H', J.os, J.bare, J.base, J.hok, rv, q⟩
end
/-! ### made -/
section
variable {X : Cx} {pins : List (Addr × Obj)} {σ : L2.St} {H : Hp} {s : Shared}
/-- the table is written, the code object at c is known from now on -/
theorem inv_tabC {P c P' : Addr} {q : Str} {ps more : Array Value} {h' : Heap} {t' : Nat} (I : Inv X pins σ H s) (hP : H P = some (.tbl ps)) (k : ∀ b o, b ≠ P → s.heap.get? b = some o → h'.get? b = some o)
    (hm : h'.get? P = some { cls := .none, data := .fields (ps ++ more) }) (hc : s.heap.objs.size ≤ c) (hlt : c < h'.objs.size) (hc2 : s.heap.objs.size ≤ P') (hne : c ≠ P') (hr : h'.CodeRec (.ref c) q ∧ PySem.W.CodeHd h' c P') (hP' : h'.get? P' = some { cls := .none, data := .fields #[] }) :
    Inv X pins σ (upd (upd (upd H P (.tbl (ps ++ more))) c (CodeH c q P')) P' (.tbl #[])) { s with heap := h', toks := t' } := by
  have nC : H c = none := I.hok.fresh hc
  have nP' : H P' = none := I.hok.fresh hc2
  have p1 : P ≠ c := fun z => by rw [z, nC] at hP; cases hP
  have p2 : P ≠ P' := fun z => by rw [z, nP'] at hP; cases hP
  have old : ∀ b o, s.heap.get? b = some o → b ≠ c ∧ b ≠ P' := fun b o x => ⟨fun z => by rw [z] at x; exact Nat.lt_irrefl _ (Nat.lt_of_lt_of_le (Heap.lt_size x) hc), fun z => by rw [z] at x; exact Nat.lt_irrefl _ (Nat.lt_of_lt_of_le (Heap.lt_size x) hc2)⟩
  have sm : ∀ b u, H b = some u → b ≠ c ∧ b ≠ P' := fun b u x => ⟨fun z => (by rw [z, nC] at x; cases x), fun z => (by rw [z, nP'] at x; cases x)⟩
  have rest : ∀ b, b ≠ P → b ≠ c → b ≠ P' → upd (upd (upd H P (.tbl (ps ++ more))) c (CodeH c q P')) P' (.tbl #[]) b = H b := fun b h1 h2 h3 => by rw [upd_ne h3, upd_ne h2, upd_ne h1]
  have tP : upd (upd (upd H P (.tbl (ps ++ more))) c (CodeH c q P')) P' (.tbl #[]) P = some (.tbl (ps ++ more)) := by rw [upd_ne p2, upd_ne p1, upd_same]
  have tC : upd (upd (upd H P (.tbl (ps ++ more))) c (CodeH c q P')) P' (.tbl #[]) c = some (CodeH c q P') := by rw [upd_ne hne, upd_same]
  have nTb : ∀ b u, H b = some u → (∀ q, u ≠ .tbl q) → b ≠ P := fun b u x n z => by
    rw [z, hP] at x
    exact n ps (Option.some.inj x).symm
  have nNo : ∀ b, H b = none → b ≠ P := fun b x z => by
    rw [z, hP] at x
    cases x
  have keepNT : ∀ b u, H b = some u → (∀ q, u ≠ .tbl q) → upd (upd (upd H P (.tbl (ps ++ more))) c (CodeH c q P')) P' (.tbl #[]) b = some u := fun b u x n => by
    rw [rest b (nTb b u x n) (sm b u x).1 (sm b u x).2]
    exact x
  refine I.step (g' := s.gens) (d' := s.drawn) (ch := []) (fun b hb => absurd hb (by simp)) (fun b o _ _ _ x n => k b o (nNo b n) x) (fun b o _ _ _ x n => ⟨o.slots, k b o (nNo b n) x⟩)
    (fun b o _ x n => by rw [rest b (nNo b n) (old b o x).1 (old b o x).2]; exact n) (fun b o _ x => ?_) (fun b xs x => keepNT b _ x fun _ z => by cases z) (fun b o u x => keepNT b _ x fun _ z => by cases z) (fun b qs x => ?_) (fun m hn => ?_) (fun b u x => ?_) I.bare
  · by_cases hb : b = P
    · rw [hb]
      exact ⟨_, hm⟩
    · exact ⟨o, k b o hb x⟩
  · by_cases hb : b = P
    · rw [hb, hP] at x
      cases x
      rw [hb, tP]
      exact ⟨more, rfl⟩
    · rw [rest b hb (sm b _ x).1 (sm b _ x).2, x]
      exact ⟨#[], by simp⟩
  · obtain ⟨ob, es, ep, ho, r⟩ := hn
    exact ⟨ob, es, ep, k _ ob (nNo _ I.free) ho, r⟩
  · by_cases h3 : b = P'
    · rw [h3, upd_same] at x
      cases x
      rw [h3]
      exact hP'
    · by_cases h2 : b = c
      · rw [h2, tC] at x
        cases x
        rw [h2]
        obtain ⟨o, vs, f1, f2, f3, f4, f5, f6, f7, e1, e2⟩ := id hr.2
        exact ⟨hr, ⟨o, e1⟩, fun h1 h2 ⟨⟨c0, o0, v0, t0, y1, y2, y3⟩, z⟩ st => by
          cases y1
          obtain ⟨o9, vs9, g1, g2, g3, g4, g5, g6, g7, e9, r9⟩ := z
          exact ⟨⟨_, o0, v0, t0, rfl, st _ y2, y3⟩, o9, vs9, g1, g2, g3, g4, g5, g6, g7, st _ e9, r9⟩⟩
      · by_cases h1 : b = P
        · rw [h1, tP] at x
          cases x
          rw [h1]
          exact hm
        · rw [rest b h1 h2 h3] at x
          refine (I.hok b u x).stay (fun d v hd q => k d v ?_ q) (fun d q => keepNT d _ q fun _ z => by cases z) fun d xs q => keepNT d _ q fun _ z => by cases z
          rcases hd with z | z
          · rw [z]
            exact h1
          · exact nTb d _ z fun _ y => by cases y
/-- a lambda just pushed is known from now on -/
theorem inv_lamO {F : NdefX.NF} {e : Expr} {o : Obj} {pm ctv : Value} {t' : Nat} (I : Inv X pins σ H s) (ho : o = PySem.W.kla_obj "<lambda>" F.qual F.params e F.scope F.cl pm F.c ctv) : Inv X pins σ (upd H s.heap.objs.size (LamO s.heap.objs.size F e)) { s with heap := s.heap.push o, toks := t' } := by
  subst ho
  have here : (s.heap.push (PySem.W.kla_obj "<lambda>" F.qual F.params e F.scope F.cl pm F.c ctv)).get? s.heap.objs.size = some (PySem.W.kla_obj "<lambda>" F.qual F.params e F.scope F.cl pm F.c ctv) := Heap.get?_push_size _ rfl
  exact I.laid (a := s.heap.objs.size) (fun b u x => Heap.get?_push_of_some _ x) (Nat.le_refl _) ⟨⟨pm, ctv, here⟩, ⟨_, here⟩, fun h1 h2 ⟨a, b, z⟩ st => ⟨a, b, st _ z⟩⟩
/-- what it needs to make lambdas: the frame's code object, in the heap -/
structure Mk (X : Cx) (c P : Addr) (s : Shared) : Prop where
  code : X.env.code = .ref c
  hd : PySem.W.CodeHd s.heap c P
end
end Own

set_option Elab.async false
set_option linter.all false
set_option maxRecDepth 100000
set_option maxHeartbeats 4000000
namespace Own
open PySem PySem.Spec PyProof.Rows L2
section
variable {M : Model} {A : Around} {E : Value → Shared → Prop} {s : Shared} {c P : Addr} {mg : Str → Option Value} {name qual : Str} {params : Arguments} {body : Expr} {scope : Scope} {env : Env} {ps : Array Value} {pos : Pos} {line : Nat} {clos : List (Str × Addr)} {Q : Value → Shared → Prop}
/-- a lambda's object made with a new code object: its own table is told too -/
theorem lamNew (hcl : closureFor scope env = pure clos) (hgl : env.globals = mainGlobals) (hg : s.heap.Ns mainGlobals mg) (hcode : env.code = .ref c) (C : PySem.W.CodeHd s.heap c P) (hP : s.heap.get? P = some (PySem.W.tabObj ps)) (ht : TriplesOk ps.toList) (hnf : codeAmong pos ps.toList = none) (hgP : mainGlobals ≠ P) (hb : s.heap.BuiltinsAt mg P)
    (go : ∀ (c' P' : Addr) (ctv : Value) (h' : Heap) (tk : Tok), Heap.ExtBut P s.heap h' → s.heap.objs.size ≤ c' → c' < h'.objs.size → s.heap.objs.size ≤ P' → c' ≠ P' → h'.CodeRec (.ref c') qual → PySem.W.CodeHd h' c' P' → h'.get? P' = some (PySem.W.tabObj #[]) → h'.get? P = some (PySem.W.tabObj (ps ++ #[rawInt pos.line, rawInt pos.col, .ref c'])) →
      Q (.ref h'.objs.size) { s with heap := h'.push (PySem.W.kla_obj name qual params body scope clos ((mg "__name__").getD .none) c' ctv), toks := tk }) : wpAny M A (makeFunction name qual params (.expr body) scope env [] [] [] pos line) Q E s := by
  rw [makeFunction_eq]
  simp only [List.zip_nil_right, List.filterMap_nil, List.isEmpty_nil, if_true, pure_bind]
  obtain ⟨bm, ob, b1, b2, b3, b4, b5, b6, b7, b8⟩ := hb
  have ends : ∀ {ct : Value} {h0 : Heap} {c' : Addr} {h' : Heap} {tk : Tok}, (∀ b o, s.heap.get? b = some o → h0.get? b = some o) → s.heap.objs.size ≤ h0.objs.size → Heap.ExtBut P h0 h' → h0.objs.size ≤ c' → c' < h'.objs.size → h'.CodeRec (.ref c') qual → h'.TableAt c P (ps ++ #[rawInt pos.line, rawInt pos.col, .ref c']) → (∃ P', h0.objs.size ≤ P' ∧ h'.IsCode c' P' #[] ∧ h'.TableAt c' P' #[]) →
      Q (.ref h'.objs.size) { s with heap := h'.push (PySem.W.kla_obj name qual params body scope clos ((mg "__name__").getD .none) c' ct), toks := tk } := by
    intro ct h0 c' h' tk k0 z0 hx ge lt rec tab ⟨P', gP, i1, i2⟩
    refine go c' P' ct h' tk (fun b o nb x => hx b o nb (k0 b o x)) (Nat.le_trans z0 ge) lt (Nat.le_trans z0 gP) ?_ rec (PySem.W.CodeHd.of i1 i2) i2.2 tab.2
    obtain ⟨_, _, _, _, _, _, _, _, _, _, _, _, _, _, _, _, _, _, _, _, ne⟩ := i1
    exact ne
  show wpAny M A (makeTail name qual params (.expr body) scope env .none .none none pos line) Q E s
  unfold makeTail
  rw [hcl, hgl]
  refine wpAny_bind (wpAny_pure ?_)
  cases clos with
  | nil =>
    simp only [List.isEmpty_nil, if_true]
    refine wpAny_bind (wpAny_pure (wpAny_bind (wpAny_functionCodeX hcode (C.code hP ht) (C.tab hP) hnf fun c' h' tk hx ge lt _ rec tab sub => ?_)))
    have g2 := hg.extBut hx hgP
    refine wpAny_bind (wpAny_builtinsFor g2 b1 b2 (hx _ _ b4 b5) b6 b7 b8 (wpAny_bind (wpAny_nsGet g2 ?_)))
    exact wpAny_bind (wpAny_pure (wpAny_newObj_type (ends (fun _ _ x => x) (Nat.le_refl _) hx ge lt rec tab sub) (by size_fits)))
  | cons q r =>
    simp only [List.isEmpty_cons, Bool.false_eq_true, if_false]
    have k0 : ∀ (o0 : Obj) b o, s.heap.get? b = some o → (s.heap.push o0).get? b = some o := fun _ b o x => Heap.get?_push_of_some _ x
    refine wpAny_bind (wpAny_newTextTuple ?_)
    refine wpAny_bind (wpAny_functionCodeX hcode ((C.keeps (k0 _)).code (k0 _ _ _ hP) ht) ((C.keeps (k0 _)).tab (k0 _ _ _ hP)) hnf fun c' h' tk hx ge lt _ rec tab sub => ?_)
    have g2 := (hg.push _).extBut hx hgP
    refine wpAny_bind (wpAny_builtinsFor g2 b1 b2 (hx _ _ b4 (k0 _ _ _ b5)) b6 b7 b8 (wpAny_bind (wpAny_nsGet g2 ?_)))
    exact wpAny_bind (wpAny_pure (wpAny_newObj_type (ends (k0 _) (by rw [Heap.size_push]; omega) hx ge lt rec tab sub) (by size_fits)))
end

section
variable {X : Cx} {pins : List (Addr × Obj)} {σ : L2.St} {H : Hp} {s : Shared}
abbrev lamF (X : Cx) (params : Arguments) (scope : Scope) (c' : Addr) : NdefX.NF := ⟨"<lambda>", X.env.qual ++ "<lambda>", params, [], scope, cloFrom X.env.cells scope.names [], c'⟩
theorem lam_makeC {B : List (Addr × Str)} {c P : Addr} {params : Arguments} {body : Expr} {scope : Scope} {pos : Pos} {E Q : Value → Shared → Prop} (I : Inv X pins σ H s) (hcode : X.env.code = .ref c) (hC : PySem.W.CodeHd s.heap c P) (hm : (P, X.env.qual ++ "<lambda>") ∈ B) (hT : TW X.base X.mg B H)
    (hdef : defaultsOf params X.env = ([], [])) (hfree : ∀ y ∈ scope.names, y.2 = .free → ∃ c, X.env.cells.lookup y.1 = some c)
    (go : ∀ (f c' P' : Addr) (H1 : Hp) (s' : Shared), Inv X pins σ H1 s' → LamX.ExtN H H1 → (∀ b, H1 b = none → H b = none) → TW X.base X.mg ((P', qSub (X.env.qual ++ "<lambda>")) :: B) H1 → H f = none → H1 f = some (LamO f (lamF X params scope c') body) → H1 c' = some (CodeH c' (X.env.qual ++ "<lambda>") P') → Q (.ref f) s') :
    wpAny (model X.prog X.w) X.A (eval (.Lambda params body scope pos) X.env) Q E s := by
  obtain ⟨T, TC, sub⟩ := hT
  obtain ⟨⟨gP, bP0⟩, ps, hP, ht, ha⟩ := TC.at_ _ (sub _ hm)
  have bP : s.heap.BuiltinsAt X.mg P := bP0.keeps I.bk
  have tP : s.heap.get? P = some (PySem.W.tabObj ps) := I.hok P _ hP
  refine PySem.W.kla_eval hdef ?_
  cases hc : codeAmong pos ps.toList with
  | none =>
    refine lamNew (closure_ok hfree) I.ok.glob (I.mod.glob.keeps I.bk) hcode hC tP ht hc gP bP fun c' P' ctv h' tk hx ge lt gP' ne rec hd hP2 tab => ?_
    have I1 := inv_tabC (t' := tk) (more := #[rawInt pos.line, rawInt pos.col, .ref c']) (h' := h') I hP (fun b o nb x => hx b o nb x) tab ge lt gP' ne ⟨rec, hd⟩ hP2
    have I2 := inv_lamO (F := lamF X params scope c') (e := body) (t' := tk) (pm := (X.mg "__name__").getD .none) (ctv := ctv) I1 rfl
    have nC : H c' = none := I.hok.fresh ge
    have nP' : H P' = none := I.hok.fresh gP'
    have nF := I1.hok.fresh (Nat.le_refl _)
    have nF0 : H h'.objs.size = none := I.hok.fresh (Nat.le_trans ge (Nat.le_of_lt lt))
    have p1 : P ≠ c' := fun z => by rw [z, nC] at hP; cases hP
    have p2 : P ≠ P' := fun z => by rw [z, nP'] at hP; cases hP
    have kE : LamX.ExtN H (upd (upd (upd H P (.tbl (ps ++ #[rawInt pos.line, rawInt pos.col, .ref c']))) c' (CodeH c' (X.env.qual ++ "<lambda>") P')) P' (.tbl #[])) := fun b o x n => by
      rw [upd_ne (fun z => by rw [z, nP'] at x; cases x), upd_ne (fun z => by rw [z, nC] at x; cases x), upd_ne (fun z => by rw [z, hP] at x; exact n ps (Option.some.inj x).symm)]
      exact x
    have sF : Same (upd (upd (upd H P (.tbl (ps ++ #[rawInt pos.line, rawInt pos.col, .ref c']))) c' (CodeH c' (X.env.qual ++ "<lambda>") P')) P' (.tbl #[])) (upd (upd (upd (upd H P (.tbl (ps ++ #[rawInt pos.line, rawInt pos.col, .ref c']))) c' (CodeH c' (X.env.qual ++ "<lambda>") P')) P' (.tbl #[])) h'.objs.size (LamO h'.objs.size (lamF X params scope c') body)) := same_new nF
    have eC : upd (upd (upd H P (.tbl (ps ++ #[rawInt pos.line, rawInt pos.col, .ref c']))) c' (CodeH c' (X.env.qual ++ "<lambda>") P')) P' (.tbl #[]) c' = some (CodeH c' (X.env.qual ++ "<lambda>") P') := by rw [upd_ne ne, upd_same]
    have eP : upd (upd (upd H P (.tbl (ps ++ #[rawInt pos.line, rawInt pos.col, .ref c']))) c' (CodeH c' (X.env.qual ++ "<lambda>") P')) P' (.tbl #[]) P = some (.tbl (ps ++ #[rawInt pos.line, rawInt pos.col, .ref c'])) := by rw [upd_ne p2, upd_ne p1, upd_same]
    have eL : (ps ++ #[rawInt pos.line, rawInt pos.col, .ref c']).toList = ps.toList ++ [rawInt pos.line, rawInt pos.col, .ref c'] := by simp
    have hG : mainGlobals < s.heap.objs.size := by
      obtain ⟨ob, es, ep, ho, _⟩ := I.mod.glob.keeps I.bk
      exact Heap.lt_size ho
    have cH : ∀ {c0 Pa : Addr} {q0 : Str}, H c0 = some (CodeH c0 q0 Pa) → upd (upd (upd H P (.tbl (ps ++ #[rawInt pos.line, rawInt pos.col, .ref c']))) c' (CodeH c' (X.env.qual ++ "<lambda>") P')) P' (.tbl #[]) c0 = some (CodeH c0 q0 Pa) := fun x => kE _ _ x codeH_ne.2.2.2
    have TN : TabsC X.base X.mg ((P', qSub (X.env.qual ++ "<lambda>")) :: T) (upd (upd (upd H P (.tbl (ps ++ #[rawInt pos.line, rawInt pos.col, .ref c']))) c' (CodeH c' (X.env.qual ++ "<lambda>") P')) P' (.tbl #[])) := by
      have notT : ∀ p ∈ T, p.1 ≠ P' := fun p hp z => by
        obtain ⟨_, ps9, e9, _⟩ := TC.at_ p hp
        rw [z, nP'] at e9
        cases e9
      refine ⟨fun p hp => ?_, fun p hp p' hp' e => ?_⟩
      · rcases List.mem_cons.mp hp with rfl | hp
        · refine ⟨⟨fun z => ?_, ?_⟩, #[], upd_same, True.intro, fun pos cv hc => ?_⟩
          · have z : mainGlobals = P' := z
            rw [z] at hG
            exact Nat.lt_irrefl _ (Nat.lt_of_lt_of_le hG gP')
          · obtain ⟨bm, ob, b1, b2, b3, b4, b5, b6⟩ := bP0
            refine ⟨bm, ob, b1, b2, b3, fun z => ?_, b5, b6⟩
            have z : bm = P' := z
            have l1 := Heap.lt_size (I.bk _ _ b5)
            rw [z] at l1
            exact Nat.lt_irrefl _ (Nat.lt_of_lt_of_le l1 gP')
          · have z : codeAmong pos [] = some cv := hc
            simp [codeAmong] at z
        · obtain ⟨g9, ps9, e9, t9, a9⟩ := TC.at_ p hp
          by_cases hb : p.1 = P
          · have q9 : p.2 = X.env.qual ++ "<lambda>" := TC.one p hp _ (sub _ hm) hb
            rw [hb] at g9 e9 ⊢
            rw [hP] at e9
            cases e9
            refine ⟨g9, _, eP, by rw [eL]; exact PySem.TriplesOk_snoc _ _ _ _ ht, fun p0 cv hcv => ?_⟩
            rw [eL] at hcv
            rcases LamX.among_app _ ht hcv with z | z
            · obtain ⟨c0, P0, x1, x2, x3⟩ := a9 p0 cv z
              exact ⟨c0, P0, x1, cH x2, List.mem_cons_of_mem _ x3⟩
            · refine ⟨c', P', z, ?_, ?_⟩
              · rw [q9]
                exact eC
              · rw [q9]
                exact List.mem_cons_self
          · refine ⟨g9, ps9, ?_, t9, fun p0 cv hcv => ?_⟩
            · rw [upd_ne (notT p hp), upd_ne (fun z => by rw [z, nC] at e9; cases e9), upd_ne hb]
              exact e9
            · obtain ⟨c0, P0, x1, x2, x3⟩ := a9 p0 cv hcv
              exact ⟨c0, P0, x1, cH x2, List.mem_cons_of_mem _ x3⟩
      · rcases List.mem_cons.mp hp with rfl | hp
        · rcases List.mem_cons.mp hp' with rfl | hp'
          · rfl
          · exact absurd e.symm (notT p' hp')
        · rcases List.mem_cons.mp hp' with rfl | hp'
          · exact absurd e (notT p hp)
          · exact TC.one p hp p' hp' e
    refine go h'.objs.size c' P' _ _ I2 (fun b o x n => sF _ _ (kE _ _ x n)) (fun b x => ?_) (TW.same ⟨_, TN, fun p hp => ?_⟩ sF) nF0 upd_same (sF _ _ eC)
    · have z := NdefX.upd_none (NdefX.upd_none (NdefX.upd_none (NdefX.upd_none x)))
      exact z
    · rcases List.mem_cons.mp hp with rfl | hp
      · exact List.mem_cons_self
      · exact List.mem_cons_of_mem _ (sub p hp)
  | some cv =>
    obtain ⟨c', P', rfl, x2, x3⟩ := ha pos cv hc
    refine PySem.W.kla_makeFunctionHit (mg := X.mg) (closure_ok hfree) I.ok.glob (I.mod.glob.keeps I.bk) hcode hC tP ht hc bP fun ctv h' tk hx ge => ?_
    have I1 : Inv X pins σ H { s with heap := h', toks := tk } := I.kept hx
    have nF := I1.hok.fresh (Nat.le_refl _)
    have I2 := inv_lamO (F := lamF X params scope c') (e := body) (t' := tk) (pm := (X.mg "__name__").getD .none) (ctv := ctv) I1 rfl
    have sF : Same H (upd H h'.objs.size (LamO h'.objs.size (lamF X params scope c') body)) := same_new nF
    exact go h'.objs.size c' P' _ _ I2 (fun b o x n => sF _ _ x) (fun b x => NdefX.upd_none x) (TW.same ⟨T, TC, fun p hp => (List.mem_cons.mp hp).elim (fun z => z ▸ x3) (sub p)⟩ sF) nF upd_same (sF _ _ x2)
/-- a lambda as a value: told: the object, its code object, its table -/
def tLamC (X : Cx) (B : List (Addr × Str)) (c P : Addr) (params : Arguments) (body : Expr) (scope : Scope) : TE := fun σ H Q => TW X.base X.mg B H ∧ (∀ h, HOk X.prog X.w H h → X.base.StaysIn h → PySem.W.CodeHd h c P) ∧ (P, X.env.qual ++ "<lambda>") ∈ B ∧
  ∀ (f c' P' : Addr) (H1 : Hp), LamX.ExtN H H1 → (∀ b, H1 b = none → H b = none) → TW X.base X.mg ((P', qSub (X.env.qual ++ "<lambda>")) :: B) H1 → H f = none → H1 f = some (LamO f (lamF X params scope c') body) → H1 c' = some (CodeH c' (X.env.qual ++ "<lambda>") P') → Q (.ref f) H1
theorem pe_lamC {B : List (Addr × Str)} {c P : Addr} {params : Arguments} {body : Expr} {scope : Scope} {pos : Pos} (hcode : X.env.code = .ref c) (hdef : defaultsOf params X.env = ([], [])) (hfree : ∀ y ∈ scope.names, y.2 = .free → X.env.scope.names.lookup y.1 = some .cell ∨ X.env.scope.names.lookup y.1 = some .free) :
    PE X (.Lambda params body scope pos) (tLamC X B c P params body scope) := by
  refine ⟨fun pins s σ H Q I h => ?_⟩
  obtain ⟨hT, hC, hm, go⟩ := h
  have hf : ∀ y ∈ scope.names, y.2 = .free → ∃ c, X.env.cells.lookup y.1 = some c := fun y hy e => (hfree y hy e).elim (fun z => I.ok.has _ (.inl z)) fun z => I.ok.has _ (.inr z)
  refine lam_makeC I hcode (hC _ I.hok fun b o e => I.bk b o e) hm hT hdef hf fun f c' P' H1 s' I1 e1 e2 e3 e4 e5 e6 => ?_
  exact ⟨.ref f, H1, I1, rfl, go f c' P' H1 e1 e2 e3 e4 e5 e6⟩
end
/-! ### called -/
section
variable {X : Cx} {CX : CXT} {k : Nat} {f : Addr} {B : CB} {ps fr : List Str} {sp : SpC} {ws : List (Option V)} {x : Str} {i : Nat} {e : Expr} {es : List Expr} {p pos : Pos} {t : TA} {Ew : L2.St → XK}
theorem run_cb {pins : List (Addr × Obj)} {σ : L2.St} {H : Hp} {s : Shared} {Q : VK} {us : List Value} {vs : List V} (Fn : CbOk X.prog X.w X.K X.mg X.base CX k f B ps fr sp) (hr : Room k X.A) (hx : ∀ σ, PassesAt CX X σ (Ew σ)) (I : Inv X pins σ H s) (hf : H f = some B.O) (hc : H B.c = some (CodeH B.c B.q B.P)) (C : NdefX.CellsAt B.cl fr ws s.heap H)
    (r : Vals vs us) (q : sp X.stack s ws vs H Q (Ew σ)) : wpAny (model X.prog X.w) X.A (call (.ref f) us) (EP X pins σ Q) X.xe s := by
  refine wpAny_call (codeAny_mono (Fn.run X.A X.stack s H us vs ws Q (Ew σ) hr I.env0 hf hc C r q) fun r s' z => ?_)
  cases r with
  | error x => exact hx σ pins H s x s' I z
  | ok fl => cases fl with
    | ret u => exact I.after z
    | next => exact False.elim z
    | brk => exact False.elim z
    | cont => exact False.elim z
/-- x(e, ..), x a name that holds what may be called -/
def tCallB (X : Cx) (CX : CXT) (k : Nat) (ps : List Str) (i : Nat) (Ew : L2.St → XK) (t : TA) : TE := fun σ H Q => ∃ (f : Addr) (B : CB), σ[i]? = some (some (.ref f)) ∧ H f = some B.O ∧ (∀ h, HOk X.prog X.w H h → PySem.W.FnAt f h) ∧
  t σ H fun vs H1 => ∃ (fr : List Str) (ws : List (Option V)) (sp : SpC), CbOk X.prog X.w X.K X.mg X.base CX k f B ps fr sp ∧ H1 f = some B.O ∧ H1 B.c = some (CodeH B.c B.q B.P) ∧
    ∀ pins s, Inv X pins σ H1 s → NdefX.CellsAt B.cl fr ws s.heap H1 ∧ sp X.stack s ws vs H1 Q (Ew σ)
theorem pe_callB1 (hr : Room k X.A) (hx : ∀ σ, PassesAt CX X σ (Ew σ)) (hN : X.N[i]? = some x) (hv : Vis X.env.scope x) (ha : PA X (e :: es) t)
    (hd : (x == ("__debug__" : Str)) = false := by decide) (hcd : (x == ("__classdict__" : Str)) = false := by decide)
    (he : starEach (e :: es) X.env = (false, eval e X.env) :: starEach es X.env := by rfl) (hpl : (backTo pos (starEach es X.env)).any (·.1) = false := by rfl) :
    PE X (.Call (.Name x p) (e :: es) [] pos) (tCallB X CX k ps i Ew t) := by
  refine ⟨fun pins s σ H Q I h => ?_⟩
  obtain ⟨f, B, hs, hf, hfn, ht⟩ := h
  obtain ⟨u, ru, ld⟩ := ld_var (E := X.xe) (pos := p) I hN hv hs hd hcd
  obtain rfl : u = Value.ref f := ru
  refine wpAny_Call_Name_kw (ld _ ?_)
  refine PySem.W.callWith_F (first := []) (hfn _ I.hok) (thn (ha.run pos pins s σ H _ I ht) fun us s2 z => ?_) he hpl
  obtain ⟨vs, H2, I2, r, fr, ws, sp, Fn, h1, h2, hq⟩ := z
  obtain ⟨C, q⟩ := hq pins s2 I2
  exact ⟨Fn.fn _ _ I2.hok h1, run_cb Fn hr hx I2 h1 h2 C r q⟩
/-- x() -/
def tCallB0 (X : Cx) (CX : CXT) (k : Nat) (i : Nat) (Ew : L2.St → XK) : TE := fun σ H Q => ∃ (f : Addr) (B : CB) (fr : List Str) (ws : List (Option V)) (sp : SpC), σ[i]? = some (some (.ref f)) ∧ CbOk X.prog X.w X.K X.mg X.base CX k f B [] fr sp ∧ H f = some B.O ∧ H B.c = some (CodeH B.c B.q B.P) ∧
  ∀ pins s, Inv X pins σ H s → NdefX.CellsAt B.cl fr ws s.heap H ∧ sp X.stack s ws [] H Q (Ew σ)
theorem pe_callB0 (hr : Room k X.A) (hx : ∀ σ, PassesAt CX X σ (Ew σ)) (hN : X.N[i]? = some x) (hv : Vis X.env.scope x) (hd : (x == ("__debug__" : Str)) = false := by decide) (hcd : (x == ("__classdict__" : Str)) = false := by decide) : PE X (.Call (.Name x p) [] [] pos) (tCallB0 X CX k i Ew) := by
  refine ⟨fun pins s σ H Q I h => ?_⟩
  obtain ⟨f, B, fr, ws, sp, hs, Fn, h1, h2, hq⟩ := h
  obtain ⟨u, ru, ld⟩ := ld_var (E := X.xe) (pos := p) I hN hv hs hd hcd
  obtain rfl : u = Value.ref f := ru
  refine wpAny_Call_Name_kw (ld _ ?_)
  obtain ⟨C, q⟩ := hq pins s I
  exact PySem.W.callWith_F0 (first := []) (Fn.fn _ _ I.hok h1) (run_cb Fn hr hx I h1 h2 C .nil q)
/-- nothing is let out -/
theorem at0 {X : Cx} : ∀ σ, PassesAt CX0 X σ E0 := fun _ _ _ _ _ _ _ h => h.elim
theorem atN {X : Cx} : ∀ σ, PassesAt (L2.CX X.prog X.w) X σ E0 := fun _ _ _ _ _ _ _ h => by
  obtain ⟨_, _, _, _, _, _, _, _, _, _, _, _, z⟩ := h
  exact z.elim
theorem passL {X : Cx} : Passes (L2.CX X.prog X.w) X E0 := fun _ _ _ _ _ _ _ h => by
  obtain ⟨_, _, _, _, _, _, _, _, _, _, _, _, z⟩ := h
  exact z.elim
end
end Own

set_option Elab.async false
set_option linter.all false
set_option maxRecDepth 100000
set_option maxHeartbeats 4000000
/-! Places of lambdas in a text; raising: an own class without arguments, a division by zero. -/
namespace Own
open PySem PySem.Spec PyProof.Rows L2
def exN : Expr := .Name "" ⟨0, 0, 0, 0⟩
def stN : Stmt := .Pass ⟨0, 0, 0, 0⟩
def eArg (i : Nat) : Expr → Expr
  | .Call _ l _ _ => l.getD i exN
  | .Compare _ _ l _ => l.getD i exN
  | .BoolOp _ l _ => l.getD i exN
  | .List l _ => l.getD i exN
  | .Tuple l _ _ => l.getD i exN
  | _ => exN
def eFun : Expr → Expr
  | .Call f _ _ _ => f
  | .Attribute v _ _ => v
  | .Compare l _ _ _ => l
  | .Subscript v _ _ => v
  | .UnaryOp _ o _ => o
  | .BinOp l _ _ _ => l
  | .IfExp t _ _ _ => t
  | _ => exN
def sVal : Stmt → Expr
  | .Assign _ e _ => e
  | .Expr e _ => e
  | .Return (some e) _ => e
  | .If t _ _ _ => t
  | .For _ e _ _ _ => e
  | _ => exN
def sBody (i : Nat) : Stmt → Stmt
  | .If _ b _ _ => b.getD i stN
  | .For _ _ b _ _ => b.getD i stN
  | .While _ b _ _ => b.getD i stN
  | .Try b _ _ _ _ => b.getD i stN
  | _ => stN
def sElse (i : Nat) : Stmt → Stmt
  | .If _ _ b _ => b.getD i stN
  | _ => stN
def lamP : Expr → Arguments
  | .Lambda p _ _ _ => p
  | _ => ⟨[], [], none, [], [], none, []⟩
def lamB : Expr → Expr
  | .Lambda _ b _ _ => b
  | .IfExp _ b _ _ => b
  | _ => exN
def lamSc : Expr → Scope
  | .Lambda _ _ s _ => s
  | _ => C8.fnScope stN
def lamPos : Expr → Pos
  | .Lambda _ _ _ p => p
  | _ => ⟨0, 0, 0, 0⟩
abbrev lfE (e : Expr) (q : Str) (cl : List (Str × Addr)) (c' : Addr) : NdefX.NF := ⟨"<lambda>", q, lamP e, [], lamSc e, cl, c'⟩
section
variable {X : Cx} {W : WX} {k : Nat}
/-- what making the lambda e gives -/
def tLamS (X : Cx) (c : Addr) (e : Expr) (cl : List (Str × Addr)) (q : Str) : TE := fun σ H Q => ∃ (B : List (Addr × Str)) (P : Addr), TW X.base X.mg B H ∧ (∀ h, HOk X.prog X.w H h → X.base.StaysIn h → PySem.W.CodeHd h c P) ∧ (P, q) ∈ B ∧
  ∀ (f c' P' : Addr) (H1 : Hp), LamX.ExtN H H1 → (∀ b, H1 b = none → H b = none) → TW X.base X.mg ((P', qSub q) :: B) H1 → H f = none → H1 f = some (LamO f (lfE e q cl c') (lamB e)) → H1 c' = some (CodeH c' q P') → Q (.ref f) H1
theorem pe_lamS {c : Addr} {e : Expr} {q : Str} (he : e = .Lambda (lamP e) (lamB e) (lamSc e) (lamPos e)) (hq : q = X.env.qual ++ "<lambda>") (hcode : X.env.code = .ref c) (hdef : defaultsOf (lamP e) X.env = ([], [])) (hfree : ∀ y ∈ (lamSc e).names, y.2 = .free → X.env.scope.names.lookup y.1 = some .cell ∨ X.env.scope.names.lookup y.1 = some .free) :
    PE X e (tLamS X c e (cloFrom X.env.cells (lamSc e).names []) q) := by
  subst hq
  have h : ∀ B P, PE X (.Lambda (lamP e) (lamB e) (lamSc e) (lamPos e)) (tLamC X B c P (lamP e) (lamB e) (lamSc e)) := fun B P => pe_lamC (B := B) (P := P) hcode hdef hfree
  rw [← he] at h
  refine ⟨fun pins s σ H Q I ⟨B, P, h1, h2, h3, h4⟩ => (h B P).run pins s σ H Q I ⟨h1, h2, h3, fun f c' P' H1 a1 a2 a3 a4 a5 a6 => h4 f c' P' H1 a1 a2 a3 a4 a5 a6⟩⟩
/-- X(): an own exception class without own __init__ -/
theorem pmk_own0 {C : Addr} {l : List Value} {N nw it : String} {x : Str} {p pos : Pos} (F : ExcBaseFacts N nw it l) (q : PySem.W.excIn X.K C l nw = true) (gC : X.mg x = some (.ref C)) (kC : PySem.W.keepIn X.K (.ref C) = true) (r : Raises X (.ref C)) (hg : Gl X x) (hdb : (x == ("__debug__" : Str)) = false := by decide) :
    PMk X (.Call (.Name x p) [] [] pos) (fun _ H Q => Q (.ref C) none H) := by
  intro pins s σ H Q I h
  refine wpAny_Call_Name_kw (ld_glob I hg gC (PySem.W.callWith_K0 (first := []) I.kIn kC ?_) hdb)
  obtain ⟨_, _, _, _, _, _, _, _, _, _, _, _, _, _, _, _, _, c1, c2, c3, c4⟩ := exc_obj I.kIn q
  exact wpAny_call_exc_subT F c4 c1 c2 c3 (fun h' e hm => mk_of I hm r h (I.hok.gone hm.new)) (Nat.zero_le _)
/-- a // 0 -/
theorem pe_divZ {a b : Expr} {ta tb : TE} {pos : Pos} (hc : X.calm = true) (tk : Takes X W) (ha : PE X a ta) (hb : PE X b tb) :
    PE X (.BinOp a .FloorDiv b pos) (fun σ H Q => ta σ H fun x H1 => tb σ H1 fun y H2 => (∃ i : Int, x = .int i) ∧ y = .int 0 ∧ ∀ d, W (.type "ZeroDivisionError") d σ H2) := by
  refine ⟨fun pins s σ H Q I h => ?_⟩
  refine wpAny_BinOp (binT ha hb I (R := fun x y H2 => (∃ i : Int, x = .int i) ∧ y = .int 0 ∧ ∀ d, W (.type "ZeroDivisionError") d σ H2) h fun v u s2 x y H2 I2 rx ry z => ?_)
  obtain ⟨⟨i, rfl⟩, rfl, go⟩ := z
  obtain ⟨t1, rfl⟩ := (show ∃ t, v = Value.int i t from rx)
  obtain ⟨t2, rfl⟩ := (show ∃ t, u = Value.int 0 t from ry)
  exact PySem.AutoIntOps.floordiv_0 rfl ⟨I2.ok.hd hc, fun h' tk' e n => takes_new (t' := tk') tk I2 n go⟩
end

/-! ### called where it was handed to: told from the frame's entry on -/
def tCallK (P : Program) (w : World) (K : PySem.W.Frag) (mg : Str → Option Value) (base : Heap) (o0 : List Env) (s0 : Shared) (H0 : Hp) (CX : CXT) (k : Nat) (ps : List Str) (i : Nat) (Ew : L2.St → XK) (t : TA) : TE := fun σ H Q => ∃ (f : Addr) (B : CB), σ[i]? = some (some (.ref f)) ∧ H f = some B.O ∧ (∀ h, HOk P w H h → PySem.W.FnAt f h) ∧
  t σ H fun vs H1 => ∃ (fr : List Str) (ws : List (Option V)) (sp : SpC), CbOk P w K mg base CX k f B ps fr sp ∧ H1 f = some B.O ∧ H1 B.c = some (CodeH B.c B.q B.P) ∧ ∀ outer' s', CK o0 s0 H0 outer' s' H1 → NdefX.CellsAt B.cl fr ws s'.heap H1 ∧ sp outer' s' ws vs H1 Q (Ew σ)
def tCallK0 (P : Program) (w : World) (K : PySem.W.Frag) (mg : Str → Option Value) (base : Heap) (o0 : List Env) (s0 : Shared) (H0 : Hp) (CX : CXT) (k : Nat) (i : Nat) (Ew : L2.St → XK) : TE := fun σ H Q => ∃ (f : Addr) (B : CB) (fr : List Str) (ws : List (Option V)) (sp : SpC), σ[i]? = some (some (.ref f)) ∧ CbOk P w K mg base CX k f B [] fr sp ∧ H f = some B.O ∧ H B.c = some (CodeH B.c B.q B.P) ∧
  ∀ outer' s', CK o0 s0 H0 outer' s' H → NdefX.CellsAt B.cl fr ws s'.heap H ∧ sp outer' s' ws [] H Q (Ew σ)
section
variable {X : Cx} {CX : CXT} {k i : Nat} {ps : List Str} {Ew : L2.St → XK} {x : Str} {e : Expr} {es : List Expr} {p pos : Pos} {t : TA}
theorem pe_callK1 (hex : X.ex = []) (hr : Room k X.A) (hx : ∀ σ, PassesAt CX X σ (Ew σ)) (hN : X.N[i]? = some x) (hv : Vis X.env.scope x) (ha : PA X (e :: es) t)
    (hd : (x == ("__debug__" : Str)) = false := by decide) (hcd : (x == ("__classdict__" : Str)) = false := by decide)
    (he : starEach (e :: es) X.env = (false, eval e X.env) :: starEach es X.env := by rfl) (hpl : (backTo pos (starEach es X.env)).any (·.1) = false := by rfl) :
    PE X (.Call (.Name x p) (e :: es) [] pos) (tCallK X.prog X.w X.K X.mg X.base X.outer X.s_0 X.H_0 CX k ps i Ew t) := by
  refine ⟨fun pins s σ H Q I h => ?_⟩
  obtain ⟨f, B, hs, hf, hfn, ht⟩ := h
  obtain ⟨u, ru, ld⟩ := ld_var (E := X.xe) (pos := p) I hN hv hs hd hcd
  obtain rfl : u = Value.ref f := ru
  refine wpAny_Call_Name_kw (ld _ ?_)
  refine PySem.W.callWith_F (first := []) (hfn _ I.hok) (thn (ha.run pos pins s σ H _ I ht) fun us s2 z => ?_) he hpl
  obtain ⟨vs, H2, I2, r, fr, ws, sp, Fn, h1, h2, hq⟩ := z
  obtain ⟨C, q⟩ := hq X.stack s2 (ck_inv I2 hex)
  exact ⟨Fn.fn _ _ I2.hok h1, run_cb Fn hr hx I2 h1 h2 C r q⟩
theorem pe_callK0 (hex : X.ex = []) (hr : Room k X.A) (hx : ∀ σ, PassesAt CX X σ (Ew σ)) (hN : X.N[i]? = some x) (hv : Vis X.env.scope x) (hd : (x == ("__debug__" : Str)) = false := by decide) (hcd : (x == ("__classdict__" : Str)) = false := by decide) :
    PE X (.Call (.Name x p) [] [] pos) (tCallK0 X.prog X.w X.K X.mg X.base X.outer X.s_0 X.H_0 CX k i Ew) := by
  refine ⟨fun pins s σ H Q I h => ?_⟩
  obtain ⟨f, B, fr, ws, sp, hs, Fn, h1, h2, hq⟩ := h
  obtain ⟨u, ru, ld⟩ := ld_var (E := X.xe) (pos := p) I hN hv hs hd hcd
  obtain rfl : u = Value.ref f := ru
  refine wpAny_Call_Name_kw (ld _ ?_)
  obtain ⟨C, q⟩ := hq X.stack s (ck_inv I hex)
  exact PySem.W.callWith_F0 (first := []) (Fn.fn _ _ I.hok h1) (run_cb Fn hr hx I h1 h2 C .nil q)
/-- what is promised to let nothing out may let out anything -/
theorem CbOk.calm {P : Program} {w : World} {K : PySem.W.Frag} {mg : Str → Option Value} {base : Heap} {CX : CXT} {f : Addr} {B : CB} {fr : List Str} {sp : SpC} (o : CbOk P w K mg base CX0 k f B ps fr sp) : CbOk P w K mg base CX k f B ps fr sp :=
  ⟨o.fn, o.ni, o.len, fun A outer s H us vs ws Q E hr e0 hf hc C r q => codeAny_mono (o.run A outer s H us vs ws Q E hr e0 hf hc C r q) fun r s' z => by
    cases r with
    | error x => exact False.elim z
    | ok fl => cases fl <;> exact z⟩
theorem takesL {X : Cx} {E : XK} {E1 : Value → Shared → Prop} (hs : X.stack = X.env :: X.outer) (hf : X.env.frame = some X.env.locals) (hex : X.ex = [])
    (hx : X.xe = fun e s' => wpAny (model X.prog X.w) X.A (leaving X.env e) (fun _ s'' => L2.CX X.prog X.w X.outer X.H_0 X.s_0 E e s'') E1 s') : L2.Takes X (fun cls d _ H => E cls d H) := L2.takes_of hs hf hex hx
theorem passE {X : Cx} {E : XK} (tk : L2.Takes X (fun cls d _ H => E cls d H)) : ∀ σ, PassesAt (L2.CX X.prog X.w) X σ ((fun _ => E) σ) := fun σ => L2.passAt tk σ
theorem passesE {X : Cx} {E : XK} (tk : L2.Takes X (fun cls d _ H => E cls d H)) : Passes (L2.CX X.prog X.w) X E := L2.passes_call tk fun _ _ _ _ h => h
/-- the three errors of a law's own -/
def ErrN (CF : Addr) (n : Nat) (cls : Value) : Prop := (n = 0 ∧ cls = .type "KeyError") ∨ (n = 1 ∧ cls = .ref CF) ∨ (n = 2 ∧ cls = .type "ZeroDivisionError")
end

/-- a def that may raise (no note is kept of the context) -/
theorem okL {P : Program} {w : World} {K : PySem.W.Frag} {mg : Str → Option Value} {base : Heap} {x qual : Str} {st : Stmt} {f : Addr} {fd : FuncData} {N ps : List Str} {k : Nat} {sp : Sp} (F : Fun K x qual st f fd) (S : FnScope N ps (defScope st)) (len : ∀ vs H Q E, sp vs H Q E → vs.length = ps.length)
    (body : ∀ (cdv : Value) (A : Around) (outer : List Env) (s : Shared) (H : Hp) (vs : List V) (Q : VK) (E : XK), Room k (A.deeper (envOfC qual (defScope st) s.heap.objs.size f cdv)) → sp vs H Q E →
      ∃ t, PSs (cxOf (L2.CX P w) P w K mg base N qual (defScope st) f cdv A outer s H E) (defBody st) t ∧ t { nx := fun _ H' => Q .non H', rt := Q } (start N vs) H) : FnOk P w K mg base (L2.CX P w) (k + 1) f fd ps sp := by
  obtain ⟨_, _, _, _, _, _, _, _, _, rfl, lk, hcd⟩ := F.ex
  exact fn_of lk hcd S len fun A outer s H vs Q E hr h => body _ A outer s H vs Q E hr h
/-- .. whose code object is at c -/
theorem okLC {P : Program} {w : World} {K : PySem.W.Frag} {mg : Str → Option Value} {base : Heap} {x qual : Str} {st : Stmt} {f c : Addr} {fd : FuncData} {N ps : List Str} {k : Nat} {sp : Sp} (F : Fun K x qual st f fd) (S : FnScope N ps (defScope st)) (hc : fd.code = .ref c) (len : ∀ vs H Q E, sp vs H Q E → vs.length = ps.length)
    (body : ∀ (A : Around) (outer : List Env) (s : Shared) (H : Hp) (vs : List V) (Q : VK) (E : XK), Room k (A.deeper (envOfC qual (defScope st) s.heap.objs.size f (.ref c))) → sp vs H Q E →
      ∃ t, PSs (cxOf (L2.CX P w) P w K mg base N qual (defScope st) f (.ref c) A outer s H E) (defBody st) t ∧ t { nx := fun _ H' => Q .non H', rt := Q } (start N vs) H) : FnOk P w K mg base (L2.CX P w) (k + 1) f fd ps sp := by
  obtain ⟨_, _, _, _, _, _, cdv, _, _, rfl, lk, hcd⟩ := F.ex
  obtain rfl : cdv = .ref c := hc
  exact fn_of lk hcd S len fun A outer s H vs Q E hr h => body A outer s H vs Q E hr h

/-- x(e, ..), x an own def whose promise speaks of the state -/
def tFnS (spA : L2.St → Sp) (E : XK) (t : TA) : TE := fun σ H Q => t σ H fun vs H1 => spA σ vs H1 Q E
theorem pe_fnS {X : Cx} {CX : CXT} {k : Nat} {f : Addr} {fd : FuncData} {ps : List Str} {sp : SpS} {E : XK} {e : Expr} {es : List Expr} {x : Str} {p pos : Pos} {t : TA} {spA : L2.St → Sp} (F : FnSt X.prog X.w X.K X.mg X.base CX k f fd ps sp) (hr : Room k X.A) (hg : Gl X x) (hm : X.mg x = some (.ref f)) (hk : PySem.W.keepIn X.K (.ref f) = true) (hb : Binds X.K fd ps []) (hx : Passes CX X E)
    (hs : ∀ (pins : List (Addr × Obj)) (σ : L2.St) (H : Hp) (s : Shared) (vs : List V) (Q : VK), Inv X pins σ H s → spA σ vs H Q E → sp X.stack s vs H Q E) (ha : PA X (e :: es) t) (hdb : (x == ("__debug__" : Str)) = false := by decide)
    (he : starEach (e :: es) X.env = (false, eval e X.env) :: starEach es X.env := by rfl) (hpl : (backTo pos (starEach es X.env)).any (·.1) = false := by rfl) : PE X (.Call (.Name x p) (e :: es) [] pos) (tFnS spA E t) := by
  refine ⟨fun pins s σ H Q I h => ?_⟩
  refine wpAny_Call_Name_kw (ld_glob I hg hm ?_ hdb)
  refine PySem.W.callWith_K (h₀ := X.base) I.ok.mod.kin hk (thn (ha.run pos pins s σ H _ I h) fun us s2 z => ?_) he hpl
  obtain ⟨vs, H2, I2, r, q⟩ := z
  exact ⟨I2.kIn, run_st (us := us) (vs := vs) F hr hb hx I2 r (hs _ _ _ _ _ _ I2 q)⟩
/-- a lambda of this frame, ready to be handed on -/
theorem lam_caps {X : Cx} {pins : List (Addr × Obj)} {σ : L2.St} {H : Hp} {s : Shared} {e : Expr} {fr : List Str} {js : List Nat} (I : Inv X pins σ H s) (hf : NdefX.ndefB X.env.scope (lamSc e) fr = true) (hj : js.map (fun j => X.N[j]?) = fr.map some) : NdefX.CellsAt (cloFrom X.env.cells (lamSc e).names []) fr (js.map (NdefX.slotAt σ)) s.heap H :=
  NdefX.cells_of I (NdefX.Caps.made I.ok (NdefX.ndef_free hf) (NdefX.ndef_fr hf) hj)
theorem lam_sub {X : Cx} {pins : List (Addr × Obj)} {σ : L2.St} {H : Hp} {s : Shared} {e : Expr} {fr : List Str} {js : List Nat} (I : Inv X pins σ H s) (hf : NdefX.ndefB X.env.scope (lamSc e) fr = true) (hj : js.map (fun j => X.N[j]?) = fr.map some) {y : Str} {c : Addr} (h : (cloFrom X.env.cells (lamSc e).names []).lookup y = some c) : X.env.cells.lookup y = some c :=
  (NdefX.Caps.made (js := js) I.ok (NdefX.ndef_free hf) (NdefX.ndef_fr hf) hj).sub y c h
end Own

set_option Elab.async false
set_option linter.all false
set_option maxRecDepth 100000
set_option maxHeartbeats 4000000
/-! What a walk may change, told by a list of addresses; lines of nodes in a tree, and the way between two nodes. -/
namespace Own
open PySem PySem.Spec PyProof.Rows L2
/-- what a walk changes: lists, a scope, dicts that are no bindings -/
def MutO (o : HO) : Prop := (∃ xs, o = .lst xs) ∨ (∃ C dx v fs, o = .ins C dx (("root", v) :: fs)) ∨ ∃ kv, o = .dK kv ∧ ¬ TOk kv
def Dy (Z : List Addr) (H H' : Hp) : Prop := ∀ b o, b ∉ Z → (∀ ps, o ≠ .tbl ps) → H b = some o → H' b = some o
def ZOk (Z : List Addr) (H : Hp) : Prop := ∀ a ∈ Z, ∃ o, H a = some o ∧ MutO o
section
variable {Z : List Addr} {H H1 H' : Hp} {b : Addr} {o : HO}
theorem Dy.refl (Z : List Addr) (H : Hp) : Dy Z H H := fun _ _ _ _ e => e
theorem Dy.trans (a : Dy Z H H1) (c : Dy Z H1 H') : Dy Z H H' := fun b o h1 h2 e => c b o h1 h2 (a b o h1 h2 e)
theorem Dy.same (s : Same H H') : Dy Z H H' := fun _ _ _ _ e => s _ _ e
theorem Dy.extN (s : LamX.ExtN H H') : Dy Z H H' := fun _ _ _ h e => s _ _ e h
theorem Dy.exS {t g : Addr} (s : ExS t g H H') (ht : t ∈ Z) (hg : g ∈ Z) : Dy Z H H' := fun b o h _ e => s _ _ (fun z => h (z ▸ ht)) (fun z => h (z ▸ hg)) e
theorem Dy.exT {x : Addr} (s : ExT x H H') (hx : x ∈ Z) : Dy Z H H' := fun b o h _ e => s _ _ (fun z => h (z ▸ hx)) e
theorem Dy.put {x : Addr} (hx : x ∈ Z) : Dy Z H (upd H x o) := fun b u h _ e => by
  have n : b ≠ x := fun z => h (by rw [z]; exact hx)
  rw [upd_ne n]
  exact e
theorem ZOk.not (z : ZOk Z H) (e : H b = some o) (n : ¬ MutO o) : b ∉ Z := fun m => by
  obtain ⟨u, e', mu⟩ := z b m
  rw [e] at e'
  cases e'
  exact n mu
theorem Dy.keep (D : Dy Z H H') (z : ZOk Z H) (e : H b = some o) (n : ¬ MutO o) (nt : ∀ ps, o ≠ .tbl ps) : H' b = some o := D b o (z.not e n) nt e
theorem mut_dk {kv : Tbl} (h : TOk kv) : ¬ MutO (.dK kv) := fun m => by
  rcases m with ⟨_, z⟩ | ⟨_, _, _, _, z⟩ | ⟨k, z, n⟩
  · cases z
  · cases z
  · injection z with z
    exact n (z ▸ h)
theorem mut_ins {C dx : Addr} {f : Str} {v : V} {fs : List (Str × V)} (h : f ≠ "root") : ¬ MutO (.ins C dx ((f, v) :: fs)) := fun m => by
  rcases m with ⟨_, z⟩ | ⟨_, _, _, _, z⟩ | ⟨k, z, n⟩
  · cases z
  · injection z with _ _ z
    injection z with z
    injection z with z
    exact h z
  · cases z
theorem mut_tup {xs : List V} : ¬ MutO (.tup xs) := fun m => by
  rcases m with ⟨_, z⟩ | ⟨_, _, _, _, z⟩ | ⟨k, z, n⟩ <;> cases z
theorem Dy.dk {kv : Tbl} (D : Dy Z H H') (z : ZOk Z H) (e : H b = some (.dK kv)) (h : TOk kv) : H' b = some (.dK kv) := D.keep z e (mut_dk h) (fun _ z => by cases z)
theorem Dy.lst {xs : List V} (D : Dy Z H H') (n : b ∉ Z) (e : H b = some (.lst xs)) : H' b = some (.lst xs) := D b _ n (fun _ z => by cases z) e
theorem keepT_mut {x : Addr} {u : HO} (e : H x = some u) (m : MutO u) : KeepT H (upd H x o) := keepT_upd e (m.elim .inl fun m => m.elim (fun ⟨C, dx, v, fs, z⟩ => .inr (.inl ⟨C, dx, _, z⟩)) fun ⟨kv, z, _⟩ => .inr (.inr ⟨kv, z⟩))
end
/-! ### lines -/
inductive Line (ps : List Nat) : Nat → List Nat → Prop
  | root : Line ps 0 [0]
  | up {i j : Nat} {l : List Nat} (h : i ≠ 0) (e : ps[i]? = some j) (r : Line ps j l) : Line ps i (i :: l)
section
variable {ps ps' : List Nat}
theorem Line.head {i : Nat} {l : List Nat} (h : Line ps i l) : ∃ r, l = i :: r := by
  cases h with
  | root => exact ⟨_, rfl⟩
  | up _ _ _ => exact ⟨_, rfl⟩
theorem Line.det : ∀ {l : List Nat} {i : Nat}, Line ps i l → ∀ {l' : List Nat}, Line ps i l' → l = l' := by
  intro l i h
  induction h with
  | root =>
    intro l' h'
    cases h' with
    | root => rfl
    | up h _ _ => exact absurd rfl h
  | up h e r ih =>
    intro l' h'
    cases h' with
    | root => exact absurd rfl h
    | up _ e' r' =>
      rw [e] at e'
      cases e'
      rw [ih r']
theorem Line.grow {i : Nat} {l : List Nat} (p : ps <+: ps') (h : Line ps i l) : Line ps' i l := by
  induction h with
  | root => exact .root
  | up h e r ih =>
    refine .up h ?_ ih
    obtain ⟨q, rfl⟩ := p
    rw [List.getElem?_append_left (List.getElem?_eq_some_iff.mp e).1]
    exact e
theorem Line.mem {i x : Nat} {l : List Nat} (h : Line ps i l) : x ∈ l → ∃ l', Line ps x l' ∧ l'.length ≤ l.length ∧ (l'.length = l.length → x = i) := by
  induction h with
  | root =>
    intro m
    obtain rfl : x = 0 := by simpa using m
    exact ⟨_, .root, Nat.le_refl _, fun _ => rfl⟩
  | up h e r ih =>
    intro m
    rcases List.mem_cons.mp m with rfl | m
    · exact ⟨_, .up h e r, Nat.le_refl _, fun _ => rfl⟩
    · obtain ⟨l', a, b, c⟩ := ih m
      refine ⟨l', a, ?_, fun z => ?_⟩
      · rw [List.length_cons]
        omega
      · rw [List.length_cons] at z
        omega
theorem Line.lt {i : Nat} {l : List Nat} (h : Line ps i l) (hi : 0 < ps.length) : i < ps.length := by
  cases h with
  | root => exact hi
  | up _ e _ => exact (List.getElem?_eq_some_iff.mp e).1
/-- the sizes of what lies on one of the two lines alone -/
def wayOf (sz : List Nat) (a b : List Nat) : Nat := ((a.filter fun x => !b.contains x).map fun x => sz.getD x 0).sum + ((b.filter fun x => !a.contains x).map fun x => sz.getD x 0).sum
theorem wayOf_comm (sz a b : List Nat) : wayOf sz a b = wayOf sz b a := by
  unfold wayOf
  omega
theorem wayOf_same (sz : List Nat) (a : List Nat) : wayOf sz a a = 0 := by
  have e : a.filter (fun x => !a.contains x) = [] := by
    rw [List.filter_eq_nil_iff]
    intro x m
    simp [m]
  unfold wayOf
  rw [e]
  rfl
theorem way_up {sz : List Nat} {a b : Nat} {la lb : List Nat} (ha : Line ps a la) (hb : Line ps b lb) (ne : ¬ a = b) (le : lb.length ≤ la.length) : ∃ j l', a ≠ 0 ∧ ps[a]? = some j ∧ la = a :: l' ∧ Line ps j l' ∧ wayOf sz la lb = sz.getD a 0 + wayOf sz l' lb := by
  have nb : a ∉ lb := fun m => by
    obtain ⟨l', h1, h2, h3⟩ := hb.mem m
    have e := ha.det h1
    subst e
    exact ne (h3 (by omega))
  cases ha with
  | root =>
    exfalso
    obtain ⟨r, rfl⟩ := hb.head
    have : r = [] := by
      cases r with
      | nil => rfl
      | cons _ _ => simp at le
    subst this
    cases hb with
    | root => exact ne rfl
    | up _ _ r => obtain ⟨_, z⟩ := r.head; cases z
  | @up _ j l h e r =>
    refine ⟨j, l, h, e, rfl, r, ?_⟩
    unfold wayOf
    have e1 : (lb.filter fun x => !(a :: l).contains x) = lb.filter fun x => !l.contains x := by
      refine List.filter_congr fun x m => ?_
      have : x ≠ a := fun z => nb (z ▸ m)
      simp [this]
    rw [e1, List.filter_cons_of_pos (by simpa using nb), List.map_cons, List.sum_cons]
    omega
end
end Own

set_option Elab.async false
set_option linter.all false
set_option maxRecDepth 100000
set_option maxHeartbeats 4000000
/-! An instance of an own class called: its own __call__. -/
namespace Own
open PySem PySem.Spec PyProof.Rows L2
structure CallC (K : PySem.W.Frag) (C f : Addr) : Prop where
  at_ : PySem.W.findIn K (.ref C) "__call__" = some (some (.ref f))
  fn : PySem.W.isFn K (.ref f) = true
  fi : PySem.W.fnIn K f = true
def callCB (K : PySem.W.Frag) (x : Str) : Bool := decide (PySem.W.findIn K (.ref (He.ga K x)) "__call__" = some (some (.ref (He.ma K (He.ga K x) "__call__")))) && (PySem.W.isFn K (.ref (He.ma K (He.ga K x) "__call__")) && PySem.W.fnIn K (He.ma K (He.ga K x) "__call__"))
theorem callC_of {K : PySem.W.Frag} {x : Str} (c : callCB K x = true) : CallC K (He.ga K x) (He.ma K (He.ga K x) "__call__") := by
  simp only [callCB, Bool.and_eq_true, decide_eq_true_eq] at c
  exact ⟨c.1, c.2.1, c.2.2⟩
section
variable {prog : Program} {w : World} {A : Around} {s : Shared} {K : PySem.W.Frag} {x C dx f : Addr}
theorem inst_at {h : Heap} {P : Program} {H : Hp} {fs : List (Str × V)} (hok : HOk P w H h) (e : H x = some (.ins C dx fs)) : h.get? x = some (PySem.W.instObj C dx) := (hok x _ e).2.2.2.1
theorem keeps_I {M : Model} {h : Heap} (hx : h.get? x = some (PySem.W.instObj C dx)) : PySem.W.Looks M h (keeperOf (.ref x)) .caller := (PySem.W.Looks.ld (part := none) hx).andThen .now
theorem callWith_I {M : Model} {E : Value → Shared → Prop} {pos : Pos} {Q : Value → Shared → Prop} {args : List (Bool × Sem Value)} (hplain : (args.any (·.1) || ([] : List (Option Str × Sem Value)).any (·.1.isNone)) = false)
    (h : wpAny M A (evalArgs (.ref x) true args []) (fun a s₁ => (∃ dx, s₁.heap.get? x = some (PySem.W.instObj C dx)) ∧ wpAny M A (call (.ref x) a.pos a.kw) Q E s₁) E s) : wpAny M A (callWith pos (.ref x) [] args []) Q E s := by
  unfold callWith
  refine wpAny_bind (wpAny_holding (wpAny_mono h (fun a s₁ h₁ => wpAny_bind (wpAny_standAt ?_)) fun _ _ x => x))
  simp only [hplain]
  obtain ⟨⟨dx1, e1⟩, h₁⟩ := h₁
  refine wpAny_bind ((keeps_I e1).here ?_)
  have tail : ∀ {t : Sem Value}, wpAny M A t Q E s₁ → wpAny M A (t >>= fun r => holding [r] point >>= fun _ => pure r) Q E s₁ :=
    fun ht => wpAny_bind (wpAny_mono ht (fun r s₂ hr => wpAny_bind (wpAny_holding (wpAny_point (wpAny_pure hr)))) fun _ _ x => x)
  exact tail (wpAny_operating h₁)
theorem call_I {R : Result → Shared → Prop} {us : List Value} (X : K.In s.heap) (hx : s.heap.get? x = some (PySem.W.instObj C dx)) (e : CallC K C f)
    (h : codeAny (model prog w) A (.call (.ref f) ⟨.ref x :: us, []⟩) R s) : codeAny (model prog w) A (.call (.ref x) ⟨us, []⟩) R s := by
  refine codeAny_of_tree ?_
  show wpAny _ _ (callAny (.ref x) _) _ _ _
  unfold callAny
  refine wpAny_bind ((PySem.W.Looks.ld (part := none) hx).here ?_)
  show wpAny _ _ (callAny.viaDunder (.ref x) _) _ _ _
  unfold callAny.viaDunder
  have ty : PySem.W.Looks (model prog w) s.heap (typeOf (.ref x)) (.ref C) := (PySem.W.Looks.ld (part := none) hx).andThen .now
  have sp : PySem.W.Looks (model prog w) s.heap (specialOf (.ref x) "__call__") (some (.ref f)) := ty.andThen (PySem.W.looks_findIn X e.at_)
  refine wpAny_bind (sp.here ?_)
  have tf : PySem.W.typeIn K (.ref f) = some (.type "function") := by
    have z := e.fn
    unfold PySem.W.isFn at z
    exact eq_of_beq z
  refine wpAny_bind ((PySem.W.bind_fn X (.ref x) tf).here ?_)
  have fi := e.fi
  unfold PySem.W.fnIn at fi
  split at fi
  · rename_i eo
    have pc : PySem.W.Looks (model prog w) s.heap (callAny.plainCallee (.ref f)) true := (PySem.W.Looks.ld (part := none) (X _ _ eo)).andThen .now
    refine wpAny_bind (pc.here ?_)
    rw [if_pos rfl]
    refine wpAny_pure (a := Fin.again (.call (.ref f) ⟨.ref x :: us, []⟩)) ?_
    exact And.intro rfl h
  · cases fi
end
end Own
namespace Own
open PySem PySem.Spec PyProof.Rows L2
/-- xs == [], whatever the items are -/
def rEqNil (K : PySem.W.Frag) (neg : Bool) : R2 := fun x y H Q => ∃ (p q : Addr) (xs : List V), x = .ref p ∧ y = .ref q ∧ SqL K H p xs ∧ SqL K H q [] ∧ Q (.bl (if neg then !xs.isEmpty else xs.isEmpty)) H
section
variable {X : Cx}
theorem op_eqNil (hu : X.A.units + 64 < cLine) : OpR X (compareOp .Eq) (rEqNil X.K false) := by
  intro pins s σ H x y v u Q I rx ry h
  obtain ⟨p, q, xs, rfl, rfl, h1, h2, k⟩ := h
  cases rx; cases ry
  obtain ⟨its, r1, ⟨o1, n1, ho1, hc1, _, hd1⟩, _⟩ := I.list h1
  obtain ⟨its2, r2, ⟨o2, n2, ho2, hc2, _, hd2⟩, _⟩ := I.list h2
  have l1 := r1.length
  have l2 := r2.length
  have e2 : its2 = [] := List.length_eq_zero_iff.mp (by simpa using l2.symm)
  subst e2
  rw [if_neg (by simp)] at k
  by_cases e : xs = []
  · subst e
    have e1 : its = [] := List.length_eq_zero_iff.mp (by simpa using l1.symm)
    subst e1
    refine SeqAt.eq_listAt (e := fun _ => true) ⟨o1, ho1, hc1, _, hd1⟩ ⟨o2, ho2, hc2, _, hd2⟩ rfl (by omega) (fun j h1 h2 => absurd h1 (by simp)) ⟨.bl true, H, I, rfl, k⟩
  · have ne : its ≠ [] := fun z => e (List.length_eq_zero_iff.mp (by rw [l1, z]; rfl))
    have ie : xs.isEmpty = false := by cases xs with
      | nil => exact absurd rfl e
      | cons _ _ => rfl
    rw [ie] at k
    have hz : (its.toArray.size != ([] : List Value).toArray.size) = true := by
      cases its with
      | nil => exact absurd rfl ne
      | cons _ _ => simp
    exact SeqAt.eq_list_lengthsAt ⟨o1, ho1, hc1, _, hd1⟩ ⟨o2, ho2, hc2, _, hd2⟩ hz (by omega) ⟨.bl false, H, I, rfl, k⟩
end
/-- a def with defaults whose promise speaks of the state -/
theorem okSD {P : Program} {w : World} {K : PySem.W.Frag} {mg : Str → Option Value} {base : Heap} {CX : CXT} {x qual : Str} {st : Stmt} {dvs : List V} {kws : List (Str × V)} {f : Addr} {fd : FuncData} {N ps : List Str} {k : Nat} {sp : SpS} (F : FunD K x qual (defArgs st) (defBody st) (defScope st) dvs kws f fd) (S : FnScope N ps (defScope st)) (len : ∀ outer s vs H Q E, sp outer s vs H Q E → vs.length = ps.length)
    (body : ∀ (cdv : Value) (A : Around) (outer : List Env) (s : Shared) (H : Hp) (vs : List V) (Q : VK) (E : XK), Room k (A.deeper (envOfC qual (defScope st) s.heap.objs.size f cdv)) → Env0 P w K mg base A outer s H → sp outer s vs H Q E →
      ∃ t, PSs (cxOf CX P w K mg base N qual (defScope st) f cdv A outer s H E) (defBody st) t ∧ t { nx := fun _ H' => Q .non H', rt := Q } (start N vs) H) : FnSt P w K mg base CX (k + 1) f fd ps sp := by
  obtain ⟨oc, od, dV, kV, doc, pm, an, cdv, ct, osl, e, lk, hcd, hD, _⟩ := F.ex
  subst e
  refine ⟨len, fun A outer s H args us vs Q E hr e0 hb r hsp => ?_⟩
  exact LamX.run_ofS lk hcd S hr e0 hb r (len outer s vs H Q E hsp) fun hr2 => body cdv A outer s H vs Q E hr2 e0 hsp
section
variable {X : Cx} {CX : CXT} {k : Nat} {C f : Addr} {fd : FuncData} {ps : List Str} {sp : SpS} {E : XK} {te : TE} {t : TA} {spA : L2.St → Sp} {dvs : List V} {ds : List Value}
theorem run_stI {pins : List (Addr × Obj)} {σ : L2.St} {H : Hp} {s : Shared} {Q : VK} {us : List Value} {vs : List V} {a dx : Addr} {fs : List (Str × V)} (c : CallC X.K C f) (F : FnSt X.prog X.w X.K X.mg X.base CX k f fd ps sp) (hr : Room k X.A) (hb : Binds X.K fd ps ds) (hd : Vals dvs ds) (hx : Passes CX X E) (I : Inv X pins σ H s) (ha : H a = some (.ins C dx fs)) (r : Vals vs us)
    (h : sp X.stack s ((.ref a :: vs) ++ dvs) H Q E) : wpAny (model X.prog X.w) X.A (call (.ref a) us) (EP X pins σ Q) X.xe s := by
  have r2 : Vals ((.ref a :: vs) ++ dvs) ((.ref a :: us) ++ ds) := Vals.append (.cons rfl r) hd
  have hl : ((.ref a :: us) ++ ds).length = ps.length := by rw [← r2.length]; exact F.len _ _ _ _ _ _ h
  refine wpAny_call (call_I I.kIn (inst_at I.hok ha) c (codeAny_mono (F.run X.A X.stack s H ⟨.ref a :: us, []⟩ _ _ Q E hr I.env0 (hb s (.ref a :: us) I.kIn hl) r2 h) fun r s' hq => ?_))
  cases r with
  | error e => exact hx pins σ H s e s' I hq
  | ok fl =>
    cases fl with
    | ret u => exact I.after hq
    | next => exact False.elim hq
    | brk => exact False.elim hq
    | cont => exact False.elim hq
/-- e(..), e an instance with a __call__ of its own -/
def tCallI (C : Addr) (spA : L2.St → Sp) (dvs : List V) (E : XK) (te : TE) (t : TA) : TE := fun σ H Q => te σ H fun x H1 => ∃ a dx fs, x = .ref a ∧ H1 a = some (.ins C dx fs) ∧ t σ H1 fun vs H2 => (∃ dx fs, H2 a = some (.ins C dx fs)) ∧ spA σ ((.ref a :: vs) ++ dvs) H2 Q E
theorem pe_callI1 {fe e : Expr} {es : List Expr} {pos : Pos} (he : PE X fe te) (c : CallC X.K C f) (F : FnSt X.prog X.w X.K X.mg X.base CX k f fd ps sp) (hr : Room k X.A) (hb : Binds X.K fd ps ds) (hd : Vals dvs ds) (hx : Passes CX X E)
    (hs : ∀ (pins : List (Addr × Obj)) (σ : L2.St) (H : Hp) (s : Shared) (vs : List V) (Q : VK), Inv X pins σ H s → spA σ vs H Q E → sp X.stack s vs H Q E) (ha : PA X (e :: es) t)
    (hst : starEach (e :: es) X.env = (false, eval e X.env) :: starEach es X.env := by rfl) (hpl : (backTo pos (starEach es X.env)).any (·.1) = false := by rfl)
    (hev : eval (.Call fe (e :: es) [] pos) X.env = (eval fe X.env >>= fun v => callWith pos v [] (backTo pos (starEach (e :: es) X.env)) (backToKw pos (keywordEach [] X.env))) := by rfl) : PE X (.Call fe (e :: es) [] pos) (tCallI C spA dvs E te t) := by
  refine ⟨fun pins s σ H Q I h => ?_⟩
  rw [hev]
  refine wpAny_bind (thn (he.run pins s σ H _ I h) fun u s1 z => ?_)
  obtain ⟨x, H1, I1, rx, a, dx, fs, rfl, ea, q⟩ := z
  obtain rfl : u = Value.ref a := rx
  have hp2 : ((backTo pos (starEach (e :: es) X.env)).any (·.1) || ([] : List (Option Str × Sem Value)).any (·.1.isNone)) = false := by
    rw [hst]
    show ((false || (backTo pos (starEach es X.env)).any (·.1)) || false) = false
    rw [hpl]
    rfl
  show wpAny _ _ (callWith pos (.ref a) [] (backTo pos (starEach (e :: es) X.env)) []) _ _ _
  have run := ha.run pos pins s1 σ H1 _ I1 q
  refine callWith_I (C := C) hp2 ?_
  rw [hst] at run ⊢
  refine PySem.Calls.evalArgs_plain (thn run fun us s2 z => ?_)
  obtain ⟨vs, H2, I2, r, ⟨dx2, fs2, ea2⟩, q2⟩ := z
  exact ⟨⟨dx2, inst_at I2.hok ea2⟩, run_stI c F hr hb hd hx I2 ea2 r (hs _ _ _ _ _ _ I2 q2)⟩
theorem pe_callI0 {fe : Expr} {pos : Pos} (he : PE X fe te) (c : CallC X.K C f) (F : FnSt X.prog X.w X.K X.mg X.base CX k f fd ps sp) (hr : Room k X.A) (hb : Binds X.K fd ps ds) (hd : Vals dvs ds) (hx : Passes CX X E)
    (hs : ∀ (pins : List (Addr × Obj)) (σ : L2.St) (H : Hp) (s : Shared) (vs : List V) (Q : VK), Inv X pins σ H s → spA σ vs H Q E → sp X.stack s vs H Q E)
    (hev : eval (.Call fe [] [] pos) X.env = (eval fe X.env >>= fun v => callWith pos v [] (backTo pos (starEach [] X.env)) (backToKw pos (keywordEach [] X.env))) := by rfl) : PE X (.Call fe [] [] pos) (tCallI C spA dvs E te tNil) := by
  refine ⟨fun pins s σ H Q I h => ?_⟩
  rw [hev]
  refine wpAny_bind (thn (he.run pins s σ H _ I h) fun u s1 z => ?_)
  obtain ⟨x, H1, I1, rx, a, dx, fs, rfl, ea, ⟨dx2, fs2, ea2⟩, q⟩ := z
  obtain rfl : u = Value.ref a := rx
  show wpAny _ _ (callWith pos (.ref a) [] [] []) _ _ _
  refine callWith_I (C := C) rfl (evalArgs_nil3 ⟨⟨dx, inst_at I1.hok ea⟩, ?_⟩)
  exact run_stI (us := []) (vs := []) c F hr hb hd hx I1 ea .nil (hs _ _ _ _ _ _ I1 q)
end
end Own
namespace Own
open PySem PySem.Spec PyProof.Rows L2
/-- two tuples built alike: they don't differ -/
def rNeAT (K : PySem.W.Frag) : R2 := fun x y H Q => ∃ (n : Nat) (p q : Addr) (xs ys : List V), n ≤ 60 ∧ x = .ref p ∧ y = .ref q ∧ SqT K H p xs ∧ SqT K H q ys ∧ xs.length = ys.length ∧ (∀ (i : Nat) x y, xs[i]? = some x → ys[i]? = some y → Alike K H n x y) ∧ Q (.bl false) H
theorem op_neAT {X : Cx} (hu : X.A.units + 64 < cLine) : OpR X (compareOp .NotEq) (rNeAT X.K) := by
  intro pins s σ H x y v u Q I rx ry h
  obtain ⟨n, p, q, xs, ys, hn, rfl, rfl, h1, h2, hl, hi, k⟩ := h
  cases rx; cases ry
  obtain ⟨its, r1, ⟨o1, ho1, hc1, n1, hd1⟩, _⟩ := I.tuple h1
  obtain ⟨its2, r2, ⟨o2, ho2, hc2, n2, hd2⟩, _⟩ := I.tuple h2
  have l1 := r1.length
  have l2 := r2.length
  have hz : its.toArray.size = its2.toArray.size := by simp; omega
  have z := SeqAt.RcNeAt.tuples (A := X.A) (s := s) (l := p) (b := q) (items := its.toArray) (items2 := its2.toArray) (e := fun _ => true) ⟨o1, ho1, hc1, _, hd1⟩ ⟨o2, ho2, hc2, _, hd2⟩ (by omega) (fun j h1 h2 => by
    have j1 : j < xs.length := by simp at h1; omega
    have j2 : j < ys.length := by omega
    obtain ⟨w1, e1, g1⟩ := r1.get (List.getElem?_eq_getElem j1)
    obtain ⟨w2, e2, g2⟩ := r2.get (List.getElem?_eq_getElem j2)
    have z1 : its.toArray[j] = w1 := by
      rw [List.getElem?_eq_getElem (by simpa using h1)] at e1
      simpa using Option.some.inj e1
    have z2 : its2.toArray[j] = w2 := by
      rw [List.getElem?_eq_getElem (by simpa using h2)] at e2
      simpa using Option.some.inj e2
    rw [z1, z2]
    exact Alike.run I n X.A.in1 (by show X.A.units + 1 + n < cLine; omega) _ _ _ _ (hi j _ _ (List.getElem?_eq_getElem j1) (List.getElem?_eq_getElem j2)) g1 g2)
  have t : (!((List.range (min its.toArray.size its2.toArray.size)).all (fun _ => true) && its.toArray.size == its2.toArray.size)) = false := by simp at hz ⊢; exact hz
  rw [t] at z
  exact PySem.EqBoolInt.of_rcne z ⟨.bl false, H, I, rfl, k⟩
end Own

set_option Elab.async false
set_option linter.all false
set_option maxRecDepth 100000
set_option maxHeartbeats 4000000
/-! Lambdas with cells of their own beside the captured ones (a parameter that a comprehension reads). -/
namespace Own
open PySem PySem.Spec PyProof.Rows L2
theorem cellsFrom_app : ∀ (l : List (Str × NameKind)) (n : Nat) (acc : List (Str × Addr)), cellsFrom n l acc = cellsFrom n l [] ++ acc
  | [], _, _ => rfl
  | (name, kind) :: r, n, acc => by
    unfold cellsFrom
    split
    · rw [cellsFrom_app r (n + 1) ((name, n) :: acc), cellsFrom_app r (n + 1) [(name, n)]]
      simp
    · exact cellsFrom_app r n acc
theorem cellsFrom_key : ∀ {l : List (Str × NameKind)} {n : Nat} {x : Str} {c : Addr}, (x, c) ∈ cellsFrom n l [] → ∃ y ∈ l, y.1 = x ∧ y.2 = .cell
  | [], _, _, _, h => by cases h
  | (name, kind) :: r, n, x, c, h => by
    unfold cellsFrom at h
    split at h
    · rename_i hk
      rw [cellsFrom_app] at h
      rcases List.mem_append.mp h with h | h
      · obtain ⟨y, m, e⟩ := cellsFrom_key h
        exact ⟨y, by simp [m], e⟩
      · simp only [List.mem_cons, List.not_mem_nil, or_false, Prod.mk.injEq] at h
        exact ⟨(name, kind), by simp, h.1.symm, eq_of_beq hk⟩
    · obtain ⟨y, m, e⟩ := cellsFrom_key h
      exact ⟨y, by simp [m], e⟩
section
variable {M : Model} {A : Around} {E : Value → Shared → Prop} {s₀ s : Shared} {m cm : Str → Option Value} {env : Env} {cs : List (Str × Addr)}
theorem stL2 {n : Str} {v : Value} {Q : Unit → Shared → Prop} (x : InCallC s₀ env.locals m cs cm s) (hk : env.scope.kind = .function) (hl : env.kindOf n = some .local)
    (h : ∀ s', InCallC s₀ env.locals (fun y => if y = n then some v else m y) cs cm s' → Q () s') : wpAny M A (storeName env n v) Q E s := by
  refine wpAny_storeName_local hl x.toInCall.ns (fun h' hn' hs' => h _ ⟨⟨?_, hn', fun b o e => ?_, x.toInCall.fresh⟩, fun k c hc => ?_, x.apart, x.above⟩) (by rw [hk]; rfl)
  · obtain ⟨h₁, tk, rfl⟩ := x.toInCall.same
    exact ⟨h', _, rfl⟩
  · exact hs'.extBut b o (Nat.ne_of_lt (Nat.lt_of_lt_of_le (Heap.lt_size e) x.toInCall.fresh)) (x.toInCall.keep b o e)
  · exact (x.cell k c hc).sameBut hs' (Nat.ne_of_gt (x.above k c (PySem.mem_of_lookup hc)))
theorem stC2 {n : Str} {c : Addr} {v : Value} {Q : Unit → Shared → Prop} (x : InCallC s₀ env.locals m cs cm s) (hk : env.scope.kind = .function) (hl : env.kindOf n = some .cell) (hc : env.cells.lookup n = some c) (ho : cs.lookup n = some c)
    (h : ∀ s', InCallC s₀ env.locals m cs (fun y => if y = n then some v else cm y) s' → Q () s') : wpAny M A (storeName env n v) Q E s := by
  have hLc := x.above n c (PySem.mem_of_lookup ho)
  refine wpAny_storeName_cell hk hl hc (x.cell n c ho) fun h' hc' hs' => h _ ⟨⟨?_, x.toInCall.ns.sameBut hs' (Nat.ne_of_lt hLc), fun b o e => ?_, x.toInCall.fresh⟩, fun k c' hk' => ?_, x.apart, x.above⟩
  · obtain ⟨h₁, tk, rfl⟩ := x.toInCall.same
    exact ⟨h', _, rfl⟩
  · exact hs'.extBut b o (Nat.ne_of_lt (Nat.lt_trans (Nat.lt_of_lt_of_le (Heap.lt_size e) x.toInCall.fresh) hLc)) (x.toInCall.keep b o e)
  · by_cases hkn : k = n
    · subst hkn
      rw [ho] at hk'; cases hk'
      simpa using hc'
    · rw [if_neg hkn]
      exact (x.cell k c' hk').sameBut hs' fun e => hkn (name_of_addr x.apart (PySem.mem_of_lookup hk') (e ▸ PySem.mem_of_lookup ho))
theorem bindParams2 (f : Str × Value → PUnit → Sem (ForInStep PUnit)) (hf : ∀ n v u, f (n, v) u = (do storeName env n v; pure (.yield ⟨⟩))) (hk : env.scope.kind = .function) :
    ∀ (binds : List (Str × Value)) (m cm : Str → Option Value) (s : Shared) (Q : PUnit → Shared → Prop), InCallC s₀ env.locals m cs cm s →
      (∀ x ∈ binds, env.kindOf x.1 = some .local ∨ (env.kindOf x.1 = some .cell ∧ ∃ c, env.cells.lookup x.1 = some c ∧ cs.lookup x.1 = some c)) →
      (∀ s', InCallC s₀ env.locals (bindL env.kindOf binds m) cs (bindC env.kindOf binds cm) s' → Q ⟨⟩ s') → wpAny M A (forIn binds ⟨⟩ f) Q E s
  | [], m, cm, s, Q, x, _, h => by rw [List.forIn_nil]; exact wpAny_pure (h s x)
  | (n, v) :: r, m, cm, s, Q, x, hkind, h => by
    rw [List.forIn_cons, hf]
    have hr : ∀ y ∈ r, env.kindOf y.1 = some .local ∨ (env.kindOf y.1 = some .cell ∧ ∃ c, env.cells.lookup y.1 = some c ∧ cs.lookup y.1 = some c) := fun y hy => hkind y (List.mem_cons_of_mem _ hy)
    rcases hkind (n, v) List.mem_cons_self with hl | ⟨hl, c, hc, ho⟩
    · refine wpAny_bind (wpAny_bind (stL2 x hk hl fun s' x' => wpAny_pure (bindParams2 f hf hk r _ _ s' Q x' hr fun s'' x'' => h s'' ?_)))
      unfold bindL bindC; rw [if_pos hl, if_pos hl]; exact x''
    · have hnl : ¬ env.kindOf n = some .local := by rw [hl]; decide
      refine wpAny_bind (wpAny_bind (stC2 x hk hl hc ho fun s' x' => wpAny_pure (bindParams2 f hf hk r _ _ s' Q x' hr fun s'' x'' => h s'' ?_)))
      unfold bindL bindC; rw [if_neg hnl, if_neg hnl]; exact x''
end
theorem newFunctionEnv_mix {M : Model} {A : Around} {E : Value → Shared → Prop} {s : Shared} {scope : Scope} {globals : Addr} {closure : List (Str × Addr)} {binds : List (Str × Value)} {qual : Str} {func : Option Addr} {code : Value} {builtins : Addr} {Q : Env → Shared → Prop}
    (hk : scope.kind = .function)
    (hkind : ∀ x ∈ binds, scope.names.lookup x.1 = some .local ∨ (scope.names.lookup x.1 = some .cell ∧ ((cellsFrom (s.heap.objs.size + 1) scope.names []).lookup x.1).isSome = true))
    (hQ : ∀ env, env = newEnv scope s.heap.objs.size globals (cellsFrom (s.heap.objs.size + 1) scope.names closure) qual func code none builtins →
      ∀ s', InCallC s env.locals (bindL env.kindOf binds fun _ => none) (cellsFrom (s.heap.objs.size + 1) scope.names []) (bindC env.kindOf binds fun _ => none) s' → Q env s') :
    wpAny M A (newFunctionEnv scope globals closure binds qual func code none builtins) Q E s := by
  simp only [newFunctionEnv, Option.isSome_none, Bool.false_eq_true, if_false]
  refine wpAny_bind (wpAny_alloc ?_)
  refine wpAny_bind (wpAny_layCells _ (fun name kind cells => by cases hkc : kind == NameKind.cell <;> simp [hkc]) _ _ _ _ ?_)
  have ok := cellsFrom_ok scope.names (s.heap.push { cls := .type "frame", data := .dict #[] }) (s.heap.objs.size + 1) [] ⟨fun _ _ hm => (nomatch hm), List.Pairwise.nil⟩ (by rw [Heap.size_push]; exact Nat.le_refl _)
  rw [Heap.size_push] at ok
  rw [show ({ s with heap := s.heap.push { cls := .type "frame", data := .dict #[] } } : Shared).heap.objs.size = s.heap.objs.size + 1 from Heap.size_push ..]
  refine wpAny_bind (bindParams2 (s₀ := s) (cs := cellsFrom (s.heap.objs.size + 1) scope.names []) (env := newEnv scope s.heap.objs.size globals (cellsFrom (s.heap.objs.size + 1) scope.names closure) qual func code none builtins)
    _ (fun _ _ _ => rfl) hk binds (fun _ => none) (fun _ => none) _ _
    ⟨⟨⟨_, _, rfl⟩, (Heap.Ns.new s.heap (.type "frame")).keeps (pushCells_keeps _ _), fun b o e => pushCells_keeps _ _ b o (Heap.get?_push_of_some _ e), Nat.le_refl _⟩,
      fun n c hc => (ok.empty n c (PySem.mem_of_lookup hc)).1, ok.apart, fun n c hm => (ok.empty n c hm).2⟩
    (fun x hx => ?_) fun s' x => wpAny_pure (hQ _ rfl s' x))
  rcases hkind x hx with h | ⟨h, hc⟩
  · exact .inl h
  · obtain ⟨c, hc⟩ := Option.isSome_iff_exists.mp hc
    refine .inr ⟨h, c, ?_, hc⟩
    show (cellsFrom (s.heap.objs.size + 1) scope.names closure).lookup x.1 = some c
    rw [cellsFrom_app, List.lookup_append, hc]
    rfl
end Own
namespace Own
open PySem PySem.Spec PyProof.Rows L2
structure MScope (N ps fr : List Str) (sc : Scope) : Prop where
  kind : sc.kind = .function
  co : sc.isCoroutine = false
  gen : sc.isGenerator = false
  nd : N.Nodup
  pre : N.take (ps.length + fr.length) = ps ++ fr
  par : ∀ x ∈ ps, sc.names.lookup x = some .local ∨ sc.names.lookup x = some .cell
  free : ∀ y ∈ sc.names, y.2 = .free → y.1 ∈ fr
  frk : ∀ x ∈ fr, sc.names.lookup x = some .free
  sep : ∀ y ∈ sc.names, y.2 = .cell → y.1 ∉ fr
def mscB (N ps fr : List Str) (sc : Scope) : Bool :=
  decide (sc.kind = .function) && !sc.isCoroutine && !sc.isGenerator && decide N.Nodup && decide (N.take (ps.length + fr.length) = ps ++ fr) && ps.all (fun x => decide (sc.names.lookup x = some .local) || decide (sc.names.lookup x = some .cell)) && sc.names.all (fun y => !decide (y.2 = .free) || decide (y.1 ∈ fr)) && fr.all (fun x => decide (sc.names.lookup x = some .free)) && sc.names.all (fun y => !decide (y.2 = .cell) || !decide (y.1 ∈ fr))
theorem mscope_by {N ps fr : List Str} {sc : Scope} (h : mscB N ps fr sc = true) : MScope N ps fr sc := by
  unfold mscB at h
  simp only [Bool.and_eq_true, Bool.not_eq_true', decide_eq_true_eq, List.all_eq_true, Bool.or_eq_true, decide_eq_false_iff_not] at h
  obtain ⟨⟨⟨⟨⟨⟨⟨⟨h1, h2⟩, h3⟩, h4⟩, h5⟩, h6⟩, h8⟩, h9⟩, h10⟩ := h
  exact ⟨h1, h2, h3, h4, h5, h6, fun y hy e => (h8 y hy).elim (fun z => absurd e z) id, h9, fun y hy e => (h10 y hy).elim (fun z => absurd e z) id⟩
abbrev envM (F : NdefX.NF) (f L : Addr) : Env := PySem.W.envX F.qual F.scope L f (.ref F.c) (cellsFrom (L + 1) F.scope.names F.cl)
/-- the context of its body, at its entry -/
def mcx (CX : CXT) (P : Program) (w : World) (K : PySem.W.Frag) (mg : Str → Option Value) (base : Heap) (N : List Str) (F : NdefX.NF) (f : Addr) (A : Around) (outer : List Env) (s : Shared) (H : Hp) (E : XK) : Cx where
  prog := P
  w := w
  K := K
  mg := mg
  base := base
  A := A.deeper (envM F f s.heap.objs.size)
  N := N
  s_0 := s
  H_0 := H
  env := envM F f s.heap.objs.size
  outer := outer
  stack := envM F f s.heap.objs.size :: outer
  ex := []
  calm := true
  fn := fun x => decide (F.scope.names.lookup x = some .cell)
  pn := []
  xe := fun e s' => wpAny (model P w) (A.deeper (envM F f s.heap.objs.size)) (leaving (envM F f s.heap.objs.size) e) (fun _ s'' => CX outer H s E e s'') (fun e' s'' => CX outer H s E e' s'') s'
section
variable {CX : CXT} {P : Program} {w : World} {K : PySem.W.Frag} {mg : Str → Option Value} {base : Heap} {N ps fr : List Str} {F : NdefX.NF} {f : Addr} {A : Around} {outer : List Env} {s s1 : Shared} {H : Hp} {E : XK} {us : List Value} {vs : List V} {ws : List (Option V)}
theorem inv_startM (S : MScope N ps fr F.scope) (hd : A.handled = none) (e0 : Env0 P w K mg base A outer s H) (hl : vs.length = ps.length) (r : Vals vs us) (C : NdefX.CellsAt F.cl fr ws s.heap H)
    (x : InCallC s s.heap.objs.size (bindL (envM F f s.heap.objs.size).kindOf (ps.zip us) fun _ => none) (cellsFrom (s.heap.objs.size + 1) F.scope.names []) (bindC (envM F f s.heap.objs.size).kindOf (ps.zip us) fun _ => none) s1) :
    Inv (mcx CX P w K mg base N F f A outer s H E) [] (NdefX.startF N vs ws) H s1 := by
  have hpl : ps.length + fr.length ≤ N.length := by
    have q := congrArg List.length S.pre
    rw [List.length_take, List.length_append] at q
    omega
  obtain ⟨h1, tk, rfl, kp⟩ := x.done
  have noA : ∀ b : Addr, b ∉ (mcx CX P w K mg base N F f A outer s H E).ex := fun b z => absurd (show b ∈ ([] : List Addr) from z) (by simp)
  have cellK : ∀ {c : Addr} {v : Option Value}, s.heap.IsCell c v → h1.IsCell c v := fun {c v} ⟨o, ho, hd⟩ => ⟨o, kp _ _ ho, hd⟩
  -- a cell of its own or a captured one
  have two : ∀ {y : Str} {c : Addr}, (cellsFrom (s.heap.objs.size + 1) F.scope.names F.cl).lookup y = some c → (cellsFrom (s.heap.objs.size + 1) F.scope.names []).lookup y = some c ∨ ((cellsFrom (s.heap.objs.size + 1) F.scope.names []).lookup y = none ∧ F.cl.lookup y = some c) := fun {y c} h => by
    rw [cellsFrom_app, List.lookup_append] at h
    cases e : (cellsFrom (s.heap.objs.size + 1) F.scope.names []).lookup y with
    | some d =>
      rw [e] at h
      exact .inl h
    | none =>
      rw [e] at h
      exact .inr ⟨rfl, h⟩
  have ofFree : ∀ {y : Str} {c : Addr}, y ∈ fr → F.cl.lookup y = some c → (cellsFrom (s.heap.objs.size + 1) F.scope.names F.cl).lookup y = some c := fun {y c} hy h => by
    rw [cellsFrom_app, List.lookup_append]
    cases e : (cellsFrom (s.heap.objs.size + 1) F.scope.names []).lookup y with
    | some d =>
      exfalso
      obtain ⟨z, mz, e1, e2⟩ := cellsFrom_key (PySem.mem_of_lookup e)
      exact S.sep z mz e2 (e1 ▸ hy)
    | none => exact h
  have ofOwn : ∀ {y : Str} {c : Addr}, (cellsFrom (s.heap.objs.size + 1) F.scope.names []).lookup y = some c → (cellsFrom (s.heap.objs.size + 1) F.scope.names F.cl).lookup y = some c := fun {y c} h => by
    rw [cellsFrom_app, List.lookup_append, h]
    rfl
  have above : ∀ {y : Str} {c : Addr}, (cellsFrom (s.heap.objs.size + 1) F.scope.names []).lookup y = some c → s.heap.objs.size < c := fun h => x.above _ _ (PySem.mem_of_lookup h)
  have below : ∀ {y : Str} {c : Addr}, F.cl.lookup y = some c → c < s.heap.objs.size := fun h => by
    obtain ⟨_, v, o, ho, _⟩ := C.all _ _ h
    exact Heap.lt_size ho
  refine ⟨⟨e0.mod, S.kind, rfl, rfl, Nat.le_refl _, fun y z c h1 h2 => ?_, fun y hy => ?_, fun y c hf h => ?_, fun _ => hd, Around.frames_deeper e0.frames, .inr ⟨rfl, rfl⟩, fun b z => absurd z (noA b), e0.bs, e0.bsz, fun b _ _ => noA b, fun b z => absurd z (noA b), e0.funs, e0.frf⟩,
    rfl, e0.bare, Un.kept kp, ⟨_, x.toInCall.ns, fun i y v e1 e2 e3 => ?_⟩, fun y c e => ?_, e0.hok.fresh (Nat.le_refl _), fun y c e => ?_, fun q hq => absurd (show q ∈ ([] : List (Addr × Obj)) ++ [] from hq) (by simp), e0.hok.kept kp, ?_⟩
  · rcases two h1 with h1 | ⟨_, h1⟩ <;> rcases two h2 with h2 | ⟨_, h2⟩
    · exact name_of_addr x.apart (PySem.mem_of_lookup h1) (PySem.mem_of_lookup h2)
    · exact absurd (above h1) (Nat.not_lt.mpr (Nat.le_of_lt (below h2)))
    · exact absurd (above h2) (Nat.not_lt.mpr (Nat.le_of_lt (below h1)))
    · exact C.inj _ _ _ h1 h2
  · have hy : F.scope.names.lookup y = some .cell ∨ F.scope.names.lookup y = some .free := hy
    rcases hy with hy | hy
    · obtain ⟨c, h⟩ := cell_has (n := s.heap.objs.size + 1) hy
      exact ⟨c, ofOwn h⟩
    · have hm := S.free _ (PySem.mem_of_lookup hy) rfl
      obtain ⟨i, hi⟩ := List.mem_iff_getElem?.mp hm
      obtain ⟨c, hc, _⟩ := C.has i y hi
      exact ⟨c, ofFree hm hc⟩
  · have hc : F.scope.names.lookup y = some .cell := of_decide_eq_true hf
    obtain ⟨d, hd⟩ := cell_has (n := s.heap.objs.size + 1) hc
    have z : (cellsFrom (s.heap.objs.size + 1) F.scope.names F.cl).lookup y = some c := h
    rw [ofOwn hd] at z
    cases z
    exact Nat.le_of_lt (above hd)
  · have e1 : N[i]? = some y := e1
    have clen := C.len
    unfold NdefX.startF at e2
    by_cases h1 : i < ps.length
    · have hq : (ps ++ fr)[i]? = some y := by
        rw [← S.pre, List.getElem?_take_of_lt (by omega)]
        exact e1
      rw [List.getElem?_append_left h1] at hq
      rw [List.getElem?_append_left (by rw [List.length_map]; omega), List.getElem?_map] at e2
      have ha : vs[i]? = some v := by
        cases e : vs[i]? with
        | none => rw [e] at e2; cases e2
        | some a => rw [e] at e2; cases e2; rfl
      obtain ⟨u, hu, rv⟩ := r.get ha
      have ndP : ps.Nodup := by
        have q := S.nd.sublist (List.take_sublist (ps.length + fr.length) N)
        rw [S.pre] at q
        exact (List.nodup_append.mp q).1
      refine ⟨u, rv, ?_⟩
      rcases S.par y (List.mem_of_getElem? hq) with k | k
      · exact .inl ⟨k, bindL_get ndP hq hu k⟩
      · obtain ⟨c, e⟩ := cell_has (n := s.heap.objs.size + 1) k
        refine .inr ⟨.inl k, c, ofOwn e, ?_⟩
        have q := x.cell y c e
        rw [bindC_get ndP hq hu (by show F.scope.names.lookup y ≠ _; rw [k]; decide)] at q
        exact q
    · rw [List.getElem?_append_right (by rw [List.length_map]; omega), List.length_map] at e2
      by_cases h2 : i < ps.length + fr.length
      · have hq : (ps ++ fr)[i]? = some y := by
          rw [← S.pre, List.getElem?_take_of_lt (by omega)]
          exact e1
        rw [List.getElem?_append_right (by omega)] at hq
        rw [List.getElem?_append_left (by omega), hl] at e2
        obtain ⟨c, hc, hv⟩ := C.has (i - ps.length) y hq
        obtain ⟨u, ru, hu⟩ := hv v e2
        exact ⟨u, ru, .inr ⟨.inr (S.frk y (List.mem_of_getElem? hq)), c, ofFree (List.mem_of_getElem? hq) hc, cellK hu⟩⟩
      · rw [List.getElem?_append_right (by omega), List.getElem?_replicate] at e2
        split at e2 <;> cases e2
  · rcases two e with e | ⟨_, e⟩
    · exact ⟨_, x.cell y c e⟩
    · obtain ⟨v, z⟩ := (C.all y c e).2
      exact ⟨v, cellK z⟩
  · rcases two e with e | ⟨_, e⟩
    · exact e0.hok.fresh (Nat.le_of_lt (above e))
    · exact (C.all y c e).1
  · have clen := C.len
    unfold NdefX.startF
    show _ = N.length
    rw [List.length_append, List.length_append, List.length_map, List.length_replicate]
    omega
/-- a lambda by its body; it may have cells of its own -/
theorem cb_lamM {k : Nat} {sp : SpC} {e : Expr} {Pt : Addr} (S : MScope N ps fr F.scope) (hb : ∀ (pm ctv : Value) (us : List Value), us.length = ps.length → bindArgs (PySem.W.kla_fn "<lambda>" F.qual F.params e F.scope F.cl pm (.ref F.c) ctv) ⟨us, []⟩ = pure (ps.zip us)) (len : ∀ outer s ws vs H Q E, sp outer s ws vs H Q E → vs.length = ps.length)
    (body : ∀ (A : Around) (outer : List Env) (s : Shared) (H : Hp) (vs : List V) (ws : List (Option V)) (Q : VK) (E : XK), Room k (A.deeper (envM F f s.heap.objs.size)) → H f = some (LamO f F e) → H F.c = some (CodeH F.c F.qual Pt) → NdefX.CellsAt F.cl fr ws s.heap H → sp outer s ws vs H Q E →
      ∃ t, PE (mcx CX P w K mg base N F f A outer s H E) e t ∧ t (NdefX.startF N vs ws) H Q) : CbOk P w K mg base CX (k + 1) f (cbL f F e Pt) ps fr sp := by
  refine ⟨fun H h ok x => let ⟨pm, ctv, ho⟩ := lamO_at ok x; ⟨_, _, _, _, ho⟩, lamO_ne, len, fun A outer s H us vs ws Q E hr e0 hf hc C r hsp => ?_⟩
  have ll := len _ _ _ _ _ _ _ hsp
  obtain ⟨pm, ctv, ho⟩ := lamO_at e0.hok hf
  have noLim : s.heap.NoLimit := e0.mod.nolimit.keeps fun b o x => (e0.bs b o x).1
  refine PySem.W.kla_callFunE hr.depth ho rfl S.co S.gen rfl (codeH_at e0.hok hc).1 ?_
  rw [hb pm ctv us (by rw [← r.length]; exact ll)]
  have hkind : ∀ y ∈ ps.zip us, F.scope.names.lookup y.1 = some .local ∨ (F.scope.names.lookup y.1 = some .cell ∧ ((cellsFrom (s.heap.objs.size + 1) F.scope.names []).lookup y.1).isSome = true) := fun ⟨n, v⟩ hy => by
    rcases S.par n (List.of_mem_zip hy).1 with q | q
    · exact .inl q
    · exact .inr ⟨q, PySem.W.cellsFrom_some _ _ _ (.inl q)⟩
  refine wpAny_pure (newFunctionEnv_mix S.kind hkind fun env he s1 x => ?_)
  subst he
  refine ⟨noLim.keeps x.toInCall.keep, ?_⟩
  obtain ⟨t, ht, hq⟩ := body A outer s H vs ws Q E (hr.deeper _) hf hc C hsp
  have I : Inv (mcx CX P w K mg base N F f A outer s H E) [] (NdefX.startF N vs ws) H s1 := inv_startM S hr.hd e0 ll r C x
  refine PySem.W.kla_codeExpr (wpAny_mono (ht.run [] _ _ H Q I hq) (fun v s' z => ?_) fun x s' z => z)
  obtain ⟨v', H', J, rv, q⟩ := z
  exact ⟨v', H', J.os, J.bare, J.base, J.hok, rv, q⟩
end
end Own

set_option Elab.async false
set_option linter.all false
set_option maxRecDepth 100000
set_option maxHeartbeats 4000000
/-! {k: v for x in xs}, xs a list or a tuple in which things may stand twice. -/
namespace Own
open PySem PySem.Spec PyProof.Rows L2
/-- the rows of these names, the names perhaps more than once -/
abbrev rowsF (f : Str → V) (ys : List Str) : Tbl := ys.map fun y => (Sum.inr y, f y)
theorem valV_rows (f : Str → V) : ∀ {ys : List Str} {a : Tbl} {z : Str}, valV (mergeK a (rowsF f ys)) (.inr z) = if z ∈ ys then some (f z) else valV a (.inr z)
  | [], a, z => by
    show valV a _ = _
    simp
  | y :: ys, a, z => by
    show valV (mergeK (putK a (Sum.inr y) (f y)) (rowsF f ys)) (.inr z) = _
    rw [valV_rows f, valV_put]
    by_cases h1 : z ∈ ys
    · simp [h1]
    · by_cases h2 : z = y
      · subst h2
        simp [h1]
      · rw [if_neg h1, if_neg (fun e => h2 (Sum.inr.inj e)), if_neg (by simp [h1, h2])]
theorem rows_tok {f : Str → V} {ys : List Str} {a : Tbl} (ha : TOk a) (ids : ∀ y ∈ ys, isIdent y = true) (ok : ∀ y ∈ ys, valOk (f y) = true) : TOk (mergeK a (rowsF f ys)) :=
  mergeK_tok ha (fun p hp => by
    obtain ⟨y, my, rfl⟩ := List.mem_map.mp hp
    exact ids y my) (fun p hp => by
    obtain ⟨y, my, rfl⟩ := List.mem_map.mp hp
    exact ok y my)
theorem rows_len {f : Str → V} {ys : List Str} : (mergeK [] (rowsF f ys)).length ≤ ys.length := by
  have := length_mergeK (rowsF f ys) []
  rw [show (rowsF f ys).length = ys.length from List.length_map ..] at this
  simpa using this
theorem dcY_go {J : It} {ys : List Str} {G : Hp → Prop} (w : Walk J ys.length G (YAt (ys.map V.str))) {j : Nat} {tk tv : TE} {σ : L2.St} {H : Hp} {Q : VK} (f : Str → V) (hG : ∀ D H', H D = none → ExT D H H' → G H') (hz : ys.length ≤ 100000)
    (hk : ∀ (y : Str) H' (R : VK), y ∈ ys → Same H H' → R (.str y) H' → tk ((wipe σ [j]).set j (some (.str y))) H' R)
    (hv : ∀ (y : Str) H' (R : VK), y ∈ ys → Same H H' → R (f y) H' → tv ((wipe σ [j]).set j (some (.str y))) H' R)
    (q : ∀ D H', H D = none → Same H H' → H' D = some (.dK (mergeK [] (rowsF f ys))) → Q (.ref D) H') : tDc (fun _ H R => R J H) (gName j) tYes tk tv [j] σ H Q := by
  refine fun D hD => ?_
  refine ⟨fun i m H' => m = ys.length - i ∧ i ≤ ys.length ∧ H' D = some (.dK (mergeK [] (rowsF f (ys.take i)))) ∧ ExT D H H', ⟨ys.length, rfl, Nat.zero_le _, upd_same, exT_upd (ExT.refl D H)⟩, ?_⟩
  rintro i m H' ⟨rfl, le, p1, p2⟩
  have sH := ExT.toSame hD p2
  have g := hG D H' hD p2
  rcases Nat.lt_or_ge i ys.length with lt | ge
  · have ey : ys[i]? = some ys[i] := List.getElem?_eq_getElem lt
    have mem : ys[i] ∈ ys := List.getElem_mem lt
    refine .inr ⟨w.goes i H' lt g, fun H2 => H2 D = some (.dK (mergeK [] (rowsF f (ys.take (i + 1))))) ∧ ExT D H H2, fun H2 p' => ⟨ys.length - (i + 1), by omega, rfl, lt, p'⟩, ?_⟩
    intro x H2 hy
    obtain ⟨rfl, hx⟩ := w.yields i H' x H2 lt g hy
    rw [List.getElem?_map, ey] at hx
    have ex2 : V.str ys[i] = x := Option.some.inj hx
    subst ex2
    refine ⟨wipe_set, ?_⟩
    show tk _ _ _
    refine hk _ _ _ mem sH (hv _ _ _ mem sH ?_)
    refine ⟨_, Sum.inr ys[i], rfl, p1, ?_, ?_, exT_upd p2⟩
    · refine Nat.lt_of_le_of_lt rows_len ?_
      exact Nat.lt_of_le_of_lt (List.length_take_le _ _) (Nat.lt_of_lt_of_le lt (Nat.le_trans hz (by decide)))
    · rw [upd_same, List.take_add_one, ey]
      unfold rowsF mergeK
      rw [List.map_append, List.foldl_append]
      rfl
  · obtain rfl : i = ys.length := Nat.le_antisymm le ge
    rw [List.take_length] at p1
    exact .inl ⟨w.stops H' g, q D H' hD sH p1⟩
/-- .. over a list or a tuple -/
theorem dcLT_go {K : PySem.W.Frag} {t1 t2 : TE} {j : Nat} {tk tv : TE} {σ : L2.St} {H : Hp} {Q : VK} {a : Addr} {ys : List Str} (f : Str → V) (ht1 : ∀ Q : VK, Q (.ref a) H → t1 σ H Q) (ht2 : ∀ Q : VK, Q (.ref a) H → t2 σ H Q) (ha : SqL K H a (ys.map V.str) ∨ SqT K H a (ys.map V.str)) (hz : ys.length ≤ 100000)
    (hk : ∀ (y : Str) H' (R : VK), y ∈ ys → Same H H' → R (.str y) H' → tk ((wipe σ [j]).set j (some (.str y))) H' R)
    (hv : ∀ (y : Str) H' (R : VK), y ∈ ys → Same H H' → R (f y) H' → tv ((wipe σ [j]).set j (some (.str y))) H' R)
    (q : ∀ D H', H D = none → Same H H' → H' D = some (.dK (mergeK [] (rowsF f ys))) → Q (.ref D) H') : tDc (fun σ H R => iList K t1 σ H R ∨ iTup K t2 σ H R) (gName j) tYes tk tv [j] σ H Q := by
  have e : (ys.map V.str).length = ys.length := List.length_map ..
  rcases ha with ha | ha
  · exact .inl (ht1 _ ⟨a, rfl, ⟨_, ha⟩, dcY_go (e ▸ walk_list) f (fun D H' hD v => sq_same (ExT.toSame hD v) ha) hz hk hv q⟩)
  · exact .inr (ht2 _ ⟨a, rfl, ⟨_, ha⟩, dcY_go (e ▸ walk_tup) f (fun D H' hD v => sqT_same (ExT.toSame hD v) ha) hz hk hv q⟩)
/-- two tables that differ, or don't -/
def rNeDB : R2 := fun x y H Q => ∃ a b ka kb, x = .ref a ∧ y = .ref b ∧ H a = some (.dK ka) ∧ H b = some (.dK kb) ∧ TOk ka ∧ TOk kb ∧ Q (.bl (!eqT ka kb)) H
theorem op_neDB {X : Cx} (hu : X.A.units < cLine) : OpR X (compareOp .NotEq) rNeDB := by
  intro pins s σ H x y v u Q I rx ry h
  obtain ⟨a, b, ka, kb, rfl, rfl, ha, hb, ta, tb, q⟩ := h
  cases rx; cases ry
  obtain ⟨_, ya, va, ra, da⟩ := dk_of I.hok ha
  obtain ⟨_, yb, vb, rb, db⟩ := dk_of I.hok hb
  refine PySem.W.keq_ne (knd := mixKind X.prog X.w) (r := hitB kb ka) ya yb da db hu (fun _ => hits_tab (P := X.prog) (w := X.w) rb tb.ok ra ta.ok) ⟨.bl (!eqT ka kb), H, I, ?_, q⟩
  have l1 : ka.length = va.length := Paired.length ra
  have l2 : kb.length = vb.length := Paired.length rb
  show Value.bool (!(va.length == vb.length && hitB kb ka)) = Value.bool (!eqT ka kb)
  unfold eqT
  rw [l1, l2]
end Own

set_option Elab.async false
set_option linter.all false
set_option maxRecDepth 100000
set_option maxHeartbeats 4000000
/-! A default that is an empty tuple. -/
namespace Own
open PySem PySem.Spec PyProof.Rows L2
def nilTB (K : PySem.W.Frag) (a : Addr) : Bool := match K.lookup a with
  | some ⟨.type c, _, .seq its _, _⟩ => decide (c = "tuple") && decide (its.size = 0)
  | _ => false
theorem nilTB_ok {K : PySem.W.Frag} {a : Addr} (h : nilTB K a = true) (H : Hp) : SqT K H a [] := by
  unfold nilTB at h
  split at h
  · rename_i c d its n sl q
    simp only [Bool.and_eq_true, decide_eq_true_eq] at h
    obtain ⟨rfl, h2⟩ := h
    have e : its.toList = [] := by
      apply List.eq_nil_of_length_eq_zero
      simpa using h2
    exact .inr ⟨_, its, n, q, rfl, rfl, by rw [h2]; decide, by rw [e]; exact .nil⟩
  · cases h
end Own

set_option Elab.async false
set_option linter.all false
set_option maxRecDepth 100000
set_option maxHeartbeats 4000000
/-! Cells of frames that have ended, told in the heap; calls that are told by thin frames. -/
namespace Own
open PySem PySem.Spec PyProof.Rows L2
/-! ### a cell of an ended frame -/
def CellO (c : Addr) (b : Obj) : HO := .ext fun h => h.get? c = some b
theorem cellO_ne {c : Addr} {b : Obj} : (∀ xs, CellO c b ≠ .lst xs) ∧ (∀ C dx fs, CellO c b ≠ .ins C dx fs) ∧ (∀ kv, CellO c b ≠ .dK kv) ∧ ∀ ps, CellO c b ≠ .tbl ps :=
  ⟨fun _ z => (by unfold CellO at z; cases z), fun _ _ _ z => (by unfold CellO at z; cases z), fun _ z => (by unfold CellO at z; cases z), fun _ z => (by unfold CellO at z; cases z)⟩
theorem cellO_tup {c : Addr} {b : Obj} {xs : List V} : CellO c b ≠ .tup xs := fun z => by unfold CellO at z; cases z
theorem cellO_own {c a : Addr} {b : Obj} : CellO c b ≠ .own a := fun z => by unfold CellO at z; cases z
theorem cellO_frz {c : Addr} {b : Obj} {o : Obj} {u : HO} : CellO c b ≠ .frz o u := fun z => by unfold CellO at z; cases z
def unp (H : Hp) (c : Addr) : Hp := fun a => if a = c then none else H a
theorem unp_same {H : Hp} {c : Addr} : unp H c c = none := by unfold unp; rw [if_pos rfl]
theorem unp_ne {H : Hp} {a c : Addr} (h : a ≠ c) : unp H c a = H a := by unfold unp; rw [if_neg h]
theorem unp_none {H : Hp} {a c : Addr} (h : H a = none) : unp H c a = none := by
  unfold unp
  split
  · rfl
  · exact h
theorem unp_some {H : Hp} {a c : Addr} {o : HO} (h : unp H c a = some o) : a ≠ c ∧ H a = some o := by
  by_cases z : a = c
  · rw [z, unp_same] at h
    cases h
  · rw [unp_ne z] at h
    exact ⟨z, h⟩
section
variable {P : Program} {w : World} {K : PySem.W.Frag} {mg : Str → Option Value} {base : Heap} {H H' : Hp} {h h' B : Heap} {c : Addr} {b : Obj} {fs ex : List Addr} {A : Around} {outer : List Env} {s s' : Shared} {Q Q' : VK} {E E' : XK} {u : Value}
theorem cellO_ok (e : h.get? c = some b) : ObjOk P w H h c (CellO c b) := ⟨e, ⟨b, e⟩, fun h1 h2 e1 st => st _ e1⟩
theorem ne_cell {a : Addr} {o : HO} (e : H c = some (CellO c b)) (q : H a = some o) (n : CellO c b ≠ o) : a ≠ c := fun z => by
  rw [z, e] at q
  exact n (Option.some.inj q)
theorem hok_unp (x : HOk P w H h) (e : H c = some (CellO c b)) : HOk P w (unp H c) h := fun a o ha => by
  obtain ⟨_, h1⟩ := unp_some ha
  exact (x a o h1).stay (fun _ _ _ q => q) (fun d q => by rw [unp_ne (ne_cell e q cellO_own)]; exact q) fun d xs q => by rw [unp_ne (ne_cell e q cellO_tup)]; exact q
theorem hok_pin (x : HOk P w H h) (n : H c = none) (e : h.get? c = some b) : HOk P w (upd H c (CellO c b)) h := fun a o ha => by
  by_cases z : a = c
  · subst z
    rw [upd_same] at ha
    obtain rfl := Option.some.inj ha
    exact cellO_ok e
  · rw [upd_ne z] at ha
    exact (x a o ha).stay (fun _ _ _ q => q) (fun d q => by rw [upd_ne (fun y => by rw [y, n] at q; cases q)]; exact q) fun d xs q => by rw [upd_ne (fun y => by rw [y, n] at q; cases q)]; exact q
theorem un_pin (u : Un fs ex (unp H c) H' h h') (e : H c = some (CellO c b)) : Un fs ex H (upd H' c (CellO c b)) h h' where
  keep d o x n := u.keep d o x (unp_none n)
  slot d o x n := u.slot d o x (unp_none n)
  free d o x n hx := by
    rw [upd_ne (fun z => by rw [z, e] at n; cases n)]
    exact u.free d o x (unp_none n) hx
  there := u.there
  tups d xs x := by
    have nd := ne_cell e x cellO_tup
    rw [upd_ne nd]
    exact u.tups d xs (by rw [unp_ne nd]; exact x)
  frzs d o y x := by
    have nd := ne_cell e x cellO_frz
    rw [upd_ne nd]
    exact u.frzs d o y (by rw [unp_ne nd]; exact x)
  tbls d ps x := by
    have nd := ne_cell e x (cellO_ne.2.2.2 _)
    rw [upd_ne nd]
    exact u.tbls d ps (by rw [unp_ne nd]; exact x)
theorem ub_pin (u : UB fs (unp H c) H' h B h') (e : H c = some (CellO c b)) : UB fs H (upd H' c (CellO c b)) h B h' where
  keep d o x n := u.keep d o x (unp_none n)
  slot := u.slot
  free d o x n := by
    rw [upd_ne (fun z => by rw [z, e] at n; cases n)]
    exact u.free d o x (unp_none n)
  there := u.there
  tups d xs x := by
    have nd := ne_cell e x cellO_tup
    rw [upd_ne nd]
    exact u.tups d xs (by rw [unp_ne nd]; exact x)
  frzs d o y x := by
    have nd := ne_cell e x cellO_frz
    rw [upd_ne nd]
    exact u.frzs d o y (by rw [unp_ne nd]; exact x)
  tbls d ps x := by
    have nd := ne_cell e x (cellO_ne.2.2.2 _)
    rw [upd_ne nd]
    exact u.tbls d ps (by rw [unp_ne nd]; exact x)
theorem un_new {o : HO} (u : Un fs ex H H' h h') (n : h.get? c = none) (nc : H c = none) : Un fs ex H (upd H' c o) h h' where
  keep := u.keep
  slot := u.slot
  free d o x m hx := by
    rw [upd_ne (fun z => by rw [z, n] at x; cases x)]
    exact u.free d o x m hx
  there := u.there
  tups d xs x := by
    rw [upd_ne (fun z => by rw [z, nc] at x; cases x)]
    exact u.tups d xs x
  frzs d o y x := by
    rw [upd_ne (fun z => by rw [z, nc] at x; cases x)]
    exact u.frzs d o y x
  tbls d ps x := by
    rw [upd_ne (fun z => by rw [z, nc] at x; cases x)]
    exact u.tbls d ps x
theorem ce_pin (z : CE outer P w (unp H c) s Q' u s') (e : H c = some (CellO c b)) (hok : HOk P w H s.heap) (nf : c ∉ frs outer) (im : ∀ v H', H' c = none → Q' v H' → Q v (upd H' c (CellO c b))) : CE outer P w H s Q u s' := by
  obtain ⟨v, H', os, bare, un, ok, rv, q⟩ := z
  have ho : s.heap.get? c = some b := (hok c _ e).1
  have n : H' c = none := un.free c b ho unp_same (by simp)
  exact ⟨v, _, os, bare, un_pin un e, hok_pin ok n (un.keep c b ho unp_same nf (by simp)), rv, im v H' n q⟩
theorem cx_pin (z : L2.CX P w outer (unp H c) s E' u s') (e : H c = some (CellO c b)) (hok : HOk P w H s.heap) (nf : c ∉ frs outer) (im : ∀ cls d H', H' c = none → E' cls d H' → E cls d (upd H' c (CellO c b))) : L2.CX P w outer H s E u s' := by
  obtain ⟨a, B, H', cls, d, rfl, fl, ok, ub, na, os, ag, hE⟩ := z
  have ho : s.heap.get? c = some b := (hok c _ e).1
  have n : H' c = none := ub.free c b ho unp_same
  have k := ub.keep c b ho unp_same nf
  have ac : a ≠ c := fun y => by
    have f := fl.2.1
    rw [y, k] at f
    cases f
  exact ⟨a, B, _, cls, d, rfl, fl, hok_pin ok n k, ub_pin ub e, by rw [upd_ne ac]; exact na, os, ag, im _ _ _ n hE⟩
/-- the other way: told in the heap for the time of a call -/
theorem repin {e : H c = some (CellO c b)} : upd (unp H c) c (CellO c b) = H := by
  funext a
  by_cases z : a = c
  · rw [z, upd_same, e]
  · rw [upd_ne z, unp_ne z]
theorem un_unp (u : Un fs ex (upd H c (CellO c b)) H' h h') (n : H c = none) (ho : h.get? c = some b) (e : H' c = some (CellO c b)) (ho' : h'.get? c = some b) (nf : c ∉ fs) : Un fs ex H (unp H' c) h h' where
  keep d o x m hf hx := by
    by_cases z : d = c
    · subst z
      rw [ho] at x
      obtain rfl := Option.some.inj x
      exact ho'
    · exact u.keep d o x (by rw [upd_ne z]; exact m) hf hx
  slot d o x m hf hx := u.slot d o x (by rw [upd_ne (fun z => nf (by rw [← z]; exact hf))]; exact m) hf hx
  free d o x m hx := by
    by_cases z : d = c
    · rw [z]
      exact unp_same
    · exact unp_none (u.free d o x (by rw [upd_ne z]; exact m) hx)
  there := u.there
  tups d xs x := by
    have nd : d ≠ c := fun z => by rw [z, n] at x; cases x
    rw [unp_ne nd]
    exact u.tups d xs (by rw [upd_ne nd]; exact x)
  frzs d o y x := by
    have nd : d ≠ c := fun z => by rw [z, n] at x; cases x
    rw [unp_ne nd]
    exact u.frzs d o y (by rw [upd_ne nd]; exact x)
  tbls d ps x := by
    have nd : d ≠ c := fun z => by rw [z, n] at x; cases x
    rw [unp_ne nd]
    exact u.tbls d ps (by rw [upd_ne nd]; exact x)
theorem ub_unp (u : UB fs (upd H c (CellO c b)) H' h B h') (n : H c = none) (ho : h.get? c = some b) (ho' : B.get? c = some b) (nf : c ∉ fs) : UB fs H (unp H' c) h B h' where
  keep d o x m hf := by
    by_cases z : d = c
    · subst z
      rw [ho] at x
      obtain rfl := Option.some.inj x
      exact ho'
    · exact u.keep d o x (by rw [upd_ne z]; exact m) hf
  slot := u.slot
  free d o x m := by
    by_cases z : d = c
    · rw [z]
      exact unp_same
    · exact unp_none (u.free d o x (by rw [upd_ne z]; exact m))
  there := u.there
  tups d xs x := by
    have nd : d ≠ c := fun z => by rw [z, n] at x; cases x
    rw [unp_ne nd]
    exact u.tups d xs (by rw [upd_ne nd]; exact x)
  frzs d o y x := by
    have nd : d ≠ c := fun z => by rw [z, n] at x; cases x
    rw [unp_ne nd]
    exact u.frzs d o y (by rw [upd_ne nd]; exact x)
  tbls d ps x := by
    have nd : d ≠ c := fun z => by rw [z, n] at x; cases x
    rw [unp_ne nd]
    exact u.tbls d ps (by rw [upd_ne nd]; exact x)
theorem ce_unp (z : CE outer P w (upd H c (CellO c b)) s Q' u s') (n : H c = none) (ho : s.heap.get? c = some b) (nf : c ∉ frs outer) (im : ∀ v H', Q' v H' → H' c = some (CellO c b) ∧ Q v (unp H' c)) : CE outer P w H s Q u s' := by
  obtain ⟨v, H', os, bare, un, ok, rv, q⟩ := z
  obtain ⟨e, q⟩ := im v H' q
  exact ⟨v, _, os, bare, un_unp un n ho e (ok c _ e).1 nf, hok_unp ok e, rv, q⟩
theorem cx_unp (z : L2.CX P w outer (upd H c (CellO c b)) s E' u s') (n : H c = none) (ho : s.heap.get? c = some b) (nf : c ∉ frs outer) (im : ∀ cls d H', E' cls d H' → H' c = some (CellO c b) ∧ E cls d (unp H' c)) : L2.CX P w outer H s E u s' := by
  obtain ⟨a, B, H', cls, d, rfl, fl, ok, ub, na, os, ag, hE⟩ := z
  obtain ⟨e, q⟩ := im _ _ _ hE
  exact ⟨a, B, _, cls, d, rfl, fl, hok_unp ok e, ub_unp ub n ho (ok c _ e).1 nf, unp_none na, os, ag, q⟩
theorem env0_pin (e0 : Env0 P w K mg base A outer s H) (n : H c = none) (ho : s.heap.get? c = some b) (nf : c ∉ frs outer) (nb : base.get? c = none) : Env0 P w K mg base A outer s (upd H c (CellO c b)) :=
  ⟨e0.frames, e0.mod, fun d o x => ⟨(e0.bs d o x).1, by rw [upd_ne (fun z => by rw [z, nb] at x; cases x)]; exact (e0.bs d o x).2⟩, e0.bsz, e0.funs, fun d hd => by rw [upd_ne (fun z => nf (by rw [← z]; exact hd))]; exact e0.frf d hd, hok_pin e0.hok n ho, e0.bare⟩
theorem env0_unp (e0 : Env0 P w K mg base A outer s H) (e : H c = some (CellO c b)) : Env0 P w K mg base A outer s (unp H c) :=
  ⟨e0.frames, e0.mod, fun d o x => ⟨(e0.bs d o x).1, unp_none (e0.bs d o x).2⟩, e0.bsz, e0.funs, fun d hd => unp_none (e0.frf d hd), hok_unp e0.hok e, e0.bare⟩
end
/-! ### thin frames -/
/-- room for k frames, and for 16 steps of L2's own reckoning below them -/
structure RT (k : Nat) (A : Around) : Prop where
  hd : A.handled = none
  dp : A.depth + k + 60 < recursionLimit
  un : A.units + 6 * k + 500 < cLine
theorem RT.mono {j k : Nat} {A : Around} (r : RT k A) (h : j ≤ k) : RT j A := ⟨r.hd, by have := r.dp; omega, by have := r.un; omega⟩
theorem RT.deeper {k : Nat} {A : Around} (r : RT (k + 1) A) (env : Env) : RT k (A.deeper env) :=
  ⟨r.hd, by have := r.dp; show A.depth + 1 + k + 60 < _; omega, by have := r.un; show A.units + 3 + 6 * k + 500 < _; omega⟩
theorem RT.leaf {k : Nat} {A : Around} (r : RT k A) : Room 16 A := ⟨r.hd, by have := r.dp; omega, by have := r.un; omega⟩
structure FnT (P : Program) (w : World) (K : PySem.W.Frag) (mg : Str → Option Value) (base : Heap) (CX : CXT) (k : Nat) (f : Addr) (fd : FuncData) (ps : List Str) (sp : SpS) : Prop where
  len : ∀ outer s vs H Q E, sp outer s vs H Q E → vs.length = ps.length
  run : ∀ (A : Around) (outer : List Env) (s : Shared) (H : Hp) (args : Args) (us : List Value) (vs : List V) (Q : VK) (E : XK), RT k A → Env0 P w K mg base A outer s H → BindsTo s fd args (ps.zip us) → Vals vs us → sp outer s vs H Q E →
    codeAny (model P w) A (.call (.ref f) args) (CR CX outer P w H s Q E) s
theorem FnT.mono {P : Program} {w : World} {K : PySem.W.Frag} {mg : Str → Option Value} {base : Heap} {CX : CXT} {j k : Nat} {f : Addr} {fd : FuncData} {ps : List Str} {sp : SpS} (F : FnT P w K mg base CX j f fd ps sp) (h : j ≤ k) : FnT P w K mg base CX k f fd ps sp :=
  ⟨F.len, fun A outer s H args us vs Q E hr => F.run A outer s H args us vs Q E (hr.mono h)⟩
/-- a def (its code object known or not) by its body -/
theorem okT {P : Program} {w : World} {K : PySem.W.Frag} {mg : Str → Option Value} {base : Heap} {CX : CXT} {x qual : Str} {st : Stmt} {f : Addr} {fd : FuncData} {N ps : List Str} {k : Nat} {sp : SpS} (F : Fun K x qual st f fd) (S : FnScope N ps (defScope st)) (len : ∀ outer s vs H Q E, sp outer s vs H Q E → vs.length = ps.length)
    (body : ∀ (A : Around) (outer : List Env) (s : Shared) (H : Hp) (vs : List V) (Q : VK) (E : XK), RT k (A.deeper (envOfC qual (defScope st) s.heap.objs.size f fd.code)) → Env0 P w K mg base A outer s H → sp outer s vs H Q E →
      ∃ t, PSs (cxOf CX P w K mg base N qual (defScope st) f fd.code A outer s H E) (defBody st) t ∧ t { nx := fun _ H' => Q .non H', rt := Q } (start N vs) H) : FnT P w K mg base CX (k + 1) f fd ps sp := by
  obtain ⟨oc, od, kV, doc, pm, an, cdv, ct, osl, rfl, lk, hcd⟩ := F.ex
  refine ⟨len, fun A outer s H args us vs Q E hr e0 hb r hsp => ?_⟩
  exact LamX.run_ofS (k := 0) lk hcd S (hr.leaf.mono (by decide)) e0 hb r (len outer s vs H Q E hsp) fun _ => body A outer s H vs Q E (hr.deeper _) e0 hsp
theorem okTD {P : Program} {w : World} {K : PySem.W.Frag} {mg : Str → Option Value} {base : Heap} {CX : CXT} {x qual : Str} {st : Stmt} {dvs : List V} {kws : List (Str × V)} {f : Addr} {fd : FuncData} {N ps : List Str} {k : Nat} {sp : SpS} (F : FunD K x qual (defArgs st) (defBody st) (defScope st) dvs kws f fd) (S : FnScope N ps (defScope st)) (len : ∀ outer s vs H Q E, sp outer s vs H Q E → vs.length = ps.length)
    (body : ∀ (A : Around) (outer : List Env) (s : Shared) (H : Hp) (vs : List V) (Q : VK) (E : XK), RT k (A.deeper (envOfC qual (defScope st) s.heap.objs.size f fd.code)) → Env0 P w K mg base A outer s H → sp outer s vs H Q E →
      ∃ t, PSs (cxOf CX P w K mg base N qual (defScope st) f fd.code A outer s H E) (defBody st) t ∧ t { nx := fun _ H' => Q .non H', rt := Q } (start N vs) H) : FnT P w K mg base CX (k + 1) f fd ps sp := by
  obtain ⟨oc, od, dV, kV, doc, pm, an, cdv, ct, osl, e, lk, hcd, hD, _⟩ := F.ex
  subst e
  refine ⟨len, fun A outer s H args us vs Q E hr e0 hb r hsp => ?_⟩
  exact LamX.run_ofS (k := 0) lk hcd S (hr.leaf.mono (by decide)) e0 hb r (len outer s vs H Q E hsp) fun _ => body A outer s H vs Q E (hr.deeper _) e0 hsp
/-! ### the end of a frame whose cells are told from then on -/
section
variable {CX : CXT} {P : Program} {w : World} {K : PySem.W.Frag} {mg : Str → Option Value} {base : Heap} {k : Nat} {f : Addr} {qual : Str} {scope : Scope} {N ps : List Str} {A : Around} {outer : List Env} {s s' : Shared} {H H' : Hp} {us : List Value} {vs : List V} {Q : VK} {E : XK} {cd : Value} {σ' : L2.St}
theorem pin_end {i : Nat} {x : Str} {b : Addr} (J : Inv (cxOf CX P w K mg base N qual scope f cd A outer s H E) [] σ' H' s') (hok : HOk P w H s.heap) (hN : N[i]? = some x) (hσ : σ'[i]? = some (some (.ref b))) (hk : scope.names.lookup x = some .cell) :
    ∃ c o, (cellsFrom (s.heap.objs.size + 1) scope.names []).lookup x = some c ∧ o.data = .cell (some (.ref b)) ∧ H' c = none ∧ H c = none ∧ base.get? c = none ∧ (Q .non (upd H' c (CellO c o)) → CE outer P w H s Q Value.none s') := by
  obtain ⟨m, _, hl⟩ := J.loc
  obtain ⟨u, ru, lk⟩ := hl i x _ hN hσ (.inr (.inl hk))
  obtain rfl : u = Value.ref b := ru
  rcases lk with ⟨z, _⟩ | ⟨_, c, hc, o, ho, hd⟩
  · have z2 : scope.names.lookup x = some .local := z
    rw [hk] at z2
    cases z2
  · have hc2 : (cellsFrom (s.heap.objs.size + 1) scope.names []).lookup x = some c := hc
    have nc := J.freeC x c hc
    have ge : s.heap.objs.size ≤ c := J.ok.cab x c rfl hc
    have fresh : s.heap.get? c = none := by
      cases e : s.heap.get? c with
      | none => rfl
      | some o => exact absurd (Nat.lt_of_lt_of_le (Heap.lt_size e) ge) (Nat.lt_irrefl _)
    have nH : H c = none := hok.fresh ge
    have nb : base.get? c = none := by
      cases e : base.get? c with
      | none => rfl
      | some y => exact absurd ((J.ok.bs c y e).1.symm.trans fresh) (by simp)
    exact ⟨c, o, hc2, hd, nc, nH, nb, fun q => ⟨.non, _, J.os, J.bare, un_new J.base fresh nH, hok_pin J.hok nc ho, rfl, q⟩⟩
/-- a def that falls off its end; what is wanted there may read its cells -/
theorem okP {x : Str} {st : Stmt} {fd : FuncData} {sp : SpS} (F : Fun K x qual st f fd) (S : FnScope N ps (defScope st)) (len : ∀ outer s vs H Q E, sp outer s vs H Q E → vs.length = ps.length)
    (body : ∀ (A : Around) (outer : List Env) (s : Shared) (H : Hp) (vs : List V) (Q : VK) (E : XK), Room k (A.deeper (envOfC qual (defScope st) s.heap.objs.size f fd.code)) → Env0 P w K mg base A outer s H → sp outer s vs H Q E →
      ∃ t, PSs (cxOf CX P w K mg base N qual (defScope st) f fd.code A outer s H E) (defBody st) t ∧ t { nx := fun σ' H' => ∀ s', Inv (cxOf CX P w K mg base N qual (defScope st) f fd.code A outer s H E) [] σ' H' s' → CE outer P w H s Q Value.none s', rt := fun _ _ => False } (start N vs) H) : FnSt P w K mg base CX (k + 1) f fd ps sp := by
  obtain ⟨oc, od, kV, doc, pm, an, cdv, ct, osl, rfl, lk, hcd⟩ := F.ex
  refine ⟨len, fun A outer s H args us vs Q E hr e0 hb r hsp => ?_⟩
  have hl := len _ _ _ _ _ _ hsp
  have hK : K.In s.heap := e0.mod.kin.keeps fun d o e => (e0.bs d o e).1
  have noLim : s.heap.NoLimit := e0.mod.nolimit.keeps fun d o e => (e0.bs d o e).1
  have kinds : ∀ y ∈ ps.zip us, (defScope st).names.lookup y.1 = some .local ∨ ((defScope st).names.lookup y.1 = some .cell ∧ ((cellsFrom (s.heap.objs.size + 1) (defScope st).names []).lookup y.1).isSome = true) := by
    rintro ⟨y, v⟩ hy
    exact (S.par y (List.of_mem_zip hy).1).elim .inl fun q => .inr ⟨q, PySem.W.cellsFrom_some _ _ _ (.inl q)⟩
  refine codeAny_call_function hr.depth (hK _ _ lk) rfl S.co S.gen rfl (PySem.W.codeRec_of hK hcd) (hb _ _ _ _ (wpAny_newFunctionEnv_cells S.kind kinds ?_))
  rintro env rfl s1 x1
  refine ⟨noLim.keeps x1.toInCall.keep, codeAny_func ?_⟩
  obtain ⟨t, ht, hq⟩ := body A outer s H vs Q E (hr.deeper _) e0 hsp
  refine wpAny_mono (ht.run [] s1 (L2.start N vs) H _ (inv_start S hr.hd e0 hl r x1) hq) (fun fl s2 z => ?_) fun _ _ z => z
  match fl, z with
  | .next, ⟨σ', H', J, q⟩ => exact q s2 J
  | .ret u, ⟨_, _, _, _, _, q⟩ => exact q.elim
  | .brk, ⟨_, _, _, q⟩ => exact q.elim
  | .cont, ⟨_, _, _, q⟩ => exact q.elim
end
/-! ### calls by thin frames -/
section
variable {X : Cx} {CX : CXT} {k : Nat} {C f : Addr} {fd : FuncData} {ps : List Str} {sp : SpS} {E : XK} {e o : Expr} {es : List Expr} {m : Str} {apos pos p : Pos} {ta te : TE} {t : TA} {x : Str} {spA : L2.St → Sp} {dvs : List V} {ds : List Value}
theorem run_t {pins : List (Addr × Obj)} {σ : L2.St} {H : Hp} {s : Shared} {Q : VK} {us : List Value} {vs : List V} (F : FnT X.prog X.w X.K X.mg X.base CX k f fd ps sp) (hr : RT k X.A) (hb : Binds X.K fd ps []) (hx : Passes CX X E)
    (I : Inv X pins σ H s) (r : Vals vs us) (h : sp X.stack s vs H Q E) : wpAny (model X.prog X.w) X.A (call (.ref f) us) (EP X pins σ Q) X.xe s := by
  have hl0 : (us ++ ([] : List Value)).length = ps.length := by rw [List.append_nil, ← r.length]; exact F.len _ _ _ _ _ _ h
  have bd := hb s us I.kIn hl0
  rw [List.append_nil] at bd
  refine wpAny_call (codeAny_mono (F.run X.A X.stack s H ⟨us, []⟩ us vs Q E hr I.env0 bd r h) fun r s' hq => ?_)
  match r, hq with
  | .error e, hq => exact hx pins σ H s e s' I hq
  | .ok (.ret u), hq => exact I.after hq
  | .ok .next, hq => exact False.elim hq
  | .ok .brk, hq => exact False.elim hq
  | .ok .cont, hq => exact False.elim hq
theorem pe_fnT (F : FnT X.prog X.w X.K X.mg X.base CX k f fd ps sp) (hr : RT k X.A) (hg : Gl X x) (hm : X.mg x = some (.ref f)) (hk : PySem.W.keepIn X.K (.ref f) = true) (hb : Binds X.K fd ps []) (hx : Passes CX X E)
    (hs : ∀ (pins : List (Addr × Obj)) (σ : L2.St) (H : Hp) (s : Shared) (vs : List V) (Q : VK), Inv X pins σ H s → spA σ vs H Q E → sp X.stack s vs H Q E) (ha : PA X (e :: es) t) (hdb : (x == ("__debug__" : Str)) = false := by decide)
    (he : starEach (e :: es) X.env = (false, eval e X.env) :: starEach es X.env := by rfl) (hpl : (backTo pos (starEach es X.env)).any (·.1) = false := by rfl) : PE X (.Call (.Name x p) (e :: es) [] pos) (tFnS spA E t) := by
  refine ⟨fun pins s σ H Q I h => ?_⟩
  refine wpAny_Call_Name_kw (ld_glob I hg hm ?_ hdb)
  refine PySem.W.callWith_K (h₀ := X.base) I.ok.mod.kin hk (thn (ha.run pos pins s σ H _ I h) fun us s2 z => ?_) he hpl
  obtain ⟨vs, H2, I2, r, q⟩ := z
  exact ⟨I2.kIn, run_t (us := us) (vs := vs) F hr hb hx I2 r (hs _ _ _ _ _ _ I2 q)⟩
theorem pe_methT {pl : Sem Bool} (he : PE X o ta) (c : Cls X.K C) (hm : Meth X.K C m f) (F : FnT X.prog X.w X.K X.mg X.base CX k f fd ps sp) (hr : RT k X.A) (hb : Binds X.K fd ps []) (hx : Passes CX X E)
    (hs : ∀ (pins : List (Addr × Obj)) (σ : L2.St) (H : Hp) (s : Shared) (vs : List V) (Q : VK), Inv X pins σ H s → spA σ vs H Q E → sp X.stack s vs H Q E) (ha : PA X (e :: es) t)
    (hst : starEach (e :: es) X.env = (false, eval e X.env) :: starEach es X.env := by rfl) (hpl : (backTo pos (starEach es X.env)).any (·.1) = false := by rfl)
    (ht : eval (.Call (.Attribute o m apos) (e :: es) [] pos) X.env = (do
      let ov ← eval o X.env
      standAt apos.atName
      let (f, first) ← holding [ov] (getMethod ov m pl)
      callWith pos f first (backTo pos (starEach (e :: es) X.env)) (backToKw pos (keywordEach [] X.env))) := by rfl) :
    PE X (.Call (.Attribute o m apos) (e :: es) [] pos) (tMethS C m spA E ta t) := by
  refine ⟨fun pins s σ H Q I h => PySem.W.methodCall_KW (pl := pl) (thn (he.run pins s σ H _ I h) fun u s1 z => ?_) ht⟩
  obtain ⟨x, H1, I1, rx, a, dx, fs, rfl, ea, l, q⟩ := z
  obtain rfl : u = Value.ref a := rx
  refine getmeth_ok I1 ea c hm l (PySem.W.callWith_K (first := [.ref a]) (h₀ := X.base) I.ok.mod.kin hm.kp (thn (ha.run pos pins s1 σ H1 _ I1 q) fun us s2 z => ?_) hst hpl)
  obtain ⟨vs, H2, I2, r, q2⟩ := z
  exact ⟨I2.kIn, run_t (us := .ref a :: us) (vs := .ref a :: vs) F hr hb hx I2 (.cons rfl r) (hs _ _ _ _ _ _ I2 q2)⟩
theorem pe_callT0 {fe : Expr} (he : PE X fe te) (c : CallC X.K C f) (F : FnT X.prog X.w X.K X.mg X.base CX k f fd ps sp) (hr : RT k X.A) (hb : Binds X.K fd ps ds) (hd : Vals dvs ds) (hx : Passes CX X E)
    (hs : ∀ (pins : List (Addr × Obj)) (σ : L2.St) (H : Hp) (s : Shared) (vs : List V) (Q : VK), Inv X pins σ H s → spA σ vs H Q E → sp X.stack s vs H Q E)
    (hev : eval (.Call fe [] [] pos) X.env = (eval fe X.env >>= fun v => callWith pos v [] (backTo pos (starEach [] X.env)) (backToKw pos (keywordEach [] X.env))) := by rfl) : PE X (.Call fe [] [] pos) (tCallI C spA dvs E te tNil) := by
  refine ⟨fun pins s σ H Q I h => ?_⟩
  rw [hev]
  refine wpAny_bind (thn (he.run pins s σ H _ I h) fun u s1 z => ?_)
  obtain ⟨x, H1, I1, rx, a, dx, fs, rfl, ea, ⟨dx2, fs2, ea2⟩, q⟩ := z
  obtain rfl : u = Value.ref a := rx
  show wpAny _ _ (callWith pos (.ref a) [] [] []) _ _ _
  refine callWith_I (C := C) rfl (evalArgs_nil3 ⟨⟨dx, inst_at I1.hok ea⟩, ?_⟩)
  have h := hs _ _ _ _ _ _ I1 q
  have r2 : Vals ((.ref a :: ([] : List V)) ++ dvs) ((.ref a :: ([] : List Value)) ++ ds) := Vals.append (.cons rfl .nil) hd
  have hl : ((Value.ref a :: ([] : List Value)) ++ ds).length = ps.length := by
    rw [← r2.length]
    exact F.len _ _ _ _ _ _ h
  refine wpAny_call (call_I I1.kIn (inst_at I1.hok ea) c (codeAny_mono (F.run X.A X.stack s1 H1 ⟨[.ref a], []⟩ _ _ Q E hr I1.env0 (hb s1 [.ref a] I1.kIn hl) r2 h) fun r s' hq => ?_))
  match r, hq with
  | .error e, hq => exact hx pins σ H1 s1 e s' I1 hq
  | .ok (.ret u), hq => exact I1.after hq
  | .ok .next, hq => exact False.elim hq
  | .ok .brk, hq => exact False.elim hq
  | .ok .cont, hq => exact False.elim hq
end
/-! ### what may be called, by thin frames -/
structure CbT (P : Program) (w : World) (K : PySem.W.Frag) (mg : Str → Option Value) (base : Heap) (CX : CXT) (k : Nat) (f : Addr) (B : CB) (ps fr : List Str) (sp : SpC) : Prop where
  fn : ∀ H h, HOk P w H h → H f = some B.O → PySem.W.FnAt f h
  ni : (∀ xs, B.O ≠ .lst xs) ∧ (∀ C dx fs, B.O ≠ .ins C dx fs) ∧ (∀ kv, B.O ≠ .dK kv) ∧ ∀ ps, B.O ≠ .tbl ps
  len : ∀ outer s ws vs H Q E, sp outer s ws vs H Q E → vs.length = ps.length
  run : ∀ (A : Around) (outer : List Env) (s : Shared) (H : Hp) (us : List Value) (vs : List V) (ws : List (Option V)) (Q : VK) (E : XK), RT k A → Env0 P w K mg base A outer s H → H f = some B.O → H B.c = some (CodeH B.c B.q B.P) →
    NdefX.CellsAt B.cl fr ws s.heap H → Vals vs us → sp outer s ws vs H Q E → codeAny (model P w) A (.call (.ref f) ⟨us, []⟩) (CR CX outer P w H s Q E) s
section
variable {CX : CXT} {P : Program} {w : World} {K : PySem.W.Frag} {mg : Str → Option Value} {base : Heap} {N ps fr : List Str} {F : NdefX.NF} {f : Addr} {k j : Nat} {sp : SpC} {B : CB} {e : Expr}
theorem CbT.mono (o : CbT P w K mg base CX j f B ps fr sp) (h : j ≤ k) : CbT P w K mg base CX k f B ps fr sp := ⟨o.fn, o.ni, o.len, fun A outer s H us vs ws Q E hr => o.run A outer s H us vs ws Q E (hr.mono h)⟩
theorem cb_lamT {Pt : Addr} (S : NdefX.NScope N ps fr F.scope) (hb : ∀ (pm ctv : Value) (us : List Value), us.length = ps.length → bindArgs (PySem.W.kla_fn "<lambda>" F.qual F.params e F.scope F.cl pm (.ref F.c) ctv) ⟨us, []⟩ = pure (ps.zip us)) (len : ∀ outer s ws vs H Q E, sp outer s ws vs H Q E → vs.length = ps.length)
    (body : ∀ (A : Around) (outer : List Env) (s : Shared) (H : Hp) (vs : List V) (ws : List (Option V)) (Q : VK) (E : XK), RT k (A.deeper (NdefX.envF F f s.heap.objs.size)) → H f = some (LamO f F e) → H F.c = some (CodeH F.c F.qual Pt) → NdefX.CellsAt F.cl fr ws s.heap H → sp outer s ws vs H Q E →
      ∃ t, PE (NdefX.ncx CX P w K mg base N F f A outer s H E) e t ∧ t (NdefX.startF N vs ws) H Q) : CbT P w K mg base CX (k + 1) f (cbL f F e Pt) ps fr sp := by
  refine ⟨fun H h ok x => let ⟨pm, ctv, ho⟩ := lamO_at ok x; ⟨_, _, _, _, ho⟩, lamO_ne, len, fun A outer s H us vs ws Q E hr e0 hf hc C r hsp => ?_⟩
  have ll := len _ _ _ _ _ _ _ hsp
  obtain ⟨pm, ctv, ho⟩ := lamO_at e0.hok hf
  have noLim : s.heap.NoLimit := e0.mod.nolimit.keeps fun b o x => (e0.bs b o x).1
  refine PySem.W.kla_callFunE hr.leaf.depth ho rfl S.co S.gen rfl (codeH_at e0.hok hc).1 ?_
  rw [hb pm ctv us (by rw [← r.length]; exact ll)]
  refine wpAny_pure (wpAny_newFunctionEnv S.nocell (fun ⟨n, _⟩ hy => S.par n (List.of_mem_zip hy).1) (fun h1 ns sb => ⟨noLim.fresh _ sb, ?_⟩) S.kind)
  have grow : ∀ b o, s.heap.get? b = some o → h1.get? b = some o := fun b o x => sb.extBut b o (Nat.ne_of_lt (Heap.lt_size x)) (Heap.get?_push_of_some _ x)
  obtain ⟨t, ht, hq⟩ := body A outer s H vs ws Q E (hr.deeper _) hf hc C hsp
  have I : Inv (NdefX.ncx CX P w K mg base N F f A outer s H E) [] (NdefX.startF N vs ws) H { s with heap := h1, toks := s.toks + (ps.zip us).length } := NdefX.inv_startN S hr.hd e0 ll r C ns grow
  refine PySem.W.kla_codeExpr (wpAny_mono (ht.run [] _ _ H Q I hq) (fun v s' z => ?_) fun x s' z => z)
  obtain ⟨v', H', J, rv, q⟩ := z
  exact ⟨v', H', J.os, J.bare, J.base, J.hok, rv, q⟩
/-- .. with its one cell told in the heap -/
def spPin (c b : Addr) (ob : Obj) (sp : SpC) : SpC := fun outer s _ vs H Q E => H c = some (CellO c ob) ∧ ∀ s' : Shared, s'.heap.get? c = some ob → c ∉ frs outer → sp outer s' [some (.ref b)] vs (unp H c) (fun v H' => H' c = none → Q v (upd H' c (CellO c ob))) (fun cls d H' => H' c = none → E cls d (upd H' c (CellO c ob)))
theorem CbT.pin {O : HO} {c c1 b P1 : Addr} {ob : Obj} {q y : Str} {cl : List (Str × Addr)} (o : CbT P w K mg base (L2.CX P w) k f ⟨O, c1, q, cl, P1⟩ ps [y] sp) (hd : ob.data = .cell (some (.ref b))) (hcl : ∀ z c', cl.lookup z = some c' → z = y ∧ c' = c) (hy : cl.lookup y = some c) (fc : f ≠ c) (cc : c1 ≠ c) :
    CbT P w K mg base (L2.CX P w) k f ⟨O, c1, q, [], P1⟩ ps [] (fun outer s _ vs H Q E => vs.length = ps.length ∧ spPin c b ob sp outer s [] vs H Q E) := by
  refine ⟨o.fn, o.ni, fun outer s ws vs H Q E h => h.1, fun A outer s H us vs ws Q E hr e0 hf hc _ r hsp => ?_⟩
  obtain ⟨_, h1, h2⟩ := hsp
  have ho : s.heap.get? c = some ob := (e0.hok c _ h1).1
  have cell : s.heap.IsCell c (some (.ref b)) := ⟨ob, ho, hd⟩
  have nf : c ∉ frs outer := fun h => by
    have z := e0.frf c h
    rw [h1] at z
    cases z
  have C : NdefX.CellsAt cl [y] [some (.ref b)] s.heap (unp H c) := ⟨rfl, fun y' c' e => by
    obtain ⟨_, rfl⟩ := hcl _ _ e
    exact ⟨unp_same, _, cell⟩, fun x z d e1 e2 => (hcl _ _ e1).1.trans (hcl _ _ e2).1.symm, fun i z hi => by
    match i, hi with
    | 0, hi =>
      obtain rfl : y = z := by simpa using hi
      exact ⟨c, hy, fun v hv => ⟨.ref b, by
        obtain rfl : V.ref b = v := by simpa using hv
        rfl, cell⟩⟩⟩
  refine codeAny_mono (o.run A outer s (unp H c) us vs _ _ _ hr (env0_unp e0 h1) (by rw [unp_ne fc]; exact hf) (by show unp H c c1 = _; rw [unp_ne cc]; exact hc) C r (h2 s ho nf)) fun r s' z => ?_
  match r, z with
  | .error e, z => exact cx_pin z h1 e0.hok nf fun _ _ _ n q => q n
  | .ok (.ret u), z => exact ce_pin z h1 e0.hok nf fun _ _ n q => q n
  | .ok .next, z => exact False.elim z
  | .ok .brk, z => exact False.elim z
  | .ok .cont, z => exact False.elim z
end
def tCallT (P : Program) (w : World) (K : PySem.W.Frag) (mg : Str → Option Value) (base : Heap) (o0 : List Env) (s0 : Shared) (H0 : Hp) (CX : CXT) (k : Nat) (ps : List Str) (i : Nat) (Ew : L2.St → XK) (t : TA) : TE := fun σ H Q => ∃ (f : Addr) (B : CB), σ[i]? = some (some (.ref f)) ∧ H f = some B.O ∧ (∀ h, HOk P w H h → PySem.W.FnAt f h) ∧
  t σ H fun vs H1 => ∃ (fr : List Str) (ws : List (Option V)) (sp : SpC), CbT P w K mg base CX k f B ps fr sp ∧ H1 f = some B.O ∧ H1 B.c = some (CodeH B.c B.q B.P) ∧ ∀ outer' s', CK o0 s0 H0 outer' s' H1 → NdefX.CellsAt B.cl fr ws s'.heap H1 ∧ sp outer' s' ws vs H1 Q (Ew σ)
def tCallT0 (P : Program) (w : World) (K : PySem.W.Frag) (mg : Str → Option Value) (base : Heap) (o0 : List Env) (s0 : Shared) (H0 : Hp) (CX : CXT) (k : Nat) (i : Nat) (Ew : L2.St → XK) : TE := fun σ H Q => ∃ (f : Addr) (B : CB) (fr : List Str) (ws : List (Option V)) (sp : SpC), σ[i]? = some (some (.ref f)) ∧ CbT P w K mg base CX k f B [] fr sp ∧ H f = some B.O ∧ H B.c = some (CodeH B.c B.q B.P) ∧
  ∀ outer' s', CK o0 s0 H0 outer' s' H → NdefX.CellsAt B.cl fr ws s'.heap H ∧ sp outer' s' ws [] H Q (Ew σ)
section
variable {X : Cx} {CX : CXT} {k : Nat} {f : Addr} {B : CB} {ps fr : List Str} {sp : SpC} {ws : List (Option V)} {x : Str} {i : Nat} {e : Expr} {es : List Expr} {p pos : Pos} {t : TA} {Ew : L2.St → XK}
theorem run_cbT {pins : List (Addr × Obj)} {σ : L2.St} {H : Hp} {s : Shared} {Q : VK} {us : List Value} {vs : List V} (Fn : CbT X.prog X.w X.K X.mg X.base CX k f B ps fr sp) (hr : RT k X.A) (hx : ∀ σ, PassesAt CX X σ (Ew σ)) (I : Inv X pins σ H s) (hf : H f = some B.O) (hc : H B.c = some (CodeH B.c B.q B.P)) (C : NdefX.CellsAt B.cl fr ws s.heap H)
    (r : Vals vs us) (q : sp X.stack s ws vs H Q (Ew σ)) : wpAny (model X.prog X.w) X.A (call (.ref f) us) (EP X pins σ Q) X.xe s := by
  refine wpAny_call (codeAny_mono (Fn.run X.A X.stack s H us vs ws Q (Ew σ) hr I.env0 hf hc C r q) fun r s' z => ?_)
  match r, z with
  | .error e, z => exact hx σ pins H s e s' I z
  | .ok (.ret u), z => exact I.after z
  | .ok .next, z => exact False.elim z
  | .ok .brk, z => exact False.elim z
  | .ok .cont, z => exact False.elim z
theorem pe_callT1 (hex : X.ex = []) (hr : RT k X.A) (hx : ∀ σ, PassesAt CX X σ (Ew σ)) (hN : X.N[i]? = some x) (hv : Vis X.env.scope x) (ha : PA X (e :: es) t)
    (hd : (x == ("__debug__" : Str)) = false := by decide) (hcd : (x == ("__classdict__" : Str)) = false := by decide)
    (he : starEach (e :: es) X.env = (false, eval e X.env) :: starEach es X.env := by rfl) (hpl : (backTo pos (starEach es X.env)).any (·.1) = false := by rfl) :
    PE X (.Call (.Name x p) (e :: es) [] pos) (tCallT X.prog X.w X.K X.mg X.base X.outer X.s_0 X.H_0 CX k ps i Ew t) := by
  refine ⟨fun pins s σ H Q I h => ?_⟩
  obtain ⟨f, B, hs, hf, hfn, ht⟩ := h
  obtain ⟨u, ru, ld⟩ := ld_var (E := X.xe) (pos := p) I hN hv hs hd hcd
  obtain rfl : u = Value.ref f := ru
  refine wpAny_Call_Name_kw (ld _ ?_)
  refine PySem.W.callWith_F (first := []) (hfn _ I.hok) (thn (ha.run pos pins s σ H _ I ht) fun us s2 z => ?_) he hpl
  obtain ⟨vs, H2, I2, r, fr, ws, sp, Fn, h1, h2, hq⟩ := z
  obtain ⟨C, q⟩ := hq X.stack s2 (ck_inv I2 hex)
  exact ⟨Fn.fn _ _ I2.hok h1, run_cbT Fn hr hx I2 h1 h2 C r q⟩
theorem pe_callTT0 (hex : X.ex = []) (hr : RT k X.A) (hx : ∀ σ, PassesAt CX X σ (Ew σ)) (hN : X.N[i]? = some x) (hv : Vis X.env.scope x) (hd : (x == ("__debug__" : Str)) = false := by decide) (hcd : (x == ("__classdict__" : Str)) = false := by decide) :
    PE X (.Call (.Name x p) [] [] pos) (tCallT0 X.prog X.w X.K X.mg X.base X.outer X.s_0 X.H_0 CX k i Ew) := by
  refine ⟨fun pins s σ H Q I h => ?_⟩
  obtain ⟨f, B, fr, ws, sp, hs, Fn, h1, h2, hq⟩ := h
  obtain ⟨u, ru, ld⟩ := ld_var (E := X.xe) (pos := p) I hN hv hs hd hcd
  obtain rfl : u = Value.ref f := ru
  refine wpAny_Call_Name_kw (ld _ ?_)
  obtain ⟨C, q⟩ := hq X.stack s (ck_inv I hex)
  exact PySem.W.callWith_F0 (first := []) (Fn.fn _ _ I.hok h1) (run_cbT Fn hr hx I h1 h2 C .nil q)
/-- a call from a lambda, its one cell told in the heap meanwhile -/
def spUnp (c : Addr) (ob : Obj) (spA : L2.St → Sp) : L2.St → Sp := fun σ vs H Q E => H c = none ∧ spA σ vs (upd H c (CellO c ob)) (fun v H' => H' c = some (CellO c ob) ∧ Q v (unp H' c)) (fun cls d H' => H' c = some (CellO c ob) ∧ E cls d (unp H' c))
theorem pe_fnTU {fd : FuncData} {spS : SpS} {E : XK} {spA : L2.St → Sp} {c : Addr} {ob : Obj} {y : Str} (F : FnT X.prog X.w X.K X.mg X.base (L2.CX X.prog X.w) k f fd ps spS) (hr : RT k X.A) (hg : Gl X x) (hm : X.mg x = some (.ref f)) (hk : PySem.W.keepIn X.K (.ref f) = true) (hb : Binds X.K fd ps []) (hx : Passes (L2.CX X.prog X.w) X E)
    (ho : X.s_0.heap.get? c = some ob) (hn : X.H_0 c = none) (nfs : c ∉ X.fs) (nex : X.ex = []) (nst : c ∉ frs X.stack) (nb : X.base.get? c = none)
    (hs : ∀ (σ : L2.St) (H : Hp) (s : Shared) (vs : List V) (Q : VK) (E : XK), spA σ vs H Q E → spS X.stack s vs H Q E) (ha : PA X (e :: es) t) (hdb : (x == ("__debug__" : Str)) = false := by decide)
    (he : starEach (e :: es) X.env = (false, eval e X.env) :: starEach es X.env := by rfl) (hpl : (backTo pos (starEach es X.env)).any (·.1) = false := by rfl) : PE X (.Call (.Name x p) (e :: es) [] pos) (tFnS (spUnp c ob spA) E t) := by
  refine ⟨fun pins s σ H Q I h => ?_⟩
  refine wpAny_Call_Name_kw (ld_glob I hg hm ?_ hdb)
  refine PySem.W.callWith_K (h₀ := X.base) I.ok.mod.kin hk (thn (ha.run pos pins s σ H _ I h) fun us s2 z => ?_) he hpl
  obtain ⟨vs, H2, I2, r, hn2, q⟩ := z
  refine ⟨I2.kIn, ?_⟩
  have ho2 : s2.heap.get? c = some ob := I2.base.keep c ob ho hn nfs (by rw [nex]; simp)
  have h := hs _ _ s2 _ _ _ q
  have hl0 : (us ++ ([] : List Value)).length = ps.length := by rw [List.append_nil, ← r.length]; exact F.len _ _ _ _ _ _ h
  have bd := hb s2 us I2.kIn hl0
  rw [List.append_nil] at bd
  refine wpAny_call (codeAny_mono (F.run X.A X.stack s2 _ ⟨us, []⟩ us vs _ _ hr (env0_pin I2.env0 hn2 ho2 nst nb) bd r h) fun r s' hq => ?_)
  match r, hq with
  | .error e, hq => exact hx pins σ H2 s2 e s' I2 (cx_unp hq hn2 ho2 nst fun _ _ _ z => z)
  | .ok (.ret u), hq => exact I2.after (ce_unp hq hn2 ho2 nst fun _ _ z => z)
  | .ok .next, hq => exact False.elim hq
  | .ok .brk, hq => exact False.elim hq
  | .ok .cont, hq => exact False.elim hq
end
end Own
namespace Own
open PySem PySem.Spec PyProof.Rows L2
section
variable {X : Cx}
theorem op_neNil (hu : X.A.units + 64 < cLine) : OpR X (compareOp .NotEq) (rEqNil X.K true) := by
  intro pins s σ H x y v u Q I rx ry h
  obtain ⟨p, q, xs, rfl, rfl, h1, h2, k⟩ := h
  cases rx; cases ry
  obtain ⟨its, r1, ⟨o1, n1, ho1, hc1, _, hd1⟩, _⟩ := I.list h1
  obtain ⟨its2, r2, ⟨o2, n2, ho2, hc2, _, hd2⟩, _⟩ := I.list h2
  have l1 := r1.length
  have l2 := r2.length
  have e2 : its2 = [] := List.length_eq_zero_iff.mp (by simpa using l2.symm)
  subst e2
  rw [if_pos rfl] at k
  by_cases e : xs = []
  · subst e
    have e1 : its = [] := List.length_eq_zero_iff.mp (by simpa using l1.symm)
    subst e1
    have z := SeqAt.RcNeAt.lists (A := X.A) (s := s) (l := p) (b := q) (items := ([] : List Value).toArray) (items2 := ([] : List Value).toArray) (e := fun _ => true) ⟨o1, ho1, hc1, _, hd1⟩ ⟨o2, ho2, hc2, _, hd2⟩ rfl (by omega) (fun j h1 h2 => absurd h1 (by simp))
    exact PySem.EqBoolInt.of_rcne z ⟨.bl false, H, I, rfl, k⟩
  · have ne : its ≠ [] := fun z => e (List.length_eq_zero_iff.mp (by rw [l1, z]; rfl))
    have ie : xs.isEmpty = false := by cases xs with
      | nil => exact absurd rfl e
      | cons _ _ => rfl
    rw [ie] at k
    have hz : (its.toArray.size != ([] : List Value).toArray.size) = true := by
      cases its with
      | nil => exact absurd rfl ne
      | cons _ _ => simp
    have z := SeqAt.RcNeAt.lists_lengths (A := X.A) (s := s) (l := p) (b := q) (items := its.toArray) (items2 := ([] : List Value).toArray) ⟨o1, ho1, hc1, _, hd1⟩ ⟨o2, ho2, hc2, _, hd2⟩ hz (by omega)
    exact PySem.EqBoolInt.of_rcne z ⟨.bl true, H, I, rfl, k⟩
end
end Own

set_option Elab.async false
set_option linter.all false
set_option maxRecDepth 100000
set_option maxHeartbeats 4000000
/-! A thin frame that falls off its end and pins its cells, or lets an error out; a method that may raise, within a try. -/
namespace Own
open PySem PySem.Spec PyProof.Rows L2
section
variable {CX : CXT} {P : Program} {w : World} {K : PySem.W.Frag} {mg : Str → Option Value} {base : Heap} {k : Nat} {f : Addr} {qual : Str} {N ps : List Str}
theorem okPT {x : Str} {st : Stmt} {fd : FuncData} {sp : SpS} (F : Fun K x qual st f fd) (S : FnScope N ps (defScope st)) (len : ∀ outer s vs H Q E, sp outer s vs H Q E → vs.length = ps.length)
    (body : ∀ (A : Around) (outer : List Env) (s : Shared) (H : Hp) (vs : List V) (Q : VK) (E : XK), RT k (A.deeper (envOfC qual (defScope st) s.heap.objs.size f fd.code)) → Env0 P w K mg base A outer s H → sp outer s vs H Q E →
      ∃ t, PSs (cxOf CX P w K mg base N qual (defScope st) f fd.code A outer s H E) (defBody st) t ∧ t { nx := fun σ' H' => ∀ s', Inv (cxOf CX P w K mg base N qual (defScope st) f fd.code A outer s H E) [] σ' H' s' → CE outer P w H s Q Value.none s', rt := fun _ _ => False } (start N vs) H) : FnT P w K mg base CX (k + 1) f fd ps sp := by
  obtain ⟨oc, od, kV, doc, pm, an, cdv, ct, osl, rfl, lk, hcd⟩ := F.ex
  refine ⟨len, fun A outer s H args us vs Q E hr e0 hb r hsp => ?_⟩
  have hl := len _ _ _ _ _ _ hsp
  have hK : K.In s.heap := e0.mod.kin.keeps fun d o e => (e0.bs d o e).1
  have noLim : s.heap.NoLimit := e0.mod.nolimit.keeps fun d o e => (e0.bs d o e).1
  have kinds : ∀ y ∈ ps.zip us, (defScope st).names.lookup y.1 = some .local ∨ ((defScope st).names.lookup y.1 = some .cell ∧ ((cellsFrom (s.heap.objs.size + 1) (defScope st).names []).lookup y.1).isSome = true) := by
    rintro ⟨y, v⟩ hy
    exact (S.par y (List.of_mem_zip hy).1).elim .inl fun q => .inr ⟨q, PySem.W.cellsFrom_some _ _ _ (.inl q)⟩
  refine codeAny_call_function hr.leaf.depth (hK _ _ lk) rfl S.co S.gen rfl (PySem.W.codeRec_of hK hcd) (hb _ _ _ _ (wpAny_newFunctionEnv_cells S.kind kinds ?_))
  rintro env rfl s1 x1
  refine ⟨noLim.keeps x1.toInCall.keep, codeAny_func ?_⟩
  obtain ⟨t, ht, hq⟩ := body A outer s H vs Q E (hr.deeper _) e0 hsp
  refine wpAny_mono (ht.run [] s1 (L2.start N vs) H _ (inv_start S hr.hd e0 hl r x1) hq) (fun fl s2 z => ?_) fun _ _ z => z
  match fl, z with
  | .next, ⟨σ', H', J, q⟩ => exact q s2 J
  | .ret u, ⟨_, _, _, _, _, q⟩ => exact q.elim
  | .brk, ⟨_, _, _, q⟩ => exact q.elim
  | .cont, ⟨_, _, _, q⟩ => exact q.elim
end
section
variable {X : Cx} {CX : CXT} {k : Nat} {C f : Addr} {fd : FuncData} {ps : List Str} {sp : Sp} {E : L2.St → XK} {e o : Expr} {es : List Expr} {m : Str} {apos pos : Pos} {ta : TE} {t : TA}
def tMethX (C : Addr) (m : Str) (sp : Sp) (E : L2.St → XK) (ta : TE) (t : TA) : TE := fun σ H Q => ta σ H fun x H1 => ∃ a dx fs, x = .ref a ∧ H1 a = some (.ins C dx fs) ∧ fs.lookup m = none ∧ t σ H1 fun vs H2 => sp (x :: vs) H2 Q (E σ)
/-- o.m(e, ..), which may raise, told with the slots -/
theorem pe_methX {pl : Sem Bool} (he : PE X o ta) (c : Cls X.K C) (hm : Meth X.K C m f) (F : FnOk X.prog X.w X.K X.mg X.base CX k f fd ps sp) (hr : Room k X.A) (hb : Binds X.K fd ps []) (hx : ∀ σ, PassesAt CX X σ (E σ)) (ha : PA X (e :: es) t)
    (hst : starEach (e :: es) X.env = (false, eval e X.env) :: starEach es X.env := by rfl) (hpl : (backTo pos (starEach es X.env)).any (·.1) = false := by rfl)
    (ht : eval (.Call (.Attribute o m apos) (e :: es) [] pos) X.env = (do
      let ov ← eval o X.env
      standAt apos.atName
      let (f, first) ← holding [ov] (getMethod ov m pl)
      callWith pos f first (backTo pos (starEach (e :: es) X.env)) (backToKw pos (keywordEach [] X.env))) := by rfl) :
    PE X (.Call (.Attribute o m apos) (e :: es) [] pos) (tMethX C m sp E ta t) := by
  refine ⟨fun pins s σ H Q I h => ?_⟩
  refine PySem.W.methodCall_KW (pl := pl) (thn (he.run pins s σ H _ I h) fun u s1 ⟨x, H1, I1, rx, a, dx, fs, ex, ea, l, q⟩ => ?_) ht
  subst ex
  obtain rfl : u = Value.ref a := rx
  refine getmeth_ok I1 ea c hm l ?_
  refine PySem.W.callWith_K (first := [.ref a]) (h₀ := X.base) I.ok.mod.kin hm.kp (thn (ha.run pos pins s1 σ H1 _ I1 q) fun us s2 ⟨vs, H2, I2, r, q2⟩ => ⟨I2.kIn, ?_⟩) hst hpl
  exact run_fnS (us := .ref a :: us) (vs := .ref a :: vs) F hr hb (hx σ) I2 (.cons rfl r) q2
end
/-- [e for j in range(n) if c], c and e changing nothing -/
theorem lcRP_go {ta : TA} {j : Nat} {tt : TT} {te : TE} {σ : L2.St} {H : Hp} {Q : VK} {n : Nat} (b : Nat → Bool) (g : Nat → V) (ht : ∀ R : List V → Hp → Prop, R [.int (n : Int)] H → ta σ H R) (hn : n ≤ 100000)
    (htt : ∀ (i : Nat) H' (R : Bool → Hp → Prop), i < n → Same H H' → R (b i) H' → tt ((wipe σ [j]).set j (some (.int (i : Int)))) H' R)
    (hte : ∀ (i : Nat) H' (R : VK), i < n → b i = true → Same H H' → R (g i) H' → te ((wipe σ [j]).set j (some (.int (i : Int)))) H' R)
    (q : ∀ D H', H D = none → Same H H' → H' D = some (.lst (((List.range n).filter b).map g)) → Q (.ref D) H') : tLc (iRng1 ta) (gName j) tt te [j] σ H Q := by
  refine ht _ ⟨n, rfl, by omega, by omega, fun D hD => ?_⟩
  rw [Int.toNat_natCast]
  refine lc_range (lo := 0) (n := n) (fun i H' => H' D = some (.lst (((List.range i).filter b).map g)) ∧ ExT D H H') ⟨upd_same, exT_upd (ExT.refl D H)⟩ ?_ ?_
  · rintro i H' hi ⟨p1, p2⟩
    rw [Int.zero_add]
    have e : List.range (i + 1) = List.range i ++ [i] := List.range_succ
    refine ⟨wipe_set, htt i H' _ hi (ExT.toSame hD p2) ?_⟩
    cases hb : b i with
    | true =>
      refine hte i H' _ hi hb (ExT.toSame hD p2) ⟨_, p1, ?_, ?_, exT_upd p2⟩
      · rw [List.length_map]
        refine Nat.lt_of_le_of_lt (List.length_filter_le _ _) ?_
        rw [List.length_range]
        exact Nat.lt_of_lt_of_le hi (Nat.le_trans hn (by decide))
      · rw [e, List.filter_append, List.map_append]
        simp only [List.filter_cons, hb, if_true, List.filter_nil, List.map_cons, List.map_nil]
        exact upd_same
    | false =>
      refine ⟨?_, p2⟩
      rw [e, List.filter_append]
      simp only [List.filter_cons, hb, List.filter_nil]
      rw [p1]
      simp
  · rintro H' ⟨p1, p2⟩
    exact q D H' hD (ExT.toSame hD p2) p1
end Own

set_option Elab.async false
set_option linter.all false
set_option maxRecDepth 100000
set_option maxHeartbeats 4000000
/-! Dicts that the module's top has written, with texts or tuples of texts as values; comprehensions and loops over zip; trees as data by their roles. -/
namespace Own
open PySem PySem.Spec PyProof.Rows L2
/-! ### a dict of the top -/
/-- at d: a written dict; its entries by R -/
structure CDict (K : PySem.W.Frag) (w : World) (d : Addr) {α : Type} (kvs : List (Str × α)) (R : α → V → Prop) where
  es : Array DictEntry
  n : Nat
  kd : KDict K w d es n
  has : ∀ x r, (x, r) ∈ kvs → ∃ u v, PySem.W.nsIn K d x = some (some u) ∧ RelV v u ∧ R r v
  no : ∀ x, x ∉ kvs.map (·.1) → PySem.W.nsIn K d x = some none
section
variable {K : PySem.W.Frag} {w : World} {d : Addr} {α : Type} {kvs : List (Str × α)} {R : α → V → Prop}
theorem CDict.isin (C : CDict K w d kvs R) (x : Str) : ∃ r, PySem.W.nsIn K d x = some r ∧ r.isSome = decide (x ∈ kvs.map (·.1)) := by
  by_cases h : x ∈ kvs.map (·.1)
  · obtain ⟨p, mp, rfl⟩ := List.mem_map.mp h
    obtain ⟨u, v, e, _⟩ := C.has p.1 p.2 mp
    exact ⟨some u, e, (decide_eq_true h).symm⟩
  · exact ⟨none, C.no x h, (decide_eq_false h).symm⟩
theorem CDict.dct (C : CDict K w d kvs R) {x : Str} {r : α} (h : (x, r) ∈ kvs) : ∃ v, R r v ∧ KDct K w d x v := by
  obtain ⟨u, v, e, rv, hr⟩ := C.has x r h
  exact ⟨v, hr, C.es, C.n, u, C.kd.at_, C.kd.lit, e, rv⟩
end
/-- a tuple of texts, wherever -/
def TupS (K : PySem.W.Frag) (rs : List Str) (v : V) : Prop := ∃ a, v = .ref a ∧ ∀ H, SqT K H a (rs.map V.str)
def StrS (x : Str) (v : V) : Prop := v = .str x
def IntS (k : Nat) (v : V) : Prop := v = .int k
theorem inK_go {K : PySem.W.Frag} {w : World} {d : Addr} {α : Type} {kvs : List (Str × α)} {R : α → V → Prop} (C : CDict K w d kvs R) {x : Str} {H : Hp} {Q : VK} (q : Q (.bl (decide (x ∈ kvs.map (·.1)))) H) :
    ∃ (z : Str) (r : Option Value), V.str x = .str z ∧ V.ref d = .ref d ∧ PySem.W.nsIn K d z = some r ∧ Q (.bl r.isSome) H := by
  obtain ⟨r, e, e2⟩ := C.isin x
  exact ⟨x, r, rfl, rfl, e, by rw [e2]; exact q⟩
theorem ixK_go {K : PySem.W.Frag} {w : World} {d : Addr} {α : Type} {kvs : List (Str × α)} {R : α → V → Prop} (C : CDict K w d kvs R) {x : Str} {r : α} {H : Hp} {Q : VK} (h : (x, r) ∈ kvs) (q : ∀ v, R r v → Q v H) : rIxD K w (.ref d) (.str x) H Q := by
  obtain ⟨v, hr, k⟩ := C.dct h
  exact ⟨d, x, v, rfl, rfl, k, q v hr⟩
/-! ### walks -/
theorem walk_zipT {K : PySem.W.Frag} {a b : Addr} {xs ys : List V} (hl : xs.length = ys.length) : Walk (RZ.ItzT K a b) xs.length (fun H => SqT K H a xs ∧ SqT K H b ys) (YPair (fun i => xs[i]?) (fun i => ys[i]?)) where
  goes := fun i H hi q => ⟨xs, ys, xs[i], ys[i]'(hl ▸ hi), q.1, q.2, by simp, by simp⟩
  stops := fun H q => ⟨xs, ys, q.1, q.2, .inl (Nat.le_refl _)⟩
  yields := fun i H v H' _ q y => by
    obtain ⟨T, x, z, e1, e2, e3, e4, e5⟩ := y
    exact ⟨T, x, z, e1, e2, e3, e4 xs q.1, e5 ys q.2⟩
/-- [e for g in .. if c], by an invariant -/
theorem lcW_go {J : It} {n : Nat} {G : Hp → Prop} {Y : Nat → Hp → V → Hp → Prop} (wk : Walk J n G Y) {wi : TI} {g : TG} {tt : TT} {te : TE} {vs : List Nat} {σ : L2.St} {H : Hp} {Q : VK} (Inv : Addr → Nat → List V → Hp → Prop)
    (ht : ∀ R : It → Hp → Prop, R J H → wi σ H R) (hG : ∀ D i acc H', i ≤ n → Inv D i acc H' → H D = none → G H') (h0 : ∀ D, H D = none → Inv D 0 [] (upd H D (.lst [])))
    (hs : ∀ D i acc H' x H2, i < n → H D = none → H' D = some (.lst acc) → acc.length ≤ i → Inv D i acc H' → Y i H' x H2 → g x (wipe σ vs) H2 fun σ2 H3 => wipe σ2 vs = wipe σ vs ∧ tt σ2 H3 fun b H4 => if b = true then te σ2 H4 fun y H5 => ∃ acc', H5 D = some (.lst acc') ∧ acc'.length < sizeLine ∧ LcP Inv D (i + 1) (upd H5 D (.lst (acc' ++ [y]))) else LcP Inv D (i + 1) H4)
    (q : ∀ D acc H', H D = none → H' D = some (.lst acc) → acc.length ≤ n → Inv D n acc H' → Q (.ref D) H') : tLc wi g tt te vs σ H Q := by
  refine ht _ fun D hD => ?_
  refine lc_it wk (fun i H' => LcP Inv D i H') ⟨[], upd_same, Nat.le_refl _, h0 D hD⟩ (fun i H' hi p => ?_) (fun i x H' H2 hi p y => ?_) (fun H' p => ?_)
  · obtain ⟨acc, _, _, p⟩ := p
    exact hG D i acc H' hi p hD
  · obtain ⟨acc, p1, p2, p3⟩ := p
    exact hs D i acc H' x H2 hi hD p1 p2 p3 y
  · obtain ⟨acc, p1, p2, p3⟩ := p
    exact q D acc H' hD p1 p2 p3
/-- [e for a, b in zip(x, y)] over tuples, e changing nothing that stood -/
theorem lcZT_go {K : PySem.W.Frag} {a b : Addr} {xs ys : List V} (hl : xs.length = ys.length) {wi : TI} {g : TG} {te : TE} {vs : List Nat} {σ : L2.St} {H : Hp} {Q : VK} (f : Nat → V) (ht : ∀ R : It → Hp → Prop, R (RZ.ItzT K a b) H → wi σ H R) (ha : SqT K H a xs) (hb : SqT K H b ys) (hz : xs.length ≤ 100000)
    (hs : ∀ i x y T H2 (R : VK), xs[i]? = some x → ys[i]? = some y → Same H H2 → H2 T = some (.tup [x, y]) → (∀ H3, Same H2 H3 → R (f i) H3) → g (.ref T) (wipe σ vs) H2 fun σ2 H3 => wipe σ2 vs = wipe σ vs ∧ te σ2 H3 R)
    (q : ∀ D H', H D = none → Same H H' → H' D = some (.lst ((List.range xs.length).map f)) → Q (.ref D) H') : tLc wi g tYes te vs σ H Q := by
  refine lcW_go (walk_zipT hl) (fun D i acc H' => acc = (List.range i).map f ∧ ExT D H H') ht (fun D i acc H' _ p hD => ⟨sqT_same (ExT.toSame hD p.2) ha, sqT_same (ExT.toSame hD p.2) hb⟩) (fun D hD => ⟨rfl, exT_upd (.refl D H)⟩) (fun D i acc H' x H2 hi hD rD la p y => ?_) (fun D acc H' hD rD la p => ?_)
  · obtain ⟨rfl, v⟩ := p
    obtain ⟨T, x1, y1, rfl, nT, rfl, e1, e2⟩ := y
    have sT := same_new (o := .tup [x1, y1]) nT
    have sH := (ExT.toSame hD v).trans sT
    have rD2 := sT _ _ rD
    refine hs i x1 y1 T _ (fun y H5 => ∃ acc', H5 D = some (.lst acc') ∧ acc'.length < sizeLine ∧ LcP (fun D i acc H' => acc = (List.range i).map f ∧ ExT D H H') D (i + 1) (upd H5 D (.lst (acc' ++ [y])))) e1 e2 sH upd_same (fun H3 s3 => ⟨_, s3 _ _ rD2, ?_, _, upd_same, ?_, ?_, ?_⟩)
    · rw [List.length_map, List.length_range]
      exact Nat.lt_of_lt_of_le hi (Nat.le_trans hz (by decide))
    · simp
    · rw [List.range_succ, List.map_append]
      rfl
    · exact exT_upd (v.trans ((Same.exT (sT.trans s3))))
  · obtain ⟨rfl, v⟩ := p
    exact q D H' hD (ExT.toSame hD v) rD
end Own

set_option Elab.async false
set_option linter.all false
set_option maxRecDepth 100000
set_option maxHeartbeats 4000000
/-! A frame that ends by a return, or by an error, and pins its cell. -/
namespace Own
open PySem PySem.Spec PyProof.Rows L2
/-! ### statements whose returns are told with the slots -/
abbrev RK := L2.St → V → Hp → Prop
abbrev TR := RK → L2.St → Hp → Prop
def RP (X : Cx) (pins : List (Addr × Obj)) (R : RK) (f : Flow) (s' : Shared) : Prop :=
  match f with
  | .ret u => ∃ v σ' H', Inv X pins σ' H' s' ∧ RelV v u ∧ R σ' v H'
  | .next => False
  | .brk => False
  | .cont => False
structure PRs (X : Cx) (st : List Stmt) (t : TR) : Prop where
  run : ∀ (pins : List (Addr × Obj)) (s : Shared) (σ : L2.St) (H : Hp) (R : RK), Inv X pins σ H s → t R σ H → wpAny (model X.prog X.w) X.A (execs st X.env) (RP X pins R) X.xe s
section
variable {X : Cx} {st : Stmt} {rest a : List Stmt} {t : TS} {u ta : TR} {e c : Expr} {te : TE} {tc : TT} {pos : Pos}
theorem prs_cons (h1 : PS X st t) (h2 : PRs X rest u) : PRs X (st :: rest) (fun R σ H => t { nx := u R, rt := fun _ _ => False } σ H) := by
  refine ⟨fun pins s σ H R I h => ?_⟩
  refine wpAny_execs_cons (thn (h1.run pins s σ H { nx := u R, rt := fun _ _ => False } I h) fun f s1 q => ?_)
  cases f with
  | next =>
    obtain ⟨σ', H', I', q⟩ := q
    exact h2.run pins s1 σ' H' R I' q
  | ret v =>
    obtain ⟨_, _, _, _, _, q⟩ := q
    exact q.elim
  | brk =>
    obtain ⟨_, _, _, q⟩ := q
    exact q.elim
  | cont =>
    obtain ⟨_, _, _, q⟩ := q
    exact q.elim
theorem prs_ret (he : PE X e te) : PRs X [.Return (some e) pos] (fun R σ H => te σ H (R σ)) := by
  refine ⟨fun pins s σ H R I h => ?_⟩
  refine wpAny_execs_cons ?_
  refine wpAny_Return_some (thn (he.run pins s σ H _ I h) fun v s1 z => ?_)
  obtain ⟨x, H1, I1, r1, q1⟩ := z
  exact ⟨x, σ, H1, I1, r1, q1⟩
theorem prs_if (hc : PT X c tc) (ha : PRs X a ta) (h2 : PRs X rest u) : PRs X (.If c a [] pos :: rest) (fun R σ H => tc σ H fun b H1 => if b = true then ta R σ H1 else u R σ H1) := by
  refine ⟨fun pins s σ H R I h => ?_⟩
  refine wpAny_execs_cons (wpAny_If (thn (hc.run pins s σ H _ I h) fun d s1 z => ?_))
  obtain ⟨H1, I1, q1⟩ := z
  cases d with
  | true =>
    refine thn (ha.run pins s1 σ H1 R I1 q1) fun f s2 q => ?_
    match f, q with
    | .ret v, q => exact q
    | .next, q => exact False.elim q
    | .brk, q => exact False.elim q
    | .cont, q => exact False.elim q
  | false => exact wpAny_execs_nil (h2.run pins s1 σ H1 R I1 q1)
end
/-! ### the end -/
section
variable {CX : CXT} {P : Program} {w : World} {K : PySem.W.Frag} {mg : Str → Option Value} {base : Heap} {k : Nat} {f : Addr} {qual : Str} {scope : Scope} {N ps : List Str} {A : Around} {outer : List Env} {s s' : Shared} {H H' : Hp} {us : List Value} {vs : List V} {Q : VK} {E : XK} {cd : Value} {σ' : L2.St}
/-- where a cell of the frame stands -/
theorem cell_in {X : Cx} {pins : List (Addr × Obj)} {i : Nat} {x : Str} {b : Addr} (J : Inv X pins σ' H' s') (hN : X.N[i]? = some x) (hσ : σ'[i]? = some (some (.ref b))) (hk : X.env.scope.names.lookup x = some .cell) :
    ∃ c o, X.env.cells.lookup x = some c ∧ s'.heap.get? c = some o ∧ o.data = .cell (some (.ref b)) ∧ H' c = none := by
  obtain ⟨m, _, hl⟩ := J.loc
  obtain ⟨u, ru, lk⟩ := hl i x _ hN hσ (.inr (.inl hk))
  obtain rfl : u = Value.ref b := ru
  rcases lk with ⟨z, _⟩ | ⟨_, c, hc, o, ho, hd⟩
  · have z2 : X.env.scope.names.lookup x = some .local := z
    rw [hk] at z2
    cases z2
  · exact ⟨c, o, hc, ho, hd, J.freeC x c hc⟩
theorem pin_ret {i : Nat} {x : Str} {b : Addr} {v : V} {u : Value} (J : Inv (cxOf CX P w K mg base N qual scope f cd A outer s H E) [] σ' H' s') (hok : HOk P w H s.heap) (hN : N[i]? = some x) (hσ : σ'[i]? = some (some (.ref b))) (hk : scope.names.lookup x = some .cell) (rv : RelV v u) :
    ∃ c o, (cellsFrom (s.heap.objs.size + 1) scope.names []).lookup x = some c ∧ o.data = .cell (some (.ref b)) ∧ H' c = none ∧ H c = none ∧ base.get? c = none ∧ (Q v (upd H' c (CellO c o)) → CE outer P w H s Q u s') := by
  obtain ⟨c, o, hc, ho, hd, nc⟩ := cell_in J hN hσ hk
  have ge : s.heap.objs.size ≤ c := J.ok.cab x c rfl hc
  have fresh : s.heap.get? c = none := by
    cases e : s.heap.get? c with
    | none => rfl
    | some o => exact absurd (Nat.lt_of_lt_of_le (Heap.lt_size e) ge) (Nat.lt_irrefl _)
  have nH : H c = none := hok.fresh ge
  have nb : base.get? c = none := by
    cases e : base.get? c with
    | none => rfl
    | some y => exact absurd ((J.ok.bs c y e).1.symm.trans fresh) (by simp)
  exact ⟨c, o, hc, hd, nc, nH, nb, fun q => ⟨v, _, J.os, J.bare, un_new J.base fresh nH, hok_pin J.hok nc ho, rv, q⟩⟩
/-- a thin frame that ends by returns -/
theorem okPR {x : Str} {st : Stmt} {fd : FuncData} {sp : SpS} (F : Fun K x qual st f fd) (S : FnScope N ps (defScope st)) (len : ∀ outer s vs H Q E, sp outer s vs H Q E → vs.length = ps.length)
    (body : ∀ (A : Around) (outer : List Env) (s : Shared) (H : Hp) (vs : List V) (Q : VK) (E : XK), RT k (A.deeper (envOfC qual (defScope st) s.heap.objs.size f fd.code)) → Env0 P w K mg base A outer s H → sp outer s vs H Q E →
      ∃ t, PRs (cxOf CX P w K mg base N qual (defScope st) f fd.code A outer s H E) (defBody st) t ∧ t (fun σ' v H' => ∀ s' u, RelV v u → Inv (cxOf CX P w K mg base N qual (defScope st) f fd.code A outer s H E) [] σ' H' s' → CE outer P w H s Q u s') (start N vs) H) : FnT P w K mg base CX (k + 1) f fd ps sp := by
  obtain ⟨oc, od, kV, doc, pm, an, cdv, ct, osl, rfl, lk, hcd⟩ := F.ex
  refine ⟨len, fun A outer s H args us vs Q E hr e0 hb r hsp => ?_⟩
  have hl := len _ _ _ _ _ _ hsp
  have hK : K.In s.heap := e0.mod.kin.keeps fun d o e => (e0.bs d o e).1
  have noLim : s.heap.NoLimit := e0.mod.nolimit.keeps fun d o e => (e0.bs d o e).1
  have kinds : ∀ y ∈ ps.zip us, (defScope st).names.lookup y.1 = some .local ∨ ((defScope st).names.lookup y.1 = some .cell ∧ ((cellsFrom (s.heap.objs.size + 1) (defScope st).names []).lookup y.1).isSome = true) := by
    rintro ⟨y, v⟩ hy
    exact (S.par y (List.of_mem_zip hy).1).elim .inl fun q => .inr ⟨q, PySem.W.cellsFrom_some _ _ _ (.inl q)⟩
  refine codeAny_call_function hr.leaf.depth (hK _ _ lk) rfl S.co S.gen rfl (PySem.W.codeRec_of hK hcd) (hb _ _ _ _ (wpAny_newFunctionEnv_cells S.kind kinds ?_))
  rintro env rfl s1 x1
  refine ⟨noLim.keeps x1.toInCall.keep, codeAny_func ?_⟩
  obtain ⟨t, ht, hq⟩ := body A outer s H vs Q E (hr.deeper _) e0 hsp
  refine wpAny_mono (ht.run [] s1 (L2.start N vs) H _ (inv_start S hr.hd e0 hl r x1) hq) (fun fl s2 z => ?_) fun _ _ z => z
  match fl, z with
  | .ret u, ⟨_, _, _, J, rv, q⟩ => exact q s2 u rv J
  | .next, z => exact False.elim z
  | .brk, z => exact False.elim z
  | .cont, z => exact False.elim z
/-- an error that leaves the frame, the cell pinned -/
theorem takesP {i : Nat} {x : Str} (hok : HOk P w H s.heap) (hN : N[i]? = some x) (hk : scope.names.lookup x = some .cell) :
    Takes (cxOf (L2.CX P w) P w K mg base N qual scope f cd A outer s H E) (fun cls d σ H' => ∃ b, σ[i]? = some (some (.ref b)) ∧ ∀ c o, (cellsFrom (s.heap.objs.size + 1) scope.names []).lookup x = some c → o.data = .cell (some (.ref b)) → H' c = none → H c = none → base.get? c = none → E cls d (upd H' c (CellO c o))) := by
  intro u s' X
  show wpAny _ _ (leaving _ u) _ _ _
  have hs : (cxOf (L2.CX P w) P w K mg base N qual scope f cd A outer s H E).stack = (cxOf (L2.CX P w) P w K mg base N qual scope f cd A outer s H E).env :: (cxOf (L2.CX P w) P w K mg base N qual scope f cd A outer s H E).outer := rfl
  have hf : (cxOf (L2.CX P w) P w K mg base N qual scope f cd A outer s H E).env.frame = some (cxOf (L2.CX P w) P w K mg base N qual scope f cd A outer s H E).env.locals := rfl
  obtain ⟨a, B, sI, pins, σ, H1, cls, d, rfl, I, nb, up, sky, na, os, ag, b, hb, go⟩ := X
  obtain ⟨c, o, hc, ho, hd, nc⟩ := cell_in I hN hb hk
  have ge : s.heap.objs.size ≤ c := I.ok.cab x c rfl hc
  have fresh : s.heap.get? c = none := by
    cases e : s.heap.get? c with
    | none => rfl
    | some o => exact absurd (Nat.lt_of_lt_of_le (Heap.lt_size e) ge) (Nat.lt_irrefl _)
  have nH : H c = none := hok.fresh ge
  have nbb : base.get? c = none := by
    cases e : base.get? c with
    | none => rfl
    | some y => exact absurd ((I.ok.bs c y e).1.symm.trans fresh) (by simp)
  have q := go c o hc hd nc nH nbb
  have nst0 : c ∉ frs (cxOf (L2.CX P w) P w K mg base N qual scope f cd A outer s H E).stack := cells_out I rfl hc
  have hB : B.get? c = some o := nb c o ho nst0
  have hfr : (cxOf (L2.CX P w) P w K mg base N qual scope f cd A outer s H E).A.frames = some ((cxOf (L2.CX P w) P w K mg base N qual scope f cd A outer s H E).env :: outer) := by rw [I.ok.frames, hs]; rfl
  have nst : ∀ b o, s.heap.get? b = some o → b ∉ frs outer → b ∉ frs (cxOf (L2.CX P w) P w K mg base N qual scope f cd A outer s H E).stack := fun b o e hb hm => by
    rcases List.mem_cons.mp (I.stkSub b hm) with z | z
    · have h1 := Heap.lt_size e
      have h2 := I.ok.above
      rw [z] at h1
      exact absurd (Nat.lt_of_lt_of_le h1 h2) (Nat.lt_irrefl _)
    · exact hb z
  have hokB := I.inGround nb
  have fin : ∀ h', HandSPX.FlyingZ B outer a (Zc cls d) h' → s'.heap.UpToSlots h' → L2.CX P w outer H s E (.ref a) { s' with heap := h' } := fun h' fl up' => by
    have ac : a ≠ c := fun y => by
      have f := fl.2.1
      rw [y, hB] at f
      cases f
    refine ⟨a, B, upd H1 c (CellO c o), cls, d, rfl, fl, hok_pin hokB nc hB, ⟨fun b o e n hb => nb b o (I.base.keep b o e n hb (by simp [cxOf])) (nst b o e hb), fun b o e hb => ?_, fun b o e n => ?_, fun b o e hb => ?_, fun b xs e => ?_, fun b o y e => ?_, fun b ps e => ?_⟩, by rw [upd_ne ac]; exact na, os.trans I.os, ag, q⟩
    · obtain ⟨_, o₀, e₀, hnf⟩ := I.ok.funs.mem hb
      rw [show (cxOf (L2.CX P w) P w K mg base N qual scope f cd A outer s H E).s_0.heap.get? b = some o from e] at e₀
      cases e₀
      obtain ⟨sl, e1⟩ := I.base.slot b o e (I.ok.frf b hb) hb (by simp [cxOf])
      obtain ⟨sl2, e2⟩ := up b _ e1 hnf
      obtain ⟨sl3, e3⟩ := up' b _ e2 hnf
      exact ⟨sl3, e3⟩
    · rw [upd_ne (fun z => by rw [z, fresh] at e; cases e)]
      exact I.base.free b o e n (by simp [cxOf])
    · obtain ⟨o', e1⟩ := I.base.there b o e (by simp [cxOf])
      exact ⟨o', nb b o' e1 (nst b o e hb)⟩
    · rw [upd_ne (fun z => by rw [z, nH] at e; cases e)]
      exact I.base.tups b xs e
    · rw [upd_ne (fun z => by rw [z, nH] at e; cases e)]
      exact I.base.frzs b o y e
    · rw [upd_ne (fun z => by rw [z, nH] at e; cases e)]
      exact I.base.tbls b ps e
  rw [hs] at sky
  rcases sky with ⟨hB0, hn, hl, oe, vs0, he, hz, hd0, h1⟩ | fl | hd0
  · exact HandSPX.leaving_firstZ Zc.steady hfr hl hf he hB0 hn hd0 h1 hz fin
  · exact HandSPX.leaves_onZ Zc.steady hfr hf fl fin
  · exact HandSPX.leaves_heldZ hf hd0 fin
end
end Own

set_option Elab.async false
set_option linter.all false
set_option maxRecDepth 100000
set_option maxHeartbeats 4000000
/-! Several cells of frames that have ended: pinned at a return, dropped for the call. -/
namespace Own
open PySem PySem.Spec PyProof.Rows L2
section
variable {P : Program} {w : World} {K : PySem.W.Frag} {mg : Str → Option Value} {base : Heap} {H H' : Hp} {h h' B : Heap} {c : Addr} {b : Obj} {fs ex : List Addr} {A : Around} {outer : List Env} {s s' : Shared} {Q Q' : VK} {E E' : XK} {u : Value}
/-- a cell that is told is forgotten -/
theorem ce_drop (z : CE outer P w (unp H c) s Q u s') (e : H c = some (CellO c b)) : CE outer P w H s Q u s' := by
  obtain ⟨v, H', os, bare, un, ok, rv, q⟩ := z
  refine ⟨v, H', os, bare, ⟨fun d o x n => un.keep d o x (unp_none n), fun d o x n => un.slot d o x (unp_none n), fun d o x n => un.free d o x (unp_none n), un.there, fun d xs x => ?_, fun d o y x => ?_, fun d ps x => ?_⟩, ok, rv, q⟩
  · exact un.tups d xs (by rw [unp_ne (ne_cell e x cellO_tup)]; exact x)
  · exact un.frzs d o y (by rw [unp_ne (ne_cell e x cellO_frz)]; exact x)
  · exact un.tbls d ps (by rw [unp_ne (ne_cell e x (cellO_ne.2.2.2 _))]; exact x)
theorem cx_drop (z : L2.CX P w outer (unp H c) s E u s') (e : H c = some (CellO c b)) : L2.CX P w outer H s E u s' := by
  obtain ⟨a, B, H', cls, d, rfl, fl, ok, ub, na, os, ag, hE⟩ := z
  refine ⟨a, B, H', cls, d, rfl, fl, ok, ⟨fun d o x n => ub.keep d o x (unp_none n), ub.slot, fun d o x n => ub.free d o x (unp_none n), ub.there, fun d xs x => ?_, fun d o y x => ?_, fun d ps x => ?_⟩, na, os, ag, hE⟩
  · exact ub.tups d xs (by rw [unp_ne (ne_cell e x cellO_tup)]; exact x)
  · exact ub.frzs d o y (by rw [unp_ne (ne_cell e x cellO_frz)]; exact x)
  · exact ub.tbls d ps (by rw [unp_ne (ne_cell e x (cellO_ne.2.2.2 _))]; exact x)
/-- several -/
def unpL (H : Hp) : List (Addr × Obj) → Hp
  | [] => H
  | p :: l => unpL (unp H p.1) l
def Pins (H : Hp) (l : List (Addr × Obj)) : Prop := (l.map (·.1)).Nodup ∧ ∀ p ∈ l, H p.1 = some (CellO p.1 p.2)
theorem nd_ne {p : Addr × Obj} {l : List (Addr × Obj)} (nd : ((p :: l).map (·.1)).Nodup) : (l.map (·.1)).Nodup ∧ ∀ q ∈ l, q.1 ≠ p.1 := by
  have z := List.nodup_cons.mp nd
  exact ⟨z.2, fun q m e => z.1 (List.mem_map.mpr ⟨q, m, e⟩)⟩
theorem Pins.tail {p : Addr × Obj} {l : List (Addr × Obj)} (h : Pins H (p :: l)) : Pins (unp H p.1) l := by
  obtain ⟨nd, a⟩ := h
  obtain ⟨n1, n2⟩ := nd_ne nd
  exact ⟨n1, fun q m => by
    rw [unp_ne (n2 q m)]
    exact a q (List.mem_cons_of_mem _ m)⟩
theorem unpL_ne : ∀ {l : List (Addr × Obj)} {H : Hp} {a : Addr}, (∀ p ∈ l, a ≠ p.1) → unpL H l a = H a
  | [], _, _, _ => rfl
  | p :: l, H, a, h => by
    show unpL (unp H p.1) l a = _
    rw [unpL_ne fun q m => h q (List.mem_cons_of_mem _ m), unp_ne (h p (by simp))]
theorem unpL_none {l : List (Addr × Obj)} : ∀ {H : Hp} {a : Addr}, H a = none → unpL H l a = none := by
  induction l with
  | nil => exact fun h => h
  | cons p l ih =>
    intro H a h
    show unpL (unp H p.1) l a = none
    exact ih (unp_none h)
theorem unpL_in {p : Addr × Obj} {l : List (Addr × Obj)} : ∀ {H : Hp}, p ∈ l → unpL H l p.1 = none := by
  induction l with
  | nil => exact fun m => by cases m
  | cons q l ih =>
    intro H m
    rcases List.mem_cons.mp m with rfl | m
    · show unpL (unp H p.1) l p.1 = none
      exact unpL_none unp_same
    · exact ih m
theorem ce_dropL : ∀ {l : List (Addr × Obj)} {H : Hp}, Pins H l → CE outer P w (unpL H l) s Q u s' → CE outer P w H s Q u s'
  | [], _, _, z => z
  | p :: l, H, h, z => ce_drop (ce_dropL (l := l) h.tail z) (h.2 p (by simp))
theorem cx_dropL : ∀ {l : List (Addr × Obj)} {H : Hp}, Pins H l → L2.CX P w outer (unpL H l) s E u s' → L2.CX P w outer H s E u s'
  | [], _, _, z => z
  | p :: l, H, h, z => cx_drop (cx_dropL (l := l) h.tail z) (h.2 p (by simp))
theorem env0_unpL : ∀ {l : List (Addr × Obj)} {H : Hp}, Pins H l → Env0 P w K mg base A outer s H → Env0 P w K mg base A outer s (unpL H l)
  | [], _, _, z => z
  | p :: l, _, h, z => env0_unpL (l := l) h.tail (env0_unp z (h.2 p (by simp)))
/-- what may be called, its cells told in the heap till then -/
def spDrop (cs : List (Addr × Obj)) (ws : List (Option V)) (sp : SpC) : SpC := fun outer s _ vs H Q E => Pins H cs ∧ ∀ s' : Shared, (∀ p ∈ cs, s'.heap.get? p.1 = some p.2 ∧ p.1 ∉ frs outer) → sp outer s' ws vs (unpL H cs) Q E
theorem CbT.dropL {k : Nat} {f : Addr} {O : HO} {c1 P1 : Addr} {q : Str} {cl : List (Str × Addr)} {ps fr : List Str} {sp : SpC} (o : CbT P w K mg base (L2.CX P w) k f ⟨O, c1, q, cl, P1⟩ ps fr sp) {cs : List (Addr × Obj)} {ws : List (Option V)} (fc : ∀ p ∈ cs, f ≠ p.1 ∧ c1 ≠ p.1)
    (hc : ∀ s' : Shared, (∀ p ∈ cs, s'.heap.get? p.1 = some p.2) → ∀ H, (∀ p ∈ cs, H p.1 = none) → NdefX.CellsAt cl fr ws s'.heap H) :
    CbT P w K mg base (L2.CX P w) k f ⟨O, c1, q, [], P1⟩ ps [] (fun outer s _ vs H Q E => vs.length = ps.length ∧ spDrop cs ws sp outer s [] vs H Q E) := by
  refine ⟨o.fn, o.ni, fun outer s ws vs H Q E h => h.1, fun A outer s H us vs _ Q E hr e0 hf hcd _ r hsp => ?_⟩
  obtain ⟨_, pn, h2⟩ := hsp
  have at_ : ∀ p ∈ cs, s.heap.get? p.1 = some p.2 := fun p m => (e0.hok p.1 _ (pn.2 p m)).1
  have nf : ∀ p ∈ cs, p.1 ∉ frs outer := fun p m h => by
    have z := e0.frf p.1 h
    rw [pn.2 p m] at z
    cases z
  have C := hc s at_ (unpL H cs) fun p m => unpL_in m
  refine codeAny_mono (o.run A outer s (unpL H cs) us vs ws Q E hr (env0_unpL pn e0) (by rw [unpL_ne fun p m => (fc p m).1]; exact hf) (by show unpL H cs c1 = _; rw [unpL_ne fun p m => (fc p m).2]; exact hcd) C r (h2 s fun p m => ⟨at_ p m, nf p m⟩)) fun r s' z => ?_
  match r, z with
  | .error e, z => exact cx_dropL pn z
  | .ok (.ret u), z => exact ce_dropL pn z
  | .ok .next, z => exact False.elim z
  | .ok .brk, z => exact False.elim z
  | .ok .cont, z => exact False.elim z
end
section
variable {P : Program} {w : World} {K : PySem.W.Frag} {mg : Str → Option Value} {base : Heap}
/-- .. and one of them pinned again behind the call -/
def spDropP (cs : List (Addr × Obj)) (c : Addr) (ob : Obj) (ws : List (Option V)) (sp : SpC) : SpC := fun outer s _ vs H Q E => Pins H ((c, ob) :: cs) ∧ ∀ s' : Shared, (∀ p ∈ (c, ob) :: cs, s'.heap.get? p.1 = some p.2 ∧ p.1 ∉ frs outer) → sp outer s' ws vs (unpL (unp H c) cs) (fun v H' => H' c = none → Q v (upd H' c (CellO c ob))) (fun cls d H' => H' c = none → E cls d (upd H' c (CellO c ob)))
theorem CbT.dropP {k : Nat} {f : Addr} {O : HO} {c1 P1 : Addr} {q : Str} {cl : List (Str × Addr)} {ps fr : List Str} {sp : SpC} (o : CbT P w K mg base (L2.CX P w) k f ⟨O, c1, q, cl, P1⟩ ps fr sp) {cs : List (Addr × Obj)} {c : Addr} {ob : Obj} {ws : List (Option V)} (fc : ∀ p ∈ (c, ob) :: cs, f ≠ p.1 ∧ c1 ≠ p.1)
    (hc : ∀ s' : Shared, (∀ p ∈ (c, ob) :: cs, s'.heap.get? p.1 = some p.2) → ∀ H, (∀ p ∈ (c, ob) :: cs, H p.1 = none) → NdefX.CellsAt cl fr ws s'.heap H) :
    CbT P w K mg base (L2.CX P w) k f ⟨O, c1, q, [], P1⟩ ps [] (fun outer s _ vs H Q E => vs.length = ps.length ∧ spDropP cs c ob ws sp outer s [] vs H Q E) := by
  refine ⟨o.fn, o.ni, fun outer s ws vs H Q E h => h.1, fun A outer s H us vs _ Q E hr e0 hf hcd _ r hsp => ?_⟩
  obtain ⟨_, pn, h2⟩ := hsp
  have at_ : ∀ p ∈ (c, ob) :: cs, s.heap.get? p.1 = some p.2 := fun p m => (e0.hok p.1 _ (pn.2 p m)).1
  have nf : ∀ p ∈ (c, ob) :: cs, p.1 ∉ frs outer := fun p m h => by
    have z := e0.frf p.1 h
    rw [pn.2 p m] at z
    cases z
  have C := hc s at_ (unpL H ((c, ob) :: cs)) fun p m => unpL_in m
  have hcell := pn.2 (c, ob) (by simp)
  have hok := e0.hok
  refine codeAny_mono (o.run A outer s (unpL H ((c, ob) :: cs)) us vs ws _ _ hr (env0_unpL pn e0) (by rw [unpL_ne fun p m => (fc p m).1]; exact hf) (by show unpL H ((c, ob) :: cs) c1 = _; rw [unpL_ne fun p m => (fc p m).2]; exact hcd) C r (h2 s fun p m => ⟨at_ p m, nf p m⟩)) fun r s' z => ?_
  match r, z with
  | .error e, z => exact cx_pin (cx_dropL (l := cs) pn.tail z) hcell hok (nf (c, ob) (by simp)) fun _ _ _ n q => q n
  | .ok (.ret u), z => exact ce_pin (ce_dropL (l := cs) pn.tail z) hcell hok (nf (c, ob) (by simp)) fun _ _ n q => q n
  | .ok .next, z => exact False.elim z
  | .ok .brk, z => exact False.elim z
  | .ok .cont, z => exact False.elim z
end
/-- the rest, from what is known behind a statement -/
theorem prs_cut {X : Cx} {st : Stmt} {rest : List Stmt} {t : TS} {u : TR} (h1 : PS X st t) (h2 : PRs X rest u) : PRs X (st :: rest) (fun R σ H => ∃ C : L2.St → Hp → Prop, t { nx := C, rt := fun _ _ => False } σ H ∧ ∀ σ' H', C σ' H' → u R σ' H') := by
  refine ⟨fun pins s σ H R I h => ?_⟩
  obtain ⟨C, a, b⟩ := h
  refine wpAny_execs_cons (thn (h1.run pins s σ H { nx := C, rt := fun _ _ => False } I a) fun f s1 q => ?_)
  cases f with
  | next =>
    obtain ⟨σ', H', I', q⟩ := q
    exact h2.run pins s1 σ' H' R I' (b σ' H' q)
  | ret v =>
    obtain ⟨_, _, _, _, _, q⟩ := q
    exact q.elim
  | brk =>
    obtain ⟨_, _, _, q⟩ := q
    exact q.elim
  | cont =>
    obtain ⟨_, _, _, q⟩ := q
    exact q.elim
/-! ### pinned at the return -/
def pinL (H : Hp) : List (Addr × Obj) → Hp
  | [] => H
  | p :: l => pinL (upd H p.1 (CellO p.1 p.2)) l
theorem pinL_ne : ∀ {l : List (Addr × Obj)} {H : Hp} {a : Addr}, (∀ p ∈ l, a ≠ p.1) → pinL H l a = H a
  | [], _, _, _ => rfl
  | p :: l, H, a, h => by
    show pinL (upd H p.1 _) l a = _
    rw [pinL_ne fun q m => h q (List.mem_cons_of_mem _ m), upd_ne (h p (by simp))]
theorem pinL_in {p : Addr × Obj} {l : List (Addr × Obj)} : ∀ {H : Hp}, (l.map (·.1)).Nodup → p ∈ l → pinL H l p.1 = some (CellO p.1 p.2) := by
  induction l with
  | nil => exact fun _ m => by cases m
  | cons q l ih =>
    intro H nd m
    obtain ⟨n1, n2⟩ := nd_ne nd
    rcases List.mem_cons.mp m with rfl | m
    · show pinL (upd H p.1 _) l p.1 = _
      rw [pinL_ne fun q m e => n2 q m e.symm, upd_same]
    · exact ih n1 m
/-- one cell first -/
theorem pinL_one {c : Addr} {o : Obj} {l : List (Addr × Obj)} {H : Hp} (nd : (l.map (·.1)).Nodup) (m : (c, o) ∈ l) : ∃ l3 : List (Addr × Obj), pinL H l = pinL (upd H c (CellO c o)) l3 ∧ (((c, o) :: l3).map (·.1)).Nodup ∧ (∀ p, p ∈ l ↔ p ∈ (c, o) :: l3) := by
  have in_one : ∀ {p q : Addr × Obj}, p ∈ l → q ∈ l → p.1 = q.1 → p = q := by
    have h : ∀ {l : List (Addr × Obj)}, (l.map (·.1)).Nodup → ∀ {p q : Addr × Obj}, p ∈ l → q ∈ l → p.1 = q.1 → p = q := by
      intro l
      induction l with
      | nil => exact fun _ _ _ m => by cases m
      | cons a l ih =>
        intro nd p q mp mq e
        obtain ⟨n1, n2⟩ := nd_ne nd
        rcases List.mem_cons.mp mp with e1 | mp
        · rcases List.mem_cons.mp mq with e2 | mq
          · rw [e1, e2]
          · exact absurd (by rw [← e, e1]) (n2 q mq)
        · rcases List.mem_cons.mp mq with e2 | mq
          · exact absurd (by rw [e, e2]) (n2 p mp)
          · exact ih n1 mp mq e
    exact fun {p q} mp mq e => h nd mp mq e
  have nd3 : ((l.filter fun p => !decide (p.1 = c)).map (·.1)).Nodup := List.Nodup.sublist (List.Sublist.map _ (List.filter_sublist)) nd
  have nc : ∀ p ∈ l.filter fun p => !decide (p.1 = c), p.1 ≠ c := fun p mp => by
    have z := (List.mem_filter.mp mp).2
    simpa using z
  have iff : ∀ p, p ∈ l ↔ p ∈ (c, o) :: l.filter fun p => !decide (p.1 = c) := fun p => by
    constructor
    · intro mp
      by_cases e : p.1 = c
      · rw [in_one mp m e]
        exact List.mem_cons_self
      · exact List.mem_cons_of_mem _ (List.mem_filter.mpr ⟨mp, by simp [e]⟩)
    · intro mp
      rcases List.mem_cons.mp mp with rfl | mp
      · exact m
      · exact (List.mem_filter.mp mp).1
  refine ⟨_, ?_, ?_, iff⟩
  · funext a
    by_cases e : ∃ p ∈ l, a = p.1
    · obtain ⟨p, mp, rfl⟩ := e
      rw [pinL_in nd mp]
      rcases List.mem_cons.mp ((iff p).mp mp) with rfl | m3
      · rw [pinL_ne fun q mq e => nc q mq e.symm, upd_same]
      · rw [pinL_in nd3 m3]
    · have n1 : ∀ p ∈ l, a ≠ p.1 := fun p mp z => e ⟨p, mp, z⟩
      rw [pinL_ne n1, pinL_ne fun p mp => n1 p ((iff p).mpr (List.mem_cons_of_mem _ mp)), upd_ne (n1 _ m)]
  · rw [List.map_cons, List.nodup_cons]
    refine ⟨fun z => ?_, nd3⟩
    obtain ⟨p, mp, e⟩ := List.mem_map.mp z
    exact nc p mp e
theorem Pins.pinL {l : List (Addr × Obj)} {H : Hp} (nd : (l.map (·.1)).Nodup) : Pins (pinL H l) l := ⟨nd, fun _ m => pinL_in nd m⟩
theorem pinL_same {l : List (Addr × Obj)} : ∀ {H : Hp}, (l.map (·.1)).Nodup → (∀ p ∈ l, H p.1 = none) → Same H (pinL H l) := by
  induction l with
  | nil => exact fun _ _ => .refl _
  | cons p l ih =>
    intro H nd h
    obtain ⟨n1, n2⟩ := nd_ne nd
    refine (same_new (h p (by simp))).trans (ih n1 fun q m => ?_)
    rw [upd_ne (n2 q m)]
    exact h q (List.mem_cons_of_mem _ m)
section
variable {CX : CXT} {P : Program} {w : World} {K : PySem.W.Frag} {mg : Str → Option Value} {base : Heap} {f : Addr} {qual : Str} {scope : Scope} {N ps : List Str} {A : Around} {outer : List Env} {s s' : Shared} {H H' : Hp} {Q : VK} {E : XK} {cd : Value} {σ' : L2.St}
theorem pinL_ok {h0 h : Heap} {l : List (Addr × Obj)} : ∀ {H0 H' : Hp}, Un (frs outer) [] H0 H' h0 h → HOk P w H' h → (l.map (·.1)).Nodup → (∀ p ∈ l, H' p.1 = none ∧ h.get? p.1 = some p.2 ∧ h0.get? p.1 = none ∧ H0 p.1 = none) → Un (frs outer) [] H0 (pinL H' l) h0 h ∧ HOk P w (pinL H' l) h := by
  induction l with
  | nil => exact fun u o _ _ => ⟨u, o⟩
  | cons p l ih =>
    intro H0 H' u o nd a
    obtain ⟨n1, n2⟩ := nd_ne nd
    obtain ⟨a1, a2, a3, a4⟩ := a p (by simp)
    refine ih (un_new u a3 a4) (hok_pin o a1 a2) n1 fun q m => ?_
    obtain ⟨b1, b2, b3, b4⟩ := a q (List.mem_cons_of_mem _ m)
    refine ⟨?_, b2, b3, b4⟩
    rw [upd_ne (n2 q m)]
    exact b1
/-- any value in a cell of the frame -/
theorem cell_inV {X : Cx} {pins : List (Addr × Obj)} {i : Nat} {x : Str} {v : V} (J : Inv X pins σ' H' s') (hN : X.N[i]? = some x) (hσ : σ'[i]? = some (some v)) (hk : X.env.scope.names.lookup x = some .cell) :
    ∃ c o u, X.env.cells.lookup x = some c ∧ s'.heap.get? c = some o ∧ o.data = .cell (some u) ∧ RelV v u ∧ H' c = none := by
  obtain ⟨m, _, hl⟩ := J.loc
  obtain ⟨u, ru, lk⟩ := hl i x _ hN hσ (.inr (.inl hk))
  rcases lk with ⟨z, _⟩ | ⟨_, c, hc, o, ho, hd⟩
  · have z2 : X.env.scope.names.lookup x = some .local := z
    rw [hk] at z2
    cases z2
  · exact ⟨c, o, u, hc, ho, hd, ru, J.freeC x c hc⟩
/-- the cells that a closure holds, with what stands in them -/
theorem cells_cs {cl : List (Str × Addr)} {fr : List Str} {ws : List (Option V)} {h : Heap} {H : Hp} (C : NdefX.CellsAt cl fr ws h H) (nd : fr.Nodup) (hall : ∀ y c, cl.lookup y = some c → y ∈ fr) :
    ∃ cs : List (Addr × Obj), (cs.map (·.1)).Nodup ∧ (∀ p ∈ cs, H p.1 = none ∧ h.get? p.1 = some p.2 ∧ ∃ y, cl.lookup y = some p.1) ∧ (∀ y c, cl.lookup y = some c → ∃ p ∈ cs, p.1 = c) ∧
      ∀ (h2 : Heap) (H2 : Hp), (∀ p ∈ cs, h2.get? p.1 = some p.2) → (∀ p ∈ cs, H2 p.1 = none) → NdefX.CellsAt cl fr ws h2 H2 := by
  have ex : ∀ l : List Str, (∀ y ∈ l, y ∈ fr) → ∃ cs : List (Addr × Obj), Paired (fun (y : Str) (p : Addr × Obj) => cl.lookup y = some p.1 ∧ h.get? p.1 = some p.2) l cs := by
    intro l
    induction l with
    | nil => exact fun _ => ⟨[], .nil⟩
    | cons y l ih =>
      intro hl
      obtain ⟨cs, pr⟩ := ih fun z m => hl z (List.mem_cons_of_mem _ m)
      obtain ⟨i, hi⟩ := List.mem_iff_getElem?.mp (hl y (by simp))
      obtain ⟨c, hc, _⟩ := C.has i y hi
      obtain ⟨_, v, o, ho, hd⟩ := C.all y c hc
      exact ⟨(c, o) :: cs, .cons ⟨hc, ho⟩ pr⟩
  obtain ⟨cs, pr⟩ := ex fr fun _ m => m
  have back : ∀ {l : List Str} {cs : List (Addr × Obj)}, Paired (fun (y : Str) (p : Addr × Obj) => cl.lookup y = some p.1 ∧ h.get? p.1 = some p.2) l cs → ∀ p ∈ cs, ∃ y ∈ l, cl.lookup y = some p.1 ∧ h.get? p.1 = some p.2 := by
    intro l cs pr
    induction pr with
    | nil => exact fun _ m => by cases m
    | cons a _ ih =>
      intro p m
      rcases List.mem_cons.mp m with rfl | m
      · exact ⟨_, by simp, a⟩
      · obtain ⟨y, my, z⟩ := ih p m
        exact ⟨y, List.mem_cons_of_mem _ my, z⟩
  have forth : ∀ {l : List Str} {cs : List (Addr × Obj)}, Paired (fun (y : Str) (p : Addr × Obj) => cl.lookup y = some p.1 ∧ h.get? p.1 = some p.2) l cs → ∀ y ∈ l, ∃ p ∈ cs, cl.lookup y = some p.1 ∧ h.get? p.1 = some p.2 := by
    intro l cs pr
    induction pr with
    | nil => exact fun _ m => by cases m
    | cons a _ ih =>
      intro y m
      rcases List.mem_cons.mp m with rfl | m
      · exact ⟨_, by simp, a⟩
      · obtain ⟨p, mp, z⟩ := ih y m
        exact ⟨p, List.mem_cons_of_mem _ mp, z⟩
  have ndc : ∀ {l : List Str} {cs : List (Addr × Obj)}, l.Nodup → Paired (fun (y : Str) (p : Addr × Obj) => cl.lookup y = some p.1 ∧ h.get? p.1 = some p.2) l cs → (cs.map (·.1)).Nodup := by
    intro l cs nl pr
    induction pr with
    | nil => exact List.nodup_nil
    | cons a r ih =>
      have z := List.nodup_cons.mp nl
      refine List.nodup_cons.mpr ⟨fun m => ?_, ih z.2⟩
      obtain ⟨p, mp, e⟩ := List.mem_map.mp m
      obtain ⟨y, my, e1, _⟩ := back r p mp
      have e2 := C.inj _ _ _ a.1 (by rw [e1]; exact congrArg some e)
      exact z.1 (by rw [e2]; exact my)
  refine ⟨cs, ndc nd pr, fun p m => ?_, fun y c hc => ?_, fun h2 H2 a1 a2 => ⟨C.len, fun y c hc => ?_, C.inj, fun i y hi => ?_⟩⟩
  · obtain ⟨y, _, e1, e2⟩ := back pr p m
    exact ⟨(C.all y _ e1).1, e2, y, e1⟩
  · obtain ⟨p, mp, e1, e2⟩ := forth pr y (hall y c hc)
    exact ⟨p, mp, Option.some.inj (e1.symm.trans hc)⟩
  · obtain ⟨p, mp, e1, e2⟩ := forth pr y (hall y c hc)
    obtain rfl : c = p.1 := Option.some.inj (hc.symm.trans e1)
    obtain ⟨_, v, o, ho, hd⟩ := C.all y _ hc
    obtain rfl : o = p.2 := Option.some.inj (ho.symm.trans e2)
    exact ⟨a2 p mp, v, p.2, a1 p mp, hd⟩
  · obtain ⟨c, hc, g⟩ := C.has i y hi
    refine ⟨c, hc, fun v hv => ?_⟩
    obtain ⟨u, ru, o, ho, hd⟩ := g v hv
    obtain ⟨p, mp, e1, e2⟩ := forth pr y (hall y c hc)
    obtain rfl : c = p.1 := Option.some.inj (hc.symm.trans e1)
    obtain rfl : o = p.2 := Option.some.inj (ho.symm.trans e2)
    exact ⟨u, ru, p.2, a1 p mp, hd⟩
/-- the free names of a lambda are those that are listed -/
theorem clo_all {cells : List (Str × Addr)} {names : List (Str × NameKind)} {fr : List Str} (h : names.all (fun y => !decide (y.2 = .free) || fr.contains y.1) = true) : ∀ y c, (cloFrom cells names []).lookup y = some c → y ∈ fr := fun y c e => by
  rcases cloFrom_mem (PySem.mem_of_lookup e) with m | ⟨m, _⟩
  · cases m
  · have z := List.all_eq_true.mp h _ m
    simpa using z
/-- a lambda of this frame is returned: its cells are told from then on -/
theorem ret_pins {e : Expr} {js : List Nat} {fr : List Str} (J : Inv (cxOf CX P w K mg base N qual scope f cd A outer s H E) [] σ' H' s') (hok : HOk P w H s.heap) (hf : NdefX.ndefB scope (lamSc e) fr = true) (hj : js.map (fun j => N[j]?) = fr.map some) (nd : fr.Nodup) (ha : (lamSc e).names.all (fun y => !decide (y.2 = .free) || fr.contains y.1) = true) :
    ∃ cs : List (Addr × Obj), (cs.map (·.1)).Nodup ∧ (∀ p ∈ cs, H' p.1 = none ∧ base.get? p.1 = none ∧ s'.heap.get? p.1 = some p.2) ∧ (∀ y a, (cloFrom (cellsFrom (s.heap.objs.size + 1) scope.names []) (lamSc e).names []).lookup y = some a → ∃ p ∈ cs, p.1 = a) ∧
      (∀ (h2 : Heap) (H2 : Hp), (∀ p ∈ cs, h2.get? p.1 = some p.2) → (∀ p ∈ cs, H2 p.1 = none) → NdefX.CellsAt (cloFrom (cellsFrom (s.heap.objs.size + 1) scope.names []) (lamSc e).names []) fr (js.map (NdefX.slotAt σ')) h2 H2) ∧
      ∀ v u, RelV v u → Q v (pinL H' cs) → CE outer P w H s Q u s' := by
  have C := lam_caps (X := cxOf CX P w K mg base N qual scope f cd A outer s H E) J hf hj
  obtain ⟨cs, n1, n2, n4, n3⟩ := cells_cs C nd (clo_all ha)
  have fresh : ∀ p ∈ cs, s.heap.get? p.1 = none ∧ H p.1 = none ∧ base.get? p.1 = none := fun p m => by
    obtain ⟨_, _, y, hy⟩ := n2 p m
    have hy2 := lam_sub (X := cxOf CX P w K mg base N qual scope f cd A outer s H E) (js := js) J hf hj hy
    have ge : s.heap.objs.size ≤ p.1 := J.ok.cab y p.1 rfl hy2
    have fr : s.heap.get? p.1 = none := by
      cases e : s.heap.get? p.1 with
      | none => rfl
      | some o => exact absurd (Nat.lt_of_lt_of_le (Heap.lt_size e) ge) (Nat.lt_irrefl _)
    refine ⟨fr, hok.fresh ge, ?_⟩
    cases e : base.get? p.1 with
    | none => rfl
    | some y => exact absurd ((J.ok.bs p.1 y e).1.symm.trans fr) (by simp)
  refine ⟨cs, n1, fun p m => ⟨(n2 p m).1, (fresh p m).2.2, (n2 p m).2.1⟩, n4, n3, fun v u rv q => ?_⟩
  obtain ⟨un, ok⟩ := pinL_ok (l := cs) J.base J.hok n1 fun p m => ⟨(n2 p m).1, (n2 p m).2.1, (fresh p m).1, (fresh p m).2.1⟩
  exact ⟨v, _, J.os, J.bare, un, ok, rv, q⟩
end
end Own

set_option Elab.async false
set_option linter.all false
set_option maxRecDepth 100000
set_option maxHeartbeats 4000000
namespace Own
open PySem PySem.Spec PyProof.Rows L2
def topS (i : Nat) : Stmt := PySem.Challenge.pw_bindspan_k45_whole_put_back.main.body.getD i (.Pass ⟨0, 0, 0, 0⟩)
abbrev s_is_word : Stmt := topS 15
theorem sc_is_word : FnScope ["value", "sign"] ["value"] (defScope s_is_word) := ⟨rfl, rfl, rfl, by decide +kernel, rfl, by decide +kernel, by decide +kernel⟩
abbrev s_is_ident : Stmt := topS 16
theorem sc_is_ident : FnScope ["value"] ["value"] (defScope s_is_ident) := ⟨rfl, rfl, rfl, by decide +kernel, rfl, by decide +kernel, by decide +kernel⟩
abbrev s_checked : Stmt := topS 20
theorem sc_checked : FnScope ["bindings", "name", "value"] ["bindings"] (defScope s_checked) := ⟨rfl, rfl, rfl, by decide +kernel, rfl, by decide +kernel, by decide +kernel⟩
abbrev s_is_value : Stmt := topS 21
theorem sc_is_value : FnScope ["value"] ["value"] (defScope s_is_value) := ⟨rfl, rfl, rfl, by decide +kernel, rfl, by decide +kernel, by decide +kernel⟩
abbrev s_way : Stmt := topS 28
theorem sc_way : FnScope ["here", "there", "many"] ["here", "there"] (defScope s_way) := ⟨rfl, rfl, rfl, by decide +kernel, rfl, by decide +kernel, by decide +kernel⟩
abbrev s_l_state : Stmt := topS 30
theorem sc_l_state : FnScope ["_law_script", "_law_seed", "_law_great", "_law_cell"] ["_law_script"] (defScope s_l_state) := ⟨rfl, rfl, rfl, by decide +kernel, rfl, by decide +kernel, by decide +kernel⟩
abbrev s_l_draw : Stmt := topS 31
theorem sc_l_draw : FnScope ["_law_state_here", "_law_many", "_law_value_here"] ["_law_state_here", "_law_many"] (defScope s_l_draw) := ⟨rfl, rfl, rfl, by decide +kernel, rfl, by decide +kernel, by decide +kernel⟩
abbrev s_l_kept_words : Stmt := topS 32
theorem sc_l_kept_words : FnScope ["_law_words"] [] (defScope s_l_kept_words) := ⟨rfl, rfl, rfl, by decide +kernel, rfl, by decide +kernel, by decide +kernel⟩
abbrev s_l_name : Stmt := topS 33
theorem sc_l_name : FnScope ["_law_state_here", "_law_names_here", "_law_letters", "_law_base", "_law_k", "_law_choices", "_law_free", "_law_name_here"] ["_law_state_here", "_law_names_here"] (defScope s_l_name) := ⟨rfl, rfl, rfl, by decide +kernel, rfl, by decide +kernel, by decide +kernel⟩
abbrev s_l_names : Stmt := topS 34
theorem sc_l_names : FnScope ["_law_state_here", "_law_many", "_law_names_here", "_law_k"] ["_law_state_here", "_law_many"] (defScope s_l_names) := ⟨rfl, rfl, rfl, by decide +kernel, rfl, by decide +kernel, by decide +kernel⟩
abbrev s_l_value : Stmt := topS 35
theorem sc_l_value : FnScope ["_law_state_here", "_law_way", "_law_signs", "_law_k"] ["_law_state_here"] (defScope s_l_value) := ⟨rfl, rfl, rfl, by decide +kernel, rfl, by decide +kernel, by decide +kernel⟩
abbrev s_l_over : Stmt := topS 36
theorem sc_l_over : FnScope ["_law_low", "_law_high", "_law_table", "_law_name_here"] ["_law_low", "_law_high"] (defScope s_l_over) := ⟨rfl, rfl, rfl, by decide +kernel, rfl, by decide +kernel, by decide +kernel⟩
abbrev s_l_bindings : Stmt := topS 37
theorem sc_l_bindings : FnScope ["_law_state_here", "_law_names_here", "_law_most", "_law_table", "_law_k"] ["_law_state_here", "_law_names_here", "_law_most"] (defScope s_l_bindings) := ⟨rfl, rfl, rfl, by decide +kernel, rfl, by decide +kernel, by decide +kernel⟩
abbrev s_l_raise : Stmt := topS 38
theorem sc_l_raise : FnScope ["_law_way"] ["_law_way"] (defScope s_l_raise) := ⟨rfl, rfl, rfl, by decide +kernel, rfl, by decide +kernel, by decide +kernel⟩
abbrev s_l_caught : Stmt := topS 39
theorem sc_l_caught : FnScope ["_law_act"] ["_law_act"] (defScope s_l_caught) := ⟨rfl, rfl, rfl, by decide +kernel, rfl, by decide +kernel, by decide +kernel⟩
abbrev s_l_shows : Stmt := topS 40
theorem sc_l_shows : FnScope ["_law_box", "_law_places", "_law_k", "_law_scope", "_law_env", "_law_depth", "_law_name_here"] ["_law_box", "_law_places"] (defScope s_l_shows) := ⟨rfl, rfl, rfl, by decide +kernel, rfl, by decide +kernel, by decide +kernel⟩
abbrev s_l_enter : Stmt := topS 41
theorem sc_l_enter : FnScope ["_law_box", "_law_places", "_law_which", "_law_level", "_law_state_here", "_law_scope", "_law_env", "_law_depth", "_law_way", "_law_given", "_law_inner", "_law_root", "_law_record", "_law_name_here", "_law_kept", "_law_home", "_law_target"] ["_law_box", "_law_places", "_law_which", "_law_level"] (defScope s_l_enter) := ⟨rfl, rfl, rfl, by decide +kernel, rfl, by decide +kernel, by decide +kernel⟩
abbrev s_l_moved : Stmt := topS 42
theorem sc_l_moved : FnScope ["_law_places", "_law_which", "_law_place"] ["_law_places", "_law_which", "_law_place"] (defScope s_l_moved) := ⟨rfl, rfl, rfl, by decide +kernel, rfl, by decide +kernel, by decide +kernel⟩
abbrev s_l_down : Stmt := topS 43
theorem sc_l_down : FnScope ["_law_box", "_law_places", "_law_level", "_law_act"] ["_law_box", "_law_places", "_law_level"] (defScope s_l_down) := ⟨rfl, rfl, rfl, by decide +kernel, rfl, by decide +kernel, by decide +kernel⟩
abbrev s_law : Stmt := topS 44
theorem sc_law : FnScope ["_law_script", "_law_state_here", "_law_names_here", "_law_base", "_law_name_here", "_law_table", "_law_engines", "_law_k", "_law_box", "_law_places"] ["_law_script"] (defScope s_law) := ⟨rfl, rfl, rfl, by decide +kernel, rfl, by decide +kernel, by decide +kernel⟩
abbrev s_Env_init : Stmt := inClass (topS 19) 0
theorem sc_Env_init : FnScope ["self", "bindings", "table", "name"] ["self", "bindings"] (defScope s_Env_init) := ⟨rfl, rfl, rfl, by decide +kernel, rfl, by decide +kernel, by decide +kernel⟩
abbrev s_Layer_init : Stmt := inClass (topS 25) 0
theorem sc_Layer_init : FnScope ["self", "table", "parent"] ["self", "table", "parent"] (defScope s_Layer_init) := ⟨rfl, rfl, rfl, by decide +kernel, rfl, by decide +kernel, by decide +kernel⟩
abbrev s_Scope_init : Stmt := inClass (topS 26) 0
theorem sc_Scope_init : FnScope ["self", "defaults", "engine"] ["self", "defaults", "engine"] (defScope s_Scope_init) := ⟨rfl, rfl, rfl, by decide +kernel, rfl, by decide +kernel, by decide +kernel⟩
abbrev s_Scope_during : Stmt := inClass (topS 26) 1
theorem sc_Scope_during : FnScope ["self", "bindings", "action", "table", "before"] ["self", "bindings", "action"] (defScope s_Scope_during) := ⟨rfl, rfl, rfl, by decide +kernel, rfl, by decide +kernel, by decide +kernel⟩
abbrev s_Scope_apart : Stmt := inClass (topS 26) 3
theorem sc_Scope_apart : FnScope ["self", "action", "before"] ["self", "action"] (defScope s_Scope_apart) := ⟨rfl, rfl, rfl, by decide +kernel, rfl, by decide +kernel, by decide +kernel⟩
abbrev s_Scope_look : Stmt := inClass (topS 26) 4
theorem sc_Scope_look : FnScope ["self", "name", "layer"] ["self", "name"] (defScope s_Scope_look) := ⟨rfl, rfl, rfl, by decide +kernel, rfl, by decide +kernel, by decide +kernel⟩
abbrev s_Scope_getitem : Stmt := inClass (topS 26) 5
theorem sc_Scope_getitem : FnScope ["self", "at"] ["self", "at"] (defScope s_Scope_getitem) := ⟨rfl, rfl, rfl, by decide +kernel, rfl, by decide +kernel, by decide +kernel⟩
abbrev s_Scope_contains : Stmt := inClass (topS 26) 6
theorem sc_Scope_contains : FnScope ["self", "x"] ["self", "x"] (defScope s_Scope_contains) := ⟨rfl, rfl, rfl, by decide +kernel, rfl, by decide +kernel, by decide +kernel⟩
abbrev s_Scope_keep : Stmt := inClass (topS 26) 10
theorem sc_Scope_keep : FnScope ["self", "action", "names", "name"] ["self", "action", "names"] (defScope s_Scope_keep) := ⟨rfl, rfl, rfl, by decide +kernel, rfl, by decide +kernel, by decide +kernel⟩
abbrev s_Scope_use : Stmt := inClass (topS 26) 15
theorem sc_Scope_use : FnScope ["self", "engine"] ["self", "engine"] (defScope s_Scope_use) := ⟨rfl, rfl, rfl, by decide +kernel, rfl, by decide +kernel, by decide +kernel⟩
abbrev s_Scope_own : Stmt := inClass (topS 26) 16
theorem sc_Scope_own : FnScope ["self", "bindings", "table", "name"] ["self", "bindings"] (defScope s_Scope_own) := ⟨rfl, rfl, rfl, by decide +kernel, rfl, by decide +kernel, by decide +kernel⟩
abbrev s_Scope_binder : Stmt := inClass (topS 26) 17
theorem sc_Scope_binder : FnScope ["self", "name", "layer"] ["self", "name"] (defScope s_Scope_binder) := ⟨rfl, rfl, rfl, by decide +kernel, rfl, by decide +kernel, by decide +kernel⟩
abbrev s_Kept_init : Stmt := inClass (topS 27) 0
theorem sc_Kept_init : FnScope ["self", "action", "record", "home"] ["self", "action", "record", "home"] (defScope s_Kept_init) := ⟨rfl, rfl, rfl, by decide +kernel, rfl, by decide +kernel, by decide +kernel⟩
abbrev s_Kept_call : Stmt := inClass (topS 27) 1
theorem sc_Kept_call : FnScope ["self", "scope"] ["self", "scope"] (defScope s_Kept_call) := ⟨rfl, rfl, rfl, by decide +kernel, rfl, by decide +kernel, by decide +kernel⟩
abbrev s_Scope_depth : Stmt := inClass (topS 26) 11
theorem sc_Scope_depth : FnScope ["self"] ["self"] (defScope s_Scope_depth) := ⟨rfl, rfl, rfl, by decide +kernel, rfl, by decide +kernel, by decide +kernel⟩
abbrev s_Scope_engine : Stmt := inClass (topS 26) 13
theorem sc_Scope_engine : FnScope ["self"] ["self"] (defScope s_Scope_engine) := ⟨rfl, rfl, rfl, by decide +kernel, rfl, by decide +kernel, by decide +kernel⟩
structure Txt (K : PySem.W.Frag) (mg : Str → Option Value) where
  c_Failed : Cl0 K mg "Failed"
  a_keep : Addr
  e_Env : CnT K mg "Env"
  i_Env_init : MtD K e_Env.C "__init__" "Env.__init__" s_Env_init ["self", "bindings"] [.non]
  e_Layer : CnT K mg "Layer"
  i_Layer_init : MtT K e_Layer.C "__init__" "Layer.__init__" s_Layer_init ["self", "table", "parent"]
  e_Scope : CnT K mg "Scope"
  i_Scope_init : MtD K e_Scope.C "__init__" "Scope.__init__" s_Scope_init ["self", "defaults", "engine"] [.str "chain"]
  i_Scope_during : MtT K e_Scope.C "during" "Scope.during" s_Scope_during ["self", "bindings", "action"]
  i_Scope_apart : MtT K e_Scope.C "apart" "Scope.apart" s_Scope_apart ["self", "action"]
  i_Scope_look : MtT K e_Scope.C "look" "Scope.look" s_Scope_look ["self", "name"]
  i_Scope_getitem : MtT K e_Scope.C "__getitem__" "Scope.__getitem__" s_Scope_getitem ["self", "at"]
  i_Scope_contains : MtT K e_Scope.C "__contains__" "Scope.__contains__" s_Scope_contains ["self", "x"]
  i_Scope_keep : MtD K e_Scope.C "keep" "Scope.keep" s_Scope_keep ["self", "action", "names"] [.ref a_keep]
  i_Scope_use : MtT K e_Scope.C "use" "Scope.use" s_Scope_use ["self", "engine"]
  i_Scope_own : MtT K e_Scope.C "_own" "Scope._own" s_Scope_own ["self", "bindings"]
  i_Scope_binder : MtT K e_Scope.C "_binder" "Scope._binder" s_Scope_binder ["self", "name"]
  e_Kept : CnT K mg "Kept"
  i_Kept_init : MtT K e_Kept.C "__init__" "Kept.__init__" s_Kept_init ["self", "action", "record", "home"]
  i_Kept_call : MtD K e_Kept.C "__call__" "Kept.__call__" s_Kept_call ["self", "scope"] [.non]
  p_Scope_depth : PrT K e_Scope.C "depth" "Scope.depth" s_Scope_depth
  p_Scope_engine : PrT K e_Scope.C "engine" "Scope.engine" s_Scope_engine
  n_Env_table : NoAttr K e_Env.C "table"
  n_Layer_table : NoAttr K e_Layer.C "table"
  n_Layer_parent : NoAttr K e_Layer.C "parent"
  n_Layer_level : NoAttr K e_Layer.C "level"
  n_Scope_root : NoAttr K e_Scope.C "root"
  n_Scope_layer : NoAttr K e_Scope.C "layer"
  n_Scope_stand : NoAttr K e_Scope.C "stand"
  n_Scope_taken : NoAttr K e_Scope.C "taken"
  n_Scope_mode : NoAttr K e_Scope.C "mode"
  n_Kept_action : NoAttr K e_Kept.C "action"
  n_Kept_record : NoAttr K e_Kept.C "record"
  n_Kept_home : NoAttr K e_Kept.C "home"
  in_Scope : InC K e_Scope.C i_Scope_contains.a
  get_Scope : GetC K e_Scope.C i_Scope_getitem.a
  call_Kept : CallC K e_Kept.C i_Kept_call.a
  eqp_Scope : EqP K e_Scope.C
  eqp_Layer : EqP K e_Layer.C
  d_is_word : DfT K mg "is_word" s_is_word ["value"]
  d_is_ident : DfT K mg "is_ident" s_is_ident ["value"]
  d_checked : DfT K mg "checked" s_checked ["bindings"]
  d_is_value : DfT K mg "_is_value" s_is_value ["value"]
  d_way : DfT K mg "_way" s_way ["here", "there"]
  d_l_state : DfT K mg "_law_state" s_l_state ["_law_script"]
  d_l_draw : DfT K mg "_law_draw" s_l_draw ["_law_state_here", "_law_many"]
  d_l_kept_words : DfT K mg "_law_kept_words" s_l_kept_words []
  d_l_name : DfT K mg "_law_name" s_l_name ["_law_state_here", "_law_names_here"]
  d_l_names : DfT K mg "_law_names" s_l_names ["_law_state_here", "_law_many"]
  d_l_value : DfT K mg "_law_value" s_l_value ["_law_state_here"]
  d_l_over : DfT K mg "_law_over" s_l_over ["_law_low", "_law_high"]
  d_l_bindings : DfT K mg "_law_bindings" s_l_bindings ["_law_state_here", "_law_names_here", "_law_most"]
  d_l_raise : DfT K mg "_law_raise" s_l_raise ["_law_way"]
  d_l_caught : DfT K mg "_law_caught" s_l_caught ["_law_act"]
  d_l_shows : DfT K mg "_law_shows" s_l_shows ["_law_box", "_law_places"]
  d_l_enter : DfT K mg "_law_enter" s_l_enter ["_law_box", "_law_places", "_law_which", "_law_level"]
  d_l_moved : DfT K mg "_law_moved" s_l_moved ["_law_places", "_law_which", "_law_place"]
  d_l_down : DfT K mg "_law_down" s_l_down ["_law_box", "_law_places", "_law_level"]
  d_law : DfT K mg "law" s_law ["_law_script"]
  z_abs : mg "abs" = none
  z_isinstance : mg "isinstance" = none
  z_dict : mg "dict" = none
  z_list : mg "list" = none
  z_sorted : mg "sorted" = none
  z_all : mg "all" = none
  z_sum : mg "sum" = none
  z_range : mg "range" = none
  z_len : mg "len" = none
  z_int : mg "int" = none
  z_str : mg "str" = none
  z_bool : mg "bool" = none
  z_tuple : mg "tuple" = none
  z_KeyError : mg "KeyError" = none
  z_ZeroDivisionError : mg "ZeroDivisionError" = none
  t_LETTERS : Tok
  m_LETTERS : mg "LETTERS" = some (.str lettersS t_LETTERS)
  t_DIGITS : Tok
  m_DIGITS : mg "DIGITS" = some (.str digitsS t_DIGITS)
  t_LONGEST_WORD : Tok
  m_LONGEST_WORD : mg "LONGEST_WORD" = some (.int 12 t_LONGEST_WORD)
  k_KEPT_WORDS : Addr
  m_KEPT_WORDS : mg "KEPT_WORDS" = some (.ref k_KEPT_WORDS)
  s_KEPT_WORDS : ∀ H, SqT K H k_KEPT_WORDS (keptW.map V.str)
  t_LIMIT_ROOT : Tok
  m_LIMIT_ROOT : mg "LIMIT_ROOT" = some (.int limitI t_LIMIT_ROOT)
  k_ENGINES : Addr
  m_ENGINES : mg "ENGINES" = some (.ref k_ENGINES)
  s_ENGINES : ∀ H, SqT K H k_ENGINES ((["chain", "cells"] : List Str).map V.str)
  x_KK : PySem.W.exmOne K (.type "KeyError") (.type "KeyError") = some true
  x_FK : PySem.W.exmOne K (.ref c_Failed.C) (.type "KeyError") = some false
  x_ZK : PySem.W.exmOne K (.type "ZeroDivisionError") (.type "KeyError") = some false
  x_FF : PySem.W.exmOne K (.ref c_Failed.C) (.ref c_Failed.C) = some true
  x_ZF : PySem.W.exmOne K (.type "ZeroDivisionError") (.ref c_Failed.C) = some false
  x_ZZ : PySem.W.exmOne K (.type "ZeroDivisionError") (.type "ZeroDivisionError") = some true
  q_dict_Env : PySem.W.kitOne K (.type "dict") (.ref e_Env.C) = some false
  q_dict_dict : PySem.W.kitOne K (.type "dict") (.type "dict") = some true
  q_str_str : PySem.W.kitOne K (.type "str") (.type "str") = some true
  q_int_bool : PySem.W.kitOne K (.type "int") (.type "bool") = some false
  q_int_int : PySem.W.kitOne K (.type "int") (.type "int") = some true
  q_str_bool : PySem.W.kitOne K (.type "str") (.type "bool") = some false
  q_str_int : PySem.W.kitOne K (.type "str") (.type "int") = some false
  q_int_str : PySem.W.kitOne K (.type "int") (.type "str") = some false
  q_non_str : PySem.W.kitOne K (.type "NoneType") (.type "str") = some false
section
variable {P : Program} {w : World} {K : PySem.W.Frag} {mg : Str → Option Value} {base : Heap}
end
end Own

set_option Elab.async false
set_option linter.all false
set_option maxRecDepth 100000
set_option maxHeartbeats 4000000
namespace Own
open PySem PySem.Spec PyProof.Rows L2
section
variable {P : Program} {w : World} {K : PySem.W.Frag} {mg : Str → Option Value} {base : Heap}
theorem ok_l_state (T : Txt K mg) : FnOk P w K mg base CX0 1 T.d_l_state.a T.d_l_state.d ["_law_script"] (spState K) := by
  refine T.d_l_state.F.ok sc_l_state (fun vs H Q E h => ?_) (fun cdv A outer s H vs Q E hr h => ?_)
  · obtain ⟨a, ns, rfl, _⟩ := h
    rfl
  · obtain ⟨a, ns, rfl, hs, hl, q⟩ := h
    refine ⟨_, (pss_cons (ps_set (i := 1) sc_l_state.nd rfl (Or.inl rfl) pe_int)
      (pss_cons (ps_set (i := 2) sc_l_state.nd rfl (Or.inl rfl) (pe_lst pa_nil))
      (pss_cons (ps_for PassesOwn.never rfl (pi_list (pv 0)) (pg_name (i := 3) sc_l_state.nd rfl (Or.inl rfl)) (pss_cons (ps_set (i := 1) sc_l_state.nd rfl (Or.inl rfl) (pe_op op_modN (pe_op op_add (pe_op op_add (pe_op op_mul (pv 1) pe_int) (pe_op op_modN (pe_callTy call_intI (by rfl) T.z_int (by decide +kernel) (pa_cons (pv 3) pa_nil)) pe_int)) pe_int) pe_int))
      (pss_one (ps_if (pt_cmpR op_ge (pe_callB call_abs (by rfl) T.z_abs (by decide +kernel) (pa_cons (pv 3) pa_nil)) (pe_op op_pow pe_int pe_int) (nomark _)) (pss_one (ps_expr (pe_bm PySem.F.plainAttrs_list PySem.F.slot_list_append PySem.F.type_list_append mt_append (pv 2) (pa_cons (pe_callB call_abs (by rfl) T.z_abs (by decide +kernel) (pa_cons (pv 3) pa_nil)) pa_nil)))) pss_nil))))
      (pss_one (ps_ret (pe_lst (pa_cons (pv 2) (pa_cons pe_int (pa_cons pe_int (pa_cons (pv 1) pa_nil)))))))))), ?_⟩
    (try simp only [tIxO, rIsB, rNotB, tSeq, tIfS, tTest, tB, tOp, tUn, tVar, tC, tAsg, gName, tRet, tRetN, tCB, tCons, tNil, tLst_eq, tTup_eq, tDNewK_eq, tNext, tPar, tM0, tM1, tSl, tNoPart, tPart, rSlS, tAug, tAugS, tExf_eq, ipI, tChain, tCall, tDrop, tBM, tAnd, tOr, tNot, tAndV, tOrV, tNotV, tIf, tIsN, tNotN, rI, rI0, rU, rEq, rNe, gSub, cx_K, cx_K2, L2.start, wipe, scal_ii, scal_ss, scal_bb, scal_is, scal_si, scal_nn, List.map_cons, List.map_nil, List.length_cons, List.length_nil, List.cons_append, List.nil_append, List.append_nil, List.replicate, List.getElem?_cons_zero, List.getElem?_cons_succ, Option.some.injEq, exists_and_left, exists_eq_left', exists_eq_left, exists_eq, exists_eq', V.int.injEq, V.ref.injEq, V.str.injEq, V.bl.injEq, List.cons.injEq, and_true, true_and, false_and, exists_false, or_false, false_or, reduceCtorEq, List.set_cons_zero, List.set_cons_succ, Nat.reduceAdd, Nat.reduceSub, Int.reduceToNat, decide_eq_true_eq, if_true, if_false, Bool.false_eq_true, Bool.not_true, Bool.not_false, Bool.true_eq_false, ite_false, ite_true, ne_eq, not_false_eq_true, Int.reduceEq])
    refine newL_go fun g H1 n1 s1 r1 => ?_
    refine forL_go (K := K) (xs := ns.map V.int) (fun i σ' H' => ∃ (gs : List Int) (sd : Int) (o : Option V), H' g = some (.lst (gs.map V.int)) ∧ ExT g H H' ∧ gs.length ≤ i ∧ 0 ≤ sd ∧ sd < 2147483647 ∧ σ' = [some (.ref a), some (.int sd), some (.ref g), o]) (fun Q q => ⟨_, rfl, q⟩) (fun i σ' H' _ p => ?_) ⟨[], 1, _, r1, Same.exT s1, Nat.le_refl _, by decide, by decide, rfl⟩ (fun i x σ' H' hx p => ?_) (fun σ' H' p => ?_)
    · obtain ⟨gs, sd, o, e1, e2, _⟩ := p
      exact sq_same (ExT.toSame n1 e2) hs
    · obtain ⟨gs, sd, o, e1, e2, e3, e4, e5, rfl⟩ := p
      rw [List.getElem?_map] at hx
      obtain ⟨n, hn, rfl⟩ := Option.map_eq_some_iff.mp hx
      have hi : i < ns.length := (List.getElem?_eq_some_iff.mp hn).1
      (try simp only [tIxO, rIsB, rNotB, tSeq, tIfS, tTest, tB, tOp, tUn, tVar, tC, tAsg, gName, tRet, tRetN, tCB, tCons, tNil, tLst_eq, tTup_eq, tDNewK_eq, tNext, tPar, tM0, tM1, tSl, tNoPart, tPart, rSlS, tAug, tAugS, tExf_eq, ipI, tChain, tCall, tDrop, tBM, tAnd, tOr, tNot, tAndV, tOrV, tNotV, tIf, tIsN, tNotN, rI, rI0, rU, rEq, rNe, gSub, cx_K, cx_K2, L2.start, wipe, scal_ii, scal_ss, scal_bb, scal_is, scal_si, scal_nn, List.map_cons, List.map_nil, List.length_cons, List.length_nil, List.cons_append, List.nil_append, List.append_nil, List.replicate, List.getElem?_cons_zero, List.getElem?_cons_succ, Option.some.injEq, exists_and_left, exists_eq_left', exists_eq_left, exists_eq, exists_eq', V.int.injEq, V.ref.injEq, V.str.injEq, V.bl.injEq, List.cons.injEq, and_true, true_and, false_and, exists_false, or_false, false_or, reduceCtorEq, List.set_cons_zero, List.set_cons_succ, Nat.reduceAdd, Nat.reduceSub, Int.reduceToNat, decide_eq_true_eq, if_true, if_false, Bool.false_eq_true, Bool.not_true, Bool.not_false, Bool.true_eq_false, ite_false, ite_true, ne_eq, not_false_eq_true, Int.reduceEq])
      have b := fmod_bd (x := sd * 69621 + n.fmod 2147483647 + 1) (m := 2147483647) (by decide)
      refine ⟨.inl ⟨by omega, by omega⟩, ⟨by decide, by decide, by decide⟩, ?_⟩
      refine ite2 (fun _ => ?_) (fun _ => ⟨gs, e1, e2, by omega, _, b.1, b.2, rfl⟩)
      refine ⟨.inl ⟨rfl, _, .inl (.inl e1)⟩, g, _, _, rfl, rfl, e1, ?_, ?_⟩
      · rw [List.length_map]
        exact Nat.lt_of_le_of_lt (show gs.length ≤ 63 by omega) (by decide)
      · refine ⟨gs ++ [if n < 0 then -n else n], ?_, exT_upd e2, ?_, _, b.1, b.2, rfl⟩
        · rw [upd_same, List.map_append]
          rfl
        · rw [List.length_append]
          show gs.length + 1 ≤ i + 1
          omega
    · obtain ⟨gs, sd, o, e1, e2, e3, e4, e5, rfl⟩ := p
      (try simp only [tIxO, rIsB, rNotB, tSeq, tIfS, tTest, tB, tOp, tUn, tVar, tC, tAsg, gName, tRet, tRetN, tCB, tCons, tNil, tLst_eq, tTup_eq, tDNewK_eq, tNext, tPar, tM0, tM1, tSl, tNoPart, tPart, rSlS, tAug, tAugS, tExf_eq, ipI, tChain, tCall, tDrop, tBM, tAnd, tOr, tNot, tAndV, tOrV, tNotV, tIf, tIsN, tNotN, rI, rI0, rU, rEq, rNe, gSub, cx_K, cx_K2, L2.start, wipe, scal_ii, scal_ss, scal_bb, scal_is, scal_si, scal_nn, List.map_cons, List.map_nil, List.length_cons, List.length_nil, List.cons_append, List.nil_append, List.append_nil, List.replicate, List.getElem?_cons_zero, List.getElem?_cons_succ, Option.some.injEq, exists_and_left, exists_eq_left', exists_eq_left, exists_eq, exists_eq', V.int.injEq, V.ref.injEq, V.str.injEq, V.bl.injEq, List.cons.injEq, and_true, true_and, false_and, exists_false, or_false, false_or, reduceCtorEq, List.set_cons_zero, List.set_cons_succ, Nat.reduceAdd, Nat.reduceSub, Int.reduceToNat, decide_eq_true_eq, if_true, if_false, Bool.false_eq_true, Bool.not_true, Bool.not_false, Bool.true_eq_false, ite_false, ite_true, ne_eq, not_false_eq_true, Int.reduceEq])
      refine newL_go fun t H2 n2 s2 r2 => ?_
      have sH := (ExT.toSame n1 e2)
      rw [List.length_map] at e3
      refine q t g H2 (same_none sH n2) n1 ⟨fun e => ?_, gs, 0, 0, sd, r2, s2 _ _ e1, ⟨by omega, e4, e5⟩⟩ (sH.trans s2)
      rw [e, n2] at e1
      cases e1
theorem ok_l_draw (T : Txt K mg) : FnOk P w K mg base CX0 1 T.d_l_draw.a T.d_l_draw.d ["_law_state_here", "_law_many"] spDrawS := by
  refine T.d_l_draw.F.ok sc_l_draw (fun vs H Q E h => ?_) (fun cdv A outer s H vs Q E hr h => ?_)
  · obtain ⟨t, g, m, rfl, _⟩ := h
    rfl
  · obtain ⟨t, g, m, rfl, ⟨gt, gs, c, n, sd, ht, hg, ok⟩, m0, mb, q⟩ := h
    have hu := hr.units
    refine ⟨_, (Evl.pss_cut (ps_if (PW.pt (pw_and (pt_cmpR op_eq (pe_ix ix_list (pv 0) pe_int (fun _ _ => rfl)) pe_int (nomark _)) (pw_and1 (pt_cmpR (op_neD hu) (pe_ix ix_list (pv 0) pe_int (fun _ _ => rfl)) (pe_lst pa_nil) (nomark _))))) (pss_one (ps_asg (pe_bm PySem.F.plainAttrs_list PySem.F.slot_list_pop PySem.F.type_list_pop mt_popAt (pe_ix ix_list (pv 0) pe_int (fun _ _ => rfl)) (pa_cons pe_int pa_nil)) (pg_sub (pv 0) pe_int set_list))) pss_nil)
      (pss_cons (ps_if (pt_cmpR op_gt (pe_ix ix_list (pv 0) pe_int (fun _ _ => rfl)) pe_int (nomark _)) (pss_cons (ps_set (i := 2) sc_l_draw.nd rfl (Or.inl rfl) (pe_op op_modN (pe_callTy call_intI (by rfl) T.z_int (by decide +kernel) (pa_cons (pe_ix ix_list (pv 0) pe_int (fun _ _ => rfl)) pa_nil)) (pv 1)))
      (pss_cons (ps_asg (pe_op op_fdivW (pe_ix ix_list (pv 0) pe_int (fun _ _ => rfl)) (pv 1)) (pg_sub (pv 0) pe_int set_list))
      (pss_one (ps_ret (pv 2))))) pss_nil)
      (pss_cons (ps_augS (pv 0) pe_int pget_list pe_int ip_add set_list)
      (pss_cons (ps_asg (pe_op op_modN (pe_op op_add (pe_op op_add (pe_op op_mul (pe_ix ix_list (pv 0) pe_int (fun _ _ => rfl)) pe_int) (pe_op op_mul pe_int (pe_ix ix_list (pv 0) pe_int (fun _ _ => rfl)))) pe_int) pe_int) (pg_sub (pv 0) pe_int set_list))
      (pss_one (ps_ret (pe_op op_modN (pe_op op_fdivN (pe_op op_modN (pe_op op_pow (pe_ix ix_list (pv 0) pe_int (fun _ _ => rfl)) pe_int) pe_int) pe_int) (pv 1)))))))), ?_⟩
    refine cut_go (fun σ' H' => ∃ (gs : List Int) (c : Int), H' t = some (.lst [.ref g, .int c, .int n, .int sd]) ∧ H' g = some (.lst (gs.map V.int)) ∧ StA gs sd ∧ ExS t g H H' ∧ σ' = [some (.ref t), some (.int m), none]) ?_ ?_
    · (try simp only [tIxO, rIsB, rNotB, tSeq, tIfS, tTest, tB, tOp, tUn, tVar, tC, tAsg, gName, tRet, tRetN, tCB, tCons, tNil, tLst_eq, tTup_eq, tDNewK_eq, tNext, tPar, tM0, tM1, tSl, tNoPart, tPart, rSlS, tAug, tAugS, tExf_eq, ipI, tChain, tCall, tDrop, tBM, tAnd, tOr, tNot, tAndV, tOrV, tNotV, tIf, tIsN, tNotN, rI, rI0, rU, rEq, rNe, gSub, cx_K, cx_K2, L2.start, wipe, scal_ii, scal_ss, scal_bb, scal_is, scal_si, scal_nn, List.map_cons, List.map_nil, List.length_cons, List.length_nil, List.cons_append, List.nil_append, List.append_nil, List.replicate, List.getElem?_cons_zero, List.getElem?_cons_succ, Option.some.injEq, exists_and_left, exists_eq_left', exists_eq_left, exists_eq, exists_eq', V.int.injEq, V.ref.injEq, V.str.injEq, V.bl.injEq, List.cons.injEq, and_true, true_and, false_and, exists_false, or_false, false_or, reduceCtorEq, List.set_cons_zero, List.set_cons_succ, Nat.reduceAdd, Nat.reduceSub, Int.reduceToNat, decide_eq_true_eq, if_true, if_false, Bool.false_eq_true, Bool.not_true, Bool.not_false, Bool.true_eq_false, ite_false, ite_true, ne_eq, not_false_eq_true, Int.reduceEq])
      refine ixM_go ht rfl ⟨rfl, ?_⟩
      refine ite2 (fun _ => ?_) (fun _ => ⟨gs, c, ht, hg, ok, ExS.refl t g H⟩)
      refine ixM_go ht rfl ?_
      refine newL_go fun e H1 n1 s1 r1 => ?_
      have ht1 := s1 _ _ ht
      have hg1 := s1 _ _ hg
      refine neNilI_go (.inl (.inl hg1)) (.inl (.inl r1)) ⟨_, rfl, ?_⟩
      cases gs with
      | nil => exact ite2 (fun z => by cases z) (fun _ => ⟨[], c, ht1, hg1, ok, Same.exS s1⟩)
      | cons x gs =>
        refine ite2 (fun _ => ?_) (fun z => absurd rfl z)
        refine ixM_go ht1 rfl ⟨.inl ⟨rfl, _, .inl (.inl hg1)⟩, ?_⟩
        refine ⟨g, _, 0, 0, .int x, rfl, rfl, hg1, by decide, by decide, by simp [seqIndex?], rfl, ?_⟩
        refine setL_go (by rw [upd_ne gt.symm]; exact ht1) rfl ?_
        refine ⟨gs, x, upd_same, ?_, ⟨by have := ok.few; simp at this; omega, ok.lo, ok.hi⟩, ?_⟩
        · rw [upd_ne gt, upd_same]
          rfl
        · intro b o h1 h2 h3
          rw [upd_ne h1, upd_ne h2]
          exact s1 _ _ h3
    · rintro σ' H1 ⟨gs, c, ht, hg, ok, v1, rfl⟩
      (try simp only [tIxO, rIsB, rNotB, tSeq, tIfS, tTest, tB, tOp, tUn, tVar, tC, tAsg, gName, tRet, tRetN, tCB, tCons, tNil, tLst_eq, tTup_eq, tDNewK_eq, tNext, tPar, tM0, tM1, tSl, tNoPart, tPart, rSlS, tAug, tAugS, tExf_eq, ipI, tChain, tCall, tDrop, tBM, tAnd, tOr, tNot, tAndV, tOrV, tNotV, tIf, tIsN, tNotN, rI, rI0, rU, rEq, rNe, gSub, cx_K, cx_K2, L2.start, wipe, scal_ii, scal_ss, scal_bb, scal_is, scal_si, scal_nn, List.map_cons, List.map_nil, List.length_cons, List.length_nil, List.cons_append, List.nil_append, List.append_nil, List.replicate, List.getElem?_cons_zero, List.getElem?_cons_succ, Option.some.injEq, exists_and_left, exists_eq_left', exists_eq_left, exists_eq, exists_eq', V.int.injEq, V.ref.injEq, V.str.injEq, V.bl.injEq, List.cons.injEq, and_true, true_and, false_and, exists_false, or_false, false_or, reduceCtorEq, List.set_cons_zero, List.set_cons_succ, Nat.reduceAdd, Nat.reduceSub, Int.reduceToNat, decide_eq_true_eq, if_true, if_false, Bool.false_eq_true, Bool.not_true, Bool.not_false, Bool.true_eq_false, ite_false, ite_true, ne_eq, not_false_eq_true, Int.reduceEq])
      refine ixM_go ht rfl ⟨_, rfl, ?_⟩
      refine ite2 (fun _ => ?_) (fun _ => ?_)
      · refine ixM_go ht rfl ⟨_, rfl, fun z => by omega, ?_⟩
        refine ixM_go ht rfl ⟨_, rfl, wide_div m0 mb (by decide) (by decide), setL_go ht rfl ?_⟩
        have b := fmod_bd (x := c) m0
        refine q _ _ b.1 b.2 ⟨gt, gs, _, n, sd, upd_same, by rw [upd_ne gt]; exact hg, ok⟩ fun b o h1 h2 h3 => ?_
        rw [upd_ne h1]
        exact v1 _ _ h1 h2 h3
      · refine getL_go ht rfl ⟨_, rfl, setL_go ht rfl ?_⟩
        refine ixM_go upd_same rfl ⟨_, rfl, .inl ⟨by have := ok.lo; omega, by have := ok.hi; omega⟩, ixM_go upd_same rfl ⟨_, rfl, .inl ⟨by decide, by decide⟩, setL_go upd_same rfl ?_⟩⟩
        have b := fmod_bd (x := sd * 48271 + 40692 * (n + 1) + 12345) (m := 2147483647) (by decide)
        refine ixM_go upd_same rfl ⟨_, rfl, ⟨by decide, by decide, by omega⟩, ⟨by decide, by decide⟩, by omega, ?_⟩
        have b2 := fmod_bd (x := ((((sd * 48271 + 40692 * (n + 1) + 12345).fmod 2147483647) ^ 2).fmod 2147483629).fdiv 64) m0
        refine q _ _ b2.1 b2.2 ⟨gt, gs, _, _, _, upd_same, by rw [upd_ne gt, upd_ne gt]; exact hg, ok.few, b.1, b.2⟩ fun b o h1 h2 h3 => ?_
        rw [upd_ne h1, upd_ne h1]
        exact v1 _ _ h1 h2 h3

def spKeptW : Sp := fun vs H Q _ => vs = [] ∧ ∀ p H', H p = none → Same H H' → H' p = some (.lst (lkeptL.map V.str)) → Q (.ref p) H'
theorem ok_l_kept_words (T : Txt K mg) : FnOk P w K mg base CX0 1 T.d_l_kept_words.a T.d_l_kept_words.d [] spKeptW := by
  refine T.d_l_kept_words.F.ok sc_l_kept_words (fun vs H Q E h => ?_) (fun cdv A outer s H vs Q E hr h => ?_)
  · rw [h.1]; rfl
  · obtain ⟨rfl, q⟩ := h
    refine ⟨_, (pss_cons (ps_set (i := 0) sc_l_kept_words.nd rfl (Or.inl rfl) pe_str)
      (pss_one (ps_ret (pe_split (pe_op op_add_str (pv 0) pe_str) pe_str)))), ?_⟩
    (try simp only [tIxO, rIsB, rNotB, tSeq, tIfS, tTest, tB, tOp, tUn, tVar, tC, tAsg, gName, tRet, tRetN, tCB, tCons, tNil, tLst_eq, tTup_eq, tDNewK_eq, tNext, tPar, tM0, tM1, tSl, tNoPart, tPart, rSlS, tAug, tAugS, tExf_eq, ipI, tChain, tCall, tDrop, tBM, tAnd, tOr, tNot, tAndV, tOrV, tNotV, tIf, tIsN, tNotN, rI, rI0, rU, rEq, rNe, gSub, cx_K, cx_K2, L2.start, wipe, scal_ii, scal_ss, scal_bb, scal_is, scal_si, scal_nn, List.map_cons, List.map_nil, List.length_cons, List.length_nil, List.cons_append, List.nil_append, List.append_nil, List.replicate, List.getElem?_cons_zero, List.getElem?_cons_succ, Option.some.injEq, exists_and_left, exists_eq_left', exists_eq_left, exists_eq, exists_eq', V.int.injEq, V.ref.injEq, V.str.injEq, V.bl.injEq, List.cons.injEq, and_true, true_and, false_and, exists_false, or_false, false_or, reduceCtorEq, List.set_cons_zero, List.set_cons_succ, Nat.reduceAdd, Nat.reduceSub, Int.reduceToNat, decide_eq_true_eq, if_true, if_false, Bool.false_eq_true, Bool.not_true, Bool.not_false, Bool.true_eq_false, ite_false, ite_true, ne_eq, not_false_eq_true, Int.reduceEq])
    refine ⟨by decide, rfl, by decide, ?_⟩
    rw [lkept_split]
    exact newS_go fun p H' n s r => q p H' n s r
def spNameS : Sp := fun vs H Q _ => ∃ (t g u : Addr) (us : List Str), vs = [.ref t, .ref u] ∧ Stt H t g ∧ H u = some (.lst (us.map V.str)) ∧ u ≠ t ∧ u ≠ g ∧ us.length ≤ 19 ∧ ∀ x H', isIdent x = true → us.contains x = false → Stt H' t g → ExS t g H H' → Q (.str x) H'
theorem ok_l_name (T : Txt K mg) : FnOk P w K mg base CX0 2 T.d_l_name.a T.d_l_name.d ["_law_state_here", "_law_names_here"] spNameS := by
  refine T.d_l_name.F.ok sc_l_name (fun vs H Q E h => ?_) (fun cdv A outer s H vs Q E hr h => ?_)
  · obtain ⟨t, g, u, us, rfl, _⟩ := h
    rfl
  · obtain ⟨t, g, u, us, rfl, ht, hu', hut, hug, few, q⟩ := h
    have hu := hr.units
    refine ⟨_, (pss_cons (ps_set (i := 2) sc_l_name.nd rfl (Or.inl rfl) pe_str)
      (pss_cons (ps_set (i := 3) sc_l_name.nd rfl (Or.inr rfl) (pe_ix ix_str (pv 2) (pe_call (ok_l_draw T) (hr.mono (by decide)) (by rfl) T.d_l_draw.g T.d_l_draw.F.kp T.d_l_draw.b .nil pass0 (pa_cons (pv 0) (pa_cons pe_int pa_nil))) (fun _ _ => rfl)))
      (pss_cons (ps_for PassesOwn.never rfl (pi_range1 (by rfl) T.z_range (pa_cons (pe_ix ix_tup (pe_tup (pa_cons pe_int (pa_cons pe_int (pa_cons pe_int (pa_cons pe_int (pa_cons pe_int (pa_cons pe_int pa_nil))))))) (pe_call (ok_l_draw T) (hr.mono (by decide)) (by rfl) T.d_l_draw.g T.d_l_draw.F.kp T.d_l_draw.b .nil pass0 (pa_cons (pv 0) (pa_cons pe_int pa_nil))) (fun _ _ => rfl)) pa_nil)) (pg_name (i := 4) sc_l_name.nd rfl (Or.inl rfl)) (pss_one (ps_set (i := 3) sc_l_name.nd rfl (Or.inr rfl) (pe_op op_add_str (pv 3) (pe_ix ix_str (pe_op op_add_str (pv 2) pe_str) (pe_call (ok_l_draw T) (hr.mono (by decide)) (by rfl) T.d_l_draw.g T.d_l_draw.F.kp T.d_l_draw.b .nil pass0 (pa_cons (pv 0) (pa_cons pe_int pa_nil))) (fun _ _ => rfl))))))
      (pss_cons (ps_set (i := 5) sc_l_name.nd rfl (Or.inl rfl) (pe_op op_cat (pe_lst (pa_cons (pv 3) pa_nil)) (pe_lc (own := [("_law_k", 4)]) (g := gName 4) (tt := tYes) (by rfl) sc_l_name.nd (pi_range1 (by rfl) T.z_range (pa_cons pe_int pa_nil)) (blkOk_by (own := [("_law_k", 4)]) (N := ["_law_state_here", "_law_names_here", "_law_letters", "_law_base", "_law_k", "_law_choices", "_law_free", "_law_name_here"]) (sc := defScope s_l_name) (by decide +kernel)) (fun _ _ _ _ _ => pg_name (i := 4) sc_l_name.nd rfl (Or.inl rfl)) (fun _ _ _ _ _ => pts_nil) (fun _ _ _ _ _ => (pe_op op_add_str (pe_slice sl_str (pv 3) po_none (po_some pe_int)) (pe_callTy call_str_int (by rfl) T.z_str (by decide +kernel) (pa_cons (pe_op op_add pe_int (pv 4)) pa_nil)))))))
      (pss_cons (ps_setLc (i := 6) (own := [("_law_name_here", 7)]) (g := gName 7) (by rfl) sc_l_name.nd rfl rfl (sw_true rfl rfl rfl (by decide +kernel)) (pi_list (pv 5)) (blkOk_by (own := [("_law_name_here", 7)]) (N := ["_law_state_here", "_law_names_here", "_law_letters", "_law_base", "_law_k", "_law_choices", "_law_free", "_law_name_here"]) (sc := defScope s_l_name) (by decide +kernel)) (fun _ _ _ _ _ => pg_name (i := 7) sc_l_name.nd rfl (Or.inl rfl)) (fun _ _ _ _ _ => pts_one (PW.pt (pw_and (pt_cmpR opB_notIn (pv 7) (pv 1) (by rfl)) (pw_and1 (pt_cmpR opB_notIn (pv 7) (pe_call0 (ok_l_kept_words T) (hr.mono (by decide)) (by rfl) T.d_l_kept_words.g T.d_l_kept_words.F.kp T.d_l_kept_words.b .nil pass0) (by rfl)))))) (fun _ _ _ _ _ => (pv 7)))
      (pss_one (ps_ret (pe_ix ix_list (pv 6) pe_int (fun _ _ => rfl))))))))), ?_⟩
    (try simp only [tIxO, rIsB, rNotB, tSeq, tIfS, tTest, tB, tOp, tUn, tVar, tC, tAsg, gName, tRet, tRetN, tCB, tCons, tNil, tLst_eq, tTup_eq, tDNewK_eq, tNext, tPar, tM0, tM1, tSl, tNoPart, tPart, rSlS, tAug, tAugS, tExf_eq, ipI, tChain, tCall, tDrop, tBM, tAnd, tOr, tNot, tAndV, tOrV, tNotV, tIf, tIsN, tNotN, rI, rI0, rU, rEq, rNe, gSub, cx_K, cx_K2, L2.start, wipe, scal_ii, scal_ss, scal_bb, scal_is, scal_si, scal_nn, List.map_cons, List.map_nil, List.length_cons, List.length_nil, List.cons_append, List.nil_append, List.append_nil, List.replicate, List.getElem?_cons_zero, List.getElem?_cons_succ, Option.some.injEq, exists_and_left, exists_eq_left', exists_eq_left, exists_eq, exists_eq', V.int.injEq, V.ref.injEq, V.str.injEq, V.bl.injEq, List.cons.injEq, and_true, true_and, false_and, exists_false, or_false, false_or, reduceCtorEq, List.set_cons_zero, List.set_cons_succ, Nat.reduceAdd, Nat.reduceSub, Int.reduceToNat, decide_eq_true_eq, if_true, if_false, Bool.false_eq_true, Bool.not_true, Bool.not_false, Bool.true_eq_false, ite_false, ite_true, ne_eq, not_false_eq_true, Int.reduceEq])
    refine drS_go ht (by decide) (by decide) fun x0 H1 a0 a1 T1 v1 => ?_
    obtain ⟨c0, e0, l0⟩ := letters_at a0 a1
    refine ixS_go (by decide) e0 ?_
    refine forC_go (Cond := fun n H2 => n ≤ 11 ∧ Stt H2 t g ∧ ExS t g H H2) (fun R r => ?_) (fun n H2 z => by omega) (fun n i σ' H' => ∃ (x : Str) (o : Option V), n ≤ 11 ∧ Spell x ∧ x.length = i + 1 ∧ Stt H' t g ∧ ExS t g H H' ∧ σ' = [some (.ref t), some (.ref u), some (.str lettersS), some (.str x), o, none, none, none]) (fun n H2 z => ⟨_, _, z.1, spell_one l0, len_one c0, z.2.1, z.2.2, rfl⟩) ?_ ?_
    · (try simp only [tIxO, rIsB, rNotB, tSeq, tIfS, tTest, tB, tOp, tUn, tVar, tC, tAsg, gName, tRet, tRetN, tCB, tCons, tNil, tLst_eq, tTup_eq, tDNewK_eq, tNext, tPar, tM0, tM1, tSl, tNoPart, tPart, rSlS, tAug, tAugS, tExf_eq, ipI, tChain, tCall, tDrop, tBM, tAnd, tOr, tNot, tAndV, tOrV, tNotV, tIf, tIsN, tNotN, rI, rI0, rU, rEq, rNe, gSub, cx_K, cx_K2, L2.start, wipe, scal_ii, scal_ss, scal_bb, scal_is, scal_si, scal_nn, List.map_cons, List.map_nil, List.length_cons, List.length_nil, List.cons_append, List.nil_append, List.append_nil, List.replicate, List.getElem?_cons_zero, List.getElem?_cons_succ, Option.some.injEq, exists_and_left, exists_eq_left', exists_eq_left, exists_eq, exists_eq', V.int.injEq, V.ref.injEq, V.str.injEq, V.bl.injEq, List.cons.injEq, and_true, true_and, false_and, exists_false, or_false, false_or, reduceCtorEq, List.set_cons_zero, List.set_cons_succ, Nat.reduceAdd, Nat.reduceSub, Int.reduceToNat, decide_eq_true_eq, if_true, if_false, Bool.false_eq_true, Bool.not_true, Bool.not_false, Bool.true_eq_false, ite_false, ite_true, ne_eq, not_false_eq_true, Int.reduceEq])
      refine newT_go fun p H2 n2 s2 r2 => ?_
      have T2 := T1.same s2
      refine drS_go T2 (by decide) (by decide) fun x H3 a0 a1 T3 v3 => ?_
      obtain ⟨p1, p2⟩ := T1.ne n2
      obtain ⟨k, hk, kk⟩ : ∃ k : Nat, k ≤ 11 ∧ atI [V.int 0, V.int 1, V.int 2, V.int 3, V.int 7, V.int 11] x = some (V.int (k : Int)) := by
        have : x = 0 ∨ x = 1 ∨ x = 2 ∨ x = 3 ∨ x = 4 ∨ x = 5 := by omega
        rcases this with rfl | rfl | rfl | rfl | rfl | rfl
        · exact ⟨0, by decide, rfl⟩
        · exact ⟨1, by decide, rfl⟩
        · exact ⟨2, by decide, rfl⟩
        · exact ⟨3, by decide, rfl⟩
        · exact ⟨7, by decide, rfl⟩
        · exact ⟨11, by decide, rfl⟩
      exact ⟨p, _, x, _, rfl, rfl, .inl (.inl (v3 _ _ p1 p2 r2)), kk, r k H3 ⟨hk, T3, (v1.same s2).trans v3⟩⟩
    · rintro n i σ' H5 hi ⟨x, o, hn, sx, lx, T5, v5, rfl⟩
      (try simp only [tIxO, rIsB, rNotB, tSeq, tIfS, tTest, tB, tOp, tUn, tVar, tC, tAsg, gName, tRet, tRetN, tCB, tCons, tNil, tLst_eq, tTup_eq, tDNewK_eq, tNext, tPar, tM0, tM1, tSl, tNoPart, tPart, rSlS, tAug, tAugS, tExf_eq, ipI, tChain, tCall, tDrop, tBM, tAnd, tOr, tNot, tAndV, tOrV, tNotV, tIf, tIsN, tNotN, rI, rI0, rU, rEq, rNe, gSub, cx_K, cx_K2, L2.start, wipe, scal_ii, scal_ss, scal_bb, scal_is, scal_si, scal_nn, List.map_cons, List.map_nil, List.length_cons, List.length_nil, List.cons_append, List.nil_append, List.append_nil, List.replicate, List.getElem?_cons_zero, List.getElem?_cons_succ, Option.some.injEq, exists_and_left, exists_eq_left', exists_eq_left, exists_eq, exists_eq', V.int.injEq, V.ref.injEq, V.str.injEq, V.bl.injEq, List.cons.injEq, and_true, true_and, false_and, exists_false, or_false, false_or, reduceCtorEq, List.set_cons_zero, List.set_cons_succ, Nat.reduceAdd, Nat.reduceSub, Int.reduceToNat, decide_eq_true_eq, if_true, if_false, Bool.false_eq_true, Bool.not_true, Bool.not_false, Bool.true_eq_false, ite_false, ite_true, ne_eq, not_false_eq_true, Int.reduceEq])
      refine ⟨by decide, ?_⟩
      refine drS_go T5 (by decide) (by decide) fun x1 H6 b0 b1 T6 v6 => ?_
      obtain ⟨c, ec, hc, _⟩ := signs_at b0 b1
      refine ixS_go (by decide) (by rw [show (lettersS ++ (Str.ofString "0123456789")) = signsS from signs_cat]; exact ec) ?_
      have l1 := len_app x (⟨#[c]⟩ : Str)
      rw [len_one] at l1
      refine ⟨_, rfl, Nat.le_trans (show x.length + 1 ≤ 12 by omega) (by decide), ?_⟩
      exact ⟨hn, _, spell_snoc sx (by omega) hc, by omega, T6, v5.trans v6, rfl⟩
    · rintro n σ' H5 ⟨x, o, hn, sx, lx, T5, v5, rfl⟩
      (try simp only [tIxO, rIsB, rNotB, tSeq, tIfS, tTest, tB, tOp, tUn, tVar, tC, tAsg, gName, tRet, tRetN, tCB, tCons, tNil, tLst_eq, tTup_eq, tDNewK_eq, tNext, tPar, tM0, tM1, tSl, tNoPart, tPart, rSlS, tAug, tAugS, tExf_eq, ipI, tChain, tCall, tDrop, tBM, tAnd, tOr, tNot, tAndV, tOrV, tNotV, tIf, tIsN, tNotN, rI, rI0, rU, rEq, rNe, gSub, cx_K, cx_K2, L2.start, wipe, scal_ii, scal_ss, scal_bb, scal_is, scal_si, scal_nn, List.map_cons, List.map_nil, List.length_cons, List.length_nil, List.cons_append, List.nil_append, List.append_nil, List.replicate, List.getElem?_cons_zero, List.getElem?_cons_succ, Option.some.injEq, exists_and_left, exists_eq_left', exists_eq_left, exists_eq, exists_eq', V.int.injEq, V.ref.injEq, V.str.injEq, V.bl.injEq, List.cons.injEq, and_true, true_and, false_and, exists_false, or_false, false_or, reduceCtorEq, List.set_cons_zero, List.set_cons_succ, Nat.reduceAdd, Nat.reduceSub, Int.reduceToNat, decide_eq_true_eq, if_true, if_false, Bool.false_eq_true, Bool.not_true, Bool.not_false, Bool.true_eq_false, ite_false, ite_true, ne_eq, not_false_eq_true, Int.reduceEq])
      have w2 := word_len sx.1
      have r5 := v5 _ _ hut hug hu'
      refine newL_go fun l1 H6 n6 s6 r6 => ?_
      refine lcR_go (n := 20) (fun i => .str (stemS x (10 + i))) (fun R r => ?_) (by decide) (fun x => wipe_set) (fun i H' R hi r => ?_) (fun l2 H7 n7 s7 r7 => ?_)
      · (try simp only [tIxO, rIsB, rNotB, tSeq, tIfS, tTest, tB, tOp, tUn, tVar, tC, tAsg, gName, tRet, tRetN, tCB, tCons, tNil, tLst_eq, tTup_eq, tDNewK_eq, tNext, tPar, tM0, tM1, tSl, tNoPart, tPart, rSlS, tAug, tAugS, tExf_eq, ipI, tChain, tCall, tDrop, tBM, tAnd, tOr, tNot, tAndV, tOrV, tNotV, tIf, tIsN, tNotN, rI, rI0, rU, rEq, rNe, gSub, cx_K, cx_K2, L2.start, wipe, scal_ii, scal_ss, scal_bb, scal_is, scal_si, scal_nn, List.map_cons, List.map_nil, List.length_cons, List.length_nil, List.cons_append, List.nil_append, List.append_nil, List.replicate, List.getElem?_cons_zero, List.getElem?_cons_succ, Option.some.injEq, exists_and_left, exists_eq_left', exists_eq_left, exists_eq, exists_eq', V.int.injEq, V.ref.injEq, V.str.injEq, V.bl.injEq, List.cons.injEq, and_true, true_and, false_and, exists_false, or_false, false_or, reduceCtorEq, List.set_cons_zero, List.set_cons_succ, Nat.reduceAdd, Nat.reduceSub, Int.reduceToNat, decide_eq_true_eq, if_true, if_false, Bool.false_eq_true, Bool.not_true, Bool.not_false, Bool.true_eq_false, ite_false, ite_true, ne_eq, not_false_eq_true, Int.reduceEq])
        exact r
      · (try simp only [tIxO, rIsB, rNotB, tSeq, tIfS, tTest, tB, tOp, tUn, tVar, tC, tAsg, gName, tRet, tRetN, tCB, tCons, tNil, tLst_eq, tTup_eq, tDNewK_eq, tNext, tPar, tM0, tM1, tSl, tNoPart, tPart, rSlS, tAug, tAugS, tExf_eq, ipI, tChain, tCall, tDrop, tBM, tAnd, tOr, tNot, tAndV, tOrV, tNotV, tIf, tIsN, tNotN, rI, rI0, rU, rEq, rNe, gSub, cx_K, cx_K2, L2.start, wipe, scal_ii, scal_ss, scal_bb, scal_is, scal_si, scal_nn, List.map_cons, List.map_nil, List.length_cons, List.length_nil, List.cons_append, List.nil_append, List.append_nil, List.replicate, List.getElem?_cons_zero, List.getElem?_cons_succ, Option.some.injEq, exists_and_left, exists_eq_left', exists_eq_left, exists_eq, exists_eq', V.int.injEq, V.ref.injEq, V.str.injEq, V.bl.injEq, List.cons.injEq, and_true, true_and, false_and, exists_false, or_false, false_or, reduceCtorEq, List.set_cons_zero, List.set_cons_succ, Nat.reduceAdd, Nat.reduceSub, Int.reduceToNat, decide_eq_true_eq, if_true, if_false, Bool.false_eq_true, Bool.not_true, Bool.not_false, Bool.true_eq_false, ite_false, ite_true, ne_eq, not_false_eq_true, Int.reduceEq])
        have si := stem_ident sx (i := 10 + i) (by omega)
        have e1 : isWord (stemS x (10 + i)) = true := by
          unfold isIdent at si
          simp only [Bool.and_eq_true] at si
          exact si.1.1
        have e2 := (word_len e1).2
        unfold stemS at e2
        rw [len_app] at e2
        have en : (10 + (i : Int)) = ((10 + i : Nat) : Int) := by omega
        have a1 : x.length ≤ sizeLine := Nat.le_trans w2.2 (by decide)
        have a2 : ((10 + i : Nat) : Int).natAbs.log2 < 1920 := by
          rw [Int.natAbs_natCast]
          exact Nat.lt_of_le_of_lt (Nat.log2_le_self _) (by omega)
        rw [en]
        exact ⟨a1, a2, Nat.le_trans e2 (by decide), r⟩
      have r6' := s7 _ _ r6
      refine cat_go (hz := by simp) r6' r7 fun cs H8 n8 s8 r8 => ?_
      generalize hcs : x :: (List.range 20).map (fun i => stemS x (10 + i)) = chs
      have r8' : H8 cs = some (.lst (chs.map V.str)) := by
        rw [r8, ← hcs, List.map_cons, List.map_map]
        rfl
      have ident : ∀ c ∈ chs, keptS.contains c = false → isIdent c = true := by
        intro c hc hk
        rw [← hcs] at hc
        rcases List.mem_cons.mp hc with rfl | hc
        · unfold isIdent
          rw [sx.1, sx.2, hk]
          rfl
        · obtain ⟨i, hi, rfl⟩ := List.mem_map.mp hc
          exact stem_ident sx (by have := List.mem_range.mp hi; omega)
      have clen : chs.length = 21 := by rw [← hcs, List.length_cons, List.length_map, List.length_range]
      let good : Str → Bool := fun c => !us.contains c && !keptS.contains c
      have sH : Same H5 H8 := ((s6.trans s7).trans s8)
      have r8u := sH _ _ r5
      refine lcI_go (K := K) (fun D i acc H' => acc = ((chs.take i).filter good).map V.str ∧ ExT D H8 H') (fun Q q => ⟨_, rfl, q⟩) (.inl (.inl r8')) (fun D i acc H' hi p hD => .inl (.inl (ExT.toSame hD p.2 _ _ r8'))) (fun D H' hD s r => ⟨rfl, Same.exT s⟩) (fun D i v acc H' hx hD hacc hla p => ?_) (fun D H9 acc hD hacc hla p => ?_)
      · obtain ⟨rfl, p2⟩ := p
        rw [List.getElem?_map] at hx
        obtain ⟨c, hc, rfl⟩ := Option.map_eq_some_iff.mp hx
        have hi : i < chs.length := (List.getElem?_eq_some_iff.mp hc).1
        have et : chs.take (i + 1) = chs.take i ++ [c] := by rw [List.take_add_one, hc]; rfl
        have ru := ExT.toSame hD p2 _ _ r8u
        (try simp only [tIxO, rIsB, rNotB, tSeq, tIfS, tTest, tB, tOp, tUn, tVar, tC, tAsg, gName, tRet, tRetN, tCB, tCons, tNil, tLst_eq, tTup_eq, tDNewK_eq, tNext, tPar, tM0, tM1, tSl, tNoPart, tPart, rSlS, tAug, tAugS, tExf_eq, ipI, tChain, tCall, tDrop, tBM, tAnd, tOr, tNot, tAndV, tOrV, tNotV, tIf, tIsN, tNotN, rI, rI0, rU, rEq, rNe, gSub, cx_K, cx_K2, L2.start, wipe, scal_ii, scal_ss, scal_bb, scal_is, scal_si, scal_nn, List.map_cons, List.map_nil, List.length_cons, List.length_nil, List.cons_append, List.nil_append, List.append_nil, List.replicate, List.getElem?_cons_zero, List.getElem?_cons_succ, Option.some.injEq, exists_and_left, exists_eq_left', exists_eq_left, exists_eq, exists_eq', V.int.injEq, V.ref.injEq, V.str.injEq, V.bl.injEq, List.cons.injEq, and_true, true_and, false_and, exists_false, or_false, false_or, reduceCtorEq, List.set_cons_zero, List.set_cons_succ, Nat.reduceAdd, Nat.reduceSub, Int.reduceToNat, decide_eq_true_eq, if_true, if_false, Bool.false_eq_true, Bool.not_true, Bool.not_false, Bool.true_eq_false, ite_false, ite_true, ne_eq, not_false_eq_true, Int.reduceEq])
        refine inS_go (.inl (.inl ru)) ⟨_, rfl, ?_⟩
        have stay : good c = false → LcP (fun D i acc H' => acc = ((chs.take i).filter good).map V.str ∧ ExT D H8 H') D (i + 1) H' := fun g0 => by
          refine ⟨_, hacc, Nat.le_succ_of_le hla, ?_, p2⟩
          rw [et, List.filter_append, List.filter_cons, g0]
          simp
        refine ite2 (fun c1 => ?_) (fun c1 => stay (by simp [good] at c1 ⊢; intro z; exact absurd c1 z))
        refine ⟨rfl, fun p H2 n2 s2 r2 => ?_⟩
        refine inS_go (.inl (.inl r2)) ⟨_, rfl, ?_⟩
        have hD2 := s2 _ _ hacc
        have p3 : ExT D H8 H2 := p2.same s2
        rw [lkept_has]
        refine ite2 (fun c2 => ?_) (fun c2 => ?_)
        · refine ⟨_, hD2, ?_, _, upd_same, ?_, ?_, exT_upd p3⟩
          · exact Nat.lt_of_le_of_lt hla (Nat.lt_of_lt_of_le hi (by rw [clen]; decide))
          · rw [List.length_append]
            exact Nat.succ_le_succ hla
          · have g1 : good c = true := by
              simp only [if_true] at c1 c2
              simp only [good, c1, c2, Bool.and_self]
            rw [et, List.filter_append, List.filter_cons, g1]
            simp
        · refine ⟨_, hD2, Nat.le_succ_of_le hla, ?_, p3⟩
          have g0 : good c = false := by
            simp only [if_true] at c2
            simp only [good]
            cases q2 : keptS.contains c with
            | true => simp
            | false => rw [q2] at c2; exact absurd rfl c2
          rw [et, List.filter_append, List.filter_cons, g0]
          simp
      · obtain ⟨rfl, p2⟩ := p
        rw [List.length_map, List.take_of_length_le (Nat.le_refl _)] at hacc
        obtain ⟨j, hj, ej⟩ := stem_new (x := x) few
        have mem : stemS x (10 + j) ∈ chs := by
          rw [← hcs]
          exact List.mem_cons_of_mem _ (List.mem_map.mpr ⟨j, List.mem_range.mpr hj, rfl⟩)
        have idj := stem_ident sx (i := 10 + j) (by omega)
        have kj : keptS.contains (stemS x (10 + j)) = false := by
          unfold isIdent at idj
          simp only [Bool.and_eq_true, Bool.not_eq_true'] at idj
          exact idj.2
        cases ef : chs.filter good with
        | nil =>
          have : stemS x (10 + j) ∈ chs.filter good := List.mem_filter.mpr ⟨mem, by simp only [good, ej, kj]; rfl⟩
          rw [ef] at this
          cases this
        | cons y ys =>
          rw [ef] at hacc
          refine ixM_go hacc (v := .str y) (show atI _ ((0 : Nat) : Int) = _ from atI_nat rfl) ?_
          have my : y ∈ chs.filter good := by rw [ef]; simp
          obtain ⟨m1, m2⟩ := List.mem_filter.mp my
          simp only [good, Bool.and_eq_true, Bool.not_eq_true'] at m2
          have sA : Same H5 H9 := sH.trans (ExT.toSame hD p2)
          exact q y H9 (ident y m1 m2.2) m2.1 (T5.same sA) (v5.same sA)
def spNamesS : Sp := fun vs H Q _ => ∃ (t g : Addr) (m : Nat), vs = [.ref t, .int m] ∧ Stt H t g ∧ m ≤ 19 ∧ ∀ p (us : List Str) H', us.length = m → us.Nodup → (∀ x ∈ us, isIdent x = true) → H p = none → H' p = some (.lst (us.map V.str)) → Stt H' t g → ExS t g H H' → Q (.ref p) H'
theorem ok_l_names (T : Txt K mg) : FnOk P w K mg base CX0 3 T.d_l_names.a T.d_l_names.d ["_law_state_here", "_law_many"] spNamesS := by
  refine T.d_l_names.F.ok sc_l_names (fun vs H Q E h => ?_) (fun cdv A outer s H vs Q E hr h => ?_)
  · obtain ⟨t, g, m, rfl, _⟩ := h
    rfl
  · obtain ⟨t, g, m, rfl, ht, few, q⟩ := h
    refine ⟨_, (pss_cons (ps_set (i := 2) sc_l_names.nd rfl (Or.inl rfl) (pe_lst pa_nil))
      (pss_cons (ps_for PassesOwn.never rfl (pi_range1 (by rfl) T.z_range (pa_cons (pv 1) pa_nil)) (pg_name (i := 3) sc_l_names.nd rfl (Or.inl rfl)) (pss_one (ps_expr (pe_bm PySem.F.plainAttrs_list PySem.F.slot_list_append PySem.F.type_list_append mt_append (pv 2) (pa_cons (pe_call (ok_l_name T) (hr.mono (by decide)) (by rfl) T.d_l_name.g T.d_l_name.F.kp T.d_l_name.b .nil pass0 (pa_cons (pv 0) (pa_cons (pv 2) pa_nil))) pa_nil)))))
      (pss_one (ps_ret (pv 2))))), ?_⟩
    (try simp only [tIxO, rIsB, rNotB, tSeq, tIfS, tTest, tB, tOp, tUn, tVar, tC, tAsg, gName, tRet, tRetN, tCB, tCons, tNil, tLst_eq, tTup_eq, tDNewK_eq, tNext, tPar, tM0, tM1, tSl, tNoPart, tPart, rSlS, tAug, tAugS, tExf_eq, ipI, tChain, tCall, tDrop, tBM, tAnd, tOr, tNot, tAndV, tOrV, tNotV, tIf, tIsN, tNotN, rI, rI0, rU, rEq, rNe, gSub, cx_K, cx_K2, L2.start, wipe, scal_ii, scal_ss, scal_bb, scal_is, scal_si, scal_nn, List.map_cons, List.map_nil, List.length_cons, List.length_nil, List.cons_append, List.nil_append, List.append_nil, List.replicate, List.getElem?_cons_zero, List.getElem?_cons_succ, Option.some.injEq, exists_and_left, exists_eq_left', exists_eq_left, exists_eq, exists_eq', V.int.injEq, V.ref.injEq, V.str.injEq, V.bl.injEq, List.cons.injEq, and_true, true_and, false_and, exists_false, or_false, false_or, reduceCtorEq, List.set_cons_zero, List.set_cons_succ, Nat.reduceAdd, Nat.reduceSub, Int.reduceToNat, decide_eq_true_eq, if_true, if_false, Bool.false_eq_true, Bool.not_true, Bool.not_false, Bool.true_eq_false, ite_false, ite_true, ne_eq, not_false_eq_true, Int.reduceEq])
    refine newL_go fun u H1 n1 s1 r1 => ?_
    obtain ⟨u1, u2⟩ := ht.ne n1
    refine forR_go (n := m) (fun R r => ?_) (by omega) (fun i σ' H' => ∃ (us : List Str) (o : Option V), us.length = i ∧ us.Nodup ∧ (∀ x ∈ us, isIdent x = true) ∧ H' u = some (.lst (us.map V.str)) ∧ Stt H' t g ∧ ExS t g H H' ∧ σ' = [some (.ref t), some (.int m), some (.ref u), o]) ⟨[], _, rfl, List.nodup_nil, by simp, r1, ht.same s1, Same.exS s1, rfl⟩ ?_ ?_
    · (try simp only [tIxO, rIsB, rNotB, tSeq, tIfS, tTest, tB, tOp, tUn, tVar, tC, tAsg, gName, tRet, tRetN, tCB, tCons, tNil, tLst_eq, tTup_eq, tDNewK_eq, tNext, tPar, tM0, tM1, tSl, tNoPart, tPart, rSlS, tAug, tAugS, tExf_eq, ipI, tChain, tCall, tDrop, tBM, tAnd, tOr, tNot, tAndV, tOrV, tNotV, tIf, tIsN, tNotN, rI, rI0, rU, rEq, rNe, gSub, cx_K, cx_K2, L2.start, wipe, scal_ii, scal_ss, scal_bb, scal_is, scal_si, scal_nn, List.map_cons, List.map_nil, List.length_cons, List.length_nil, List.cons_append, List.nil_append, List.append_nil, List.replicate, List.getElem?_cons_zero, List.getElem?_cons_succ, Option.some.injEq, exists_and_left, exists_eq_left', exists_eq_left, exists_eq, exists_eq', V.int.injEq, V.ref.injEq, V.str.injEq, V.bl.injEq, List.cons.injEq, and_true, true_and, false_and, exists_false, or_false, false_or, reduceCtorEq, List.set_cons_zero, List.set_cons_succ, Nat.reduceAdd, Nat.reduceSub, Int.reduceToNat, decide_eq_true_eq, if_true, if_false, Bool.false_eq_true, Bool.not_true, Bool.not_false, Bool.true_eq_false, ite_false, ite_true, ne_eq, not_false_eq_true, Int.reduceEq])
      exact r
    · rintro i σ' H2 hi ⟨us, o, l2, nd, ids, r2, T2, v2, rfl⟩
      (try simp only [tIxO, rIsB, rNotB, tSeq, tIfS, tTest, tB, tOp, tUn, tVar, tC, tAsg, gName, tRet, tRetN, tCB, tCons, tNil, tLst_eq, tTup_eq, tDNewK_eq, tNext, tPar, tM0, tM1, tSl, tNoPart, tPart, rSlS, tAug, tAugS, tExf_eq, ipI, tChain, tCall, tDrop, tBM, tAnd, tOr, tNot, tAndV, tOrV, tNotV, tIf, tIsN, tNotN, rI, rI0, rU, rEq, rNe, gSub, cx_K, cx_K2, L2.start, wipe, scal_ii, scal_ss, scal_bb, scal_is, scal_si, scal_nn, List.map_cons, List.map_nil, List.length_cons, List.length_nil, List.cons_append, List.nil_append, List.append_nil, List.replicate, List.getElem?_cons_zero, List.getElem?_cons_succ, Option.some.injEq, exists_and_left, exists_eq_left', exists_eq_left, exists_eq, exists_eq', V.int.injEq, V.ref.injEq, V.str.injEq, V.bl.injEq, List.cons.injEq, and_true, true_and, false_and, exists_false, or_false, false_or, reduceCtorEq, List.set_cons_zero, List.set_cons_succ, Nat.reduceAdd, Nat.reduceSub, Int.reduceToNat, decide_eq_true_eq, if_true, if_false, Bool.false_eq_true, Bool.not_true, Bool.not_false, Bool.true_eq_false, ite_false, ite_true, ne_eq, not_false_eq_true, Int.reduceEq])
      refine ⟨.inl ⟨rfl, _, .inl (.inl r2)⟩, ?_⟩
      refine ⟨t, g, u, us, rfl, T2, r2, u1, u2, by omega, fun x H3 ix nx T3 v3 => ?_⟩
      have r3 := v3 _ _ u1 u2 r2
      refine ⟨u, _, _, rfl, rfl, r3, ?_, ?_⟩
      · rw [List.length_map]
        exact Nat.lt_of_le_of_lt (show us.length ≤ 19 by omega) (by decide)
      · refine ⟨us ++ [x], by rw [List.length_append, l2]; rfl, ?_, ?_, ?_, ?_, ?_⟩
        · rw [List.nodup_append]
          refine ⟨nd, by simp, fun a ha b hb => ?_⟩
          have eb : b = x := by simpa using hb
          subst eb
          rintro rfl
          rw [List.contains_iff_mem.mpr ha] at nx
          cases nx
        · intro y hy
          rcases List.mem_append.mp hy with hy | hy
          · exact ids y hy
          · have ey : y = x := by simpa using hy
            rw [ey]
            exact ix
        · rw [upd_same, List.map_append]
          rfl
        · obtain ⟨gt, gs, c, k, sd, e1, e2, ok⟩ := T3
          exact ⟨gt, gs, c, k, sd, by rw [upd_ne u1.symm]; exact e1, by rw [upd_ne u2.symm]; exact e2, ok⟩
        · intro b o h1 h2 h3
          have hb : b ≠ u := by
            rintro rfl
            rw [n1] at h3
            cases h3
          rw [upd_ne hb]
          exact v3 _ _ h1 h2 (v2 _ _ h1 h2 h3)
    · rintro σ' H2 ⟨us, o, l2, nd, ids, r2, T2, v2, rfl⟩
      (try simp only [tIxO, rIsB, rNotB, tSeq, tIfS, tTest, tB, tOp, tUn, tVar, tC, tAsg, gName, tRet, tRetN, tCB, tCons, tNil, tLst_eq, tTup_eq, tDNewK_eq, tNext, tPar, tM0, tM1, tSl, tNoPart, tPart, rSlS, tAug, tAugS, tExf_eq, ipI, tChain, tCall, tDrop, tBM, tAnd, tOr, tNot, tAndV, tOrV, tNotV, tIf, tIsN, tNotN, rI, rI0, rU, rEq, rNe, gSub, cx_K, cx_K2, L2.start, wipe, scal_ii, scal_ss, scal_bb, scal_is, scal_si, scal_nn, List.map_cons, List.map_nil, List.length_cons, List.length_nil, List.cons_append, List.nil_append, List.append_nil, List.replicate, List.getElem?_cons_zero, List.getElem?_cons_succ, Option.some.injEq, exists_and_left, exists_eq_left', exists_eq_left, exists_eq, exists_eq', V.int.injEq, V.ref.injEq, V.str.injEq, V.bl.injEq, List.cons.injEq, and_true, true_and, false_and, exists_false, or_false, false_or, reduceCtorEq, List.set_cons_zero, List.set_cons_succ, Nat.reduceAdd, Nat.reduceSub, Int.reduceToNat, decide_eq_true_eq, if_true, if_false, Bool.false_eq_true, Bool.not_true, Bool.not_false, Bool.true_eq_false, ite_false, ite_true, ne_eq, not_false_eq_true, Int.reduceEq])
      exact q u us H2 l2 nd ids n1 r2 T2 v2
def spValueS : Sp := fun vs H Q _ => ∃ (t g : Addr), vs = [.ref t] ∧ Stt H t g ∧ ∀ v H', valOk v = true → Stt H' t g → ExS t g H H' → Q v H'
theorem ok_l_value (T : Txt K mg) : FnOk P w K mg base CX0 2 T.d_l_value.a T.d_l_value.d ["_law_state_here"] spValueS := by
  refine T.d_l_value.F.ok sc_l_value (fun vs H Q E h => ?_) (fun cdv A outer s H vs Q E hr h => ?_)
  · obtain ⟨t, g, rfl, _⟩ := h
    rfl
  · obtain ⟨t, g, rfl, ht, q⟩ := h
    refine ⟨_, (pss_cons (ps_set (i := 1) sc_l_value.nd rfl (Or.inl rfl) (pe_call (ok_l_draw T) (hr.mono (by decide)) (by rfl) T.d_l_draw.g T.d_l_draw.F.kp T.d_l_draw.b .nil pass0 (pa_cons (pv 0) (pa_cons pe_int pa_nil))))
      (pss_cons (ps_if (pt_cmpR op_eq (pv 1) pe_int (nomark _)) (pss_one (ps_ret (pe_op op_sub (pe_call (ok_l_draw T) (hr.mono (by decide)) (by rfl) T.d_l_draw.g T.d_l_draw.F.kp T.d_l_draw.b .nil pass0 (pa_cons (pv 0) (pa_cons pe_int pa_nil))) pe_int))) pss_nil)
      (pss_cons (ps_if (pt_cmpR op_eq (pv 1) pe_int (nomark _)) (pss_one (ps_ret (pe_op op_mul (pe_op op_sub (pe_op op_mul (pe_call (ok_l_draw T) (hr.mono (by decide)) (by rfl) T.d_l_draw.g T.d_l_draw.F.kp T.d_l_draw.b .nil pass0 (pa_cons (pv 0) (pa_cons pe_int pa_nil))) pe_int) pe_int) (pe_op op_add (pe_op op_pow pe_int pe_int) (pe_call (ok_l_draw T) (hr.mono (by decide)) (by rfl) T.d_l_draw.g T.d_l_draw.F.kp T.d_l_draw.b .nil pass0 (pa_cons (pv 0) (pa_cons (pe_op op_pow pe_int pe_int) pa_nil))))))) pss_nil)
      (pss_cons (ps_set (i := 2) sc_l_value.nd rfl (Or.inr rfl) pe_str)
      (pss_one (ps_ret (pe_join pe_str (pe_lc (own := [("_law_k", 3)]) (g := gName 3) (tt := tYes) (by rfl) sc_l_value.nd (pi_range1 (by rfl) T.z_range (pa_cons (pe_call (ok_l_draw T) (hr.mono (by decide)) (by rfl) T.d_l_draw.g T.d_l_draw.F.kp T.d_l_draw.b .nil pass0 (pa_cons (pv 0) (pa_cons pe_int pa_nil))) pa_nil)) (blkOk_by (own := [("_law_k", 3)]) (N := ["_law_state_here", "_law_way", "_law_signs", "_law_k"]) (sc := defScope s_l_value) (by decide +kernel)) (fun _ _ _ _ _ => pg_name (i := 3) sc_l_value.nd rfl (Or.inl rfl)) (fun _ _ _ _ _ => pts_nil) (fun _ _ _ _ _ => (pe_ix ix_str (pv 2) (pe_call (ok_l_draw T) (hr.mono (by decide)) (by rfl) T.d_l_draw.g T.d_l_draw.F.kp T.d_l_draw.b .nil pass0 (pa_cons (pv 0) (pa_cons pe_int pa_nil))) (fun _ _ => rfl))))))))))), ?_⟩
    (try simp only [tIxO, rIsB, rNotB, tSeq, tIfS, tTest, tB, tOp, tUn, tVar, tC, tAsg, gName, tRet, tRetN, tCB, tCons, tNil, tLst_eq, tTup_eq, tDNewK_eq, tNext, tPar, tM0, tM1, tSl, tNoPart, tPart, rSlS, tAug, tAugS, tExf_eq, ipI, tChain, tCall, tDrop, tBM, tAnd, tOr, tNot, tAndV, tOrV, tNotV, tIf, tIsN, tNotN, rI, rI0, rU, rEq, rNe, gSub, cx_K, cx_K2, L2.start, wipe, scal_ii, scal_ss, scal_bb, scal_is, scal_si, scal_nn, List.map_cons, List.map_nil, List.length_cons, List.length_nil, List.cons_append, List.nil_append, List.append_nil, List.replicate, List.getElem?_cons_zero, List.getElem?_cons_succ, Option.some.injEq, exists_and_left, exists_eq_left', exists_eq_left, exists_eq, exists_eq', V.int.injEq, V.ref.injEq, V.str.injEq, V.bl.injEq, List.cons.injEq, and_true, true_and, false_and, exists_false, or_false, false_or, reduceCtorEq, List.set_cons_zero, List.set_cons_succ, Nat.reduceAdd, Nat.reduceSub, Int.reduceToNat, decide_eq_true_eq, if_true, if_false, Bool.false_eq_true, Bool.not_true, Bool.not_false, Bool.true_eq_false, ite_false, ite_true, ne_eq, not_false_eq_true, Int.reduceEq])
    refine drS_go ht (by decide) (by decide) fun x0 H1 _ _ T1 v1 => ?_
    (try simp only [tIxO, rIsB, rNotB, tSeq, tIfS, tTest, tB, tOp, tUn, tVar, tC, tAsg, gName, tRet, tRetN, tCB, tCons, tNil, tLst_eq, tTup_eq, tDNewK_eq, tNext, tPar, tM0, tM1, tSl, tNoPart, tPart, rSlS, tAug, tAugS, tExf_eq, ipI, tChain, tCall, tDrop, tBM, tAnd, tOr, tNot, tAndV, tOrV, tNotV, tIf, tIsN, tNotN, rI, rI0, rU, rEq, rNe, gSub, cx_K, cx_K2, L2.start, wipe, scal_ii, scal_ss, scal_bb, scal_is, scal_si, scal_nn, List.map_cons, List.map_nil, List.length_cons, List.length_nil, List.cons_append, List.nil_append, List.append_nil, List.replicate, List.getElem?_cons_zero, List.getElem?_cons_succ, Option.some.injEq, exists_and_left, exists_eq_left', exists_eq_left, exists_eq, exists_eq', V.int.injEq, V.ref.injEq, V.str.injEq, V.bl.injEq, List.cons.injEq, and_true, true_and, false_and, exists_false, or_false, false_or, reduceCtorEq, List.set_cons_zero, List.set_cons_succ, Nat.reduceAdd, Nat.reduceSub, Int.reduceToNat, decide_eq_true_eq, if_true, if_false, Bool.false_eq_true, Bool.not_true, Bool.not_false, Bool.true_eq_false, ite_false, ite_true, ne_eq, not_false_eq_true, Int.reduceEq])
    refine ite2 (fun _ => ?_) (fun _ => ite2 (fun _ => ?_) (fun _ => ?_))
    · refine drS_go T1 (by decide) (by decide) fun x H2 a0 a1 T2 v2 => ?_
      exact ⟨_, rfl, q _ _ (valOk_int (by omega)) T2 (v1.trans v2)⟩
    · refine drS_go T1 (by decide) (by decide) fun x H2 a0 a1 T2 v2 => ?_
      refine ⟨_, rfl, .inl ⟨by omega, by omega⟩, ⟨by decide, by decide, by decide⟩, ⟨by decide, by decide, by decide⟩, ?_⟩
      refine drS_go T2 (by decide) (by decide) fun y H3 b0 b1 T3 v3 => ?_
      refine ⟨_, rfl, .inl ⟨by omega, by omega⟩, q _ _ (valOk_int ?_) T3 ((v1.trans v2).trans v3)⟩
      have : x = 0 ∨ x = 1 := by omega
      rcases this with rfl | rfl
      · omega
      · omega
    · refine lcRI_go (Cond := fun n H2 => n ≤ 4 ∧ Stt H2 t g ∧ ExS t g H H2) (fun n D i acc H' => (∃ xs : List Str, acc = xs.map V.str ∧ xs.length = i ∧ ∀ x ∈ xs, x.length = 1) ∧ n ≤ 4 ∧ Stt H' t g ∧ ExS t g H H' ∧ D ≠ t ∧ D ≠ g ∧ H D = none) (fun R r => ?_) (fun n H2 z => by omega) (fun n H2 D H3 z nD sD rD => ?_) (fun n D i acc H2 hi big hD hl p => ?_) (fun n D H2 acc hD hl p => ?_)
      · (try simp only [tIxO, rIsB, rNotB, tSeq, tIfS, tTest, tB, tOp, tUn, tVar, tC, tAsg, gName, tRet, tRetN, tCB, tCons, tNil, tLst_eq, tTup_eq, tDNewK_eq, tNext, tPar, tM0, tM1, tSl, tNoPart, tPart, rSlS, tAug, tAugS, tExf_eq, ipI, tChain, tCall, tDrop, tBM, tAnd, tOr, tNot, tAndV, tOrV, tNotV, tIf, tIsN, tNotN, rI, rI0, rU, rEq, rNe, gSub, cx_K, cx_K2, L2.start, wipe, scal_ii, scal_ss, scal_bb, scal_is, scal_si, scal_nn, List.map_cons, List.map_nil, List.length_cons, List.length_nil, List.cons_append, List.nil_append, List.append_nil, List.replicate, List.getElem?_cons_zero, List.getElem?_cons_succ, Option.some.injEq, exists_and_left, exists_eq_left', exists_eq_left, exists_eq, exists_eq', V.int.injEq, V.ref.injEq, V.str.injEq, V.bl.injEq, List.cons.injEq, and_true, true_and, false_and, exists_false, or_false, false_or, reduceCtorEq, List.set_cons_zero, List.set_cons_succ, Nat.reduceAdd, Nat.reduceSub, Int.reduceToNat, decide_eq_true_eq, if_true, if_false, Bool.false_eq_true, Bool.not_true, Bool.not_false, Bool.true_eq_false, ite_false, ite_true, ne_eq, not_false_eq_true, Int.reduceEq])
        refine drS_go T1 (by decide) (by decide) fun x H2 a0 a1 T2 v2 => ?_
        obtain ⟨k, rfl⟩ := Int.eq_ofNat_of_zero_le a0
        exact r k H2 ⟨by omega, T2, v1.trans v2⟩
      · obtain ⟨d1, d2⟩ := z.2.1.ne nD
        exact ⟨⟨[], rfl, rfl, by simp⟩, z.1, z.2.1.same sD, z.2.2.same sD, d1, d2, exS_none z.2.1 z.2.2 nD⟩
      · obtain ⟨⟨xs, rfl, lx, ox⟩, n4, T2, v2, d1, d2, nD⟩ := p
        (try simp only [tIxO, rIsB, rNotB, tSeq, tIfS, tTest, tB, tOp, tUn, tVar, tC, tAsg, gName, tRet, tRetN, tCB, tCons, tNil, tLst_eq, tTup_eq, tDNewK_eq, tNext, tPar, tM0, tM1, tSl, tNoPart, tPart, rSlS, tAug, tAugS, tExf_eq, ipI, tChain, tCall, tDrop, tBM, tAnd, tOr, tNot, tAndV, tOrV, tNotV, tIf, tIsN, tNotN, rI, rI0, rU, rEq, rNe, gSub, cx_K, cx_K2, L2.start, wipe, scal_ii, scal_ss, scal_bb, scal_is, scal_si, scal_nn, List.map_cons, List.map_nil, List.length_cons, List.length_nil, List.cons_append, List.nil_append, List.append_nil, List.replicate, List.getElem?_cons_zero, List.getElem?_cons_succ, Option.some.injEq, exists_and_left, exists_eq_left', exists_eq_left, exists_eq, exists_eq', V.int.injEq, V.ref.injEq, V.str.injEq, V.bl.injEq, List.cons.injEq, and_true, true_and, false_and, exists_false, or_false, false_or, reduceCtorEq, List.set_cons_zero, List.set_cons_succ, Nat.reduceAdd, Nat.reduceSub, Int.reduceToNat, decide_eq_true_eq, if_true, if_false, Bool.false_eq_true, Bool.not_true, Bool.not_false, Bool.true_eq_false, ite_false, ite_true, ne_eq, not_false_eq_true, Int.reduceEq])
        refine drS_go T2 (by decide) (by decide) fun x H3 a0 a1 T3 v3 => ?_
        have hz : (Str.ofString " !#&'()*+,-./09:;<=>?@AZ[]^_`az{|}~").cps.toList.length = 35 := by decide +kernel
        obtain ⟨c, _, ec⟩ := atI_ex (l := (Str.ofString " !#&'()*+,-./09:;<=>?@AZ[]^_`az{|}~").cps.toList) a0 (by rw [hz]; exact a1)
        refine ixS_go (by decide) ec ?_
        have hD3 := v3 _ _ d1 d2 hD
        refine ⟨_, hD3, ?_, _, upd_same, ?_, ⟨xs ++ [⟨#[c]⟩], by rw [List.map_append]; rfl, by rw [List.length_append, lx]; rfl, ?_⟩, n4, T3.upd d1 d2, (v2.trans v3).upd nD, d1, d2, nD⟩
        · rw [List.length_map, lx]
          exact Nat.lt_of_lt_of_le hi (Nat.le_trans big (by decide))
        · rw [List.length_append]
          exact Nat.succ_le_succ hl
        · intro y hy
          rcases List.mem_append.mp hy with hy | hy
          · exact ox y hy
          · have ey : y = ⟨#[c]⟩ := by simpa using hy
            rw [ey]
            rfl
      · obtain ⟨⟨xs, rfl, lx, ox⟩, n4, T2, v2, d1, d2, nD⟩ := p
        have lj := joined_ones ox
        refine ⟨D, rfl, xs, .inl (.inl (.inl hD)), ?_, q _ _ (decide_eq_true (by rw [lj]; omega)) T2 v2⟩
        rw [sum_ones ox, lx]
        have z : (Str.ofString "").length = 0 := rfl
        rw [z]
        omega

end
end Own

set_option Elab.async false
set_option linter.all false
set_option maxRecDepth 100000
set_option maxHeartbeats 4000000
namespace Own
open PySem PySem.Spec PyProof.Rows L2
section
variable {P : Program} {w : World} {K : PySem.W.Frag} {mg : Str → Option Value} {base : Heap}
def spIsWord : Sp := fun vs H Q _ => ∃ x : Str, vs = [.str x] ∧ x.length ≤ 100000 ∧ ∀ H', Same H H' → Q (.bl (isWord x)) H'
theorem ok_is_word (T : Txt K mg) : FnOk P w K mg base CX0 1 T.d_is_word.a T.d_is_word.d ["value"] spIsWord := by
  refine T.d_is_word.F.ok sc_is_word (fun vs H Q E h => ?_) (fun cdv A outer s H vs Q E hr h => ?_)
  · obtain ⟨x, rfl, _⟩ := h
    rfl
  · obtain ⟨x, rfl, hl, q⟩ := h
    refine ⟨_, (pss_cons (ps_if (PW.pt (pw_or (pt_not (pt_val (pe_callB call_isi (by rfl) T.z_isinstance (by decide +kernel) (pa_cons (pv 0) (pa_cons (pe_bltn (v := .ty "str") rfl T.z_str (by decide +kernel) rfl) pa_nil))))) (pw_or1 (pt_not (pt_chain op_le op_le pe_int (pe_callB call_len_str (by rfl) T.z_len (by decide +kernel) (pa_cons (pv 0) pa_nil)) (pe_glob (v := .int 12) rfl T.m_LONGEST_WORD ⟨_, rfl⟩)))))) (pss_one (ps_ret pe_bl)) pss_nil)
      (pss_one (ps_ret (pe_callB (cr_all rfl) (by rfl) T.z_all (by decide +kernel) (pa_cons (pe_lc (own := [("sign", 1)]) (g := gName 1) (tt := tYes) (by rfl) sc_is_word.nd (pi_str (pv 0)) (blkOk_by (own := [("sign", 1)]) (N := ["value", "sign"]) (sc := defScope s_is_word) (by decide +kernel)) (fun _ _ _ _ _ => pg_name (i := 1) sc_is_word.nd rfl (Or.inl rfl)) (fun _ _ _ _ _ => pts_nil) (fun _ _ _ _ _ => (pe_or (pe_cmpR op_in_sign (pv 1) (pe_glob (v := .str lettersS) rfl T.m_LETTERS ⟨_, rfl⟩) rfl) (pe_one (pe_cmpR op_in_sign (pv 1) (pe_glob (v := .str digitsS) rfl T.m_DIGITS ⟨_, rfl⟩) rfl))))) pa_nil))))), ?_⟩
    (try simp only [tIxO, rIsB, rNotB, tSeq, tIfS, tTest, tB, tOp, tUn, tVar, tC, tAsg, gName, tRet, tRetN, tCB, tCons, tNil, tLst_eq, tTup_eq, tDNewK_eq, tNext, tPar, tM0, tM1, tSl, tNoPart, tPart, rSlS, tAug, tAugS, tExf_eq, ipI, tChain, tCall, tDrop, tBM, tAnd, tOr, tNot, tAndV, tOrV, tNotV, tIf, tIsN, tNotN, rI, rI0, rU, rEq, rNe, gSub, cx_K, cx_K2, L2.start, wipe, scal_ii, scal_ss, scal_bb, scal_is, scal_si, scal_nn, List.map_cons, List.map_nil, List.length_cons, List.length_nil, List.cons_append, List.nil_append, List.append_nil, List.replicate, List.getElem?_cons_zero, List.getElem?_cons_succ, Option.some.injEq, exists_and_left, exists_eq_left', exists_eq_left, exists_eq, exists_eq', V.int.injEq, V.ref.injEq, V.str.injEq, V.bl.injEq, List.cons.injEq, and_true, true_and, false_and, exists_false, or_false, false_or, reduceCtorEq, List.set_cons_zero, List.set_cons_succ, Nat.reduceAdd, Nat.reduceSub, Int.reduceToNat, decide_eq_true_eq, if_true, if_false, Bool.false_eq_true, Bool.not_true, Bool.not_false, Bool.true_eq_false, ite_false, ite_true, ne_eq, not_false_eq_true, Int.reduceEq])
    refine isi_go (.ty "str") (.base (.str _)) T.q_str_str ⟨_, rfl, ?_⟩
    have el : x.length = (TL.tl x).length := TL.len_tl x
    refine ite2 (fun z => by cases z) (fun _ => ⟨Nat.le_trans hl (by decide), ?_⟩)
    have no : ¬ (1 ≤ (TL.tl x).length ∧ (TL.tl x).length ≤ 12) → Q (.bl false) H := fun n => by
      have e : isWord x = false := by
        unfold isWord
        by_cases a : 1 ≤ (TL.tl x).length
        · rw [decide_eq_false (show ¬ (TL.tl x).length ≤ 12 from fun b => n ⟨a, b⟩)]
          simp
        · rw [decide_eq_false a]
          simp
      rw [← e]
      exact q H fun _ _ e => e
    refine ite2 (fun h1 => ?_) (fun h1 => no fun ⟨a, b⟩ => h1 (by omega))
    refine ite2 (fun h2 => ?_) (fun h2 => ?_)
    · refine no fun ⟨a, b⟩ => ?_
      have : ¬ ((x.length : Int) ≤ 12) := by simpa using h2
      omega
    · have h3 : (x.length : Int) ≤ 12 := by simpa using h2
      refine lcStr_go (fun c => .bl (sgn c)) (fun Q q => ⟨_, rfl, q⟩) hl (fun c H' R r => ?_) (fun D H' n s r' => ?_)
      · (try simp only [tIxO, rIsB, rNotB, tSeq, tIfS, tTest, tB, tOp, tUn, tVar, tC, tAsg, gName, tRet, tRetN, tCB, tCons, tNil, tLst_eq, tTup_eq, tDNewK_eq, tNext, tPar, tM0, tM1, tSl, tNoPart, tPart, rSlS, tAug, tAugS, tExf_eq, ipI, tChain, tCall, tDrop, tBM, tAnd, tOr, tNot, tAndV, tOrV, tNotV, tIf, tIsN, tNotN, rI, rI0, rU, rEq, rNe, gSub, cx_K, cx_K2, L2.start, wipe, scal_ii, scal_ss, scal_bb, scal_is, scal_si, scal_nn, List.map_cons, List.map_nil, List.length_cons, List.length_nil, List.cons_append, List.nil_append, List.append_nil, List.replicate, List.getElem?_cons_zero, List.getElem?_cons_succ, Option.some.injEq, exists_and_left, exists_eq_left', exists_eq_left, exists_eq, exists_eq', V.int.injEq, V.ref.injEq, V.str.injEq, V.bl.injEq, List.cons.injEq, and_true, true_and, false_and, exists_false, or_false, false_or, reduceCtorEq, List.set_cons_zero, List.set_cons_succ, Nat.reduceAdd, Nat.reduceSub, Int.reduceToNat, decide_eq_true_eq, if_true, if_false, Bool.false_eq_true, Bool.not_true, Bool.not_false, Bool.true_eq_false, ite_false, ite_true, ne_eq, not_false_eq_true, Int.reduceEq])
        refine ⟨c, rfl, ite2 (fun h => ?_) (fun h => ?_)⟩
        · have : sgn c = true := by
            have z : ltr c = true := by rw [← in_letters]; exact decide_eq_true h
            simp [sgn, z]
          rw [this] at r
          exact r
        · have z : ltr c = false := by rw [← in_letters]; exact decide_eq_false h
          have e : sgn c = decide (c ∈ digitsS.cps.toList) := by
            unfold sgn
            rw [z, in_digits]
            rfl
          rw [e] at r
          exact ⟨c, rfl, r⟩
      · obtain ⟨bs, eb, ab⟩ := all_bl (TL.tl x) sgn
        rw [eb] at r'
        refine ⟨D, bs, rfl, .inl (.inl r'), ?_⟩
        have e : isWord x = bs.all id := by
          rw [ab]
          unfold isWord
          rw [decide_eq_true (show 1 ≤ (TL.tl x).length by omega), decide_eq_true (show (TL.tl x).length ≤ 12 by omega)]
          rfl
        rw [← e]
        exact q H' s
def spIsIdent : Sp := fun vs H Q _ => ∃ x : Str, vs = [.str x] ∧ x.length ≤ 100000 ∧ ∀ H', Same H H' → Q (.bl (isIdent x)) H'
theorem ok_is_ident (T : Txt K mg) : FnOk P w K mg base CX0 2 T.d_is_ident.a T.d_is_ident.d ["value"] spIsIdent := by
  refine T.d_is_ident.F.ok sc_is_ident (fun vs H Q E h => ?_) (fun cdv A outer s H vs Q E hr h => ?_)
  · obtain ⟨x, rfl, _⟩ := h
    rfl
  · obtain ⟨x, rfl, hl, q⟩ := h
    refine ⟨_, (pss_one (ps_ret (pe_and (pe_call (ok_is_word T) (hr.mono (by decide)) (by rfl) T.d_is_word.g T.d_is_word.F.kp T.d_is_word.b .nil pass0 (pa_cons (pv 0) pa_nil)) (pe_and (pe_cmpR op_in_sign (pe_ix ix_str (pv 0) pe_int (fun _ _ => rfl)) (pe_glob (v := .str lettersS) rfl T.m_LETTERS ⟨_, rfl⟩) rfl) (pe_one (pe_cmpR op_notIn_seq (pv 0) (pe_glob (v := .ref T.k_KEPT_WORDS) rfl T.m_KEPT_WORDS rfl) (by rfl))))))), ?_⟩
    (try simp only [tIxO, rIsB, rNotB, tSeq, tIfS, tTest, tB, tOp, tUn, tVar, tC, tAsg, gName, tRet, tRetN, tCB, tCons, tNil, tLst_eq, tTup_eq, tDNewK_eq, tNext, tPar, tM0, tM1, tSl, tNoPart, tPart, rSlS, tAug, tAugS, tExf_eq, ipI, tChain, tCall, tDrop, tBM, tAnd, tOr, tNot, tAndV, tOrV, tNotV, tIf, tIsN, tNotN, rI, rI0, rU, rEq, rNe, gSub, cx_K, cx_K2, L2.start, wipe, scal_ii, scal_ss, scal_bb, scal_is, scal_si, scal_nn, List.map_cons, List.map_nil, List.length_cons, List.length_nil, List.cons_append, List.nil_append, List.append_nil, List.replicate, List.getElem?_cons_zero, List.getElem?_cons_succ, Option.some.injEq, exists_and_left, exists_eq_left', exists_eq_left, exists_eq, exists_eq', V.int.injEq, V.ref.injEq, V.str.injEq, V.bl.injEq, List.cons.injEq, and_true, true_and, false_and, exists_false, or_false, false_or, reduceCtorEq, List.set_cons_zero, List.set_cons_succ, Nat.reduceAdd, Nat.reduceSub, Int.reduceToNat, decide_eq_true_eq, if_true, if_false, Bool.false_eq_true, Bool.not_true, Bool.not_false, Bool.true_eq_false, ite_false, ite_true, ne_eq, not_false_eq_true, Int.reduceEq])
    refine ⟨x, rfl, hl, fun H1 s1 => ?_⟩
    (try simp only [tIxO, rIsB, rNotB, tSeq, tIfS, tTest, tB, tOp, tUn, tVar, tC, tAsg, gName, tRet, tRetN, tCB, tCons, tNil, tLst_eq, tTup_eq, tDNewK_eq, tNext, tPar, tM0, tM1, tSl, tNoPart, tPart, rSlS, tAug, tAugS, tExf_eq, ipI, tChain, tCall, tDrop, tBM, tAnd, tOr, tNot, tAndV, tOrV, tNotV, tIf, tIsN, tNotN, rI, rI0, rU, rEq, rNe, gSub, cx_K, cx_K2, L2.start, wipe, scal_ii, scal_ss, scal_bb, scal_is, scal_si, scal_nn, List.map_cons, List.map_nil, List.length_cons, List.length_nil, List.cons_append, List.nil_append, List.append_nil, List.replicate, List.getElem?_cons_zero, List.getElem?_cons_succ, Option.some.injEq, exists_and_left, exists_eq_left', exists_eq_left, exists_eq, exists_eq', V.int.injEq, V.ref.injEq, V.str.injEq, V.bl.injEq, List.cons.injEq, and_true, true_and, false_and, exists_false, or_false, false_or, reduceCtorEq, List.set_cons_zero, List.set_cons_succ, Nat.reduceAdd, Nat.reduceSub, Int.reduceToNat, decide_eq_true_eq, if_true, if_false, Bool.false_eq_true, Bool.not_true, Bool.not_false, Bool.true_eq_false, ite_false, ite_true, ne_eq, not_false_eq_true, Int.reduceEq])
    refine ite2 (fun h => ?_) (fun h => ?_)
    · have w := word_len h
      have el : x.length = (TL.tl x).length := TL.len_tl x
      cases e : TL.tl x with
      | nil => rw [e] at el; simp at el; omega
      | cons c cs =>
        refine ixS_go (Nat.le_trans w.2 (by decide)) (c := c) (show atI (TL.tl x) ((0 : Nat) : Int) = _ by rw [e]; exact atI_nat rfl) ?_
        (try simp only [tIxO, rIsB, rNotB, tSeq, tIfS, tTest, tB, tOp, tUn, tVar, tC, tAsg, gName, tRet, tRetN, tCB, tCons, tNil, tLst_eq, tTup_eq, tDNewK_eq, tNext, tPar, tM0, tM1, tSl, tNoPart, tPart, rSlS, tAug, tAugS, tExf_eq, ipI, tChain, tCall, tDrop, tBM, tAnd, tOr, tNot, tAndV, tOrV, tNotV, tIf, tIsN, tNotN, rI, rI0, rU, rEq, rNe, gSub, cx_K, cx_K2, L2.start, wipe, scal_ii, scal_ss, scal_bb, scal_is, scal_si, scal_nn, List.map_cons, List.map_nil, List.length_cons, List.length_nil, List.cons_append, List.nil_append, List.append_nil, List.replicate, List.getElem?_cons_zero, List.getElem?_cons_succ, Option.some.injEq, exists_and_left, exists_eq_left', exists_eq_left, exists_eq, exists_eq', V.int.injEq, V.ref.injEq, V.str.injEq, V.bl.injEq, List.cons.injEq, and_true, true_and, false_and, exists_false, or_false, false_or, reduceCtorEq, List.set_cons_zero, List.set_cons_succ, Nat.reduceAdd, Nat.reduceSub, Int.reduceToNat, decide_eq_true_eq, if_true, if_false, Bool.false_eq_true, Bool.not_true, Bool.not_false, Bool.true_eq_false, ite_false, ite_true, ne_eq, not_false_eq_true, Int.reduceEq])
        have hh : headLtr x = ltr c := by
          unfold headLtr
          rw [e]
        refine ⟨c, rfl, ite2 (fun h2 => ?_) (fun h2 => ?_)⟩
        · have z : ltr c = true := by rw [← in_letters]; exact decide_eq_true h2
          refine inT_go (T.s_KEPT_WORDS _) ?_
          have ei : isIdent x = (if true then !keptW.contains x else keptW.contains x) := by
            unfold isIdent
            rw [h, hh, z]
            rfl
          rw [← ei]
          exact q H1 s1
        · have z : ltr c = false := by rw [← in_letters]; exact decide_eq_false h2
          have ei : isIdent x = false := by
            unfold isIdent
            rw [hh, z]
            simp
          rw [← ei]
          exact q H1 s1
    · have ei : isIdent x = false := by
        unfold isIdent
        rw [Bool.eq_false_iff.mpr h]
        rfl
      rw [← ei]
      exact q H1 s1
def spIsValue : Sp := fun vs H Q _ => ∃ v : V, vs = [v] ∧ valOk v = true ∧ Q (.bl true) H
theorem ok_is_value (T : Txt K mg) : FnOk P w K mg base CX0 1 T.d_is_value.a T.d_is_value.d ["value"] spIsValue := by
  refine T.d_is_value.F.ok sc_is_value (fun vs H Q E h => ?_) (fun cdv A outer s H vs Q E hr h => ?_)
  · obtain ⟨x, rfl, _⟩ := h
    rfl
  · obtain ⟨v, rfl, hv, q⟩ := h
    refine ⟨_, (pss_cons (ps_if (pt_val (pe_callB call_isi (by rfl) T.z_isinstance (by decide +kernel) (pa_cons (pv 0) (pa_cons (pe_bltn (v := .ty "bool") rfl T.z_bool (by decide +kernel) rfl) pa_nil)))) (pss_one (ps_ret pe_bl)) pss_nil)
      (pss_cons (ps_if (pt_val (pe_callB call_isi (by rfl) T.z_isinstance (by decide +kernel) (pa_cons (pv 0) (pa_cons (pe_bltn (v := .ty "int") rfl T.z_int (by decide +kernel) rfl) pa_nil)))) (pss_one (ps_ret (pe_cmpR op_lt (pe_op op_fdivW (pe_callB call_abs (by rfl) T.z_abs (by decide +kernel) (pa_cons (pv 0) pa_nil)) (pe_glob (v := .int limitI) rfl T.m_LIMIT_ROOT ⟨_, rfl⟩)) (pe_glob (v := .int limitI) rfl T.m_LIMIT_ROOT ⟨_, rfl⟩) (nomark _)))) pss_nil)
      (pss_one (ps_ret (pe_callB call_isi (by rfl) T.z_isinstance (by decide +kernel) (pa_cons (pv 0) (pa_cons (pe_bltn (v := .ty "str") rfl T.z_str (by decide +kernel) rfl) pa_nil))))))), ?_⟩
    (try simp only [tIxO, rIsB, rNotB, tSeq, tIfS, tTest, tB, tOp, tUn, tVar, tC, tAsg, gName, tRet, tRetN, tCB, tCons, tNil, tLst_eq, tTup_eq, tDNewK_eq, tNext, tPar, tM0, tM1, tSl, tNoPart, tPart, rSlS, tAug, tAugS, tExf_eq, ipI, tChain, tCall, tDrop, tBM, tAnd, tOr, tNot, tAndV, tOrV, tNotV, tIf, tIsN, tNotN, rI, rI0, rU, rEq, rNe, gSub, cx_K, cx_K2, L2.start, wipe, scal_ii, scal_ss, scal_bb, scal_is, scal_si, scal_nn, List.map_cons, List.map_nil, List.length_cons, List.length_nil, List.cons_append, List.nil_append, List.append_nil, List.replicate, List.getElem?_cons_zero, List.getElem?_cons_succ, Option.some.injEq, exists_and_left, exists_eq_left', exists_eq_left, exists_eq, exists_eq', V.int.injEq, V.ref.injEq, V.str.injEq, V.bl.injEq, List.cons.injEq, and_true, true_and, false_and, exists_false, or_false, false_or, reduceCtorEq, List.set_cons_zero, List.set_cons_succ, Nat.reduceAdd, Nat.reduceSub, Int.reduceToNat, decide_eq_true_eq, if_true, if_false, Bool.false_eq_true, Bool.not_true, Bool.not_false, Bool.true_eq_false, ite_false, ite_true, ne_eq, not_false_eq_true, Int.reduceEq])
    cases v with
    | int i =>
      refine isi_go (.ty "bool") (.base (.int _)) T.q_int_bool ⟨_, rfl, ?_⟩
      refine ite2 (fun z => by cases z) (fun _ => ?_)
      refine isi_go (.ty "int") (.base (.int _)) T.q_int_int ⟨_, rfl, ?_⟩
      refine ite2 (fun _ => ⟨_, rfl, ?_⟩) (fun z => absurd rfl z)
      have hb : i.natAbs < 10 ^ 1000 := of_decide_eq_true hv
      refine ⟨wide_div limit_pos limit_bits (by decide) (by decide), ?_⟩
      rw [limit_ok hb]
      exact q
    | str x =>
      refine isi_go (.ty "bool") (.base (.str _)) T.q_str_bool ⟨_, rfl, ?_⟩
      refine ite2 (fun z => by cases z) (fun _ => ?_)
      refine isi_go (.ty "int") (.base (.str _)) T.q_str_int ⟨_, rfl, ?_⟩
      refine ite2 (fun z => by cases z) (fun _ => ?_)
      exact isi_go (.ty "str") (.base (.str _)) T.q_str_str q
    | _ => cases hv
def spChecked (C : Addr) : Sp := fun vs H Q _ => ∃ (b : Addr) (kvs : Tbl), vs = [.ref b] ∧ (EnvAt C H b kvs ∨ H b = some (.dK kvs) ∧ TOk kvs ∧ kvs.length ≤ 100000) ∧ ∀ p H', H p = none → Same H H' → H' p = some (.dK kvs) → Q (.ref p) H'
theorem ok_checked (T : Txt K mg) : FnOk P w K mg base CX0 3 T.d_checked.a T.d_checked.d ["bindings"] (spChecked T.e_Env.C) := by
  refine T.d_checked.F.ok sc_checked (fun vs H Q E h => ?_) (fun cdv A outer s H vs Q E hr h => ?_)
  · obtain ⟨x, _, rfl, _⟩ := h
    rfl
  · obtain ⟨b, kvs, rfl, hb, q⟩ := h
    have hu := hr.units
    refine ⟨_, (pss_cons (ps_if (pt_val (pe_callB call_isi (by rfl) T.z_isinstance (by decide +kernel) (pa_cons (pv 0) (pa_cons (pe_glob (v := .ref T.e_Env.C) rfl T.e_Env.m rfl) pa_nil)))) (pss_one (ps_ret (pe_callTy call_dictD (by rfl) T.z_dict (by decide +kernel) (pa_cons (pe_fld (pv 0) rfl) pa_nil)))) pss_nil)
      (pss_cons (ps_if (pt_not (pt_val (pe_callB call_isi (by rfl) T.z_isinstance (by decide +kernel) (pa_cons (pv 0) (pa_cons (pe_bltn (v := .ty "dict") rfl T.z_dict (by decide +kernel) rfl) pa_nil))))) (pss_one ps_dead) pss_nil)
      (pss_cons (ps_lock (ps_for PassesOwn.never rfl (pi_items (pv 0)) (pg_tup (by rfl) (pgs_cons (pg_name (i := 1) sc_checked.nd rfl (Or.inl rfl)) (pgs_cons (pg_name (i := 2) sc_checked.nd rfl (Or.inl rfl)) pgs_nil))) (pss_cons (ps_if (pt_not (pt_val (pe_call (ok_is_ident T) (hr.mono (by decide)) (by rfl) T.d_is_ident.g T.d_is_ident.F.kp T.d_is_ident.b .nil pass0 (pa_cons (pv 1) pa_nil)))) (pss_one ps_dead) pss_nil)
      (pss_one (ps_if (pt_not (pt_val (pe_call (ok_is_value T) (hr.mono (by decide)) (by rfl) T.d_is_value.g T.d_is_value.F.kp T.d_is_value.b .nil pass0 (pa_cons (pv 2) pa_nil)))) (pss_one ps_dead) pss_nil)))))
      (pss_one (ps_ret (pe_callTy call_dictD (by rfl) T.z_dict (by decide +kernel) (pa_cons (pv 0) pa_nil))))))), ?_⟩
    (try simp only [tIxO, rIsB, rNotB, tSeq, tIfS, tTest, tB, tOp, tUn, tVar, tC, tAsg, gName, tRet, tRetN, tCB, tCons, tNil, tLst_eq, tTup_eq, tDNewK_eq, tNext, tPar, tM0, tM1, tSl, tNoPart, tPart, rSlS, tAug, tAugS, tExf_eq, ipI, tChain, tCall, tDrop, tBM, tAnd, tOr, tNot, tAndV, tOrV, tNotV, tIf, tIsN, tNotN, rI, rI0, rU, rEq, rNe, gSub, cx_K, cx_K2, L2.start, wipe, scal_ii, scal_ss, scal_bb, scal_is, scal_si, scal_nn, List.map_cons, List.map_nil, List.length_cons, List.length_nil, List.cons_append, List.nil_append, List.append_nil, List.replicate, List.getElem?_cons_zero, List.getElem?_cons_succ, Option.some.injEq, exists_and_left, exists_eq_left', exists_eq_left, exists_eq, exists_eq', V.int.injEq, V.ref.injEq, V.str.injEq, V.bl.injEq, List.cons.injEq, and_true, true_and, false_and, exists_false, or_false, false_or, reduceCtorEq, List.set_cons_zero, List.set_cons_succ, Nat.reduceAdd, Nat.reduceSub, Int.reduceToNat, decide_eq_true_eq, if_true, if_false, Bool.false_eq_true, Bool.not_true, Bool.not_false, Bool.true_eq_false, ite_false, ite_true, ne_eq, not_false_eq_true, Int.reduceEq])
    rcases hb with ⟨dx, d, h1, h2⟩ | ⟨h1, hk, hl⟩
    · refine isi_go (.own _) (T.e_Env.ins h1) kit_same ⟨_, rfl, ?_⟩
      refine ite2 (fun _ => ?_) (fun z => absurd rfl z)
      refine fld_go (fun Q q => ⟨_, rfl, q⟩) h1 T.e_Env.c T.n_Env_table rfl ⟨d, rfl, kvs, .inl h2, fun p hp => ?_⟩
      exact q p _ hp (same_new hp) upd_same
    · refine isi_go (.own _) (.base (.dK h1)) T.q_dict_Env ⟨_, rfl, ?_⟩
      refine ite2 (fun z => by cases z) (fun _ => ?_)
      refine isi_go (.ty "dict") (.base (.dK h1)) T.q_dict_dict ⟨_, rfl, ?_⟩
      refine ite2 (fun z => by cases z) (fun _ => ?_)
      refine forI_go h1 rfl (fun H' Q q => ⟨_, rfl, q⟩) (fun o i σ' H' => Same (upd H b (.frz o (.dK kvs))) H' ∧ ∃ o1 o2, σ' = [some (.ref b), o1, o2]) (fun o => ⟨fun _ _ e => e, _, _, rfl⟩) ?_ ?_
      · rintro o i k v σ' H1 H2 e lk ⟨s1, o1, o2, rfl⟩ s2
        have ek := keyId_txt (hk.id _ (List.mem_of_getElem? e))
        have ik : isIdent (txt k) = true := by
          have z := hk.id _ (List.mem_of_getElem? e)
          dsimp only at z ek
          rw [ek] at z
          exact z
        have ov : valOk v = true := hk.ok _ (List.mem_of_getElem? e)
        dsimp only at ek
        rw [ek]
        (try simp only [tIxO, rIsB, rNotB, tSeq, tIfS, tTest, tB, tOp, tUn, tVar, tC, tAsg, gName, tRet, tRetN, tCB, tCons, tNil, tLst_eq, tTup_eq, tDNewK_eq, tNext, tPar, tM0, tM1, tSl, tNoPart, tPart, rSlS, tAug, tAugS, tExf_eq, ipI, tChain, tCall, tDrop, tBM, tAnd, tOr, tNot, tAndV, tOrV, tNotV, tIf, tIsN, tNotN, rI, rI0, rU, rEq, rNe, gSub, cx_K, cx_K2, L2.start, wipe, scal_ii, scal_ss, scal_bb, scal_is, scal_si, scal_nn, List.map_cons, List.map_nil, List.length_cons, List.length_nil, List.cons_append, List.nil_append, List.append_nil, List.replicate, List.getElem?_cons_zero, List.getElem?_cons_succ, Option.some.injEq, exists_and_left, exists_eq_left', exists_eq_left, exists_eq, exists_eq', V.int.injEq, V.ref.injEq, V.str.injEq, V.bl.injEq, List.cons.injEq, and_true, true_and, false_and, exists_false, or_false, false_or, reduceCtorEq, List.set_cons_zero, List.set_cons_succ, Nat.reduceAdd, Nat.reduceSub, Int.reduceToNat, decide_eq_true_eq, if_true, if_false, Bool.false_eq_true, Bool.not_true, Bool.not_false, Bool.true_eq_false, ite_false, ite_true, ne_eq, not_false_eq_true, Int.reduceEq, kV])
        have w1 := word_len (show isWord (txt k) = true by unfold isIdent at ik; simp only [Bool.and_eq_true] at ik; exact ik.1.1)
        refine ⟨_, rfl, Nat.le_trans w1.2 (by decide), fun H3 s3 => ⟨_, rfl, ?_⟩⟩
        rw [ik]
        refine ite2 (fun z => by cases z) (fun _ => ?_)
        (try simp only [tIxO, rIsB, rNotB, tSeq, tIfS, tTest, tB, tOp, tUn, tVar, tC, tAsg, gName, tRet, tRetN, tCB, tCons, tNil, tLst_eq, tTup_eq, tDNewK_eq, tNext, tPar, tM0, tM1, tSl, tNoPart, tPart, rSlS, tAug, tAugS, tExf_eq, ipI, tChain, tCall, tDrop, tBM, tAnd, tOr, tNot, tAndV, tOrV, tNotV, tIf, tIsN, tNotN, rI, rI0, rU, rEq, rNe, gSub, cx_K, cx_K2, L2.start, wipe, scal_ii, scal_ss, scal_bb, scal_is, scal_si, scal_nn, List.map_cons, List.map_nil, List.length_cons, List.length_nil, List.cons_append, List.nil_append, List.append_nil, List.replicate, List.getElem?_cons_zero, List.getElem?_cons_succ, Option.some.injEq, exists_and_left, exists_eq_left', exists_eq_left, exists_eq, exists_eq', V.int.injEq, V.ref.injEq, V.str.injEq, V.bl.injEq, List.cons.injEq, and_true, true_and, false_and, exists_false, or_false, false_or, reduceCtorEq, List.set_cons_zero, List.set_cons_succ, Nat.reduceAdd, Nat.reduceSub, Int.reduceToNat, decide_eq_true_eq, if_true, if_false, Bool.false_eq_true, Bool.not_true, Bool.not_false, Bool.true_eq_false, ite_false, ite_true, ne_eq, not_false_eq_true, Int.reduceEq])
        refine ⟨_, rfl, ov, ⟨_, rfl, ?_⟩⟩
        refine ite2 (fun z => by cases z) (fun _ => ?_)
        (try simp only [tIxO, rIsB, rNotB, tSeq, tIfS, tTest, tB, tOp, tUn, tVar, tC, tAsg, gName, tRet, tRetN, tCB, tCons, tNil, tLst_eq, tTup_eq, tDNewK_eq, tNext, tPar, tM0, tM1, tSl, tNoPart, tPart, rSlS, tAug, tAugS, tExf_eq, ipI, tChain, tCall, tDrop, tBM, tAnd, tOr, tNot, tAndV, tOrV, tNotV, tIf, tIsN, tNotN, rI, rI0, rU, rEq, rNe, gSub, cx_K, cx_K2, L2.start, wipe, scal_ii, scal_ss, scal_bb, scal_is, scal_si, scal_nn, List.map_cons, List.map_nil, List.length_cons, List.length_nil, List.cons_append, List.nil_append, List.append_nil, List.replicate, List.getElem?_cons_zero, List.getElem?_cons_succ, Option.some.injEq, exists_and_left, exists_eq_left', exists_eq_left, exists_eq, exists_eq', V.int.injEq, V.ref.injEq, V.str.injEq, V.bl.injEq, List.cons.injEq, and_true, true_and, false_and, exists_false, or_false, false_or, reduceCtorEq, List.set_cons_zero, List.set_cons_succ, Nat.reduceAdd, Nat.reduceSub, Int.reduceToNat, decide_eq_true_eq, if_true, if_false, Bool.false_eq_true, Bool.not_true, Bool.not_false, Bool.true_eq_false, ite_false, ite_true, ne_eq, not_false_eq_true, Int.reduceEq])
        exact ⟨s3 _ _ (s2 _ _ lk), fun b u e => s3 _ _ (s2 _ _ (s1 _ _ e))⟩
      · rintro o σ' H1 lk ⟨s1, o1, o2, rfl⟩
        (try simp only [tIxO, rIsB, rNotB, tSeq, tIfS, tTest, tB, tOp, tUn, tVar, tC, tAsg, gName, tRet, tRetN, tCB, tCons, tNil, tLst_eq, tTup_eq, tDNewK_eq, tNext, tPar, tM0, tM1, tSl, tNoPart, tPart, rSlS, tAug, tAugS, tExf_eq, ipI, tChain, tCall, tDrop, tBM, tAnd, tOr, tNot, tAndV, tOrV, tNotV, tIf, tIsN, tNotN, rI, rI0, rU, rEq, rNe, gSub, cx_K, cx_K2, L2.start, wipe, scal_ii, scal_ss, scal_bb, scal_is, scal_si, scal_nn, List.map_cons, List.map_nil, List.length_cons, List.length_nil, List.cons_append, List.nil_append, List.append_nil, List.replicate, List.getElem?_cons_zero, List.getElem?_cons_succ, Option.some.injEq, exists_and_left, exists_eq_left', exists_eq_left, exists_eq, exists_eq', V.int.injEq, V.ref.injEq, V.str.injEq, V.bl.injEq, List.cons.injEq, and_true, true_and, false_and, exists_false, or_false, false_or, reduceCtorEq, List.set_cons_zero, List.set_cons_succ, Nat.reduceAdd, Nat.reduceSub, Int.reduceToNat, decide_eq_true_eq, if_true, if_false, Bool.false_eq_true, Bool.not_true, Bool.not_false, Bool.true_eq_false, ite_false, ite_true, ne_eq, not_false_eq_true, Int.reduceEq])
        exact ⟨kvs, .inl upd_same, fun p hp => q p _ (same_none (unlock_same h1 s1) hp) ((unlock_same h1 s1).trans (same_new hp)) upd_same⟩

/-- what Env takes: an environment, or a dict of good bindings -/
def Src (C : Addr) (H : Hp) (b : Addr) (kvs : Tbl) : Prop := (EnvAt C H b kvs ∨ H b = some (.dK kvs)) ∧ TOk kvs ∧ kvs.length ≤ 60
/-- an environment with a table that is new -/
def EnvN (C : Addr) (H H' : Hp) (x : Addr) (t : Tbl) : Prop := ∃ dx d, H' x = some (.ins C dx [("table", .ref d)]) ∧ H' d = some (.dK t) ∧ H d = none
theorem EnvN.at_ {C : Addr} {H H' : Hp} {x : Addr} {t : Tbl} (h : EnvN C H H' x t) : EnvAt C H' x t := by
  obtain ⟨dx, d, a, b, _⟩ := h
  exact ⟨dx, d, a, b⟩
def spInit (C : Addr) : Sp := fun vs H Q _ => ∃ (x dx b : Addr) (kvs : Tbl), vs = [.ref x, .ref b] ∧ H x = some (.ins C dx []) ∧ Src C H b kvs ∧ ∀ s H', Srt kvs s → EnvN C H H' x s → ExT x H H' → Q .non H'
theorem keys_names {t : Tbl} (h : TOk t) : (t.map fun kv => kV kv.1) = (names t).map V.str := by
  have e : (t.map fun kv => kV kv.1) = (t.map (·.1)).map kV := by rw [List.map_map]; rfl
  rw [e, h.keys, List.map_map]
  rfl
theorem ok_Env_init (T : Txt K mg) : FnOk P w K mg base CX0 4 T.i_Env_init.a T.i_Env_init.d ["self", "bindings"] (spInit T.e_Env.C) := by
  refine FunD.okN T.i_Env_init.F sc_Env_init (fun vs H Q E h => ?_) (fun cdv A outer s H vs Q E hr h => ?_)
  · obtain ⟨x, _, _, _, rfl, _⟩ := h
    rfl
  · obtain ⟨x, dx, b, kvs, rfl, hx, ⟨hb, hk, hl⟩, q⟩ := h
    have hu := hr.units
    refine ⟨_, (pss_cons (ps_set (i := 2) sc_Env_init.nd rfl (Or.inr rfl) (pe_ifExp (pt_cmpR op_isN (pv 1) pe_non (nomark _)) pe_dnewK (pe_call (ok_checked T) (hr.mono (by decide)) (by rfl) T.d_checked.g T.d_checked.F.kp T.d_checked.b .nil pass0 (pa_cons (pv 1) pa_nil))))
      (pss_one (ps_fld (pv 0) (pe_dc (own := [("name", 3)]) (tt := tYes) (by rfl) sc_Env_init.nd (pi_list (pe_callB cr_sortedS (by rfl) T.z_sorted (by decide +kernel) (pa_cons (pe_callTy (call_listD rfl) (by rfl) T.z_list (by decide +kernel) (pa_cons (pv 2) pa_nil)) pa_nil))) (blkOk_by (own := [("name", 3)]) (N := ["self", "bindings", "table", "name"]) (sc := defScope s_Env_init) (by decide +kernel)) (fun _ _ _ _ _ => pg_name (i := 3) sc_Env_init.nd rfl (Or.inl rfl)) (fun _ _ _ _ _ => pts_nil) (fun _ _ _ _ _ => (pv 3)) (fun _ _ _ _ _ => (pe_dget (hu_of hr) (pv 2) (pv 3) (fun _ _ => rfl)))) rfl))), ?_⟩
    (try simp only [tIxO, rIsB, rNotB, tSeq, tIfS, tTest, tB, tOp, tUn, tVar, tC, tAsg, gName, tRet, tRetN, tCB, tCons, tNil, tLst_eq, tTup_eq, tDNewK_eq, tNext, tPar, tM0, tM1, tSl, tNoPart, tPart, rSlS, tAug, tAugS, tExf_eq, ipI, tChain, tCall, tDrop, tBM, tAnd, tOr, tNot, tAndV, tOrV, tNotV, tIf, tIsN, tNotN, rI, rI0, rU, rEq, rNe, gSub, cx_K, cx_K2, L2.start, wipe, scal_ii, scal_ss, scal_bb, scal_is, scal_si, scal_nn, List.map_cons, List.map_nil, List.length_cons, List.length_nil, List.cons_append, List.nil_append, List.append_nil, List.replicate, List.getElem?_cons_zero, List.getElem?_cons_succ, Option.some.injEq, exists_and_left, exists_eq_left', exists_eq_left, exists_eq, exists_eq', V.int.injEq, V.ref.injEq, V.str.injEq, V.bl.injEq, List.cons.injEq, and_true, true_and, false_and, exists_false, or_false, false_or, reduceCtorEq, List.set_cons_zero, List.set_cons_succ, Nat.reduceAdd, Nat.reduceSub, Int.reduceToNat, decide_eq_true_eq, if_true, if_false, Bool.false_eq_true, Bool.not_true, Bool.not_false, Bool.true_eq_false, ite_false, ite_true, ne_eq, not_false_eq_true, Int.reduceEq, sFld])
    refine ⟨b, kvs, rfl, hb.elim .inl (fun h => .inr ⟨h, hk, by omega⟩), fun p H1 np s1 r1 => ?_⟩
    (try simp only [tIxO, rIsB, rNotB, tSeq, tIfS, tTest, tB, tOp, tUn, tVar, tC, tAsg, gName, tRet, tRetN, tCB, tCons, tNil, tLst_eq, tTup_eq, tDNewK_eq, tNext, tPar, tM0, tM1, tSl, tNoPart, tPart, rSlS, tAug, tAugS, tExf_eq, ipI, tChain, tCall, tDrop, tBM, tAnd, tOr, tNot, tAndV, tOrV, tNotV, tIf, tIsN, tNotN, rI, rI0, rU, rEq, rNe, gSub, cx_K, cx_K2, L2.start, wipe, scal_ii, scal_ss, scal_bb, scal_is, scal_si, scal_nn, List.map_cons, List.map_nil, List.length_cons, List.length_nil, List.cons_append, List.nil_append, List.append_nil, List.replicate, List.getElem?_cons_zero, List.getElem?_cons_succ, Option.some.injEq, exists_and_left, exists_eq_left', exists_eq_left, exists_eq, exists_eq', V.int.injEq, V.ref.injEq, V.str.injEq, V.bl.injEq, List.cons.injEq, and_true, true_and, false_and, exists_false, or_false, false_or, reduceCtorEq, List.set_cons_zero, List.set_cons_succ, Nat.reduceAdd, Nat.reduceSub, Int.reduceToNat, decide_eq_true_eq, if_true, if_false, Bool.false_eq_true, Bool.not_true, Bool.not_false, Bool.true_eq_false, ite_false, ite_true, ne_eq, not_false_eq_true, Int.reduceEq])
    refine dcC_go (K := K) (C := fun a H3 => ∃ ys : List Str, ys.Perm (names kvs) ∧ sortedS ys = true ∧ H3 a = some (.lst (ys.map V.str)) ∧ Same H1 H3) (fun R r => ?_) (fun a H3 c => ?_)
    · (try simp only [tIxO, rIsB, rNotB, tSeq, tIfS, tTest, tB, tOp, tUn, tVar, tC, tAsg, gName, tRet, tRetN, tCB, tCons, tNil, tLst_eq, tTup_eq, tDNewK_eq, tNext, tPar, tM0, tM1, tSl, tNoPart, tPart, rSlS, tAug, tAugS, tExf_eq, ipI, tChain, tCall, tDrop, tBM, tAnd, tOr, tNot, tAndV, tOrV, tNotV, tIf, tIsN, tNotN, rI, rI0, rU, rEq, rNe, gSub, cx_K, cx_K2, L2.start, wipe, scal_ii, scal_ss, scal_bb, scal_is, scal_si, scal_nn, List.map_cons, List.map_nil, List.length_cons, List.length_nil, List.cons_append, List.nil_append, List.append_nil, List.replicate, List.getElem?_cons_zero, List.getElem?_cons_succ, Option.some.injEq, exists_and_left, exists_eq_left', exists_eq_left, exists_eq, exists_eq', V.int.injEq, V.ref.injEq, V.str.injEq, V.bl.injEq, List.cons.injEq, and_true, true_and, false_and, exists_false, or_false, false_or, reduceCtorEq, List.set_cons_zero, List.set_cons_succ, Nat.reduceAdd, Nat.reduceSub, Int.reduceToNat, decide_eq_true_eq, if_true, if_false, Bool.false_eq_true, Bool.not_true, Bool.not_false, Bool.true_eq_false, ite_false, ite_true, ne_eq, not_false_eq_true, Int.reduceEq])
      refine ⟨kvs, .inl r1, fun l nl => ?_⟩
      have kn : (kvs.map fun kv => kV kv.1) = (names kvs).map V.str := keys_names hk
      rw [kn]
      refine ⟨l, _, rfl, .inl (.inl upd_same), ?_, fun ys p2 hp hs n2 => ?_⟩
      · unfold names
        rw [List.length_map]
        omega
      · exact r p2 _ ⟨ys, hp, hs, upd_same, (same_new nl).trans (same_new n2)⟩
    · obtain ⟨ys, hp, hs, ra, s3⟩ := c
      have lys : ys.length ≤ 60 := by
        rw [hp.length_eq]
        unfold names
        rw [List.length_map]
        exact hl
      refine dcL_go (fun y => (valV kvs (.inr y)).getD .non) (fun Q q => q) (.inl (.inl ra)) (hp.symm.nodup hk.names_nd) (by omega) (fun y H' R my s r => ?_) (fun y H' R my s r => ?_) (fun D H' nD s r => ?_)
      · (try simp only [tIxO, rIsB, rNotB, tSeq, tIfS, tTest, tB, tOp, tUn, tVar, tC, tAsg, gName, tRet, tRetN, tCB, tCons, tNil, tLst_eq, tTup_eq, tDNewK_eq, tNext, tPar, tM0, tM1, tSl, tNoPart, tPart, rSlS, tAug, tAugS, tExf_eq, ipI, tChain, tCall, tDrop, tBM, tAnd, tOr, tNot, tAndV, tOrV, tNotV, tIf, tIsN, tNotN, rI, rI0, rU, rEq, rNe, gSub, cx_K, cx_K2, L2.start, wipe, scal_ii, scal_ss, scal_bb, scal_is, scal_si, scal_nn, List.map_cons, List.map_nil, List.length_cons, List.length_nil, List.cons_append, List.nil_append, List.append_nil, List.replicate, List.getElem?_cons_zero, List.getElem?_cons_succ, Option.some.injEq, exists_and_left, exists_eq_left', exists_eq_left, exists_eq, exists_eq', V.int.injEq, V.ref.injEq, V.str.injEq, V.bl.injEq, List.cons.injEq, and_true, true_and, false_and, exists_false, or_false, false_or, reduceCtorEq, List.set_cons_zero, List.set_cons_succ, Nat.reduceAdd, Nat.reduceSub, Int.reduceToNat, decide_eq_true_eq, if_true, if_false, Bool.false_eq_true, Bool.not_true, Bool.not_false, Bool.true_eq_false, ite_false, ite_true, ne_eq, not_false_eq_true, Int.reduceEq])
        exact r
      · (try simp only [tIxO, rIsB, rNotB, tSeq, tIfS, tTest, tB, tOp, tUn, tVar, tC, tAsg, gName, tRet, tRetN, tCB, tCons, tNil, tLst_eq, tTup_eq, tDNewK_eq, tNext, tPar, tM0, tM1, tSl, tNoPart, tPart, rSlS, tAug, tAugS, tExf_eq, ipI, tChain, tCall, tDrop, tBM, tAnd, tOr, tNot, tAndV, tOrV, tNotV, tIf, tIsN, tNotN, rI, rI0, rU, rEq, rNe, gSub, cx_K, cx_K2, L2.start, wipe, scal_ii, scal_ss, scal_bb, scal_is, scal_si, scal_nn, List.map_cons, List.map_nil, List.length_cons, List.length_nil, List.cons_append, List.nil_append, List.append_nil, List.replicate, List.getElem?_cons_zero, List.getElem?_cons_succ, Option.some.injEq, exists_and_left, exists_eq_left', exists_eq_left, exists_eq, exists_eq', V.int.injEq, V.ref.injEq, V.str.injEq, V.bl.injEq, List.cons.injEq, and_true, true_and, false_and, exists_false, or_false, false_or, reduceCtorEq, List.set_cons_zero, List.set_cons_succ, Nat.reduceAdd, Nat.reduceSub, Int.reduceToNat, decide_eq_true_eq, if_true, if_false, Bool.false_eq_true, Bool.not_true, Bool.not_false, Bool.true_eq_false, ite_false, ite_true, ne_eq, not_false_eq_true, Int.reduceEq, tDGet])
        have my2 := (names_mem hk).mp (hp.subset my)
        refine ⟨_, ?_, r⟩
        have g := DGet.k (k := Sum.inr y) (s _ _ (s3 _ _ r1))
        cases e : valV kvs (Sum.inr y) with
        | none => rw [e] at my2; cases my2
        | some v => rw [e] at g; exact g
      · have sA : Same H H' := (s1.trans s3).trans s
        have hx' := sA _ _ hx
        refine ⟨_, dx, _, hx', T.e_Env.c, T.n_Env_table, by decide, ?_⟩
        have nDx : D ≠ x := by
          rintro rfl
          rw [(s1.trans s3) _ _ hx] at nD
          cases nD
        refine q (byN kvs ys) _ ⟨ys, hp, hs, rfl⟩ ⟨dx, D, upd_same, ?_, same_none (s1.trans s3) nD⟩ (exT_upd (Same.exT sA))
        rw [upd_ne nDx]
        exact r
/-- Env(b): a new object -/
def NewEnv (C : Addr) (kvs : Tbl) (H : Hp) (Q : VK) : Prop := ∀ x s H', H x = none → Same H H' → Srt kvs s → EnvN C H H' x s → Q (.ref x) H'
theorem make_env {C b : Addr} {kvs : Tbl} {H : Hp} {Q : VK} {E : XK} (hb : Src C H b kvs) (q : NewEnv C kvs H Q) : ∀ x dx, H x = none → H dx = none → dx ≠ x → spInit C (.ref x :: ([.ref b] ++ [])) (upd (upd H dx (.own x)) x (.ins C dx [])) (fun v H2 => v = .non ∧ Q (.ref x) H2) E := by
  intro x dx nx ndx ne
  have n1 : (upd H dx (.own x)) x = none := by rw [upd_ne ne.symm]; exact nx
  have s0 : Same H (upd (upd H dx (.own x)) x (.ins C dx [])) := (same_new ndx).trans (same_new n1)
  refine ⟨x, dx, b, kvs, rfl, upd_same, ⟨hb.1.elim (fun h => .inl (h.same s0)) (fun h => .inr (s0 _ _ h)), hb.2⟩, fun s H' hs he v => ⟨rfl, q x s H' nx ?_ hs (by obtain ⟨e1, e2, a, b, c⟩ := he; exact ⟨e1, e2, a, b, same_none s0 c⟩)⟩⟩
  intro a o e
  have hax : a ≠ x := by
    rintro rfl
    rw [nx] at e
    cases e
  exact v _ _ hax (s0 _ _ e)
theorem same_put {H H1 : Hp} {p : Addr} {o : HO} (n : H p = none) (s : Same H H1) : Same H (upd H1 p o) := fun b u e => by
  rw [upd_ne (by rintro rfl; rw [n] at e; cases e)]
  exact s b u e
theorem NewEnv.from {C : Addr} {kvs : Tbl} {H H1 : Hp} {Q : VK} (q : NewEnv C kvs H Q) (s : Same H H1) : NewEnv C kvs H1 Q := fun x t H' nx sm hs he => q x t H' (same_none s nx) (s.trans sm) hs (by obtain ⟨e1, e2, a, b, c⟩ := he; exact ⟨e1, e2, a, b, same_none s c⟩)
theorem Src.same {C b : Addr} {kvs : Tbl} {H H' : Hp} (h : Src C H b kvs) (s : Same H H') : Src C H' b kvs := ⟨h.1.elim (fun h => .inl (h.same s)) (fun h => .inr (s _ _ h)), h.2⟩

end
end Own

set_option Elab.async false
set_option linter.all false
set_option maxRecDepth 100000
set_option maxHeartbeats 4000000
namespace Own
open PySem PySem.Spec PyProof.Rows L2
section
variable {P : Program} {w : World} {K : PySem.W.Frag} {mg : Str → Option Value} {base : Heap}
/-! ### layers and scopes -/
def LayF (d : Addr) (p : V) (n : Nat) : List (Str × V) := [("table", .ref d), ("parent", p), ("level", .int (n : Int))]
/-- the layer at l: its tables, innermost first -/
def Lay (C r : Addr) (H : Hp) : Addr → List Tbl → Prop
  | _, [] => False
  | l, t :: ts => ∃ dx d, H d = some (.dK t) ∧ ((ts = [] ∧ l = r ∧ H l = some (.ins C dx (LayF d .non 0))) ∨ ∃ l', Lay C r H l' ts ∧ H l = some (.ins C dx (LayF d (.ref l') ts.length)))
def Kp (H H' : Hp) : Prop := (∀ c C dx fs, H c = some (.ins C dx fs) → H' c = some (.ins C dx fs)) ∧ ∀ c kvs, H c = some (.dK kvs) → H' c = some (.dK kvs)
theorem Kp.same {H H' : Hp} (s : Same H H') : Kp H H' := ⟨fun _ _ _ _ e => s _ _ e, fun _ _ e => s _ _ e⟩
def spLayer (C : Addr) : Sp := fun vs H Q _ => ∃ (x dx d : Addr) (t : Tbl) (p : V), vs = [.ref x, .ref d, p] ∧ H x = some (.ins C dx []) ∧ H d = some (.dK t) ∧ (p = .non ∨ ∃ y ts r, p = .ref y ∧ Lay C r H y ts) ∧
  ∀ n : Nat, (p = .non → n = 0) → (∀ y ts r, p = .ref y → Lay C r H y ts → n = ts.length) → Q .non (upd H x (.ins C dx (LayF d p n)))
theorem Lay.top {C r : Addr} {H : Hp} {l : Addr} {t : Tbl} {ts : List Tbl} (h : Lay C r H l (t :: ts)) : ∃ dx d p, H l = some (.ins C dx (LayF d p ts.length)) ∧ H d = some (.dK t) := by
  obtain ⟨dx, d, hd, ⟨rfl, _, e⟩ | ⟨l', _, e⟩⟩ := h
  · exact ⟨dx, d, _, e, hd⟩
  · exact ⟨dx, d, _, e, hd⟩
theorem Lay.ne {C r : Addr} {H : Hp} {l : Addr} {ts : List Tbl} (h : Lay C r H l ts) : ∃ t r, ts = t :: r := by
  cases ts with
  | nil => exact h.elim
  | cons t r => exact ⟨t, r, rfl⟩
theorem upd_twice {H : Hp} {x : Addr} {a b : HO} : upd (upd H x a) x b = upd H x b := by
  funext c
  by_cases h : c = x
  · rw [h, upd_same, upd_same]
  · rw [upd_ne h, upd_ne h, upd_ne h]
theorem Lay.len {C r r2 : Addr} {H : Hp} {l : Addr} {ts us : List Tbl} (a : Lay C r H l ts) (b : Lay C r2 H l us) : ts.length = us.length := by
  obtain ⟨t, rl, rfl⟩ := a.ne
  obtain ⟨u, rr, rfl⟩ := b.ne
  obtain ⟨dx, d, p, e1, _⟩ := a.top
  obtain ⟨dy, d2, p2, e2, _⟩ := b.top
  rw [e1] at e2
  have z : LayF d p rl.length = LayF d2 p2 rr.length := by
    injection e2 with e2
    injection e2
  unfold LayF at z
  simp only [List.cons.injEq, Prod.mk.injEq, V.int.injEq] at z
  have := z.2.2.1.2
  simp only [List.length_cons]
  omega
theorem ok_Layer_init (T : Txt K mg) : FnOk P w K mg base CX0 1 T.i_Layer_init.a T.i_Layer_init.d ["self", "table", "parent"] (spLayer T.e_Layer.C) := by
  refine T.i_Layer_init.F.ok sc_Layer_init (fun vs H Q E h => ?_) (fun cdv A outer s H vs Q E hr h => ?_)
  · obtain ⟨x, _, d, _, p, rfl, _⟩ := h
    rfl
  · obtain ⟨x, dx, d, t, p, rfl, hx, hd, hp, q⟩ := h
    have hu := hr.units
    refine ⟨_, (pss_cons (ps_fld (pv 0) (pv 1) rfl)
      (pss_cons (ps_fld (pv 0) (pv 2) rfl)
      (pss_one (ps_fld (pv 0) (pe_ifExp (pt_cmpR op_isN (pv 2) pe_non (nomark _)) pe_int (pe_op op_add (pe_fld (pv 2) rfl) pe_int)) rfl)))), ?_⟩
    (try simp only [tIxO, rIsB, rNotB, tSeq, tIfS, tTest, tB, tOp, tUn, tVar, tC, tAsg, gName, tRet, tRetN, tCB, tCons, tNil, tLst_eq, tTup_eq, tDNewK_eq, tNext, tPar, tM0, tM1, tSl, tNoPart, tPart, rSlS, tAug, tAugS, tExf_eq, ipI, tChain, tCall, tDrop, tBM, tAnd, tOr, tNot, tAndV, tOrV, tNotV, tIf, tIsN, tNotN, rI, rI0, rU, rEq, rNe, gSub, cx_K, cx_K2, L2.start, wipe, scal_ii, scal_ss, scal_bb, scal_is, scal_si, scal_nn, List.map_cons, List.map_nil, List.length_cons, List.length_nil, List.cons_append, List.nil_append, List.append_nil, List.replicate, List.getElem?_cons_zero, List.getElem?_cons_succ, Option.some.injEq, exists_and_left, exists_eq_left', exists_eq_left, exists_eq, exists_eq', V.int.injEq, V.ref.injEq, V.str.injEq, V.bl.injEq, List.cons.injEq, and_true, true_and, false_and, exists_false, or_false, false_or, reduceCtorEq, List.set_cons_zero, List.set_cons_succ, Nat.reduceAdd, Nat.reduceSub, Int.reduceToNat, decide_eq_true_eq, if_true, if_false, Bool.false_eq_true, Bool.not_true, Bool.not_false, Bool.true_eq_false, ite_false, ite_true, ne_eq, not_false_eq_true, Int.reduceEq, sFld])
    have c := T.e_Layer.c
    refine ⟨_, dx, _, hx, c, T.n_Layer_table, (show 0 < 1000 by decide), _, dx, _, upd_same, c, T.n_Layer_parent, (show 1 < 1000 by decide), ?_⟩
    rw [upd_twice]
    rcases hp with rfl | ⟨y, ts, r0, rfl, hy⟩
    · refine ite2 (fun _ => ?_) (fun z => absurd rfl z)
      refine ⟨_, dx, _, upd_same, c, T.n_Layer_level, (show 2 < 1000 by decide), ?_⟩
      rw [upd_twice]
      exact q 0 (fun _ => rfl) (fun y ts r e => by cases e)
    · refine ite2 (fun z => by cases z) (fun _ => ?_)
      obtain ⟨t1, r1, rfl⟩ := hy.ne
      obtain ⟨dy, d1, p1, hy1, _⟩ := hy.top
      have nyx : y ≠ x := fun e => by rw [e, hx] at hy1; cases hy1
      refine fld_go (fun Q q => ⟨_, rfl, q⟩) (by rw [upd_ne nyx]; exact hy1) c T.n_Layer_level rfl ⟨_, rfl, _, dx, _, upd_same, c, T.n_Layer_level, (show 2 < 1000 by decide), ?_⟩
      rw [upd_twice]
      have e1 : ((r1.length : Int) + 1) = ((t1 :: r1).length : Int) := rfl
      rw [e1]
      refine q _ (fun e => by cases e) (fun y2 ts2 r2 e h2 => ?_)
      cases e
      exact hy.len h2
def ScpF (r l st : Addr) (n : Int) (m : Str) : List (Str × V) := [("root", .ref r), ("layer", .ref l), ("stand", .ref st), ("taken", .int n), ("mode", .str m)]
def spUse (S : Addr) : Sp := fun vs H Q _ => ∃ (x dx : Addr) (fs : List (Str × V)) (m : Str), vs = [.ref x, .str m] ∧ H x = some (.ins S dx fs) ∧ fs.length < 1000 ∧ (m = "chain" ∨ m = "cells") ∧ Q .non (upd H x (.ins S dx (putF "mode" (.str m) fs)))
theorem ok_Scope_use (T : Txt K mg) : FnOk P w K mg base CX0 1 T.i_Scope_use.a T.i_Scope_use.d ["self", "engine"] (spUse T.e_Scope.C) := by
  refine T.i_Scope_use.F.ok sc_Scope_use (fun vs H Q E h => ?_) (fun cdv A outer s H vs Q E hr h => ?_)
  · obtain ⟨x, _, _, m, rfl, _⟩ := h
    rfl
  · obtain ⟨x, dx, fs, m, rfl, hx, lf, hm, q⟩ := h
    have hu := hr.units
    refine ⟨_, (pss_cons (ps_if (PW.pt (pw_or (pt_not (pt_val (pe_callB call_isi (by rfl) T.z_isinstance (by decide +kernel) (pa_cons (pv 1) (pa_cons (pe_bltn (v := .ty "str") rfl T.z_str (by decide +kernel) rfl) pa_nil))))) (pw_or1 (pt_cmpR op_notIn_seq (pv 1) (pe_glob (v := .ref T.k_ENGINES) rfl T.m_ENGINES rfl) (by rfl))))) (pss_one ps_dead) pss_nil)
      (pss_one (ps_fld (pv 0) (pv 1) rfl))), ?_⟩
    (try simp only [tIxO, rIsB, rNotB, tSeq, tIfS, tTest, tB, tOp, tUn, tVar, tC, tAsg, gName, tRet, tRetN, tCB, tCons, tNil, tLst_eq, tTup_eq, tDNewK_eq, tNext, tPar, tM0, tM1, tSl, tNoPart, tPart, rSlS, tAug, tAugS, tExf_eq, ipI, tChain, tCall, tDrop, tBM, tAnd, tOr, tNot, tAndV, tOrV, tNotV, tIf, tIsN, tNotN, rI, rI0, rU, rEq, rNe, gSub, cx_K, cx_K2, L2.start, wipe, scal_ii, scal_ss, scal_bb, scal_is, scal_si, scal_nn, List.map_cons, List.map_nil, List.length_cons, List.length_nil, List.cons_append, List.nil_append, List.append_nil, List.replicate, List.getElem?_cons_zero, List.getElem?_cons_succ, Option.some.injEq, exists_and_left, exists_eq_left', exists_eq_left, exists_eq, exists_eq', V.int.injEq, V.ref.injEq, V.str.injEq, V.bl.injEq, List.cons.injEq, and_true, true_and, false_and, exists_false, or_false, false_or, reduceCtorEq, List.set_cons_zero, List.set_cons_succ, Nat.reduceAdd, Nat.reduceSub, Int.reduceToNat, decide_eq_true_eq, if_true, if_false, Bool.false_eq_true, Bool.not_true, Bool.not_false, Bool.true_eq_false, ite_false, ite_true, ne_eq, not_false_eq_true, Int.reduceEq, sFld])
    refine isi_go (.ty "str") (.base (.str _)) T.q_str_str ⟨_, rfl, ?_⟩
    refine ite2 (fun z => by cases z) (fun _ => ?_)
    refine inT_go (T.s_ENGINES _) ⟨_, rfl, ?_⟩
    have e1 : (["chain", "cells"] : List Str).contains m = true := by
      rcases hm with rfl | rfl <;> decide +kernel
    rw [e1]
    refine ite2 (fun z => by cases z) (fun _ => ?_)
    exact ⟨_, dx, _, hx, T.e_Scope.c, T.n_Scope_mode, lf, q⟩
/-- the scope at x: root, layer, where it stands, steps, engine -/
def Scp (S : Addr) (H : Hp) (x r l st : Addr) (n : Int) (m : Str) : Prop := ∃ dx, H x = some (.ins S dx (ScpF r l st n m))
theorem Lay.kp {C r : Addr} {H H' : Hp} (k : Kp H H') : ∀ {ts : List Tbl} {l : Addr}, Lay C r H l ts → Lay C r H' l ts
  | [], _, h => h
  | _ :: _, _, ⟨dx, d, hd, h⟩ => ⟨dx, d, k.2 _ _ hd, h.elim (fun ⟨e, e2, z⟩ => .inl ⟨e, e2, k.1 _ _ _ _ z⟩) fun ⟨l', h', z⟩ => .inr ⟨l', Lay.kp k h', k.1 _ _ _ _ z⟩⟩
theorem sp_mono {C : Addr} {vs : List V} {H : Hp} {Q R : VK} {E : XK} (h : spInit C vs H Q E) (m : ∀ v H', Q v H' → R v H') : spInit C vs H R E := by
  obtain ⟨x, dx, b, kvs, e, a, c, q⟩ := h
  exact ⟨x, dx, b, kvs, e, a, c, fun s H' x1 x2 x3 => m _ _ (q s H' x1 x2 x3)⟩
/-- Env(b), its table new -/
theorem mkN_go {C b : Addr} {kvs : Tbl} {H : Hp} {R : Addr → Hp → Prop} {E : XK} (hb : Src C H b kvs) (q : ∀ x s H', Same H H' → H x = none → Srt kvs s → EnvN C H H' x s → R x H') :
    ∀ x1 dx, H x1 = none → H dx = none → ¬ dx = x1 → spInit C [.ref x1, .ref b] (upd (upd H dx (.own x1)) x1 (.ins C dx [])) (fun v H2 => v = .non ∧ R x1 H2) E := fun x1 dx a b c => by
  refine sp_mono (make_env (Q := fun v H2 => ∃ x1, v = .ref x1 ∧ R x1 H2) hb (fun x s H' nx sm hs he => ⟨x, rfl, q x s H' sm nx hs he⟩) x1 dx a b c) fun v H2 z => ?_
  obtain ⟨e, y, ey, r⟩ := z
  cases ey
  exact ⟨e, r⟩
/-- Env(b) -/
theorem mkT_go {C b : Addr} {kvs : Tbl} {H : Hp} {R : Addr → Hp → Prop} {E : XK} (hb : Src C H b kvs) (q : ∀ x s H', Same H H' → H x = none → Srt kvs s → EnvAt C H' x s → R x H') :
    ∀ x1 dx, H x1 = none → H dx = none → ¬ dx = x1 → spInit C [.ref x1, .ref b] (upd (upd H dx (.own x1)) x1 (.ins C dx [])) (fun v H2 => v = .non ∧ R x1 H2) E := mkN_go hb fun x s H' sm nx hs he => q x s H' sm nx hs he.at_
/-- Layer(d, p) -/
theorem mkL_go {L d : Addr} {t : Tbl} {p : V} {ts : List Tbl} {H : Hp} {R : Addr → Hp → Prop} {E : XK} (hd : H d = some (.dK t)) (hp : (p = .non ∧ ts = []) ∨ ∃ y r, p = .ref y ∧ Lay L r H y ts)
    (q : ∀ x dx H', Same H H' → H x = none → H' d = some (.dK t) → H' x = some (.ins L dx (LayF d p ts.length)) → R x H') :
    ∀ x dx, H x = none → H dx = none → ¬ dx = x → spLayer L [.ref x, .ref d, p] (upd (upd H dx (.own x)) x (.ins L dx [])) (fun v H2 => v = .non ∧ R x H2) E := fun x dx nx ndx ne => by
  have n1 : (upd H dx (.own x)) x = none := by rw [upd_ne (fun e => ne e.symm)]; exact nx
  have s0 : Same H (upd (upd H dx (.own x)) x (.ins L dx [])) := (same_new ndx).trans (same_new n1)
  refine ⟨x, dx, d, t, p, rfl, upd_same, s0 _ _ hd, hp.elim (fun h => .inl h.1) (fun ⟨y, r, e, h⟩ => .inr ⟨y, ts, r, e, h.kp (.same s0)⟩), fun n h0 h1 => ⟨rfl, ?_⟩⟩
  rw [upd_twice]
  have s1 : Same H (upd (upd H dx (.own x)) x (.ins L dx (LayF d p n))) := (same_new ndx).trans (same_new n1)
  have en : n = ts.length := by
    rcases hp with ⟨rfl, rfl⟩ | ⟨y, r, rfl, h⟩
    · exact h0 rfl
    · exact h1 y ts r rfl (h.kp (.same s0))
  rw [← en] at q
  exact q x dx _ s1 nx (s1 _ _ hd) upd_same
def spInitS (C S L : Addr) : Sp := fun vs H Q _ => ∃ (x dx b : Addr) (kvs : Tbl) (m : Str), vs = [.ref x, .ref b, .str m] ∧ H x = some (.ins S dx []) ∧ Src C H b kvs ∧ (m = "chain" ∨ m = "cells") ∧
  ∀ r s dr de H', Srt kvs s → H r = none → H de = none → H' r = some (.ins L dr (LayF de .non 0)) → H' de = some (.dK s) → H' x = some (.ins S dx (ScpF r r r 0 m)) → ExT x H H' → Q .non H'
theorem ok_Scope_init (T : Txt K mg) : FnOk P w K mg base CX0 6 T.i_Scope_init.a T.i_Scope_init.d ["self", "defaults", "engine"] (spInitS T.e_Env.C T.e_Scope.C T.e_Layer.C) := by
  refine FunD.okN T.i_Scope_init.F sc_Scope_init (fun vs H Q E h => ?_) (fun cdv A outer s H vs Q E hr h => ?_)
  · obtain ⟨x, _, b, _, m, rfl, _⟩ := h
    rfl
  · obtain ⟨x, dx, b, kvs, m, rfl, hx, ⟨hb, hk, hl⟩, hm, q⟩ := h
    have hu := hr.units
    refine ⟨_, (pss_cons (ps_fld (pv 0) (pe_make ⟨T.e_Layer.mks, T.i_Layer_init.at_, T.i_Layer_init.fn, T.e_Layer.kp⟩ (ok_Layer_init T) (hr.mono (by decide)) (by rfl) T.e_Layer.m T.i_Layer_init.b .nil pass0 (pa_cons (pe_fld (pe_make ⟨T.e_Env.mks, T.i_Env_init.at_, T.i_Env_init.fn, T.e_Env.kp⟩ (ok_Env_init T) (hr.mono (by decide)) (by rfl) T.e_Env.m T.i_Env_init.b .nil pass0 (pa_cons (pe_call (ok_checked T) (hr.mono (by decide)) (by rfl) T.d_checked.g T.d_checked.F.kp T.d_checked.b .nil pass0 (pa_cons (pv 1) pa_nil)) pa_nil)) rfl) (pa_cons pe_non pa_nil))) rfl)
      (pss_cons (ps_fld (pv 0) (pe_fld (pv 0) rfl) rfl)
      (pss_cons (ps_fld (pv 0) (pe_fld (pv 0) rfl) rfl)
      (pss_cons (ps_fld (pv 0) pe_int rfl)
      (pss_one (ps_expr (pe_meth (pv 0) T.e_Scope.c ⟨T.i_Scope_use.at_, T.i_Scope_use.fn, T.i_Scope_use.F.kp⟩ (ok_Scope_use T) (hr.mono (by decide)) T.i_Scope_use.b .nil pass0 (pa_cons (pv 2) pa_nil)))))))), ?_⟩
    (try simp only [tIxO, rIsB, rNotB, tSeq, tIfS, tTest, tB, tOp, tUn, tVar, tC, tAsg, gName, tRet, tRetN, tCB, tCons, tNil, tLst_eq, tTup_eq, tDNewK_eq, tNext, tPar, tM0, tM1, tSl, tNoPart, tPart, rSlS, tAug, tAugS, tExf_eq, ipI, tChain, tCall, tDrop, tBM, tAnd, tOr, tNot, tAndV, tOrV, tNotV, tIf, tIsN, tNotN, rI, rI0, rU, rEq, rNe, gSub, cx_K, cx_K2, L2.start, wipe, scal_ii, scal_ss, scal_bb, scal_is, scal_si, scal_nn, List.map_cons, List.map_nil, List.length_cons, List.length_nil, List.cons_append, List.nil_append, List.append_nil, List.replicate, List.getElem?_cons_zero, List.getElem?_cons_succ, Option.some.injEq, exists_and_left, exists_eq_left', exists_eq_left, exists_eq, exists_eq', V.int.injEq, V.ref.injEq, V.str.injEq, V.bl.injEq, List.cons.injEq, and_true, true_and, false_and, exists_false, or_false, false_or, reduceCtorEq, List.set_cons_zero, List.set_cons_succ, Nat.reduceAdd, Nat.reduceSub, Int.reduceToNat, decide_eq_true_eq, if_true, if_false, Bool.false_eq_true, Bool.not_true, Bool.not_false, Bool.true_eq_false, ite_false, ite_true, ne_eq, not_false_eq_true, Int.reduceEq, sFld, tMake, tMeth, tFld])
    refine ⟨b, kvs, rfl, hb.elim .inl (fun h => .inr ⟨h, hk, by omega⟩), fun p H1 np s1 r1 => ?_⟩
    refine mkN_go ⟨.inr r1, hk, hl⟩ fun e s0 H2 s2 ne hs he => ?_
    obtain ⟨dxe, de, h1, h2, nde⟩ := id he
    refine ⟨_, dxe, _, h1, T.e_Env.c, T.n_Env_table, _, rfl, ?_⟩
    refine mkL_go (ts := []) h2 (.inl ⟨rfl, rfl⟩) fun r dr H3 s3 nr hd3 hr3 => ?_
    have sA := (s1.trans s2).trans s3
    have hx3 := sA _ _ hx
    have c := T.e_Scope.c
    refine ⟨_, dx, _, hx3, c, T.n_Scope_root, (show 0 < 1000 by decide), _, dx, _, upd_same, c, T.n_Scope_root, _, rfl, _, dx, _, upd_same, c, T.n_Scope_layer, (show 1 < 1000 by decide), _, dx, _, upd_same, c, T.n_Scope_root, _, rfl, _, dx, _, upd_same, c, T.n_Scope_stand, (show 2 < 1000 by decide), _, dx, _, upd_same, c, T.n_Scope_taken, (show 3 < 1000 by decide), ?_⟩
    refine ⟨dx, _, upd_same, rfl, x, dx, _, m, rfl, upd_same, (show 4 < 1000 by decide), hm, ?_⟩
    simp only [upd_twice]
    have nrx : r ≠ x := fun e => by rw [e, (s1.trans s2) _ _ hx] at nr; cases nr
    refine q r s0 dr de _ hs (same_none (s1.trans s2) nr) (same_none s1 nde) ?_ ?_ upd_same (exT_upd (Same.exT sA))
    · rw [upd_ne nrx]
      exact hr3
    · rw [upd_ne (fun z => by rw [z, hx3] at hd3; cases hd3)]
      exact hd3
/-! ### what a scope tells -/
/-- the value of the innermost layer that binds y -/
def lookL : List Tbl → Str → Option V
  | [], _ => none
  | t :: r, y => match valV t (.inr y) with
    | some v => some v
    | none => lookL r y
/-- the scope at x stands at l, its layers hold ts; the root holds t0 -/
structure ScpOk (S L : Addr) (H : Hp) (x r l st : Addr) (n : Int) (m : Str) (ts : List Tbl) (t0 : Tbl) : Prop where
  at_ : Scp S H x r l st n m
  root : Lay L r H r [t0]
  lay : Lay L r H l (ts ++ [t0])
  std : ∃ ss, Lay L r H st ss ∧ ∀ t ∈ ss, TOk t
  ok0 : TOk t0
  ok : ∀ t ∈ ts, TOk t
theorem ScpOk.kp {S L x r l st : Addr} {H H' : Hp} {n : Int} {m : Str} {ts : List Tbl} {t0 : Tbl} (h : ScpOk S L H x r l st n m ts t0) (k : Kp H H') : ScpOk S L H' x r l st n m ts t0 :=
  { h with at_ := let ⟨dx, e⟩ := h.at_; ⟨dx, k.1 _ _ _ _ e⟩, root := h.root.kp k, lay := h.lay.kp k, std := let ⟨ss, e, ok⟩ := h.std; ⟨ss, e.kp k, ok⟩ }
def spEngine (S : Addr) : Sp := fun vs H Q _ => ∃ (x r l st : Addr) (n : Int) (m : Str), vs = [.ref x] ∧ Scp S H x r l st n m ∧ Q (.str m) H
theorem ok_Scope_engine (T : Txt K mg) : FnOk P w K mg base CX0 1 T.p_Scope_engine.a T.p_Scope_engine.d ["self"] (spEngine T.e_Scope.C) := by
  refine okG T.p_Scope_engine.F sc_Scope_engine (fun vs H Q E h => ?_) (fun cdv A outer s H vs Q E hr h => ?_)
  · obtain ⟨x, _, _, _, _, _, rfl, _⟩ := h
    rfl
  · obtain ⟨x, r, l, st, n, m, rfl, ⟨dx, e⟩, q⟩ := h
    refine ⟨_, (pss_one (ps_ret (pe_fld (pv 0) rfl))), ?_⟩
    (try simp only [tIxO, rIsB, rNotB, tSeq, tIfS, tTest, tB, tOp, tUn, tVar, tC, tAsg, gName, tRet, tRetN, tCB, tCons, tNil, tLst_eq, tTup_eq, tDNewK_eq, tNext, tPar, tM0, tM1, tSl, tNoPart, tPart, rSlS, tAug, tAugS, tExf_eq, ipI, tChain, tCall, tDrop, tBM, tAnd, tOr, tNot, tAndV, tOrV, tNotV, tIf, tIsN, tNotN, rI, rI0, rU, rEq, rNe, gSub, cx_K, cx_K2, L2.start, wipe, scal_ii, scal_ss, scal_bb, scal_is, scal_si, scal_nn, List.map_cons, List.map_nil, List.length_cons, List.length_nil, List.cons_append, List.nil_append, List.append_nil, List.replicate, List.getElem?_cons_zero, List.getElem?_cons_succ, Option.some.injEq, exists_and_left, exists_eq_left', exists_eq_left, exists_eq, exists_eq', V.int.injEq, V.ref.injEq, V.str.injEq, V.bl.injEq, List.cons.injEq, and_true, true_and, false_and, exists_false, or_false, false_or, reduceCtorEq, List.set_cons_zero, List.set_cons_succ, Nat.reduceAdd, Nat.reduceSub, Int.reduceToNat, decide_eq_true_eq, if_true, if_false, Bool.false_eq_true, Bool.not_true, Bool.not_false, Bool.true_eq_false, ite_false, ite_true, ne_eq, not_false_eq_true, Int.reduceEq])
    exact fld_go (fun Q q => ⟨_, rfl, q⟩) e T.e_Scope.c T.n_Scope_mode rfl q
def spDepth (S L : Addr) : Sp := fun vs H Q _ => ∃ (x r l st : Addr) (n : Int) (m : Str) (ts : List Tbl) (t0 : Tbl), vs = [.ref x] ∧ ScpOk S L H x r l st n m ts t0 ∧ Q (.int ts.length) H
theorem ok_Scope_depth (T : Txt K mg) : FnOk P w K mg base CX0 1 T.p_Scope_depth.a T.p_Scope_depth.d ["self"] (spDepth T.e_Scope.C T.e_Layer.C) := by
  refine okG T.p_Scope_depth.F sc_Scope_depth (fun vs H Q E h => ?_) (fun cdv A outer s H vs Q E hr h => ?_)
  · obtain ⟨x, _, _, _, _, _, _, _, rfl, _⟩ := h
    rfl
  · obtain ⟨x, r, l, st, n, m, ts, t0, rfl, W, q⟩ := h
    obtain ⟨dx, e⟩ := W.at_
    have hl := W.lay
    refine ⟨_, (pss_one (ps_ret (pe_fld (pe_fld (pv 0) rfl) rfl))), ?_⟩
    (try simp only [tIxO, rIsB, rNotB, tSeq, tIfS, tTest, tB, tOp, tUn, tVar, tC, tAsg, gName, tRet, tRetN, tCB, tCons, tNil, tLst_eq, tTup_eq, tDNewK_eq, tNext, tPar, tM0, tM1, tSl, tNoPart, tPart, rSlS, tAug, tAugS, tExf_eq, ipI, tChain, tCall, tDrop, tBM, tAnd, tOr, tNot, tAndV, tOrV, tNotV, tIf, tIsN, tNotN, rI, rI0, rU, rEq, rNe, gSub, cx_K, cx_K2, L2.start, wipe, scal_ii, scal_ss, scal_bb, scal_is, scal_si, scal_nn, List.map_cons, List.map_nil, List.length_cons, List.length_nil, List.cons_append, List.nil_append, List.append_nil, List.replicate, List.getElem?_cons_zero, List.getElem?_cons_succ, Option.some.injEq, exists_and_left, exists_eq_left', exists_eq_left, exists_eq, exists_eq', V.int.injEq, V.ref.injEq, V.str.injEq, V.bl.injEq, List.cons.injEq, and_true, true_and, false_and, exists_false, or_false, false_or, reduceCtorEq, List.set_cons_zero, List.set_cons_succ, Nat.reduceAdd, Nat.reduceSub, Int.reduceToNat, decide_eq_true_eq, if_true, if_false, Bool.false_eq_true, Bool.not_true, Bool.not_false, Bool.true_eq_false, ite_false, ite_true, ne_eq, not_false_eq_true, Int.reduceEq])
    have ln : ts.length = (ts ++ [t0]).length - 1 := by simp
    obtain ⟨t, rr, e2⟩ := hl.ne
    rw [e2] at hl ln
    obtain ⟨dl, d, p, g1, g2⟩ := hl.top
    refine fld_go (fun Q q => fld_go (fun Q q => ⟨_, rfl, q⟩) e T.e_Scope.c T.n_Scope_layer rfl q) g1 T.e_Layer.c T.n_Layer_level rfl ?_
    have : ts.length = rr.length := by rw [ln]; simp
    rw [← this]
    exact q

end
end Own

set_option Elab.async false
set_option linter.all false
set_option maxRecDepth 100000
set_option maxHeartbeats 4000000
namespace Own
open PySem PySem.Spec PyProof.Rows L2
section
variable {P : Program} {w : World} {K : PySem.W.Frag} {mg : Str → Option Value} {base : Heap}
theorem rd_same {H H' : Hp} {d : Addr} {u : HO} (s : Same H H') (h : Rd H d u) : Rd H' d u := h.elim (fun h => .inl (s _ _ h)) fun ⟨o, h⟩ => .inr ⟨o, s _ _ h⟩
/-- layers whose tables may be locked -/
def LayR (C : Addr) (H : Hp) : Addr → List Tbl → Prop
  | _, [] => False
  | l, t :: ts => ∃ dx d, Rd H d (.dK t) ∧ ((ts = [] ∧ H l = some (.ins C dx (LayF d .non 0))) ∨ ∃ l', LayR C H l' ts ∧ H l = some (.ins C dx (LayF d (.ref l') ts.length)))
theorem Lay.rd {C r : Addr} {H : Hp} : ∀ {ts : List Tbl} {l : Addr}, Lay C r H l ts → LayR C H l ts
  | [], _, h => h
  | _ :: _, _, ⟨dx, d, hd, h⟩ => ⟨dx, d, .inl hd, h.elim (fun ⟨e, _, z⟩ => .inl ⟨e, z⟩) fun ⟨l', h', z⟩ => .inr ⟨l', Lay.rd h', z⟩⟩
theorem LayR.same {C : Addr} {H H' : Hp} (s : Same H H') : ∀ {ts : List Tbl} {l : Addr}, LayR C H l ts → LayR C H' l ts
  | [], _, h => h
  | _ :: _, _, ⟨dx, d, hd, h⟩ => ⟨dx, d, rd_same s hd, h.elim (fun ⟨e, z⟩ => .inl ⟨e, s _ _ z⟩) fun ⟨l', h', z⟩ => .inr ⟨l', LayR.same s h', s _ _ z⟩⟩
theorem rd_lock {H : Hp} {d d0 : Addr} {t kvs : Tbl} {o : Obj} (b : Rd H d (.dK t)) (h0 : H d0 = some (.dK kvs)) : Rd (upd H d0 (.frz o (.dK kvs))) d (.dK t) := by
  by_cases g : d = d0
  · subst g
    rcases b with b | ⟨o', b⟩
    · rw [h0] at b
      cases b
      exact .inr ⟨o, upd_same⟩
    · rw [h0] at b
      cases b
  · rcases b with b | ⟨o', b⟩
    · exact .inl (by rw [upd_ne g]; exact b)
    · exact .inr ⟨o', by rw [upd_ne g]; exact b⟩
theorem LayR.lock {C : Addr} {H : Hp} {d0 : Addr} {kvs : Tbl} {o : Obj} (h0 : H d0 = some (.dK kvs)) : ∀ {ts : List Tbl} {l : Addr}, LayR C H l ts → LayR C (upd H d0 (.frz o (.dK kvs))) l ts
  | [], _, h => h
  | _ :: _, l, ⟨dx, d, hd, h⟩ => by
    have ne : ∀ {a : Addr} {D : Addr} {fs : List (Str × V)}, H l = some (.ins a D fs) → l ≠ d0 := fun e z => by rw [z, h0] at e; cases e
    refine ⟨dx, d, rd_lock hd h0, h.elim (fun ⟨e, z⟩ => .inl ⟨e, by rw [upd_ne (ne z)]; exact z⟩) fun ⟨l', h', z⟩ => .inr ⟨l', LayR.lock h0 h', by rw [upd_ne (ne z)]; exact z⟩⟩
theorem LayR.top {C : Addr} {H : Hp} {l : Addr} {t : Tbl} {ts : List Tbl} (h : LayR C H l (t :: ts)) : ∃ dx d p, H l = some (.ins C dx (LayF d p ts.length)) ∧ Rd H d (.dK t) := by
  obtain ⟨dx, d, hd, ⟨rfl, e⟩ | ⟨l', _, e⟩⟩ := h
  · exact ⟨dx, d, _, e, hd⟩
  · exact ⟨dx, d, _, e, hd⟩
theorem LayR.ne {C : Addr} {H : Hp} {l : Addr} {ts : List Tbl} (h : LayR C H l ts) : ∃ t r, ts = t :: r := by
  cases ts with
  | nil => exact h.elim
  | cons t r => exact ⟨t, r, rfl⟩
structure ScpR (S L : Addr) (H : Hp) (x r l st : Addr) (n : Int) (m : Str) (ts : List Tbl) (t0 : Tbl) : Prop where
  at_ : Scp S H x r l st n m
  root : LayR L H r [t0]
  lay : LayR L H l (ts ++ [t0])
theorem ScpOk.rd {S L x r l st : Addr} {H : Hp} {n : Int} {m : Str} {ts : List Tbl} {t0 : Tbl} (h : ScpOk S L H x r l st n m ts t0) : ScpR S L H x r l st n m ts t0 := ⟨h.at_, h.root.rd, h.lay.rd⟩
theorem ScpR.same {S L x r l st : Addr} {H H' : Hp} {n : Int} {m : Str} {ts : List Tbl} {t0 : Tbl} (h : ScpR S L H x r l st n m ts t0) (s : Same H H') : ScpR S L H' x r l st n m ts t0 :=
  ⟨let ⟨dx, e⟩ := h.at_; ⟨dx, s _ _ e⟩, h.root.same s, h.lay.same s⟩
theorem ScpR.lock {S L x r l st d0 : Addr} {H : Hp} {n : Int} {m : Str} {ts : List Tbl} {t0 kvs : Tbl} {o : Obj} (h : ScpR S L H x r l st n m ts t0) (h0 : H d0 = some (.dK kvs)) : ScpR S L (upd H d0 (.frz o (.dK kvs))) x r l st n m ts t0 :=
  ⟨let ⟨dx, e⟩ := h.at_; ⟨dx, by rw [upd_ne (fun z => by rw [z, h0] at e; cases e)]; exact e⟩, h.root.lock h0, h.lay.lock h0⟩
def NoStr (K : PySem.W.Frag) (H : Hp) (v : V) : Prop := ∃ ty, TyX K H v ty ∧ PySem.W.kitOne K ty (.type "str") = some false
def spHas (K : PySem.W.Frag) (S L : Addr) : Sp := fun vs H Q _ => ∃ (x r l st : Addr) (n : Int) (m : Str) (ts : List Tbl) (t0 : Tbl) (v : V), vs = [.ref x, v] ∧ ScpR S L H x r l st n m ts t0 ∧ ((∃ y : Str, v = .str y ∧ Q (.bl (valV t0 (.inr y)).isSome) H) ∨ (NoStr K H v ∧ Q (.bl false) H))
theorem ok_Scope_contains (T : Txt K mg) : FnOk P w K mg base CX0 1 T.i_Scope_contains.a T.i_Scope_contains.d ["self", "x"] (spHas K T.e_Scope.C T.e_Layer.C) := by
  refine T.i_Scope_contains.F.ok sc_Scope_contains (fun vs H Q E h => ?_) (fun cdv A outer s H vs Q E hr h => ?_)
  · obtain ⟨x, _, _, _, _, _, _, _, v, rfl, _⟩ := h
    rfl
  · obtain ⟨x, r, l, st, n, m, ts, t0, v, rfl, W, hv⟩ := h
    obtain ⟨dx, e⟩ := W.at_
    obtain ⟨dr, d, p, g1, g2⟩ := W.root.top
    refine ⟨_, (pss_one (ps_ret (pe_and (pe_callB call_isi (by rfl) T.z_isinstance (by decide +kernel) (pa_cons (pv 1) (pa_cons (pe_bltn (v := .ty "str") rfl T.z_str (by decide +kernel) rfl) pa_nil))) (pe_one (pe_cmp (pc_din (hu_of hr) (pv 1) (pe_fld (pe_fld (pv 0) rfl) rfl))))))), ?_⟩
    (try simp only [tIxO, rIsB, rNotB, tSeq, tIfS, tTest, tB, tOp, tUn, tVar, tC, tAsg, gName, tRet, tRetN, tCB, tCons, tNil, tLst_eq, tTup_eq, tDNewK_eq, tNext, tPar, tM0, tM1, tSl, tNoPart, tPart, rSlS, tAug, tAugS, tExf_eq, ipI, tChain, tCall, tDrop, tBM, tAnd, tOr, tNot, tAndV, tOrV, tNotV, tIf, tIsN, tNotN, rI, rI0, rU, rEq, rNe, gSub, cx_K, cx_K2, L2.start, wipe, scal_ii, scal_ss, scal_bb, scal_is, scal_si, scal_nn, List.map_cons, List.map_nil, List.length_cons, List.length_nil, List.cons_append, List.nil_append, List.append_nil, List.replicate, List.getElem?_cons_zero, List.getElem?_cons_succ, Option.some.injEq, exists_and_left, exists_eq_left', exists_eq_left, exists_eq, exists_eq', V.int.injEq, V.ref.injEq, V.str.injEq, V.bl.injEq, List.cons.injEq, and_true, true_and, false_and, exists_false, or_false, false_or, reduceCtorEq, List.set_cons_zero, List.set_cons_succ, Nat.reduceAdd, Nat.reduceSub, Int.reduceToNat, decide_eq_true_eq, if_true, if_false, Bool.false_eq_true, Bool.not_true, Bool.not_false, Bool.true_eq_false, ite_false, ite_true, ne_eq, not_false_eq_true, Int.reduceEq, tDIn])
    rcases hv with ⟨y, rfl, q⟩ | ⟨⟨ty, h, k⟩, q⟩
    · refine isi_go (.ty "str") (.base (.str _)) T.q_str_str ⟨_, rfl, ?_⟩
      refine ite2 (fun _ => ?_) (fun z => absurd rfl z)
      refine fld_go (fun Q q => fld_go (fun Q q => ⟨_, rfl, q⟩) e T.e_Scope.c T.n_Scope_root rfl q) g1 T.e_Layer.c T.n_Layer_table rfl ?_
      exact ⟨d, rfl, _, .inl ⟨t0, .inr y, g2, rfl, rfl⟩, q⟩
    · refine isi_go (.ty "str") h k ⟨_, rfl, ?_⟩
      exact ite2 (fun z => by cases z) (fun _ => q)
def lvl (H : Hp) (l : Addr) : Nat := match H l with
  | some (.ins _ _ fs) => (match fs.lookup ("level" : Str) with
    | some (V.int n) => n.toNat
    | _ => 0)
  | _ => 0
theorem lvl_of {C : Addr} {H : Hp} {l : Addr} {t : Tbl} {ts : List Tbl} (h : LayR C H l (t :: ts)) : lvl H l = ts.length := by
  obtain ⟨dx, d, p, e, _⟩ := h.top
  unfold lvl
  rw [e]
  rfl
/-- the layer that binds y, seen from l -/
def spBinder (S L : Addr) : Sp := fun vs H Q _ => ∃ (x r l st : Addr) (n : Int) (m : Str) (ts : List Tbl) (t0 : Tbl) (y : Str), vs = [.ref x, .str y] ∧ ScpR S L H x r l st n m ts t0 ∧ (valV t0 (.inr y)).isSome = true ∧
  ∀ l' t rest pre v, ts ++ [t0] = pre ++ t :: rest → LayR L H l' (t :: rest) → valV t (.inr y) = some v → lookL (ts ++ [t0]) y = some v → (∀ u ∈ pre, valV u (.inr y) = none) → Q (.ref l') H
theorem ok_Scope_binder (T : Txt K mg) : FnOk P w K mg base CX0 3 T.i_Scope_binder.a T.i_Scope_binder.d ["self", "name"] (spBinder T.e_Scope.C T.e_Layer.C) := by
  refine T.i_Scope_binder.F.ok sc_Scope_binder (fun vs H Q E h => ?_) (fun cdv A outer s H vs Q E hr h => ?_)
  · obtain ⟨x, _, _, _, _, _, _, _, y, rfl, _⟩ := h
    rfl
  · obtain ⟨x, r, l, st, n, m, ts, t0, y, rfl, W, hy, q⟩ := h
    have hu := hr.units
    obtain ⟨dx, e⟩ := id W.at_
    refine ⟨_, (pss_cons (ps_if (pt_cmpR (op_notInO T.in_Scope (okR (ok_Scope_contains T) T.i_Scope_contains.b) (hr.mono (by decide)) pass0) (pv 1) (pv 0) (by rfl)) (pss_one ps_dead) pss_nil)
      (pss_cons (ps_set (i := 2) sc_Scope_binder.nd rfl (Or.inl rfl) (pe_fld (pv 0) rfl))
      (pss_cons (ps_while PassesOwn.never (pt_cmp (pc_dnotin (hu_of hr) (pv 1) (pe_fld (pv 2) rfl))) (pss_one (ps_set (i := 2) sc_Scope_binder.nd rfl (Or.inl rfl) (pe_fld (pv 2) rfl))))
      (pss_one (ps_ret (pv 2)))))), ?_⟩
    (try simp only [tIxO, rIsB, rNotB, tSeq, tIfS, tTest, tB, tOp, tUn, tVar, tC, tAsg, gName, tRet, tRetN, tCB, tCons, tNil, tLst_eq, tTup_eq, tDNewK_eq, tNext, tPar, tM0, tM1, tSl, tNoPart, tPart, rSlS, tAug, tAugS, tExf_eq, ipI, tChain, tCall, tDrop, tBM, tAnd, tOr, tNot, tAndV, tOrV, tNotV, tIf, tIsN, tNotN, rI, rI0, rU, rEq, rNe, gSub, cx_K, cx_K2, L2.start, wipe, scal_ii, scal_ss, scal_bb, scal_is, scal_si, scal_nn, List.map_cons, List.map_nil, List.length_cons, List.length_nil, List.cons_append, List.nil_append, List.append_nil, List.replicate, List.getElem?_cons_zero, List.getElem?_cons_succ, Option.some.injEq, exists_and_left, exists_eq_left', exists_eq_left, exists_eq, exists_eq', V.int.injEq, V.ref.injEq, V.str.injEq, V.bl.injEq, List.cons.injEq, and_true, true_and, false_and, exists_false, or_false, false_or, reduceCtorEq, List.set_cons_zero, List.set_cons_succ, Nat.reduceAdd, Nat.reduceSub, Int.reduceToNat, decide_eq_true_eq, if_true, if_false, Bool.false_eq_true, Bool.not_true, Bool.not_false, Bool.true_eq_false, ite_false, ite_true, ne_eq, not_false_eq_true, Int.reduceEq, tDNotIn])
    refine ⟨x, dx, _, rfl, e, x, r, l, st, n, m, ts, t0, .str y, rfl, W, .inl ⟨y, rfl, _, rfl, _, rfl, ?_⟩⟩
    rw [hy]
    refine ite2 (fun z => by cases z) (fun _ => ?_)
    refine fld_go (fun Q q => ⟨_, rfl, q⟩) e T.e_Scope.c T.n_Scope_layer rfl ?_
    have start : ∃ t rest, ts ++ [t0] = t :: rest := by
      cases ts with
      | nil => exact ⟨_, _, rfl⟩
      | cons a b => exact ⟨_, _, rfl⟩
    obtain ⟨t1, r1, e1⟩ := start
    have lk : ∀ (pre : List Tbl) (t : Tbl) (rest : List Tbl), (∀ u ∈ pre, valV u (.inr y) = none) → lookL (pre ++ t :: rest) y = lookL (t :: rest) y := by
      intro pre
      induction pre with
      | nil => intro t rest _; rfl
      | cons a b ih =>
        intro t rest h
        show (match valV a (.inr y) with | some v => some v | none => lookL (b ++ t :: rest) y) = _
        rw [h a (by simp)]
        exact ih t rest fun u m => h u (by simp [m])
    refine while_by (fun σ' H' => H' = H ∧ ∃ l' t rest pre, σ' = [some (.ref x), some (.str y), some (.ref l')] ∧ ts ++ [t0] = pre ++ t :: rest ∧ LayR T.e_Layer.C H l' (t :: rest) ∧ ∀ u ∈ pre, valV u (.inr y) = none)
      (fun σ' H' => match σ'[2]? with
        | some (some (V.ref l)) => lvl H' l
        | _ => 0) ⟨rfl, l, t1, r1, [], rfl, e1, by rw [← e1]; exact W.lay, by simp⟩ (fun σ' H' p => ?_) (fun σ' H' Q1 Q2 im h => ?_)
    · obtain ⟨rfl, l', t, rest, pre, rfl, es, hl, no⟩ := p
      obtain ⟨dl, d, hd, hcase⟩ := id hl
      (try simp only [tIxO, rIsB, rNotB, tSeq, tIfS, tTest, tB, tOp, tUn, tVar, tC, tAsg, gName, tRet, tRetN, tCB, tCons, tNil, tLst_eq, tTup_eq, tDNewK_eq, tNext, tPar, tM0, tM1, tSl, tNoPart, tPart, rSlS, tAug, tAugS, tExf_eq, ipI, tChain, tCall, tDrop, tBM, tAnd, tOr, tNot, tAndV, tOrV, tNotV, tIf, tIsN, tNotN, rI, rI0, rU, rEq, rNe, gSub, cx_K, cx_K2, L2.start, wipe, scal_ii, scal_ss, scal_bb, scal_is, scal_si, scal_nn, List.map_cons, List.map_nil, List.length_cons, List.length_nil, List.cons_append, List.nil_append, List.append_nil, List.replicate, List.getElem?_cons_zero, List.getElem?_cons_succ, Option.some.injEq, exists_and_left, exists_eq_left', exists_eq_left, exists_eq, exists_eq', V.int.injEq, V.ref.injEq, V.str.injEq, V.bl.injEq, List.cons.injEq, and_true, true_and, false_and, exists_false, or_false, false_or, reduceCtorEq, List.set_cons_zero, List.set_cons_succ, Nat.reduceAdd, Nat.reduceSub, Int.reduceToNat, decide_eq_true_eq, if_true, if_false, Bool.false_eq_true, Bool.not_true, Bool.not_false, Bool.true_eq_false, ite_false, ite_true, ne_eq, not_false_eq_true, Int.reduceEq, tDNotIn])
      obtain ⟨dl2, d2, p2, g1, g2⟩ := hl.top
      refine fld_go (fun Q q => ⟨_, rfl, q⟩) g1 T.e_Layer.c T.n_Layer_table rfl ⟨d2, rfl, _, .inl ⟨t, .inr y, g2, rfl, rfl⟩, ?_⟩
      cases ev : valV t (.inr y) with
      | some v =>
        refine ite2 (fun z => by cases z) (fun _ => ?_)
        refine q l' t rest pre v es hl ev ?_ no
        rw [es, lk pre t rest no]
        show (match valV t (.inr y) with | some v => some v | none => lookL rest y) = _
        rw [ev]
      | none =>
        refine ite2 (fun _ => ?_) (fun z => absurd rfl z)
        rcases hcase with ⟨rfl, g⟩ | ⟨l2, h2, g⟩
        · have z := congrArg List.getLast? es
          simp only [List.getLast?_append, List.getLast?_singleton, Option.some_or, Option.some.injEq] at z
          rw [z, ev] at hy
          cases hy
        · obtain ⟨t2, r2, rfl⟩ := h2.ne
          refine fld_go (fun Q q => ⟨_, rfl, q⟩) g T.e_Layer.c T.n_Layer_parent rfl ⟨⟨rfl, l2, rfl, t2, r2, pre ++ [t], by rw [es]; simp, h2, fun u mu => ?_⟩, ?_⟩
          · rcases List.mem_append.mp mu with m | m
            · exact no u m
            · have e : u = t := by simpa using m
              rw [e]
              exact ev
          · show lvl H' l2 < lvl H' l'
            rw [lvl_of h2, lvl_of hl]
            simp
    · simp only [tB, tDNotIn, tVar, tFld] at h ⊢
      obtain ⟨v1, e1, x2, e2, a, C, dx, fs, v, ea, h1, h2, h3, h4, a2, o, e5, dg, c, ec, q1⟩ := h
      exact ⟨v1, e1, x2, e2, a, C, dx, fs, v, ea, h1, h2, h3, h4, a2, o, e5, dg, c, ec, im _ _ q1⟩
/-- scope[y] -/
def spGetS (S L : Addr) : Sp := fun vs H Q _ => ∃ (x r l st : Addr) (n : Int) (m : Str) (ts : List Tbl) (t0 : Tbl) (y : Str) (v : V), vs = [.ref x, .str y] ∧ ScpR S L H x r l st n m ts t0 ∧ (valV t0 (.inr y)).isSome = true ∧ lookL (ts ++ [t0]) y = some v ∧ Q v H
theorem ok_Scope_getitem (T : Txt K mg) : FnOk P w K mg base CX0 5 T.i_Scope_getitem.a T.i_Scope_getitem.d ["self", "at"] (spGetS T.e_Scope.C T.e_Layer.C) := by
  refine T.i_Scope_getitem.F.ok sc_Scope_getitem (fun vs H Q E h => ?_) (fun cdv A outer s H vs Q E hr h => ?_)
  · obtain ⟨x, _, _, _, _, _, _, _, y, _, rfl, _⟩ := h
    rfl
  · obtain ⟨x, r, l, st, n, m, ts, t0, y, v, rfl, W, hy, ev, q⟩ := h
    obtain ⟨dx, e⟩ := id W.at_
    refine ⟨_, (pss_one (ps_ret (pe_dget (hu_of hr) (pe_fld (pe_meth (pv 0) T.e_Scope.c ⟨T.i_Scope_binder.at_, T.i_Scope_binder.fn, T.i_Scope_binder.F.kp⟩ (ok_Scope_binder T) (hr.mono (by decide)) T.i_Scope_binder.b .nil pass0 (pa_cons (pv 1) pa_nil)) rfl) (pv 1) (fun _ _ => rfl)))), ?_⟩
    (try simp only [tIxO, rIsB, rNotB, tSeq, tIfS, tTest, tB, tOp, tUn, tVar, tC, tAsg, gName, tRet, tRetN, tCB, tCons, tNil, tLst_eq, tTup_eq, tDNewK_eq, tNext, tPar, tM0, tM1, tSl, tNoPart, tPart, rSlS, tAug, tAugS, tExf_eq, ipI, tChain, tCall, tDrop, tBM, tAnd, tOr, tNot, tAndV, tOrV, tNotV, tIf, tIsN, tNotN, rI, rI0, rU, rEq, rNe, gSub, cx_K, cx_K2, L2.start, wipe, scal_ii, scal_ss, scal_bb, scal_is, scal_si, scal_nn, List.map_cons, List.map_nil, List.length_cons, List.length_nil, List.cons_append, List.nil_append, List.append_nil, List.replicate, List.getElem?_cons_zero, List.getElem?_cons_succ, Option.some.injEq, exists_and_left, exists_eq_left', exists_eq_left, exists_eq, exists_eq', V.int.injEq, V.ref.injEq, V.str.injEq, V.bl.injEq, List.cons.injEq, and_true, true_and, false_and, exists_false, or_false, false_or, reduceCtorEq, List.set_cons_zero, List.set_cons_succ, Nat.reduceAdd, Nat.reduceSub, Int.reduceToNat, decide_eq_true_eq, if_true, if_false, Bool.false_eq_true, Bool.not_true, Bool.not_false, Bool.true_eq_false, ite_false, ite_true, ne_eq, not_false_eq_true, Int.reduceEq, tDGet, tMeth, tFld])
    refine ⟨dx, _, e, rfl, x, r, l, st, n, m, ts, t0, y, rfl, W, hy, fun l' t rest pre v' es hl ev' el no => ?_⟩
    obtain rfl : v' = v := Option.some.inj (el.symm.trans ev)
    obtain ⟨dl, d, p, g1, g2⟩ := hl.top
    exact ⟨l', rfl, _, _, _, g1, T.e_Layer.c, T.n_Layer_table, _, rfl, d, rfl, v', .inl ⟨t, .inr y, g2, rfl, ev'.symm⟩, q⟩
/-- the bindings of a layer -/
def spOwn (C S L : Addr) : Sp := fun vs H Q _ => ∃ (x r l st b : Addr) (n : Int) (m : Str) (ts : List Tbl) (t0 kvs : Tbl), vs = [.ref x, .ref b] ∧ ScpOk S L H x r l st n m ts t0 ∧ (EnvAt C H b kvs ∨ H b = some (.dK kvs)) ∧ TOk kvs ∧ kvs.length ≤ 60 ∧ (∀ p ∈ kvs, (valV t0 p.1).isSome = true) ∧
  ∀ p H', H p = none → Same H H' → H' p = some (.dK kvs) → Q (.ref p) H'
theorem ok_Scope_own (T : Txt K mg) : FnOk P w K mg base CX0 4 T.i_Scope_own.a T.i_Scope_own.d ["self", "bindings"] (spOwn T.e_Env.C T.e_Scope.C T.e_Layer.C) := by
  refine T.i_Scope_own.F.ok sc_Scope_own (fun vs H Q E h => ?_) (fun cdv A outer s H vs Q E hr h => ?_)
  · obtain ⟨x, _, _, _, b, _, _, _, _, _, rfl, _⟩ := h
    rfl
  · obtain ⟨x, r, l, st, b, n, m, ts, t0, kvs, rfl, W, hb, tk, hl, all, q⟩ := h
    have hu := hr.units
    refine ⟨_, (pss_cons (ps_set (i := 2) sc_Scope_own.nd rfl (Or.inl rfl) (pe_call (ok_checked T) (hr.mono (by decide)) (by rfl) T.d_checked.g T.d_checked.F.kp T.d_checked.b .nil pass0 (pa_cons (pv 1) pa_nil)))
      (pss_cons (ps_lock (ps_for PassesOwn.never rfl (pi_keys (pv 2)) (pg_name (i := 3) sc_Scope_own.nd rfl (Or.inl rfl)) (pss_one (ps_if (pt_cmpR (op_notInO T.in_Scope (okR (ok_Scope_contains T) T.i_Scope_contains.b) (hr.mono (by decide)) pass0) (pv 3) (pv 0) (by rfl)) (pss_one ps_dead) pss_nil))))
      (pss_one (ps_ret (pv 2))))), ?_⟩
    (try simp only [tIxO, rIsB, rNotB, tSeq, tIfS, tTest, tB, tOp, tUn, tVar, tC, tAsg, gName, tRet, tRetN, tCB, tCons, tNil, tLst_eq, tTup_eq, tDNewK_eq, tNext, tPar, tM0, tM1, tSl, tNoPart, tPart, rSlS, tAug, tAugS, tExf_eq, ipI, tChain, tCall, tDrop, tBM, tAnd, tOr, tNot, tAndV, tOrV, tNotV, tIf, tIsN, tNotN, rI, rI0, rU, rEq, rNe, gSub, cx_K, cx_K2, L2.start, wipe, scal_ii, scal_ss, scal_bb, scal_is, scal_si, scal_nn, List.map_cons, List.map_nil, List.length_cons, List.length_nil, List.cons_append, List.nil_append, List.append_nil, List.replicate, List.getElem?_cons_zero, List.getElem?_cons_succ, Option.some.injEq, exists_and_left, exists_eq_left', exists_eq_left, exists_eq, exists_eq', V.int.injEq, V.ref.injEq, V.str.injEq, V.bl.injEq, List.cons.injEq, and_true, true_and, false_and, exists_false, or_false, false_or, reduceCtorEq, List.set_cons_zero, List.set_cons_succ, Nat.reduceAdd, Nat.reduceSub, Int.reduceToNat, decide_eq_true_eq, if_true, if_false, Bool.false_eq_true, Bool.not_true, Bool.not_false, Bool.true_eq_false, ite_false, ite_true, ne_eq, not_false_eq_true, Int.reduceEq])
    refine ⟨b, kvs, rfl, hb.elim .inl (fun h => .inr ⟨h, tk, by omega⟩), fun p H1 np s1 r1 => ?_⟩
    refine forK_go r1 (fun H' Q q => ⟨_, rfl, q⟩) (fun o i σ' H' => (∀ c u, c ≠ p → H1 c = some u → H' c = some u) ∧ ScpR T.e_Scope.C T.e_Layer.C H' x r l st n m ts t0 ∧ ∃ o1, σ' = [some (.ref x), some (.ref b), some (.ref p), o1]) (fun o => ⟨fun c u hc e => by rw [upd_ne hc]; exact e, (W.rd.same s1).lock r1, _, rfl⟩) ?_ ?_
    · rintro o i k v σ' H2 e lk ⟨v2, W2, o1, rfl⟩
      have mk := List.mem_of_getElem? e
      obtain ⟨y, rfl⟩ : ∃ y, k = Sum.inr y := ⟨_, keyId_txt (tk.id _ mk)⟩
      have ek : kV (Sum.inr y) = .str y := rfl
      (try simp only [tIxO, rIsB, rNotB, tSeq, tIfS, tTest, tB, tOp, tUn, tVar, tC, tAsg, gName, tRet, tRetN, tCB, tCons, tNil, tLst_eq, tTup_eq, tDNewK_eq, tNext, tPar, tM0, tM1, tSl, tNoPart, tPart, rSlS, tAug, tAugS, tExf_eq, ipI, tChain, tCall, tDrop, tBM, tAnd, tOr, tNot, tAndV, tOrV, tNotV, tIf, tIsN, tNotN, rI, rI0, rU, rEq, rNe, gSub, cx_K, cx_K2, L2.start, wipe, scal_ii, scal_ss, scal_bb, scal_is, scal_si, scal_nn, List.map_cons, List.map_nil, List.length_cons, List.length_nil, List.cons_append, List.nil_append, List.append_nil, List.replicate, List.getElem?_cons_zero, List.getElem?_cons_succ, Option.some.injEq, exists_and_left, exists_eq_left', exists_eq_left, exists_eq, exists_eq', V.int.injEq, V.ref.injEq, V.str.injEq, V.bl.injEq, List.cons.injEq, and_true, true_and, false_and, exists_false, or_false, false_or, reduceCtorEq, List.set_cons_zero, List.set_cons_succ, Nat.reduceAdd, Nat.reduceSub, Int.reduceToNat, decide_eq_true_eq, if_true, if_false, Bool.false_eq_true, Bool.not_true, Bool.not_false, Bool.true_eq_false, ite_false, ite_true, ne_eq, not_false_eq_true, Int.reduceEq])
      rw [ek]
      obtain ⟨dx, ex⟩ := id W2.at_
      refine ⟨x, dx, _, rfl, ex, x, r, l, st, n, m, ts, t0, .str y, rfl, W2, .inl ⟨y, rfl, _, rfl, _, rfl, ?_⟩⟩
      rw [all _ mk]
      refine ite2 (fun z => by cases z) (fun _ => ?_)
      (try simp only [tIxO, rIsB, rNotB, tSeq, tIfS, tTest, tB, tOp, tUn, tVar, tC, tAsg, gName, tRet, tRetN, tCB, tCons, tNil, tLst_eq, tTup_eq, tDNewK_eq, tNext, tPar, tM0, tM1, tSl, tNoPart, tPart, rSlS, tAug, tAugS, tExf_eq, ipI, tChain, tCall, tDrop, tBM, tAnd, tOr, tNot, tAndV, tOrV, tNotV, tIf, tIsN, tNotN, rI, rI0, rU, rEq, rNe, gSub, cx_K, cx_K2, L2.start, wipe, scal_ii, scal_ss, scal_bb, scal_is, scal_si, scal_nn, List.map_cons, List.map_nil, List.length_cons, List.length_nil, List.cons_append, List.nil_append, List.append_nil, List.replicate, List.getElem?_cons_zero, List.getElem?_cons_succ, Option.some.injEq, exists_and_left, exists_eq_left', exists_eq_left, exists_eq, exists_eq', V.int.injEq, V.ref.injEq, V.str.injEq, V.bl.injEq, List.cons.injEq, and_true, true_and, false_and, exists_false, or_false, false_or, reduceCtorEq, List.set_cons_zero, List.set_cons_succ, Nat.reduceAdd, Nat.reduceSub, Int.reduceToNat, decide_eq_true_eq, if_true, if_false, Bool.false_eq_true, Bool.not_true, Bool.not_false, Bool.true_eq_false, ite_false, ite_true, ne_eq, not_false_eq_true, Int.reduceEq])
      exact ⟨lk, v2, W2⟩
    · rintro o σ' H2 lk ⟨v2, W2, o1, rfl⟩
      (try simp only [tIxO, rIsB, rNotB, tSeq, tIfS, tTest, tB, tOp, tUn, tVar, tC, tAsg, gName, tRet, tRetN, tCB, tCons, tNil, tLst_eq, tTup_eq, tDNewK_eq, tNext, tPar, tM0, tM1, tSl, tNoPart, tPart, rSlS, tAug, tAugS, tExf_eq, ipI, tChain, tCall, tDrop, tBM, tAnd, tOr, tNot, tAndV, tOrV, tNotV, tIf, tIsN, tNotN, rI, rI0, rU, rEq, rNe, gSub, cx_K, cx_K2, L2.start, wipe, scal_ii, scal_ss, scal_bb, scal_is, scal_si, scal_nn, List.map_cons, List.map_nil, List.length_cons, List.length_nil, List.cons_append, List.nil_append, List.append_nil, List.replicate, List.getElem?_cons_zero, List.getElem?_cons_succ, Option.some.injEq, exists_and_left, exists_eq_left', exists_eq_left, exists_eq, exists_eq', V.int.injEq, V.ref.injEq, V.str.injEq, V.bl.injEq, List.cons.injEq, and_true, true_and, false_and, exists_false, or_false, false_or, reduceCtorEq, List.set_cons_zero, List.set_cons_succ, Nat.reduceAdd, Nat.reduceSub, Int.reduceToNat, decide_eq_true_eq, if_true, if_false, Bool.false_eq_true, Bool.not_true, Bool.not_false, Bool.true_eq_false, ite_false, ite_true, ne_eq, not_false_eq_true, Int.reduceEq])
      refine q p _ np (fun c u e => ?_) upd_same
      have hc : c ≠ p := fun z => by rw [z, np] at e; cases e
      rw [upd_ne hc]
      exact v2 c u hc (s1 _ _ e)
theorem lookL_some {t0 : Tbl} {y : Str} (h : (valV t0 (.inr y)).isSome = true) : ∀ ts : List Tbl, ∃ v, lookL (ts ++ [t0]) y = some v
  | [] => by
    cases e : valV t0 (Sum.inr y : Key) with
    | none => rw [e] at h; cases h
    | some v => exact ⟨v, by show (match valV t0 (.inr y) with | some v => some v | none => none) = _; rw [e]⟩
  | t :: ts => by
    obtain ⟨v, hv⟩ := lookL_some h ts
    cases e : valV t (Sum.inr y : Key) with
    | none => exact ⟨v, by show (match valV t (.inr y) with | some v => some v | none => lookL (ts ++ [t0]) y) = _; rw [e]; exact hv⟩
    | some w => exact ⟨w, by show (match valV t (.inr y) with | some v => some v | none => lookL (ts ++ [t0]) y) = _; rw [e]⟩
theorem lookL_ok {y : Str} {v : V} : ∀ {ts : List Tbl}, (∀ t ∈ ts, TOk t) → lookL ts y = some v → valOk v = true
  | [], _, h => by cases h
  | t :: ts, a, h => by
    have h2 : (match valV t (.inr y) with | some v => some v | none => lookL ts y) = some v := h
    cases e : valV t (Sum.inr y : Key) with
    | none =>
      rw [e] at h2
      exact lookL_ok (fun t m => a t (by simp [m])) h2
    | some w =>
      rw [e] at h2
      obtain rfl := Option.some.inj h2
      exact (a t (by simp)).ok _ (valV_mem e)
/-- what a scope shows -/
def shown (ts : List Tbl) (t0 : Tbl) : Tbl := t0.map fun p => (p.1, (lookL (ts ++ [t0]) (txt p.1)).getD .non)
theorem shown_ok {ts : List Tbl} {t0 : Tbl} (h0 : TOk t0) (h : ∀ t ∈ ts, TOk t) : TOk (shown ts t0) := by
  refine ⟨?_, fun p hp => ?_, fun p hp => ?_⟩
  · unfold shown
    rw [keys_map]
    exact h0.nd
  · obtain ⟨z, hz, rfl⟩ := List.mem_map.mp hp
    exact h0.id z hz
  · obtain ⟨z, hz, rfl⟩ := List.mem_map.mp hp
    obtain ⟨k, w⟩ := z
    obtain ⟨y, rfl⟩ : ∃ y, k = Sum.inr y := ⟨_, keyId_txt (h0.id _ hz)⟩
    obtain ⟨v, hv⟩ := lookL_some (y := y) (valV_key.mpr (List.mem_map.mpr ⟨_, hz, rfl⟩)) ts
    show valOk ((lookL (ts ++ [t0]) y).getD .non) = true
    rw [hv]
    refine lookL_ok (fun t m => ?_) hv
    rcases List.mem_append.mp m with m | m
    · exact h t m
    · have e : t = t0 := by simpa using m
      rw [e]
      exact h0

end
end Own

set_option Elab.async false
set_option linter.all false
set_option maxRecDepth 100000
set_option maxHeartbeats 4000000
namespace Own
open PySem PySem.Spec PyProof.Rows L2
section
variable {P : Program} {w : World} {K : PySem.W.Frag} {mg : Str → Option Value} {base : Heap}
theorem Lay.ext {C S x r0 r l0 st dx : Addr} {n : Int} {m : Str} {H H' : Hp} (hx : H x = some (.ins S dx (ScpF r l0 st n m))) (ex : ExT x H H') : ∀ {ts : List Tbl} {l : Addr}, Lay C r0 H l ts → Lay C r0 H' l ts
  | [], _, h => h
  | _ :: _, l, ⟨dl, d, hd, h⟩ => by
    have nd : d ≠ x := fun z => by rw [z, hx] at hd; cases hd
    have ne : ∀ {p : V} {k : Nat}, H l = some (.ins C dl (LayF d p k)) → l ≠ x := fun e z => by
      rw [z, hx] at e
      injection e with e
      injection e with _ _ e
      unfold ScpF LayF at e
      injection e with e
      injection e with e
      exact absurd e (by decide)
    exact ⟨dl, d, ex _ _ nd hd, h.elim (fun ⟨e, e2, z⟩ => .inl ⟨e, e2, ex _ _ (ne z) z⟩) fun ⟨l', h', z⟩ => .inr ⟨l', Lay.ext hx ex h', ex _ _ (ne z) z⟩⟩
/-- the layer over the others, from what during tells -/
theorem ScpOk.push {S L x r l l' st dl d : Addr} {H G : Hp} {n n' : Int} {m m' : Str} {ts : List Tbl} {t0 kvs : Tbl} (W : ScpOk S L H x r l st n m ts t0) (ex : ExT x H G) (hx : Scp S G x r l' st n' m') (h1 : G l' = some (.ins L dl (LayF d (.ref l) (ts ++ [t0]).length))) (h2 : G d = some (.dK kvs)) (tk : TOk kvs) :
    ScpOk S L G x r l' st n' m' (kvs :: ts) t0 := by
  obtain ⟨dx, e⟩ := W.at_
  refine ⟨hx, W.root.ext e ex, ⟨dl, d, h2, .inr ⟨l, W.lay.ext e ex, h1⟩⟩, let ⟨ss, z, ok⟩ := W.std; ⟨ss, z.ext e ex, ok⟩, W.ok0, fun t mt => ?_⟩
  rcases List.mem_cons.mp mt with rfl | mt
  · exact tk
  · exact W.ok t mt
/-- what during asks of the scope and the bindings -/
structure DurG (C S L : Addr) (H : Hp) (x r l st b : Addr) (n : Int) (m : Str) (ts : List Tbl) (t0 kvs : Tbl) : Prop where
  sc : ScpOk S L H x r l st n m ts t0
  src : EnvAt C H b kvs ∨ H b = some (.dK kvs)
  tok : TOk kvs
  few : kvs.length ≤ 60
  all : ∀ p ∈ kvs, (valV t0 p.1).isSome = true
/-- the layer is on -/
structure DurH (S L : Addr) (H H3 : Hp) (x r l st l' dl d : Addr) (n : Int) (m : Str) (ts : List Tbl) (t0 kvs : Tbl) : Prop where
  ext : ExT x H H3
  nl : H l' = none
  nd : H d = none
  sc : Scp S H3 x r l' st n m
  lay : H3 l' = some (.ins L dl (LayF d (.ref l) (ts ++ [t0]).length))
  tab : H3 d = some (.dK kvs)
/-- the layer is taken away -/
def DurOff (S x l : Addr) (H4 : Hp) (Q : Hp → Prop) : Prop := ∀ dx fs, H4 x = some (.ins S dx fs) → fs.length < 1000 → Q (upd H4 x (.ins S dx (putF "layer" (.ref l) fs)))
/-- scope.during(bindings, action), whatever the action is, and whether it raises or not -/
def spDurT (P : Program) (w : World) (K : PySem.W.Frag) (mg : Str → Option Value) (base : Heap) (kf : Nat) (C S L : Addr) : SpS := fun outer s vs H Q E => ∃ (x r l st b f : Addr) (n : Int) (m : Str) (ts : List Tbl) (t0 kvs : Tbl) (B : CB) (a : Str) (fr : List Str) (ws : List (Option V)) (sp : SpC),
  vs = [.ref x, .ref b, .ref f] ∧ CbT P w K mg base (L2.CX P w) kf f B [a] fr sp ∧ NdefX.CellsAt B.cl fr ws s.heap H ∧ (∀ y c, B.cl.lookup y = some c → c ∉ frs outer) ∧ H f = some B.O ∧ H B.c = some (CodeH B.c B.q B.P) ∧ DurG C S L H x r l st b n m ts t0 kvs ∧
  ∀ H3 l' dl d, DurH S L H H3 x r l st l' dl d n m ts t0 kvs → ∀ (R : VK) (EE : XK), (∀ v H4 dx fs, H4 x = some (.ins S dx fs) → fs.length < 1000 → Q v (upd H4 x (.ins S dx (putF "layer" (.ref l) fs))) → R v H4) →
    (∀ cls dd H4 dx fs, H4 x = some (.ins S dx fs) → fs.length < 1000 → E cls dd (upd H4 x (.ins S dx (putF "layer" (.ref l) fs))) → EE cls dd H4) → ∀ outer' s', CK outer s H outer' s' H3 → sp outer' s' ws [.ref x] H3 R EE
theorem ok_Scope_durT (T : Txt K mg) {kf : Nat} : FnT P w K mg base (L2.CX P w) (kf + 1) T.i_Scope_during.a T.i_Scope_during.d ["self", "bindings", "action"] (spDurT P w K mg base kf T.e_Env.C T.e_Scope.C T.e_Layer.C) := by
  refine okT T.i_Scope_during.F sc_Scope_during (fun outer s vs H Q E h => ?_) (fun A outer s H vs Q E ht e0 h => ?_)
  · obtain ⟨x, r, l, st, b, f, _, _, _, _, _, _, _, _, _, _, rfl, _⟩ := h
    rfl
  · obtain ⟨x, r, l, st, b, f, n, m, ts, t0, kvs, B, a, fr, ws, sp, rfl, Fn, Cl, nf, hf, hcF, G, go⟩ := h
    have hr := ht.leaf
    have hu := hr.units
    have W := G.sc
    refine ⟨_, (pss_cons (ps_set (i := 3) sc_Scope_during.nd rfl (Or.inl rfl) (pe_meth (pv 0) T.e_Scope.c ⟨T.i_Scope_own.at_, T.i_Scope_own.fn, T.i_Scope_own.F.kp⟩ (ok_Scope_own T) (hr.mono (by omega)) T.i_Scope_own.b .nil pass0 (pa_cons (pv 1) pa_nil)))
      (pss_cons (ps_set (i := 4) sc_Scope_during.nd rfl (Or.inl rfl) (pe_fld (pv 0) rfl))
      (pss_cons (ps_fld (pv 0) (pe_make ⟨T.e_Layer.mks, T.i_Layer_init.at_, T.i_Layer_init.fn, T.e_Layer.kp⟩ (ok_Layer_init T) (hr.mono (by omega)) (by rfl) T.e_Layer.m T.i_Layer_init.b .nil pass0 (pa_cons (pv 3) (pa_cons (pv 4) pa_nil))) rfl)
      (pss_one (ps_retFinX (te := fun W => tCallT P w K mg base outer s H (L2.CX P w) kf [a] 2 (fun σ => WE W σ) (tCons (tVar 0) tNil)) (tfs := sFld K (tVar 0) (tVar 4) "layer") rfl rfl rfl (takesL (E := E) rfl rfl rfl rfl) (fun W pn xe tkW po => (pe_callT1 (k := kf) (ps := [a]) (i := 2) (Ew := fun σ => WE W σ) rfl ht (fun σ => L2.passAt tkW σ) rfl (.inl rfl) (pa_cons (pv 0) pa_nil))) (pss_one (ps_fld (pv 0) (pv 4) rfl)) (fun _ _ => (pss_one (ps_fld (pv 0) (pv 4) rfl)))))))), ?_⟩
    (try simp only [tIxO, rIsB, rNotB, tSeq, tIfS, tTest, tB, tOp, tUn, tVar, tC, tAsg, gName, tRet, tRetN, tCB, tCons, tNil, tLst_eq, tTup_eq, tDNewK_eq, tNext, tPar, tM0, tM1, tSl, tNoPart, tPart, rSlS, tAug, tAugS, tExf_eq, ipI, tChain, tCall, tDrop, tBM, tAnd, tOr, tNot, tAndV, tOrV, tNotV, tIf, tIsN, tNotN, rI, rI0, rU, rEq, rNe, gSub, cx_K, cx_K2, L2.start, wipe, scal_ii, scal_ss, scal_bb, scal_is, scal_si, scal_nn, List.map_cons, List.map_nil, List.length_cons, List.length_nil, List.cons_append, List.nil_append, List.append_nil, List.replicate, List.getElem?_cons_zero, List.getElem?_cons_succ, Option.some.injEq, exists_and_left, exists_eq_left', exists_eq_left, exists_eq, exists_eq', V.int.injEq, V.ref.injEq, V.str.injEq, V.bl.injEq, List.cons.injEq, and_true, true_and, false_and, exists_false, or_false, false_or, reduceCtorEq, List.set_cons_zero, List.set_cons_succ, Nat.reduceAdd, Nat.reduceSub, Int.reduceToNat, decide_eq_true_eq, if_true, if_false, Bool.false_eq_true, Bool.not_true, Bool.not_false, Bool.true_eq_false, ite_false, ite_true, ne_eq, not_false_eq_true, Int.reduceEq, sFld, tMeth, tMake, tFld, tRetFinX, tCallT])
    obtain ⟨dx, e⟩ := id W.at_
    refine ⟨dx, _, e, rfl, x, r, l, st, b, n, m, ts, t0, kvs, rfl, W, G.src, G.tok, G.few, G.all, fun p H1 np s1 r1 => ?_⟩
    have e1 := s1 _ _ e
    refine ⟨_, dx, _, e1, T.e_Scope.c, T.n_Scope_layer, _, rfl, ?_⟩
    refine mkL_go (ts := ts ++ [t0]) r1 (.inr ⟨l, r, rfl, W.lay.kp (.same s1)⟩) fun l' dl H2 s2 nl' hd2 hl' => ?_
    have sA := s1.trans s2
    have e2 := sA _ _ e
    have nfx : f ≠ x := fun z => by
      rw [z, e] at hf
      exact Fn.ni.2.1 _ _ _ (Option.some.inj hf).symm
    have ncx : B.c ≠ x := fun z => by
      rw [z, e] at hcF
      exact codeH_ne.2.1 _ _ _ (Option.some.inj hcF).symm
    have f3 : upd H2 x (.ins T.e_Scope.C dx (putF "layer" (.ref l') (ScpF r l st n m))) f = some B.O := by
      rw [upd_ne nfx]
      exact sA _ _ hf
    refine ⟨_, dx, _, e2, T.e_Scope.c, T.n_Scope_layer, (show 5 < 1000 by decide), B, f3, fun h ok => Fn.fn _ _ ok f3, fr, ws, sp, Fn, f3, by rw [upd_ne ncx]; exact sA _ _ hcF, fun outer' s' ck => ?_⟩
    have nlx : l' ≠ x := fun z => by rw [z, e1] at nl'; cases nl'
    have npx : p ≠ x := fun z => by rw [z, e] at np; cases np
    refine ⟨(ck _ _ _ Cl nf).1, ?_⟩
    refine go _ l' dl p ⟨exT_upd (Same.exT sA), same_none s1 nl', np, ⟨dx, upd_same⟩, by rw [upd_ne nlx]; exact hl', by rw [upd_ne npx]; exact hd2⟩ _ _ (fun v H4 dx4 fs4 h1 h2 h3 => ⟨_, dx4, fs4, h1, T.e_Scope.c, T.n_Scope_layer, h2, h3⟩) (fun cls dd H4 dx4 fs4 h1 h2 h3 => ⟨_, rfl, _, rfl, x, T.e_Scope.C, dx4, fs4, rfl, h1, T.e_Scope.c, T.n_Scope_layer, h2, h3⟩) _ _ ck
/-- scope.apart(action) -/
def spApT (P : Program) (w : World) (K : PySem.W.Frag) (mg : Str → Option Value) (base : Heap) (kf : Nat) (S L : Addr) : SpS := fun outer s vs H Q E => ∃ (x r l st f dx : Addr) (n : Int) (m : Str) (B : CB) (a : Str) (fr : List Str) (ws : List (Option V)) (sp : SpC),
  vs = [.ref x, .ref f] ∧ CbT P w K mg base (L2.CX P w) kf f B [a] fr sp ∧ NdefX.CellsAt B.cl fr ws s.heap H ∧ (∀ y c, B.cl.lookup y = some c → c ∉ frs outer) ∧ H f = some B.O ∧ H B.c = some (CodeH B.c B.q B.P) ∧ H x = some (.ins S dx (ScpF r l st n m)) ∧
  ∀ (R : VK) (EE : XK), (∀ v H4 dx fs, H4 x = some (.ins S dx fs) → fs.length < 1000 → Q v (upd H4 x (.ins S dx (putF "layer" (.ref l) fs))) → R v H4) →
    (∀ cls dd H4 dx fs, H4 x = some (.ins S dx fs) → fs.length < 1000 → E cls dd (upd H4 x (.ins S dx (putF "layer" (.ref l) fs))) → EE cls dd H4) → ∀ outer' s', CK outer s H outer' s' (upd H x (.ins S dx (ScpF r r st n m))) → sp outer' s' ws [.ref x] (upd H x (.ins S dx (ScpF r r st n m))) R EE
theorem ok_Scope_apT (T : Txt K mg) {kf : Nat} : FnT P w K mg base (L2.CX P w) (kf + 1) T.i_Scope_apart.a T.i_Scope_apart.d ["self", "action"] (spApT P w K mg base kf T.e_Scope.C T.e_Layer.C) := by
  refine okT T.i_Scope_apart.F sc_Scope_apart (fun outer s vs H Q E h => ?_) (fun A outer s H vs Q E ht e0 h => ?_)
  · obtain ⟨x, r, l, st, f, _, _, _, _, _, _, _, _, rfl, _⟩ := h
    rfl
  · obtain ⟨x, r, l, st, f, dx, n, m, B, a, fr, ws, sp, rfl, Fn, Cl, nf, hf, hcF, e, go⟩ := h
    have hr := ht.leaf
    have hu := hr.units
    refine ⟨_, (pss_cons (ps_set (i := 2) sc_Scope_apart.nd rfl (Or.inl rfl) (pe_fld (pv 0) rfl))
      (pss_cons (ps_fld (pv 0) (pe_fld (pv 0) rfl) rfl)
      (pss_one (ps_retFinX (te := fun W => tCallT P w K mg base outer s H (L2.CX P w) kf [a] 1 (fun σ => WE W σ) (tCons (tVar 0) tNil)) (tfs := sFld K (tVar 0) (tVar 2) "layer") rfl rfl rfl (takesL (E := E) rfl rfl rfl rfl) (fun W pn xe tkW po => (pe_callT1 (k := kf) (ps := [a]) (i := 1) (Ew := fun σ => WE W σ) rfl ht (fun σ => L2.passAt tkW σ) rfl (.inl rfl) (pa_cons (pv 0) pa_nil))) (pss_one (ps_fld (pv 0) (pv 2) rfl)) (fun _ _ => (pss_one (ps_fld (pv 0) (pv 2) rfl))))))), ?_⟩
    (try simp only [tIxO, rIsB, rNotB, tSeq, tIfS, tTest, tB, tOp, tUn, tVar, tC, tAsg, gName, tRet, tRetN, tCB, tCons, tNil, tLst_eq, tTup_eq, tDNewK_eq, tNext, tPar, tM0, tM1, tSl, tNoPart, tPart, rSlS, tAug, tAugS, tExf_eq, ipI, tChain, tCall, tDrop, tBM, tAnd, tOr, tNot, tAndV, tOrV, tNotV, tIf, tIsN, tNotN, rI, rI0, rU, rEq, rNe, gSub, cx_K, cx_K2, L2.start, wipe, scal_ii, scal_ss, scal_bb, scal_is, scal_si, scal_nn, List.map_cons, List.map_nil, List.length_cons, List.length_nil, List.cons_append, List.nil_append, List.append_nil, List.replicate, List.getElem?_cons_zero, List.getElem?_cons_succ, Option.some.injEq, exists_and_left, exists_eq_left', exists_eq_left, exists_eq, exists_eq', V.int.injEq, V.ref.injEq, V.str.injEq, V.bl.injEq, List.cons.injEq, and_true, true_and, false_and, exists_false, or_false, false_or, reduceCtorEq, List.set_cons_zero, List.set_cons_succ, Nat.reduceAdd, Nat.reduceSub, Int.reduceToNat, decide_eq_true_eq, if_true, if_false, Bool.false_eq_true, Bool.not_true, Bool.not_false, Bool.true_eq_false, ite_false, ite_true, ne_eq, not_false_eq_true, Int.reduceEq, sFld, tMeth, tMake, tFld, tRetFinX, tCallT])
    have c := T.e_Scope.c
    have nfx : f ≠ x := fun z => by
      rw [z, e] at hf
      exact Fn.ni.2.1 _ _ _ (Option.some.inj hf).symm
    have ncx : B.c ≠ x := fun z => by
      rw [z, e] at hcF
      exact codeH_ne.2.1 _ _ _ (Option.some.inj hcF).symm
    have f3 : upd H x (.ins T.e_Scope.C dx (putF "layer" (.ref r) (ScpF r l st n m))) f = some B.O := by
      rw [upd_ne nfx]
      exact hf
    refine ⟨_, dx, _, e, c, T.n_Scope_layer, _, rfl, _, dx, _, e, c, T.n_Scope_root, _, rfl, _, dx, _, e, c, T.n_Scope_layer, (show 5 < 1000 by decide), B, f3, fun h ok => Fn.fn _ _ ok f3, fr, ws, sp, Fn, f3, by rw [upd_ne ncx]; exact hcF, fun outer' s' ck => ?_⟩
    refine ⟨(ck _ _ _ Cl nf).1, go _ _ (fun v H4 dx4 fs4 h1 h2 h3 => ⟨_, dx4, fs4, h1, c, T.n_Scope_layer, h2, h3⟩) (fun cls dd H4 dx4 fs4 h1 h2 h3 => ⟨_, rfl, _, rfl, x, T.e_Scope.C, dx4, fs4, rfl, h1, c, T.n_Scope_layer, h2, h3⟩) _ _ ck⟩

end
end Own

set_option Elab.async false
set_option linter.all false
set_option maxRecDepth 100000
set_option maxHeartbeats 4000000
namespace Own
open PySem PySem.Spec PyProof.Rows L2
section
variable {P : Program} {w : World} {K : PySem.W.Frag} {mg : Str → Option Value} {base : Heap}
theorem way_step {L r a b : Addr} {H : Hp} {ss us : List Tbl} (ha : Lay L r H a ss) (hb : Lay L r H b us) (ne : ¬ a = b) (le : us.length ≤ ss.length) :
    ∃ dx d t l1 rest, H d = some (.dK t) ∧ H a = some (.ins L dx (LayF d (.ref l1) rest.length)) ∧ Lay L r H l1 rest ∧ lvl H l1 < lvl H a := by
  obtain ⟨t, rest, rfl⟩ := ha.ne
  obtain ⟨dx1, d1, hd1, ⟨rfl, er, g1⟩ | ⟨l1, k1, g1⟩⟩ := id ha
  · exfalso
    obtain ⟨u, more, rfl⟩ := hb.ne
    obtain rfl : more = [] := by
      cases more with
      | nil => rfl
      | cons _ _ => simp at le
    obtain ⟨dx2, d2, hd2, ⟨_, er2, g2⟩ | ⟨l2, k2, g2⟩⟩ := id hb
    · exact ne (er.trans er2.symm)
    · exact k2.elim
  · obtain ⟨t2, r2, rfl⟩ := k1.ne
    refine ⟨dx1, d1, t, l1, _, hd1, g1, k1, ?_⟩
    rw [lvl_of k1.rd, lvl_of ha.rd]
    simp
/-- the way between two layers -/
def spWay (L : Addr) : Sp := fun vs H Q _ => ∃ (a b r : Addr) (ss us : List Tbl), vs = [.ref a, .ref b] ∧ Lay L r H a ss ∧ Lay L r H b us ∧ ∀ n : Nat, Q (.int n) H
theorem ok_way (T : Txt K mg) : FnOk P w K mg base CX0 1 T.d_way.a T.d_way.d ["here", "there"] (spWay T.e_Layer.C) := by
  refine T.d_way.F.ok sc_way (fun vs H Q E h => ?_) (fun cdv A outer s H vs Q E hr h => ?_)
  · obtain ⟨a, b, _, _, _, rfl, _⟩ := h
    rfl
  · obtain ⟨a, b, r, ss, us, rfl, ha, hb, q⟩ := h
    have hu := hr.units
    refine ⟨_, (pss_cons (ps_set (i := 2) sc_way.nd rfl (Or.inl rfl) pe_int)
      (pss_cons (ps_while PassesOwn.never (pt_cmpR (op_neI T.eqp_Layer (hu3_of hr)) (pv 0) (pv 1) (nomark _)) (pss_cons (ps_if (pt_cmpR op_lt (pe_fld (pv 0) rfl) (pe_fld (pv 1) rfl) (nomark _)) (pss_one (ps_par (i := 0) (j := 1) (by rfl) sc_way.nd rfl rfl (by decide) rfl rfl (pa_cons (pv 1) (pa_cons (pv 0) pa_nil)) (by rfl))) pss_nil)
      (pss_cons (ps_aug (i := 2) sc_way.nd rfl (Or.inl rfl) (pe_callB call_lenD (by rfl) T.z_len (by decide +kernel) (pa_cons (pe_fld (pv 0) rfl) pa_nil)) ip_add)
      (pss_one (ps_set (i := 0) sc_way.nd rfl (Or.inl rfl) (pe_fld (pv 0) rfl))))))
      (pss_one (ps_ret (pv 2))))), ?_⟩
    (try simp only [tIxO, rIsB, rNotB, tSeq, tIfS, tTest, tB, tOp, tUn, tVar, tC, tAsg, gName, tRet, tRetN, tCB, tCons, tNil, tLst_eq, tTup_eq, tDNewK_eq, tNext, tPar, tM0, tM1, tSl, tNoPart, tPart, rSlS, tAug, tAugS, tExf_eq, ipI, tChain, tCall, tDrop, tBM, tAnd, tOr, tNot, tAndV, tOrV, tNotV, tIf, tIsN, tNotN, rI, rI0, rU, rEq, rNe, gSub, cx_K, cx_K2, L2.start, wipe, scal_ii, scal_ss, scal_bb, scal_is, scal_si, scal_nn, List.map_cons, List.map_nil, List.length_cons, List.length_nil, List.cons_append, List.nil_append, List.append_nil, List.replicate, List.getElem?_cons_zero, List.getElem?_cons_succ, Option.some.injEq, exists_and_left, exists_eq_left', exists_eq_left, exists_eq, exists_eq', V.int.injEq, V.ref.injEq, V.str.injEq, V.bl.injEq, List.cons.injEq, and_true, true_and, false_and, exists_false, or_false, false_or, reduceCtorEq, List.set_cons_zero, List.set_cons_succ, Nat.reduceAdd, Nat.reduceSub, Int.reduceToNat, decide_eq_true_eq, if_true, if_false, Bool.false_eq_true, Bool.not_true, Bool.not_false, Bool.true_eq_false, ite_false, ite_true, ne_eq, not_false_eq_true, Int.reduceEq])
    refine while_by (fun σ' H' => H' = H ∧ ∃ a b ss us, ∃ n : Nat, σ' = [some (.ref a), some (.ref b), some (.int n)] ∧ Lay T.e_Layer.C r H a ss ∧ Lay T.e_Layer.C r H b us)
      (fun σ' H' => match σ'[0]?, σ'[1]? with
        | some (some (V.ref a)), some (some (V.ref b)) => lvl H' a + lvl H' b
        | _, _ => 0) ⟨rfl, a, b, ss, us, 0, rfl, ha, hb⟩ (fun σ' H' p => ?_) (fun σ' H' Q1 Q2 im h => ?_)
    · obtain ⟨rfl, a, b, ss, us, n, rfl, ha, hb⟩ := p
      (try simp only [tIxO, rIsB, rNotB, tSeq, tIfS, tTest, tB, tOp, tUn, tVar, tC, tAsg, gName, tRet, tRetN, tCB, tCons, tNil, tLst_eq, tTup_eq, tDNewK_eq, tNext, tPar, tM0, tM1, tSl, tNoPart, tPart, rSlS, tAug, tAugS, tExf_eq, ipI, tChain, tCall, tDrop, tBM, tAnd, tOr, tNot, tAndV, tOrV, tNotV, tIf, tIsN, tNotN, rI, rI0, rU, rEq, rNe, gSub, cx_K, cx_K2, L2.start, wipe, scal_ii, scal_ss, scal_bb, scal_is, scal_si, scal_nn, List.map_cons, List.map_nil, List.length_cons, List.length_nil, List.cons_append, List.nil_append, List.append_nil, List.replicate, List.getElem?_cons_zero, List.getElem?_cons_succ, Option.some.injEq, exists_and_left, exists_eq_left', exists_eq_left, exists_eq, exists_eq', V.int.injEq, V.ref.injEq, V.str.injEq, V.bl.injEq, List.cons.injEq, and_true, true_and, false_and, exists_false, or_false, false_or, reduceCtorEq, List.set_cons_zero, List.set_cons_succ, Nat.reduceAdd, Nat.reduceSub, Int.reduceToNat, decide_eq_true_eq, if_true, if_false, Bool.false_eq_true, Bool.not_true, Bool.not_false, Bool.true_eq_false, ite_false, ite_true, ne_eq, not_false_eq_true, Int.reduceEq, tFld])
      obtain ⟨t1, r1, rfl⟩ := ha.ne
      obtain ⟨t2, r2, rfl⟩ := hb.ne
      obtain ⟨dxa, da, pa, ea, _⟩ := ha.top
      obtain ⟨dxb, db, pb, eb, _⟩ := hb.top
      refine ⟨a, dxa, _, b, dxb, _, rfl, rfl, ea, eb, _, rfl, ?_⟩
      by_cases ne : a = b
      · rw [decide_eq_true ne]
        exact ite2 (fun z => by simp at z) (fun _ => q n)
      · rw [decide_eq_false ne]
        refine ite2 (fun _ => ?_) (fun z => absurd rfl z)
        have c := T.e_Layer.c
        refine ⟨_, dxa, _, ea, c, T.n_Layer_level, _, rfl, _, dxb, _, eb, c, T.n_Layer_level, _, rfl, _, rfl, _, rfl, ite2 (fun lt => ?_) (fun lt => ?_)⟩
        · obtain ⟨dx, d, t, l1, rest, hd, g, k, lv⟩ := way_step hb ha (fun z => ne z.symm) (by simp only [List.length_cons]; omega)
          exact ⟨_, _, ⟨rfl, rfl⟩, _, rfl, _, dx, _, g, c, T.n_Layer_table, _, rfl, _, rfl, _, hd, _, rfl, _, dx, _, g, c, T.n_Layer_parent, _, rfl, ⟨rfl, l1, a, rest, _, n + t.length, ⟨rfl, rfl, by simp⟩, k, ha⟩, (show lvl H' l1 + lvl H' a < lvl H' a + lvl H' b by omega)⟩
        · obtain ⟨dx, d, t, l1, rest, hd, g, k, lv⟩ := way_step ha hb ne (by simp only [List.length_cons]; omega)
          exact ⟨_, dx, _, g, c, T.n_Layer_table, _, rfl, _, rfl, _, hd, _, dx, _, g, c, T.n_Layer_parent, _, rfl, ⟨rfl, l1, b, rest, _, n + t.length, ⟨rfl, rfl, by simp⟩, k, hb⟩, (show lvl H' l1 + lvl H' b < lvl H' a + lvl H' b by omega)⟩
    · simp only [tTest, tOp, tVar] at h ⊢
      obtain ⟨v1, e1, v2, e2, a, dx, fs, b, dy, gs, ea, eb, h1, h2, k, ek, q1⟩ := h
      exact ⟨v1, e1, v2, e2, a, dx, fs, b, dy, gs, ea, eb, h1, h2, k, ek, im _ _ q1⟩
/-- look, by either engine -/
def spLook (S L : Addr) : Sp := fun vs H Q _ => ∃ (x r l st : Addr) (n : Int) (m : Str) (ts : List Tbl) (t0 : Tbl) (y : Str) (v : V), vs = [.ref x, .str y] ∧ ScpOk S L H x r l st n m ts t0 ∧ (valV t0 (.inr y)).isSome = true ∧ lookL (ts ++ [t0]) y = some v ∧
  ∀ dx st' n', H x = some (.ins S dx (ScpF r l st n m)) → (st' = st ∨ st' = l) → Q v (upd H x (.ins S dx (ScpF r l st' n' m)))
theorem ok_Scope_look (T : Txt K mg) : FnOk P w K mg base CX0 5 T.i_Scope_look.a T.i_Scope_look.d ["self", "name"] (spLook T.e_Scope.C T.e_Layer.C) := by
  refine T.i_Scope_look.F.ok sc_Scope_look (fun vs H Q E h => ?_) (fun cdv A outer s H vs Q E hr h => ?_)
  · obtain ⟨x, _, _, _, _, _, _, _, y, _, rfl, _⟩ := h
    rfl
  · obtain ⟨x, r, l, st, n, m, ts, t0, y, v, rfl, W, hy, ev, q⟩ := h
    have hu := hr.units
    obtain ⟨dx, e⟩ := id W.at_
    refine ⟨_, (pss_cons (ps_set (i := 2) sc_Scope_look.nd rfl (Or.inl rfl) (pe_meth (pv 0) T.e_Scope.c ⟨T.i_Scope_binder.at_, T.i_Scope_binder.fn, T.i_Scope_binder.F.kp⟩ (ok_Scope_binder T) (hr.mono (by decide)) T.i_Scope_binder.b .nil pass0 (pa_cons (pv 1) pa_nil)))
      (pss_cons (ps_if (pt_cmpR op_eq (pe_prop (pv 0) T.e_Scope.c T.p_Scope_engine.pr (ok_Scope_engine T) (hr.mono (by decide)) T.p_Scope_engine.b .nil pass0 rfl) pe_str (nomark _)) (pss_one (ps_fldaug (pv 0) (pe_op op_add (pe_op op_sub (pe_fld (pe_fld (pv 0) rfl) rfl) (pe_fld (pv 2) rfl)) pe_int) in_add)) (pss_cons (ps_fldaug (pv 0) (pe_op op_add (pe_call (ok_way T) (hr.mono (by decide)) (by rfl) T.d_way.g T.d_way.F.kp T.d_way.b .nil pass0 (pa_cons (pe_fld (pv 0) rfl) (pa_cons (pe_fld (pv 0) rfl) pa_nil))) pe_int) in_add)
      (pss_one (ps_fld (pv 0) (pe_fld (pv 0) rfl) rfl))))
      (pss_one (ps_ret (pe_dget (hu_of hr) (pe_fld (pv 2) rfl) (pv 1) (fun _ _ => rfl)))))), ?_⟩
    (try simp only [tIxO, rIsB, rNotB, tSeq, tIfS, tTest, tB, tOp, tUn, tVar, tC, tAsg, gName, tRet, tRetN, tCB, tCons, tNil, tLst_eq, tTup_eq, tDNewK_eq, tNext, tPar, tM0, tM1, tSl, tNoPart, tPart, rSlS, tAug, tAugS, tExf_eq, ipI, tChain, tCall, tDrop, tBM, tAnd, tOr, tNot, tAndV, tOrV, tNotV, tIf, tIsN, tNotN, rI, rI0, rU, rEq, rNe, gSub, cx_K, cx_K2, L2.start, wipe, scal_ii, scal_ss, scal_bb, scal_is, scal_si, scal_nn, List.map_cons, List.map_nil, List.length_cons, List.length_nil, List.cons_append, List.nil_append, List.append_nil, List.replicate, List.getElem?_cons_zero, List.getElem?_cons_succ, Option.some.injEq, exists_and_left, exists_eq_left', exists_eq_left, exists_eq, exists_eq', V.int.injEq, V.ref.injEq, V.str.injEq, V.bl.injEq, List.cons.injEq, and_true, true_and, false_and, exists_false, or_false, false_or, reduceCtorEq, List.set_cons_zero, List.set_cons_succ, Nat.reduceAdd, Nat.reduceSub, Int.reduceToNat, decide_eq_true_eq, if_true, if_false, Bool.false_eq_true, Bool.not_true, Bool.not_false, Bool.true_eq_false, ite_false, ite_true, ne_eq, not_false_eq_true, Int.reduceEq, tMeth, sFldAug, tProp, tDGet, rAdd, sFld])
    refine ⟨dx, _, e, rfl, x, r, l, st, n, m, ts, t0, y, rfl, W.rd, hy, fun l' t rest pre v' es hl ev' el no => ?_⟩
    obtain rfl : v' = v := Option.some.inj (el.symm.trans ev)
    obtain ⟨tt, rr, e2⟩ := W.lay.ne
    have hl0 := W.lay
    rw [e2] at hl0
    obtain ⟨dl, dd, p, g1, g2⟩ := hl0.top
    obtain ⟨dm, d2, p2, k1, k2⟩ := hl.top
    have c := T.e_Scope.c
    have nlx : l' ≠ x := fun z => by
      rw [z, e] at k1
      injection k1 with k1
      injection k1 with _ _ k1
      unfold ScpF LayF at k1
      injection k1 with k1
      injection k1 with k1
      exact absurd k1 (by decide)
    have rd : ∀ o, Rd (upd H x o) d2 (.dK t) := fun o => by
      have nd : d2 ≠ x := fun z => by
        rw [z] at k2
        rcases k2 with k2 | ⟨_, k2⟩ <;> rw [e] at k2 <;> cases k2
      rcases k2 with k2 | ⟨ob, k2⟩
      · exact .inl (by rw [upd_ne nd]; exact k2)
      · exact .inr ⟨ob, by rw [upd_ne nd]; exact k2⟩
    refine ⟨dx, _, e, x, r, l, st, n, m, rfl, ⟨dx, e⟩, rfl, ite2 (fun _ => ?_) (fun _ => ?_)⟩
    · refine ⟨_, dx, _, e, c, T.n_Scope_taken, _, rfl, ?_⟩
      refine fld_go (fun Q q => fld_go (fun Q q => ⟨_, rfl, q⟩) e c T.n_Scope_layer rfl q) g1 T.e_Layer.c T.n_Layer_level rfl ?_
      refine fld_go (fun Q q => ⟨_, rfl, q⟩) k1 T.e_Layer.c T.n_Layer_level rfl ?_
      refine ⟨_, rfl, _, rfl, _, rfl, dx, _, e, (show 5 < 1000 by decide), ?_⟩
      refine fld_go (fun Q q => ⟨_, rfl, q⟩) (by rw [upd_ne nlx]; exact k1) T.e_Layer.c T.n_Layer_table rfl ⟨d2, rfl, v', .inl ⟨t, .inr y, rd _, rfl, ev'.symm⟩, ?_⟩
      exact q dx st _ e (.inl rfl)
    · refine ⟨_, dx, _, e, c, T.n_Scope_taken, _, rfl, ?_⟩
      refine fld_go (fun Q q => ⟨_, rfl, q⟩) e c T.n_Scope_stand rfl ?_
      refine fld_go (fun Q q => ⟨_, rfl, q⟩) e c T.n_Scope_layer rfl ?_
      obtain ⟨ss, hst, _⟩ := W.std
      refine ⟨st, l, r, ss, _, rfl, hst, W.lay, fun wn => ⟨_, rfl, _, rfl, dx, _, e, (show 5 < 1000 by decide), ?_⟩⟩
      refine fld_go (fun Q q => ⟨_, rfl, q⟩) upd_same c T.n_Scope_layer rfl ?_
      refine ⟨_, dx, _, upd_same, c, T.n_Scope_stand, (show 5 < 1000 by decide), ?_⟩
      rw [upd_twice]
      refine fld_go (fun Q q => ⟨_, rfl, q⟩) (by rw [upd_ne nlx]; exact k1) T.e_Layer.c T.n_Layer_table rfl ⟨d2, rfl, v', .inl ⟨t, .inr y, rd _, rfl, ev'.symm⟩, ?_⟩
      exact q dx l _ e (.inr rfl)

end
end Own

set_option Elab.async false
set_option linter.all false
set_option maxRecDepth 100000
set_option maxHeartbeats 4000000
namespace Own
open PySem PySem.Spec PyProof.Rows L2
section
variable {P : Program} {w : World} {K : PySem.W.Frag} {mg : Str → Option Value} {base : Heap}
/-! ### kept actions -/
def KeptF (a r h : V) : List (Str × V) := [("action", a), ("record", r), ("home", h)]
def spKept (Kc : Addr) : Sp := fun vs H Q _ => ∃ (x dx : Addr) (a r h : V), vs = [.ref x, a, r, h] ∧ H x = some (.ins Kc dx []) ∧ Q .non (upd H x (.ins Kc dx (KeptF a r h)))
theorem ok_Kept_init (T : Txt K mg) : FnOk P w K mg base CX0 1 T.i_Kept_init.a T.i_Kept_init.d ["self", "action", "record", "home"] (spKept T.e_Kept.C) := by
  refine T.i_Kept_init.F.ok sc_Kept_init (fun vs H Q E h => ?_) (fun cdv A outer s H vs Q E hr h => ?_)
  · obtain ⟨x, _, _, _, _, rfl, _⟩ := h
    rfl
  · obtain ⟨x, dx, a, r, h0, rfl, e, q⟩ := h
    refine ⟨_, (pss_cons (ps_fld (pv 0) (pv 1) rfl)
      (pss_cons (ps_fld (pv 0) (pv 2) rfl)
      (pss_one (ps_fld (pv 0) (pv 3) rfl)))), ?_⟩
    (try simp only [tIxO, rIsB, rNotB, tSeq, tIfS, tTest, tB, tOp, tUn, tVar, tC, tAsg, gName, tRet, tRetN, tCB, tCons, tNil, tLst_eq, tTup_eq, tDNewK_eq, tNext, tPar, tM0, tM1, tSl, tNoPart, tPart, rSlS, tAug, tAugS, tExf_eq, ipI, tChain, tCall, tDrop, tBM, tAnd, tOr, tNot, tAndV, tOrV, tNotV, tIf, tIsN, tNotN, rI, rI0, rU, rEq, rNe, gSub, cx_K, cx_K2, L2.start, wipe, scal_ii, scal_ss, scal_bb, scal_is, scal_si, scal_nn, List.map_cons, List.map_nil, List.length_cons, List.length_nil, List.cons_append, List.nil_append, List.append_nil, List.replicate, List.getElem?_cons_zero, List.getElem?_cons_succ, Option.some.injEq, exists_and_left, exists_eq_left', exists_eq_left, exists_eq, exists_eq', V.int.injEq, V.ref.injEq, V.str.injEq, V.bl.injEq, List.cons.injEq, and_true, true_and, false_and, exists_false, or_false, false_or, reduceCtorEq, List.set_cons_zero, List.set_cons_succ, Nat.reduceAdd, Nat.reduceSub, Int.reduceToNat, decide_eq_true_eq, if_true, if_false, Bool.false_eq_true, Bool.not_true, Bool.not_false, Bool.true_eq_false, ite_false, ite_true, ne_eq, not_false_eq_true, Int.reduceEq, sFld])
    have c := T.e_Kept.c
    refine ⟨_, dx, _, e, c, T.n_Kept_action, (show 0 < 1000 by decide), _, dx, _, upd_same, c, T.n_Kept_record, (show 1 < 1000 by decide), _, dx, _, upd_same, c, T.n_Kept_home, (show 2 < 1000 by decide), ?_⟩
    simp only [upd_twice]
    exact q
/-- what these names are in these layers, names perhaps more than once -/
def recD (ys : List Str) (ls : List Tbl) : Tbl := mergeK [] (rowsF (fun y => (lookL ls y).getD .non) ys)
theorem recD_ok {ys : List Str} {ls : List Tbl} (ids : ∀ y ∈ ys, isIdent y = true) (ok : ∀ t ∈ ls, TOk t) (has : ∀ y ∈ ys, ∃ v, lookL ls y = some v) : TOk (recD ys ls) := rows_tok TOk.nil ids fun y my => by
  obtain ⟨v, hv⟩ := has y my
  show valOk ((lookL ls y).getD .non) = true
  rw [hv]
  exact lookL_ok ok hv
theorem recD_val {ys : List Str} {ls : List Tbl} {y : Str} : valV (recD ys ls) (.inr y) = if y ∈ ys then some ((lookL ls y).getD .non) else none := valV_rows _
/-- a list or a tuple of these names -/
def LorT (K : PySem.W.Frag) (H : Hp) (ln : Addr) (ys : List Str) : Prop := SqL K H ln (ys.map V.str) ∨ SqT K H ln (ys.map V.str)
theorem LorT.same {K : PySem.W.Frag} {H H' : Hp} {ln : Addr} {ys : List Str} (h : LorT K H ln ys) (s : Same H H') : LorT K H' ln ys := h.elim (fun h => .inl (sq_same s h)) fun h => .inr (sqT_same s h)
/-- the values of these names, kept -/
def spKeep (K : PySem.W.Frag) (S L C Kc : Addr) : Sp := fun vs H Q _ => ∃ (x r l st ln : Addr) (n : Int) (m : Str) (ts : List Tbl) (t0 : Tbl) (ys : List Str) (a : V), vs = [.ref x, a, .ref ln] ∧ ScpOk S L H x r l st n m ts t0 ∧ LorT K H ln ys ∧ ys.length ≤ 20 ∧ (∀ y ∈ ys, (valV t0 (.inr y)).isSome = true) ∧ (∀ y ∈ ys, isIdent y = true) ∧
  ∀ k dk e s H', Same H H' → H k = none → H' k = some (.ins Kc dk (KeptF a (.ref e) (.ref x))) → EnvAt C H' e s → Srt (recD ys (ts ++ [t0])) s → TOk (recD ys (ts ++ [t0])) → Q (.ref k) H'
theorem ok_Scope_keep (T : Txt K mg) : FnOk P w K mg base CX0 7 T.i_Scope_keep.a T.i_Scope_keep.d ["self", "action", "names"] (spKeep K T.e_Scope.C T.e_Layer.C T.e_Env.C T.e_Kept.C) := by
  refine FunD.okN T.i_Scope_keep.F sc_Scope_keep (fun vs H Q E h => ?_) (fun cdv A outer s H vs Q E hr h => ?_)
  · obtain ⟨x, _, _, _, ln, _, _, _, _, _, a, rfl, _⟩ := h
    rfl
  · obtain ⟨x, r, l, st, ln, n, m, ts, t0, ys, a, rfl, W, hln, few, hy, iy, q⟩ := h
    have hu := hr.units
    refine ⟨_, (pss_one (ps_ret (pe_make ⟨T.e_Kept.mks, T.i_Kept_init.at_, T.i_Kept_init.fn, T.e_Kept.kp⟩ (ok_Kept_init T) (hr.mono (by decide)) (by rfl) T.e_Kept.m T.i_Kept_init.b .nil pass0 (pa_cons (pv 1) (pa_cons (pe_make ⟨T.e_Env.mks, T.i_Env_init.at_, T.i_Env_init.fn, T.e_Env.kp⟩ (ok_Env_init T) (hr.mono (by decide)) (by rfl) T.e_Env.m T.i_Env_init.b .nil pass0 (pa_cons (pe_dc (own := [("name", 3)]) (tt := tYes) (by rfl) sc_Scope_keep.nd (pi_or (pi_list (pv 2)) (pi_tup (pv 2))) (blkOk_by (own := [("name", 3)]) (N := ["self", "action", "names", "name"]) (sc := defScope s_Scope_keep) (by decide +kernel)) (fun _ _ _ _ _ => pg_name (i := 3) sc_Scope_keep.nd rfl (Or.inl rfl)) (fun _ _ _ _ _ => pts_nil) (fun _ _ _ _ _ => (pv 3)) (fun _ _ _ _ _ => (pe_ixO T.get_Scope (okR (ok_Scope_getitem T) T.i_Scope_getitem.b) (hr.mono (by decide)) pass0 (pv 0) (pv 3) (fun _ _ => rfl)))) pa_nil)) (pa_cons (pv 0) pa_nil)))))), ?_⟩
    (try simp only [tIxO, rIsB, rNotB, tSeq, tIfS, tTest, tB, tOp, tUn, tVar, tC, tAsg, gName, tRet, tRetN, tCB, tCons, tNil, tLst_eq, tTup_eq, tDNewK_eq, tNext, tPar, tM0, tM1, tSl, tNoPart, tPart, rSlS, tAug, tAugS, tExf_eq, ipI, tChain, tCall, tDrop, tBM, tAnd, tOr, tNot, tAndV, tOrV, tNotV, tIf, tIsN, tNotN, rI, rI0, rU, rEq, rNe, gSub, cx_K, cx_K2, L2.start, wipe, scal_ii, scal_ss, scal_bb, scal_is, scal_si, scal_nn, List.map_cons, List.map_nil, List.length_cons, List.length_nil, List.cons_append, List.nil_append, List.append_nil, List.replicate, List.getElem?_cons_zero, List.getElem?_cons_succ, Option.some.injEq, exists_and_left, exists_eq_left', exists_eq_left, exists_eq, exists_eq', V.int.injEq, V.ref.injEq, V.str.injEq, V.bl.injEq, List.cons.injEq, and_true, true_and, false_and, exists_false, or_false, false_or, reduceCtorEq, List.set_cons_zero, List.set_cons_succ, Nat.reduceAdd, Nat.reduceSub, Int.reduceToNat, decide_eq_true_eq, if_true, if_false, Bool.false_eq_true, Bool.not_true, Bool.not_false, Bool.true_eq_false, ite_false, ite_true, ne_eq, not_false_eq_true, Int.reduceEq, tMake])
    have ok : ∀ t ∈ ts ++ [t0], TOk t := fun t mt => by
      rcases List.mem_append.mp mt with z | z
      · exact W.ok t z
      · have e : t = t0 := by simpa using z
        rw [e]
        exact W.ok0
    have has : ∀ y ∈ ys, ∃ v, lookL (ts ++ [t0]) y = some v := fun y my => lookL_some (hy y my) ts
    refine dcLT_go (K := K) (ys := ys) (fun y => (lookL (ts ++ [t0]) y).getD .non) (fun Q q => ⟨_, rfl, q⟩) (fun Q q => ⟨_, rfl, q⟩) hln (by omega) (fun z H' R my s r => ?_) (fun z H' R my s rr => ?_) (fun D H' nD s rD => ?_)
    · (try simp only [tIxO, rIsB, rNotB, tSeq, tIfS, tTest, tB, tOp, tUn, tVar, tC, tAsg, gName, tRet, tRetN, tCB, tCons, tNil, tLst_eq, tTup_eq, tDNewK_eq, tNext, tPar, tM0, tM1, tSl, tNoPart, tPart, rSlS, tAug, tAugS, tExf_eq, ipI, tChain, tCall, tDrop, tBM, tAnd, tOr, tNot, tAndV, tOrV, tNotV, tIf, tIsN, tNotN, rI, rI0, rU, rEq, rNe, gSub, cx_K, cx_K2, L2.start, wipe, scal_ii, scal_ss, scal_bb, scal_is, scal_si, scal_nn, List.map_cons, List.map_nil, List.length_cons, List.length_nil, List.cons_append, List.nil_append, List.append_nil, List.replicate, List.getElem?_cons_zero, List.getElem?_cons_succ, Option.some.injEq, exists_and_left, exists_eq_left', exists_eq_left, exists_eq, exists_eq', V.int.injEq, V.ref.injEq, V.str.injEq, V.bl.injEq, List.cons.injEq, and_true, true_and, false_and, exists_false, or_false, false_or, reduceCtorEq, List.set_cons_zero, List.set_cons_succ, Nat.reduceAdd, Nat.reduceSub, Int.reduceToNat, decide_eq_true_eq, if_true, if_false, Bool.false_eq_true, Bool.not_true, Bool.not_false, Bool.true_eq_false, ite_false, ite_true, ne_eq, not_false_eq_true, Int.reduceEq])
      exact r
    · have W2 := W.rd.same s
      obtain ⟨dx2, e2⟩ := id W2.at_
      obtain ⟨v, hv⟩ := has z my
      rw [hv] at rr
      (try simp only [tIxO, rIsB, rNotB, tSeq, tIfS, tTest, tB, tOp, tUn, tVar, tC, tAsg, gName, tRet, tRetN, tCB, tCons, tNil, tLst_eq, tTup_eq, tDNewK_eq, tNext, tPar, tM0, tM1, tSl, tNoPart, tPart, rSlS, tAug, tAugS, tExf_eq, ipI, tChain, tCall, tDrop, tBM, tAnd, tOr, tNot, tAndV, tOrV, tNotV, tIf, tIsN, tNotN, rI, rI0, rU, rEq, rNe, gSub, cx_K, cx_K2, L2.start, wipe, scal_ii, scal_ss, scal_bb, scal_is, scal_si, scal_nn, List.map_cons, List.map_nil, List.length_cons, List.length_nil, List.cons_append, List.nil_append, List.append_nil, List.replicate, List.getElem?_cons_zero, List.getElem?_cons_succ, Option.some.injEq, exists_and_left, exists_eq_left', exists_eq_left, exists_eq, exists_eq', V.int.injEq, V.ref.injEq, V.str.injEq, V.bl.injEq, List.cons.injEq, and_true, true_and, false_and, exists_false, or_false, false_or, reduceCtorEq, List.set_cons_zero, List.set_cons_succ, Nat.reduceAdd, Nat.reduceSub, Int.reduceToNat, decide_eq_true_eq, if_true, if_false, Bool.false_eq_true, Bool.not_true, Bool.not_false, Bool.true_eq_false, ite_false, ite_true, ne_eq, not_false_eq_true, Int.reduceEq])
      exact ⟨dx2, _, e2, x, r, l, st, n, m, ts, t0, z, v, rfl, W2, hy z my, hv, rr⟩
    · have tk : TOk (recD ys (ts ++ [t0])) := recD_ok iy ok has
      refine mkT_go ⟨.inr rD, tk, Nat.le_trans rows_len (by omega)⟩ fun e s0 H2 s2 ne hs he => ?_
      intro x3 dx3 n1 n2 n3
      refine ⟨x3, dx3, a, _, _, rfl, upd_same, rfl, ?_⟩
      rw [upd_twice]
      have s3 : Same H2 (upd (upd H2 dx3 (.own x3)) x3 (.ins T.e_Kept.C dx3 (KeptF a (.ref e) (.ref x)))) := (same_new n2).trans (same_new (by rw [upd_ne (fun z => n3 z.symm)]; exact n1))
      exact q x3 dx3 e s0 _ ((s.trans s2).trans s3) (same_none (s.trans s2) n1) upd_same (he.same s3) hs tk
/-- during, asked for at a later moment -/
theorem spDurT.later {P : Program} {w : World} {K : PySem.W.Frag} {mg : Str → Option Value} {base : Heap} {kf : Nat} {C S L : Addr} {outer outer1 : List Env} {s s1 : Shared} {vs : List V} {H : Hp} {Q : VK} {E : XK} (h : spDurT P w K mg base kf C S L outer s vs H Q E) (ck : CK outer s H outer1 s1 H) : spDurT P w K mg base kf C S L outer1 s1 vs H Q E := by
  obtain ⟨x, r, l, st, b, f, n, m, ts, t0, kvs, B, a, fr, ws, sp, hv, Fn, Cl, nf, hf, hc, G, go⟩ := h
  obtain ⟨Cl1, nf1⟩ := ck _ _ _ Cl nf
  exact ⟨x, r, l, st, b, f, n, m, ts, t0, kvs, B, a, fr, ws, sp, hv, Fn, Cl1, nf1, hf, hc, G, fun H3 l' dl d D R EE h1 h2 o' s' ck2 => go H3 l' dl d D R EE h1 h2 o' s' (ck.trans ck2)⟩
/-- kept(), kept(scope) -/
def spKT (P : Program) (w : World) (K : PySem.W.Frag) (mg : Str → Option Value) (base : Heap) (kf : Nat) (C S L Kc : Addr) : SpS := fun outer s vs H Q E => ∃ (k dk f e h sc dx : Addr) (fs : List (Str × V)) (sv : V), vs = [.ref k, sv] ∧ H k = some (.ins Kc dk (KeptF (.ref f) (.ref e) (.ref h))) ∧ ((sv = .non ∧ sc = h) ∨ sv = .ref sc) ∧ H sc = some (.ins S dx fs) ∧ fs.lookup ("during" : Str) = none ∧ spDurT P w K mg base kf C S L outer s [.ref sc, .ref e, .ref f] H Q E
theorem ok_Kept_callT (T : Txt K mg) {kf : Nat} : FnT P w K mg base (L2.CX P w) (kf + 2) T.i_Kept_call.a T.i_Kept_call.d ["self", "scope"] (spKT P w K mg base kf T.e_Env.C T.e_Scope.C T.e_Layer.C T.e_Kept.C) := by
  refine okTD T.i_Kept_call.F sc_Kept_call (fun outer s vs H Q E h => ?_) (fun A outer s H vs Q E ht e0 h => ?_)
  · obtain ⟨_, _, _, _, _, _, _, _, _, rfl, _⟩ := h
    rfl
  · obtain ⟨k, dk, f, e, h0, sc, dx, fs, sv, rfl, hk, hv, hsc, hl, D⟩ := h
    have hr := ht.leaf
    have hu := hr.units
    have hS : ∃ spX : L2.St → Sp, (∀ σ vs H1 Q1 E1, spX σ vs H1 Q1 E1 ↔ (vs = [.ref sc, .ref e, .ref f] ∧ H1 = H ∧ spDurT P w K mg base kf T.e_Env.C T.e_Scope.C T.e_Layer.C outer s vs H Q1 E1)) := ⟨_, fun _ _ _ _ _ => Iff.rfl⟩
    obtain ⟨spX, hX⟩ := hS
    have hS : ∀ (pins : List (Addr × Obj)) (σ : L2.St) (H1 : Hp) (s1 : Shared) (vs : List V) (Q : VK), Inv (cxOf (L2.CX P w) P w K mg base ["self", "scope"] "Kept.__call__" (defScope s_Kept_call) T.i_Kept_call.a T.i_Kept_call.d.code A outer s H E) pins σ H1 s1 → spX σ vs H1 Q E →
        spDurT P w K mg base kf T.e_Env.C T.e_Scope.C T.e_Layer.C (Cx.stack (cxOf (L2.CX P w) P w K mg base ["self", "scope"] "Kept.__call__" (defScope s_Kept_call) T.i_Kept_call.a T.i_Kept_call.d.code A outer s H E)) s1 vs H1 Q E := by
      intro pins σ H1 s1 vs Q I h
      obtain ⟨rfl, rfl, h⟩ := (hX _ _ _ _ _).mp h
      exact h.later (ck_inv I rfl)
    refine ⟨_, (pss_cons (ps_if (pt_cmpR op_isN (pv 1) pe_non (nomark _)) (pss_one (ps_ret (pe_methT (spA := spX) (pe_fld (pv 0) rfl) T.e_Scope.c ⟨T.i_Scope_during.at_, T.i_Scope_during.fn, T.i_Scope_during.F.kp⟩ (ok_Scope_durT T (kf := kf)) ht T.i_Scope_during.b (passesE (takesL (E := E) rfl rfl rfl rfl)) hS (pa_cons (pe_fld (pv 0) rfl) (pa_cons (pe_fld (pv 0) rfl) pa_nil))))) pss_nil)
      (pss_one (ps_ret (pe_methT (spA := spX) (pv 1) T.e_Scope.c ⟨T.i_Scope_during.at_, T.i_Scope_during.fn, T.i_Scope_during.F.kp⟩ (ok_Scope_durT T (kf := kf)) ht T.i_Scope_during.b (passesE (takesL (E := E) rfl rfl rfl rfl)) hS (pa_cons (pe_fld (pv 0) rfl) (pa_cons (pe_fld (pv 0) rfl) pa_nil)))))), ?_⟩
    (try simp only [tIxO, rIsB, rNotB, tSeq, tIfS, tTest, tB, tOp, tUn, tVar, tC, tAsg, gName, tRet, tRetN, tCB, tCons, tNil, tLst_eq, tTup_eq, tDNewK_eq, tNext, tPar, tM0, tM1, tSl, tNoPart, tPart, rSlS, tAug, tAugS, tExf_eq, ipI, tChain, tCall, tDrop, tBM, tAnd, tOr, tNot, tAndV, tOrV, tNotV, tIf, tIsN, tNotN, rI, rI0, rU, rEq, rNe, gSub, cx_K, cx_K2, L2.start, wipe, scal_ii, scal_ss, scal_bb, scal_is, scal_si, scal_nn, List.map_cons, List.map_nil, List.length_cons, List.length_nil, List.cons_append, List.nil_append, List.append_nil, List.replicate, List.getElem?_cons_zero, List.getElem?_cons_succ, Option.some.injEq, exists_and_left, exists_eq_left', exists_eq_left, exists_eq, exists_eq', V.int.injEq, V.ref.injEq, V.str.injEq, V.bl.injEq, List.cons.injEq, and_true, true_and, false_and, exists_false, or_false, false_or, reduceCtorEq, List.set_cons_zero, List.set_cons_succ, Nat.reduceAdd, Nat.reduceSub, Int.reduceToNat, decide_eq_true_eq, if_true, if_false, Bool.false_eq_true, Bool.not_true, Bool.not_false, Bool.true_eq_false, ite_false, ite_true, ne_eq, not_false_eq_true, Int.reduceEq, tMethS, tFld])
    have c := T.e_Kept.c
    rcases hv with ⟨rfl, rfl⟩ | rfl
    · refine ite2 (fun _ => ?_) (fun z => absurd rfl z)
      exact ⟨_, dk, _, hk, c, T.n_Kept_home, _, rfl, sc, rfl, dx, fs, hsc, hl, _, dk, _, hk, c, T.n_Kept_record, _, rfl, _, dk, _, hk, c, T.n_Kept_action, _, rfl, (hX _ _ _ _ _).mpr ⟨rfl, rfl, D⟩⟩
    · refine ite2 (fun z => by cases z) (fun _ => ?_)
      exact ⟨sc, rfl, dx, fs, hsc, hl, _, dk, _, hk, c, T.n_Kept_record, _, rfl, _, dk, _, hk, c, T.n_Kept_action, _, rfl, (hX _ _ _ _ _).mpr ⟨rfl, rfl, D⟩⟩

end
end Own

set_option Elab.async false
set_option linter.all false
set_option maxRecDepth 100000
set_option maxHeartbeats 4000000
namespace Own
open PySem PySem.Spec PyProof.Rows L2
section
variable {P : Program} {w : World} {K : PySem.W.Frag} {mg : Str → Option Value} {base : Heap}
theorem rows_eq {X s : Tbl} {ys zs : List Str} (hs : Srt X s) (p : ys.Perm zs) (so : sortedS ys = true) (pz : zs.Perm (names X)) : s = byN X ys := by
  obtain ⟨us, pu, su, rfl⟩ := hs
  rw [sorted_one su so (pu.trans (pz.symm.trans p.symm))]
def spOver : Sp := fun vs H Q _ => ∃ (a b : Addr) (ka kb : Tbl), vs = [.ref a, .ref b] ∧ H a = some (.dK ka) ∧ H b = some (.dK kb) ∧ TOk kb ∧ ka.length + kb.length ≤ 60 ∧ ∀ d H', H d = none → Same H H' → H' d = some (.dK (mergeK ka kb)) → Q (.ref d) H'
theorem ok_l_over (T : Txt K mg) : FnOk P w K mg base CX0 1 T.d_l_over.a T.d_l_over.d ["_law_low", "_law_high"] spOver := by
  refine T.d_l_over.F.ok sc_l_over (fun vs H Q E h => ?_) (fun cdv A outer s H vs Q E hr h => ?_)
  · obtain ⟨a, b, _, _, rfl, _⟩ := h
    rfl
  · obtain ⟨a, b, ka, kb, rfl, ha, hb, hk, hl, q⟩ := h
    have hu := hr.units
    refine ⟨_, (pss_cons (ps_set (i := 2) sc_l_over.nd rfl (Or.inl rfl) (pe_callTy call_dictD (by rfl) T.z_dict (by decide +kernel) (pa_cons (pv 0) pa_nil)))
      (pss_cons (ps_lock (ps_for PassesOwn.never rfl (pi_keys (pv 1)) (pg_name (i := 3) sc_l_over.nd rfl (Or.inl rfl)) (pss_one (ps_dput (hu_of hr) (pv 2) (pv 3) (pe_dget (hu_of hr) (pv 1) (pv 3) (fun _ _ => rfl)) rfl))))
      (pss_one (ps_ret (pv 2))))), ?_⟩
    (try simp only [tIxO, rIsB, rNotB, tSeq, tIfS, tTest, tB, tOp, tUn, tVar, tC, tAsg, gName, tRet, tRetN, tCB, tCons, tNil, tLst_eq, tTup_eq, tDNewK_eq, tNext, tPar, tM0, tM1, tSl, tNoPart, tPart, rSlS, tAug, tAugS, tExf_eq, ipI, tChain, tCall, tDrop, tBM, tAnd, tOr, tNot, tAndV, tOrV, tNotV, tIf, tIsN, tNotN, rI, rI0, rU, rEq, rNe, gSub, cx_K, cx_K2, L2.start, wipe, scal_ii, scal_ss, scal_bb, scal_is, scal_si, scal_nn, List.map_cons, List.map_nil, List.length_cons, List.length_nil, List.cons_append, List.nil_append, List.append_nil, List.replicate, List.getElem?_cons_zero, List.getElem?_cons_succ, Option.some.injEq, exists_and_left, exists_eq_left', exists_eq_left, exists_eq, exists_eq', V.int.injEq, V.ref.injEq, V.str.injEq, V.bl.injEq, List.cons.injEq, and_true, true_and, false_and, exists_false, or_false, false_or, reduceCtorEq, List.set_cons_zero, List.set_cons_succ, Nat.reduceAdd, Nat.reduceSub, Int.reduceToNat, decide_eq_true_eq, if_true, if_false, Bool.false_eq_true, Bool.not_true, Bool.not_false, Bool.true_eq_false, ite_false, ite_true, ne_eq, not_false_eq_true, Int.reduceEq])
    refine ⟨_, .inl ha, fun p np => ?_⟩
    have s1 : Same H (upd H p (.dK ka)) := same_new np
    have nbp : b ≠ p := by
      rintro rfl
      rw [hb] at np
      cases np
    refine forK_go (s1 _ _ hb) (fun H' Q q => ⟨_, rfl, q⟩) (fun o i σ' H' => H' p = some (.dK (mergeK ka (kb.take i))) ∧ (∀ c u, c ≠ b → H c = some u → H' c = some u) ∧ ∃ o1, σ' = [some (.ref a), some (.ref b), some (.ref p), o1]) (fun o => ⟨by rw [upd_ne nbp.symm, upd_same]; rfl, fun c u hc e => by rw [upd_ne hc]; exact s1 _ _ e, _, rfl⟩) ?_ ?_
    · rintro o i k v σ' H2 e lk ⟨r2, v2, o1, rfl⟩
      (try simp only [tIxO, rIsB, rNotB, tSeq, tIfS, tTest, tB, tOp, tUn, tVar, tC, tAsg, gName, tRet, tRetN, tCB, tCons, tNil, tLst_eq, tTup_eq, tDNewK_eq, tNext, tPar, tM0, tM1, tSl, tNoPart, tPart, rSlS, tAug, tAugS, tExf_eq, ipI, tChain, tCall, tDrop, tBM, tAnd, tOr, tNot, tAndV, tOrV, tNotV, tIf, tIsN, tNotN, rI, rI0, rU, rEq, rNe, gSub, cx_K, cx_K2, L2.start, wipe, scal_ii, scal_ss, scal_bb, scal_is, scal_si, scal_nn, List.map_cons, List.map_nil, List.length_cons, List.length_nil, List.cons_append, List.nil_append, List.append_nil, List.replicate, List.getElem?_cons_zero, List.getElem?_cons_succ, Option.some.injEq, exists_and_left, exists_eq_left', exists_eq_left, exists_eq, exists_eq', V.int.injEq, V.ref.injEq, V.str.injEq, V.bl.injEq, List.cons.injEq, and_true, true_and, false_and, exists_false, or_false, false_or, reduceCtorEq, List.set_cons_zero, List.set_cons_succ, Nat.reduceAdd, Nat.reduceSub, Int.reduceToNat, decide_eq_true_eq, if_true, if_false, Bool.false_eq_true, Bool.not_true, Bool.not_false, Bool.true_eq_false, ite_false, ite_true, ne_eq, not_false_eq_true, Int.reduceEq, sDPut, tDGet])
      have kv := mem_valV hk.nd (List.mem_of_getElem? e)
      refine ⟨v, .inl ⟨kb, k, .inr ⟨o, lk⟩, rfl, kv.symm⟩, _, DPut.k (k := k) r2 ?_, ?_, ?_, ?_⟩
      · refine Nat.lt_of_le_of_lt (length_mergeK _ _) ?_
        have := List.length_take (i := i) (l := kb)
        exact Nat.lt_of_le_of_lt (show ka.length + (kb.take i).length ≤ 60 by omega) (by decide)
      · rw [upd_ne nbp]
        exact lk
      · rw [upd_same, List.take_add_one, e]
        unfold mergeK
        rw [List.foldl_append]
        rfl
      · intro c u hc ec
        rw [upd_ne (by rintro rfl; rw [np] at ec; cases ec)]
        exact v2 c u hc ec
    · rintro o σ' H2 lk ⟨r2, v2, o1, rfl⟩
      (try simp only [tIxO, rIsB, rNotB, tSeq, tIfS, tTest, tB, tOp, tUn, tVar, tC, tAsg, gName, tRet, tRetN, tCB, tCons, tNil, tLst_eq, tTup_eq, tDNewK_eq, tNext, tPar, tM0, tM1, tSl, tNoPart, tPart, rSlS, tAug, tAugS, tExf_eq, ipI, tChain, tCall, tDrop, tBM, tAnd, tOr, tNot, tAndV, tOrV, tNotV, tIf, tIsN, tNotN, rI, rI0, rU, rEq, rNe, gSub, cx_K, cx_K2, L2.start, wipe, scal_ii, scal_ss, scal_bb, scal_is, scal_si, scal_nn, List.map_cons, List.map_nil, List.length_cons, List.length_nil, List.cons_append, List.nil_append, List.append_nil, List.replicate, List.getElem?_cons_zero, List.getElem?_cons_succ, Option.some.injEq, exists_and_left, exists_eq_left', exists_eq_left, exists_eq, exists_eq', V.int.injEq, V.ref.injEq, V.str.injEq, V.bl.injEq, List.cons.injEq, and_true, true_and, false_and, exists_false, or_false, false_or, reduceCtorEq, List.set_cons_zero, List.set_cons_succ, Nat.reduceAdd, Nat.reduceSub, Int.reduceToNat, decide_eq_true_eq, if_true, if_false, Bool.false_eq_true, Bool.not_true, Bool.not_false, Bool.true_eq_false, ite_false, ite_true, ne_eq, not_false_eq_true, Int.reduceEq])
      rw [List.take_length] at r2
      refine q p _ np (fun c u e => ?_) (by rw [upd_ne nbp.symm]; exact r2)
      by_cases hc : c = b
      · subst hc
        rw [hb] at e
        rw [upd_same]
        exact e
      · rw [upd_ne hc]
        exact v2 c u hc e
def spBinds : Sp := fun vs H Q _ => ∃ (t g u : Addr) (us : List Str) (m : Nat), vs = [.ref t, .ref u, .int m] ∧ Stt H t g ∧ H u = some (.lst (us.map V.str)) ∧ u ≠ t ∧ u ≠ g ∧ us.length ≤ 19 ∧ (∀ x ∈ us, isIdent x = true) ∧ m ≤ 9 ∧ ∀ d H' kvs, H d = none → H' d = some (.dK kvs) → TOk kvs → kvs.length ≤ 10 → (∀ p ∈ kvs, ∃ y ∈ us, p.1 = .inr y) → Stt H' t g → ExS t g H H' → Q (.ref d) H'
theorem ok_l_bindings (T : Txt K mg) : FnOk P w K mg base CX0 3 T.d_l_bindings.a T.d_l_bindings.d ["_law_state_here", "_law_names_here", "_law_most"] spBinds := by
  refine T.d_l_bindings.F.ok sc_l_bindings (fun vs H Q E h => ?_) (fun cdv A outer s H vs Q E hr h => ?_)
  · obtain ⟨t, g, u, us, m, rfl, _⟩ := h
    rfl
  · obtain ⟨t, g, u, us, m, rfl, ht, hu', hut, hug, few, ids, hm, q⟩ := h
    have hu := hr.units
    refine ⟨_, (pss_cons (ps_set (i := 3) sc_l_bindings.nd rfl (Or.inl rfl) pe_dnewK)
      (pss_cons (ps_for PassesOwn.never rfl (pi_range1 (by rfl) T.z_range (pa_cons (pe_call (ok_l_draw T) (hr.mono (by decide)) (by rfl) T.d_l_draw.g T.d_l_draw.F.kp T.d_l_draw.b .nil pass0 (pa_cons (pv 0) (pa_cons (pe_op op_add (pv 2) pe_int) pa_nil))) pa_nil)) (pg_name (i := 4) sc_l_bindings.nd rfl (Or.inl rfl)) (pss_one (ps_if (pt_cmpR (op_neD hu) (pv 1) (pe_lst pa_nil) (nomark _)) (pss_one (ps_dput (hu_of hr) (pv 3) (pe_ix ix_list (pv 1) (pe_call (ok_l_draw T) (hr.mono (by decide)) (by rfl) T.d_l_draw.g T.d_l_draw.F.kp T.d_l_draw.b .nil pass0 (pa_cons (pv 0) (pa_cons (pe_callB call_lenL (by rfl) T.z_len (by decide +kernel) (pa_cons (pv 1) pa_nil)) pa_nil))) (fun _ _ => rfl)) (pe_call (ok_l_value T) (hr.mono (by decide)) (by rfl) T.d_l_value.g T.d_l_value.F.kp T.d_l_value.b .nil pass0 (pa_cons (pv 0) pa_nil)) rfl)) pss_nil)))
      (pss_one (ps_ret (pv 3))))), ?_⟩
    (try simp only [tIxO, rIsB, rNotB, tSeq, tIfS, tTest, tB, tOp, tUn, tVar, tC, tAsg, gName, tRet, tRetN, tCB, tCons, tNil, tLst_eq, tTup_eq, tDNewK_eq, tNext, tPar, tM0, tM1, tSl, tNoPart, tPart, rSlS, tAug, tAugS, tExf_eq, ipI, tChain, tCall, tDrop, tBM, tAnd, tOr, tNot, tAndV, tOrV, tNotV, tIf, tIsN, tNotN, rI, rI0, rU, rEq, rNe, gSub, cx_K, cx_K2, L2.start, wipe, scal_ii, scal_ss, scal_bb, scal_is, scal_si, scal_nn, List.map_cons, List.map_nil, List.length_cons, List.length_nil, List.cons_append, List.nil_append, List.append_nil, List.replicate, List.getElem?_cons_zero, List.getElem?_cons_succ, Option.some.injEq, exists_and_left, exists_eq_left', exists_eq_left, exists_eq, exists_eq', V.int.injEq, V.ref.injEq, V.str.injEq, V.bl.injEq, List.cons.injEq, and_true, true_and, false_and, exists_false, or_false, false_or, reduceCtorEq, List.set_cons_zero, List.set_cons_succ, Nat.reduceAdd, Nat.reduceSub, Int.reduceToNat, decide_eq_true_eq, if_true, if_false, Bool.false_eq_true, Bool.not_true, Bool.not_false, Bool.true_eq_false, ite_false, ite_true, ne_eq, not_false_eq_true, Int.reduceEq])
    refine newD_go fun d H1 n1 s1 r1 => ?_
    obtain ⟨d1, d2⟩ := ht.ne n1
    have em : ((m : Int) + 1) = ((m + 1 : Nat) : Int) := rfl
    refine forC_go (Cond := fun n H2 => n ≤ 10 ∧ Stt H2 t g ∧ ExS t g H1 H2) (fun R r => ?_) (fun n H2 z => by omega) (fun n i σ' H' => ∃ (kvs : Tbl) (o : Option V), H' d = some (.dK kvs) ∧ TOk kvs ∧ kvs.length ≤ i ∧ (∀ p ∈ kvs, ∃ y ∈ us, p.1 = .inr y) ∧ n ≤ 10 ∧ Stt H' t g ∧ ExS t g H H' ∧ σ' = [some (.ref t), some (.ref u), some (.int m), some (.ref d), o]) (fun n H2 z => ⟨[], _, z.2.2 _ _ d1 d2 r1, TOk.nil, Nat.le_refl _, by simp, z.1, z.2.1, (Same.exS s1).trans z.2.2, rfl⟩) ?_ ?_
    · (try simp only [tIxO, rIsB, rNotB, tSeq, tIfS, tTest, tB, tOp, tUn, tVar, tC, tAsg, gName, tRet, tRetN, tCB, tCons, tNil, tLst_eq, tTup_eq, tDNewK_eq, tNext, tPar, tM0, tM1, tSl, tNoPart, tPart, rSlS, tAug, tAugS, tExf_eq, ipI, tChain, tCall, tDrop, tBM, tAnd, tOr, tNot, tAndV, tOrV, tNotV, tIf, tIsN, tNotN, rI, rI0, rU, rEq, rNe, gSub, cx_K, cx_K2, L2.start, wipe, scal_ii, scal_ss, scal_bb, scal_is, scal_si, scal_nn, List.map_cons, List.map_nil, List.length_cons, List.length_nil, List.cons_append, List.nil_append, List.append_nil, List.replicate, List.getElem?_cons_zero, List.getElem?_cons_succ, Option.some.injEq, exists_and_left, exists_eq_left', exists_eq_left, exists_eq, exists_eq', V.int.injEq, V.ref.injEq, V.str.injEq, V.bl.injEq, List.cons.injEq, and_true, true_and, false_and, exists_false, or_false, false_or, reduceCtorEq, List.set_cons_zero, List.set_cons_succ, Nat.reduceAdd, Nat.reduceSub, Int.reduceToNat, decide_eq_true_eq, if_true, if_false, Bool.false_eq_true, Bool.not_true, Bool.not_false, Bool.true_eq_false, ite_false, ite_true, ne_eq, not_false_eq_true, Int.reduceEq])
      refine drS_go (ht.same s1) (by omega) (Nat.lt_of_le_of_lt (show (((m : Int) + 1)).natAbs ≤ 10 by omega) (show 10 < 2 ^ 1000 by decide +kernel)) fun x H2 a0 a1 T2 v2 => ?_
      obtain ⟨k, rfl⟩ := Int.eq_ofNat_of_zero_le a0
      exact r k H2 ⟨by omega, T2, v2⟩
    · rintro n i σ' H2 hi ⟨kvs, o, r2, hk, lk, hin, hn, T2, v2, rfl⟩
      (try simp only [tIxO, rIsB, rNotB, tSeq, tIfS, tTest, tB, tOp, tUn, tVar, tC, tAsg, gName, tRet, tRetN, tCB, tCons, tNil, tLst_eq, tTup_eq, tDNewK_eq, tNext, tPar, tM0, tM1, tSl, tNoPart, tPart, rSlS, tAug, tAugS, tExf_eq, ipI, tChain, tCall, tDrop, tBM, tAnd, tOr, tNot, tAndV, tOrV, tNotV, tIf, tIsN, tNotN, rI, rI0, rU, rEq, rNe, gSub, cx_K, cx_K2, L2.start, wipe, scal_ii, scal_ss, scal_bb, scal_is, scal_si, scal_nn, List.map_cons, List.map_nil, List.length_cons, List.length_nil, List.cons_append, List.nil_append, List.append_nil, List.replicate, List.getElem?_cons_zero, List.getElem?_cons_succ, Option.some.injEq, exists_and_left, exists_eq_left', exists_eq_left, exists_eq, exists_eq', V.int.injEq, V.ref.injEq, V.str.injEq, V.bl.injEq, List.cons.injEq, and_true, true_and, false_and, exists_false, or_false, false_or, reduceCtorEq, List.set_cons_zero, List.set_cons_succ, Nat.reduceAdd, Nat.reduceSub, Int.reduceToNat, decide_eq_true_eq, if_true, if_false, Bool.false_eq_true, Bool.not_true, Bool.not_false, Bool.true_eq_false, ite_false, ite_true, ne_eq, not_false_eq_true, Int.reduceEq, sDPut])
      refine newL_go fun e H3 n3 s3 r3 => ?_
      have ru3 := s3 _ _ (v2 _ _ hut hug hu')
      refine neNil_go (.inl (.inl ru3)) (.inl (.inl r3)) (fun x hx => word_ok (show isWord x = true by have z := ids x hx; unfold isIdent at z; simp only [Bool.and_eq_true] at z; exact z.1.1)) ⟨_, rfl, ?_⟩
      have T3 := T2.same s3
      have v3 := v2.same s3
      have rd3 := s3 _ _ r2
      cases us with
      | nil => exact ite2 (fun z => by cases z) (fun _ => ⟨kvs, rd3, hk, Nat.le_succ_of_le lk, hin, hn, T3, v3⟩)
      | cons u0 ur =>
        refine ite2 (fun _ => ?_) (fun z => absurd rfl z)
        refine ⟨t, g, rfl, T3, fun v H4 ov T4 v4 => ?_⟩
        have ru4 := v4 _ _ hut hug ru3
        refine ⟨_, .inl (.inl ru4), ?_⟩
        rw [List.length_map]
        refine drS_go T4 (by simp) (Nat.lt_of_le_of_lt (by rw [Int.natAbs_natCast]; exact few) (show 19 < 2 ^ 1000 by decide +kernel)) fun x H5 a0 a1 T5 v5 => ?_
        obtain ⟨y, my, ey⟩ := atI_ex (l := u0 :: ur) a0 a1
        have ru5 := v5 _ _ hut hug ru4
        refine ixM_go ru5 (atI_map (f := V.str) ey) ?_
        have rd5 := v5 _ _ d1 d2 (v4 _ _ d1 d2 rd3)
        refine ⟨_, DPut.k (k := Sum.inr y) rd5 (Nat.lt_of_le_of_lt (show kvs.length ≤ 10 by omega) (by decide)), ?_⟩
        exact ⟨_, upd_same, hk.put (ids y my) ov, Nat.le_trans (length_putK _ _ _) (Nat.succ_le_succ lk), fun p hp => (putK_mem hp).elim (fun e => ⟨y, my, by rw [e]⟩) fun m => hin p m, hn, T5.upd d1 d2, ((v3.trans v4).trans v5).upd n1⟩
    · rintro n σ' H2 ⟨kvs, o, r2, hk, lk, hin, hn, T2, v2, rfl⟩
      (try simp only [tIxO, rIsB, rNotB, tSeq, tIfS, tTest, tB, tOp, tUn, tVar, tC, tAsg, gName, tRet, tRetN, tCB, tCons, tNil, tLst_eq, tTup_eq, tDNewK_eq, tNext, tPar, tM0, tM1, tSl, tNoPart, tPart, rSlS, tAug, tAugS, tExf_eq, ipI, tChain, tCall, tDrop, tBM, tAnd, tOr, tNot, tAndV, tOrV, tNotV, tIf, tIsN, tNotN, rI, rI0, rU, rEq, rNe, gSub, cx_K, cx_K2, L2.start, wipe, scal_ii, scal_ss, scal_bb, scal_is, scal_si, scal_nn, List.map_cons, List.map_nil, List.length_cons, List.length_nil, List.cons_append, List.nil_append, List.append_nil, List.replicate, List.getElem?_cons_zero, List.getElem?_cons_succ, Option.some.injEq, exists_and_left, exists_eq_left', exists_eq_left, exists_eq, exists_eq', V.int.injEq, V.ref.injEq, V.str.injEq, V.bl.injEq, List.cons.injEq, and_true, true_and, false_and, exists_false, or_false, false_or, reduceCtorEq, List.set_cons_zero, List.set_cons_succ, Nat.reduceAdd, Nat.reduceSub, Int.reduceToNat, decide_eq_true_eq, if_true, if_false, Bool.false_eq_true, Bool.not_true, Bool.not_false, Bool.true_eq_false, ite_false, ite_true, ne_eq, not_false_eq_true, Int.reduceEq])
      exact q d H2 kvs n1 r2 hk (by omega) hin T2 v2

end
end Own

set_option Elab.async false
set_option linter.all false
set_option maxRecDepth 100000
set_option maxHeartbeats 4000000
namespace Own
open PySem PySem.Spec PyProof.Rows L2
section
variable {P : Program} {w : World} {K : PySem.W.Frag} {mg : Str → Option Value} {base : Heap}
def nmE : Nat → Str
  | 0 => "key"
  | 1 => "failed"
  | _ => "zero"
def spRaise (CF : Addr) : Sp := fun vs H _ E => ∃ n : Nat, vs = [.int n] ∧ n ≤ 2 ∧ ∀ cls d, ErrN CF n cls → E cls d H
theorem ok_l_raise (T : Txt K mg) : FnOk P w K mg base (L2.CX P w) 1 T.d_l_raise.a T.d_l_raise.d ["_law_way"] (spRaise T.c_Failed.C) := by
  refine okL T.d_l_raise.F sc_l_raise (fun vs H Q E h => ?_) (fun cdv A outer s H vs Q E hr h => ?_)
  · obtain ⟨n, rfl, _⟩ := h
    rfl
  · obtain ⟨n, rfl, hn, q⟩ := h
    have hu := hr.units
    refine ⟨_, (pss_cons (ps_if (pt_cmpR op_eq (pv 0) pe_int (nomark _)) (pss_one (L2.ps_raise rfl (takesL (E := E) rfl rfl rfl rfl) (pmk_exc excClass_KeyError ty_KeyError rfl T.z_KeyError boot_KeyError (pa_cons pe_str pa_nil)))) pss_nil)
      (pss_cons (ps_if (pt_cmpR op_eq (pv 0) pe_int (nomark _)) (pss_one (L2.ps_raise rfl (takesL (E := E) rfl rfl rfl rfl) (pmk_own0 PySem.F.excBase_ValueError T.c_Failed.x T.c_Failed.m T.c_Failed.e.ox.kC (raises_own T.c_Failed.e.ox.exC T.c_Failed.e.ox.tyC) rfl))) pss_nil)
      (pss_one (ps_ret (pe_divZ rfl (takesL (E := E) rfl rfl rfl rfl) pe_int (pe_op op_sub (pv 0) pe_int)))))), ?_⟩
    (try simp only [tIxO, rIsB, rNotB, tSeq, tIfS, tTest, tB, tOp, tUn, tVar, tC, tAsg, gName, tRet, tRetN, tCB, tCons, tNil, tLst_eq, tTup_eq, tDNewK_eq, tNext, tPar, tM0, tM1, tSl, tNoPart, tPart, rSlS, tAug, tAugS, tExf_eq, ipI, tChain, tCall, tDrop, tBM, tAnd, tOr, tNot, tAndV, tOrV, tNotV, tIf, tIsN, tNotN, rI, rI0, rU, rEq, rNe, gSub, cx_K, cx_K2, L2.start, wipe, scal_ii, scal_ss, scal_bb, scal_is, scal_si, scal_nn, List.map_cons, List.map_nil, List.length_cons, List.length_nil, List.cons_append, List.nil_append, List.append_nil, List.replicate, List.getElem?_cons_zero, List.getElem?_cons_succ, Option.some.injEq, exists_and_left, exists_eq_left', exists_eq_left, exists_eq, exists_eq', V.int.injEq, V.ref.injEq, V.str.injEq, V.bl.injEq, List.cons.injEq, and_true, true_and, false_and, exists_false, or_false, false_or, reduceCtorEq, List.set_cons_zero, List.set_cons_succ, Nat.reduceAdd, Nat.reduceSub, Int.reduceToNat, decide_eq_true_eq, if_true, if_false, Bool.false_eq_true, Bool.not_true, Bool.not_false, Bool.true_eq_false, ite_false, ite_true, ne_eq, not_false_eq_true, Int.reduceEq])
    refine ite2 (fun z => ?_) (fun z0 => ite2 (fun z => ?_) (fun z1 => ?_))
    · exact ⟨by show 1 ≤ sizeLine; rw [sizeLine_eq]; omega, fun d => q _ _ (.inl ⟨by omega, rfl⟩)⟩
    · exact q _ _ (.inr (.inl ⟨by omega, rfl⟩))
    · have e : n = 2 := by omega
      subst e
      exact ⟨rfl, fun d => q _ _ (.inr (.inr ⟨rfl, rfl⟩))⟩
/-- _law_caught(f): what f is, and what it may do -/
def spCauT (P : Program) (w : World) (K : PySem.W.Frag) (mg : Str → Option Value) (base : Heap) (kf : Nat) (CF : Addr) : SpS := fun outer s vs H Q _ => ∃ (f : Addr) (B : CB) (fr : List Str) (ws : List (Option V)) (sp : SpC), vs = [.ref f] ∧ CbT P w K mg base (L2.CX P w) kf f B [] fr sp ∧ NdefX.CellsAt B.cl fr ws s.heap H ∧ (∀ y c, B.cl.lookup y = some c → c ∉ frs outer) ∧ H f = some B.O ∧ H B.c = some (CodeH B.c B.q B.P) ∧
  ∀ (R : VK) (EE : XK), (∀ v H', (∀ p, H' p = none → Q (.ref p) (upd H' p (.tup [.str "value", v]))) → R v H') → (∀ n cls d H', ErrN CF n cls → (∀ p, H' p = none → Q (.ref p) (upd H' p (.tup [.str (nmE n), .int n]))) → EE cls d H') → ∀ outer' s', CK outer s H outer' s' H → sp outer' s' ws [] H R EE
abbrev sRetT (P : Program) (w : World) (K : PySem.W.Frag) (mg : Str → Option Value) (base : Heap) (outer : List Env) (s : Shared) (H : Hp) (kf : Nat) (W : WX) : TS := tRet (tTup (tCons (tC (.str "value")) (tCons (tCallT0 P w K mg base outer s H (L2.CX P w) kf 0 (fun σ => WE W σ)) tNil)))
theorem ok_l_caughtT (T : Txt K mg) {kf : Nat} : FnT P w K mg base CX0 (kf + 1) T.d_l_caught.a T.d_l_caught.d ["_law_act"] (spCauT P w K mg base kf T.c_Failed.C) := by
  refine okT T.d_l_caught.F sc_l_caught (fun outer s vs H Q E h => ?_) (fun A outer s H vs Q E ht e0 h => ?_)
  · obtain ⟨f, _, _, _, _, rfl, _⟩ := h
    rfl
  · obtain ⟨f, B, fr, ws, sp, rfl, Fn, Cl, nf, hf, hcF, go⟩ := h
    have hr := ht.leaf
    have hu := hr.units
    have two : (2 : Nat) ≤ sizeLine := by rw [sizeLine_eq]; omega
    refine ⟨_, (pss_one (ps_try_many (tb := fun W => sRetT P w K mg base outer s H kf W) rfl rfl LamX.takes0 (fun W pn xe tkW po => (pss_one (ps_ret (pe_tup (pa_cons pe_str (pa_cons (pe_callTT0 (k := kf) (i := 0) (Ew := fun σ => WE W σ) rfl ht (fun σ => L2.passAt tkW σ) rfl (.inl rfl)) pa_nil)))))) (.cons (names_blt rfl T.z_KeyError boot_KeyError) (fun _ _ _ _ _ _ _ => pss_one (ps_ret (pe_tup (pa_cons pe_str (pa_cons pe_int pa_nil))))) (.cons ⟨rfl, rfl, .inl T.c_Failed.m⟩ (fun _ _ _ _ _ _ _ => pss_one (ps_ret (pe_tup (pa_cons pe_str (pa_cons pe_int pa_nil))))) (.cons (names_blt rfl T.z_ZeroDivisionError boot_ZeroDivisionError) (fun _ _ _ _ _ _ _ => pss_one (ps_ret (pe_tup (pa_cons pe_str (pa_cons pe_int pa_nil))))) .nil))))), ?_⟩
    (try simp only [tIxO, rIsB, rNotB, tSeq, tIfS, tTest, tB, tOp, tUn, tVar, tC, tAsg, gName, tRet, tRetN, tCB, tCons, tNil, tLst_eq, tTup_eq, tDNewK_eq, tNext, tPar, tM0, tM1, tSl, tNoPart, tPart, rSlS, tAug, tAugS, tExf_eq, ipI, tChain, tCall, tDrop, tBM, tAnd, tOr, tNot, tAndV, tOrV, tNotV, tIf, tIsN, tNotN, rI, rI0, rU, rEq, rNe, gSub, cx_K, cx_K2, L2.start, wipe, scal_ii, scal_ss, scal_bb, scal_is, scal_si, scal_nn, List.map_cons, List.map_nil, List.length_cons, List.length_nil, List.cons_append, List.nil_append, List.append_nil, List.replicate, List.getElem?_cons_zero, List.getElem?_cons_succ, Option.some.injEq, exists_and_left, exists_eq_left', exists_eq_left, exists_eq, exists_eq', V.int.injEq, V.ref.injEq, V.str.injEq, V.bl.injEq, List.cons.injEq, and_true, true_and, false_and, exists_false, or_false, false_or, reduceCtorEq, List.set_cons_zero, List.set_cons_succ, Nat.reduceAdd, Nat.reduceSub, Int.reduceToNat, decide_eq_true_eq, if_true, if_false, Bool.false_eq_true, Bool.not_true, Bool.not_false, Bool.true_eq_false, ite_false, ite_true, ne_eq, not_false_eq_true, Int.reduceEq, tCallT0, wMany, sRetT])
    refine ⟨B, fr, ws, sp, Fn, hf, hcF, fun outer' s' ck => ⟨(ck _ _ _ Cl nf).1, go _ _ (fun v H' q => ⟨two, q⟩) (fun n cls d H' er q => ?_) _ _ ck⟩⟩
    rcases er with ⟨rfl, rfl⟩ | ⟨rfl, rfl⟩ | ⟨rfl, rfl⟩
    · exact ⟨true, T.x_KK, fun _ a na => ⟨two, q⟩, fun z => by cases z⟩
    · exact ⟨false, T.x_FK, (fun z => by cases z), fun _ => ⟨true, T.x_FF, fun _ a na => ⟨two, q⟩, fun z => by cases z⟩⟩
    · exact ⟨false, T.x_ZK, (fun z => by cases z), fun _ => ⟨false, T.x_ZF, (fun z => by cases z), fun _ => ⟨true, T.x_ZZ, fun _ a na => ⟨two, q⟩, fun z => by cases z⟩⟩⟩

end
end Own

set_option Elab.async false
set_option linter.all false
set_option maxRecDepth 100000
set_option maxHeartbeats 4000000
namespace Own
open PySem PySem.Spec PyProof.Rows L2
section
variable {P : Program} {w : World} {K : PySem.W.Frag} {mg : Str → Option Value} {base : Heap}
/-- all stays but the scope at x, and tables of code -/
def Dx1 (x : Addr) (H H' : Hp) : Prop := ∀ b o, b ≠ x → (∀ ps, o ≠ .tbl ps) → H b = some o → H' b = some o
theorem Dx1.refl (x : Addr) (H : Hp) : Dx1 x H H := fun _ _ _ _ e => e
theorem Dx1.trans {x : Addr} {H H1 H2 : Hp} (a : Dx1 x H H1) (b : Dx1 x H1 H2) : Dx1 x H H2 := fun c o h3 h4 e => b c o h3 h4 (a c o h3 h4 e)
theorem Dx1.same {x : Addr} {H H' : Hp} (s : Same H H') : Dx1 x H H' := fun _ _ _ _ e => s _ _ e
theorem Dx1.exT {x : Addr} {H H' : Hp} (s : ExT x H H') : Dx1 x H H' := fun _ _ h3 _ e => s _ _ h3 e
theorem Dx1.extN {x : Addr} {H H' : Hp} (s : LamX.ExtN H H') : Dx1 x H H' := fun _ _ _ h4 e => s _ _ e h4
theorem Dx1.put {x : Addr} {H : Hp} {o : HO} : Dx1 x H (upd H x o) := fun _ _ h _ e => by rw [upd_ne h]; exact e
theorem Dx1.dy {x : Addr} {Z : List Addr} {H H' : Hp} (D : Dx1 x H H') (h : x ∈ Z) : Dy Z H H' := fun b o n t e => D b o (fun z => n (z ▸ h)) t e
theorem keepT_exT {H H' : Hp} {x S dx : Addr} {fs : List (Str × V)} (e : H x = some (.ins S dx fs)) (ex : ExT x H H') : KeepT H H' := fun b o hb _ h2 _ => ex b o (fun z => by rw [z, e] at hb; exact h2 _ _ _ (Option.some.inj hb).symm) hb
theorem Lay.dx1 {C S x r0 r l0 st dx : Addr} {n : Int} {m : Str} {H H' : Hp} (hx : H x = some (.ins S dx (ScpF r l0 st n m))) (D : Dx1 x H H') : ∀ {ts : List Tbl} {l : Addr}, Lay C r0 H l ts → Lay C r0 H' l ts
  | [], _, h => h
  | _ :: _, l, ⟨dl, d, hd, h⟩ => by
    have nd : d ≠ x := fun z => by rw [z, hx] at hd; cases hd
    have go : ∀ {p : V} {k : Nat}, H l = some (.ins C dl (LayF d p k)) → H' l = some (.ins C dl (LayF d p k)) := fun {p k} e => by
      refine D _ _ (fun z => ?_) (fun _ z => by cases z) e
      rw [z, hx] at e
      injection e with e
      injection e with _ _ e
      unfold ScpF LayF at e
      injection e with e
      injection e with e
      exact absurd e (by decide)
    exact ⟨dl, d, D _ _ nd (fun _ z => by cases z) hd, h.elim (fun ⟨a, b, z⟩ => .inl ⟨a, b, go z⟩) fun ⟨l', h', z⟩ => .inr ⟨l', Lay.dx1 hx D h', go z⟩⟩
theorem ScpOk.dx1 {S L x r l st : Addr} {H H' : Hp} {n : Int} {m : Str} {ts : List Tbl} {t0 : Tbl} (h : ScpOk S L H x r l st n m ts t0) (D : Dx1 x H H') (hx : Scp S H' x r l st n m) : ScpOk S L H' x r l st n m ts t0 := by
  obtain ⟨dx, e⟩ := h.at_
  obtain ⟨ss, hs, hk⟩ := h.std
  exact ⟨hx, h.root.dx1 e D, h.lay.dx1 e D, ⟨ss, hs.dx1 e D, hk⟩, h.ok0, h.ok⟩
/-- the layer is on -/
theorem ScpOk.on {S L x r l st l' dl d : Addr} {H H3 : Hp} {n : Int} {m : Str} {ts : List Tbl} {t0 kv : Tbl} (h : ScpOk S L H x r l st n m ts t0) (tk : TOk kv) (G : DurH S L H H3 x r l st l' dl d n m ts t0 kv) : ScpOk S L H3 x r l' st n m (kv :: ts) t0 := by
  obtain ⟨dx, e⟩ := h.at_
  obtain ⟨ss, hs, hk⟩ := h.std
  have D : Dx1 x H H3 := .exT G.ext
  exact ⟨G.sc, h.root.dx1 e D, ⟨dl, d, G.tab, .inr ⟨l, h.lay.dx1 e D, G.lay⟩⟩, ⟨ss, hs.dx1 e D, hk⟩, h.ok0, fun t mt => (List.mem_cons.mp mt).elim (fun z => z ▸ tk) (h.ok t)⟩
theorem ScpOk.all {S L x r l st : Addr} {H : Hp} {n : Int} {m : Str} {as : List Tbl} {t0 : Tbl} (h : ScpOk S L H x r l st n m as t0) : ∀ t ∈ as ++ [t0], TOk t := fun t mt => by
  rcases List.mem_append.mp mt with z | z
  · exact h.ok t z
  · have e : t = t0 := by simpa using z
    rw [e]
    exact h.ok0
/-- all but lists stays -/
def NL (H H' : Hp) : Prop := ∀ b o, H b = some o → (∀ xs, o ≠ .lst xs) → H' b = some o
theorem NL.trans {H H1 H2 : Hp} (a : NL H H1) (b : NL H1 H2) : NL H H2 := fun c o e n => b c o (a c o e n) n
theorem NL.same {H H' : Hp} (s : Same H H') : NL H H' := fun _ _ e _ => s _ _ e
theorem Lay.nl {C r : Addr} {H H' : Hp} (k : NL H H') : ∀ {ts : List Tbl} {l : Addr}, Lay C r H l ts → Lay C r H' l ts
  | [], _, h => h
  | _ :: _, _, ⟨dx, d, hd, h⟩ => ⟨dx, d, k _ _ hd (fun _ z => by cases z), h.elim (fun ⟨e, e2, z⟩ => .inl ⟨e, e2, k _ _ z (fun _ z => by cases z)⟩) fun ⟨l', h', z⟩ => .inr ⟨l', Lay.nl k h', k _ _ z (fun _ z => by cases z)⟩⟩
theorem ScpOk.nl {S L x r l st : Addr} {H H' : Hp} {n : Int} {m : Str} {ts : List Tbl} {t0 : Tbl} (h : ScpOk S L H x r l st n m ts t0) (k : NL H H') : ScpOk S L H' x r l st n m ts t0 :=
  ⟨let ⟨dx, e⟩ := h.at_; ⟨dx, k _ _ e (fun _ z => by cases z)⟩, h.root.nl k, h.lay.nl k, let ⟨ss, e, hk⟩ := h.std; ⟨ss, e.nl k, hk⟩, h.ok0, h.ok⟩
theorem stt_ne {t g b : Addr} {H : Hp} {o : HO} (ht : Stt H t g) (e : H b = some o) (n : ∀ xs, o ≠ .lst xs) : b ≠ t ∧ b ≠ g := by
  obtain ⟨_, gs, c, k, sd, h1, h2, _⟩ := ht
  exact ⟨fun z => by rw [z, h1] at e; exact n _ (Option.some.inj e).symm, fun z => by rw [z, h2] at e; exact n _ (Option.some.inj e).symm⟩
theorem NL.exS {t g : Addr} {H H' : Hp} (ht : Stt H t g) (v : ExS t g H H') : NL H H' := fun b o e n => v b o (stt_ne ht e n).1 (stt_ne ht e n).2 e
theorem dx1_ni {x S dx r l st b : Addr} {n : Int} {m : Str} {H H' : Hp} {o : HO} (hx : H x = some (.ins S dx (ScpF r l st n m))) (D : Dx1 x H H') (n1 : ∀ C d f, o ≠ .ins C d f) (n2 : ∀ ps, o ≠ .tbl ps) (e : H b = some o) : H' b = some o :=
  D _ _ (fun z => by rw [z, hx] at e; exact n1 _ _ _ (Option.some.inj e).symm) n2 e
theorem Stt.dx1 {t g x S dx r l st : Addr} {n : Int} {m : Str} {H H' : Hp} (h : Stt H t g) (hx : H x = some (.ins S dx (ScpF r l st n m))) (D : Dx1 x H H') : Stt H' t g := by
  obtain ⟨h1, gs, c, k, sd, e1, e2, s⟩ := h
  exact ⟨h1, gs, c, k, sd, dx1_ni hx D (fun _ _ _ z => by cases z) (fun _ z => by cases z) e1, dx1_ni hx D (fun _ _ _ z => by cases z) (fun _ z => by cases z) e2, s⟩
theorem srt_keyG {tb s : Tbl} {p : Key × V} (tk : TOk tb) (h : Srt tb s) (m : p ∈ s) : ∃ q ∈ tb, q.1 = p.1 := by
  have e : (valV s p.1).isSome = true := valV_key.mpr (List.mem_map.mpr ⟨p, m, rfl⟩)
  rw [h.eqv tk] at e
  obtain ⟨q, hq, e2⟩ := List.mem_map.mp (valV_key.mp e)
  exact ⟨q, hq, e2⟩
theorem srt_congr {a b s : Tbl} (ha : TOk a) (hb : TOk b) (e : Eqv a b) (h : Srt a s) : Srt b s := by
  obtain ⟨us, pu, su, rfl⟩ := h
  exact ⟨us, pu.trans (names_perm ha hb e), su, byN_congr e us⟩
theorem recD_keys {ys : List Str} {ls : List Tbl} {p : Key × V} (tk : TOk (recD ys ls)) (mp : p ∈ recD ys ls) : ∃ y ∈ ys, p.1 = .inr y := by
  have e : (valV (recD ys ls) p.1).isSome = true := valV_key.mpr (List.mem_map.mpr ⟨p, mp, rfl⟩)
  have z := keyId_txt (tk.id p mp)
  rw [z, recD_val] at e
  by_cases my : txt p.1 ∈ ys
  · exact ⟨_, my, z⟩
  · rw [if_neg my] at e
    cases e
theorem ppmap {α β : Type} {R S : α → β → Prop} : ∀ {l : List α} {m : List β}, Paired R l m → (∀ x y, R x y → y ∈ m → S x y) → Paired S l m
  | _, _, .nil, _ => .nil
  | _, _, .cons a r, h => .cons (h _ _ a (by simp)) (ppmap r fun x y e m => h x y e (by simp [m]))
def lam_l_enter_0 : Expr := (sVal (sBody 2 ((defBody s_l_enter).getD 4 stN)))
def fr_l_enter_0 : List Str := ["_law_scope", "_law_given", "_law_box", "_law_inner", "_law_level"]
theorem sc_lam_l_enter_0 : NdefX.NScope ["_law_scope", "_law_given", "_law_box", "_law_inner", "_law_level"] [] fr_l_enter_0 (lamSc lam_l_enter_0) := NdefX.nscope_by (by decide +kernel)
def lam_l_enter_1 : Expr := (eArg 1 (lamB (sVal (sBody 2 ((defBody s_l_enter).getD 4 stN)))))
def fr_l_enter_1 : List Str := ["_law_box", "_law_inner", "_law_level"]
theorem sc_lam_l_enter_1 : NdefX.NScope ["_law_one", "_law_box", "_law_inner", "_law_level"] ["_law_one"] fr_l_enter_1 (lamSc lam_l_enter_1) := NdefX.nscope_by (by decide +kernel)
def lam_l_enter_2 : Expr := (sVal (sBody 1 ((defBody s_l_enter).getD 5 stN)))
def fr_l_enter_2 : List Str := ["_law_scope", "_law_box", "_law_root", "_law_level"]
theorem sc_lam_l_enter_2 : NdefX.NScope ["_law_scope", "_law_box", "_law_root", "_law_level"] [] fr_l_enter_2 (lamSc lam_l_enter_2) := NdefX.nscope_by (by decide +kernel)
def lam_l_enter_3 : Expr := (eArg 0 (lamB (sVal (sBody 1 ((defBody s_l_enter).getD 5 stN)))))
def fr_l_enter_3 : List Str := ["_law_box", "_law_root", "_law_level"]
theorem sc_lam_l_enter_3 : NdefX.NScope ["_law_one", "_law_box", "_law_root", "_law_level"] ["_law_one"] fr_l_enter_3 (lamSc lam_l_enter_3) := NdefX.nscope_by (by decide +kernel)
def lam_l_enter_4 : Expr := (eArg 0 (sVal (sBody 2 ((defBody s_l_enter).getD 6 stN))))
def fr_l_enter_4 : List Str := ["_law_box"]
theorem sc_lam_l_enter_4 : NdefX.NScope ["_law_one", "_law_box"] ["_law_one"] fr_l_enter_4 (lamSc lam_l_enter_4) := NdefX.nscope_by (by decide +kernel)
def lam_l_enter_5 : Expr := (sVal ((defBody s_l_enter).getD 12 stN))
def fr_l_enter_5 : List Str := ["_law_target", "_law_home", "_law_kept", "_law_box"]
theorem sc_lam_l_enter_5 : NdefX.NScope ["_law_target", "_law_home", "_law_kept", "_law_box"] [] fr_l_enter_5 (lamSc lam_l_enter_5) := NdefX.nscope_by (by decide +kernel)
abbrev qE : Str := (("_law_enter" : Str) ++ ".<locals>.") ++ "<lambda>"
theorem free_E0 : NdefX.ndefB (defScope s_l_enter) (lamSc lam_l_enter_0) fr_l_enter_0 = true := by decide +kernel
theorem free_E1 : NdefX.ndefB (lamSc lam_l_enter_0) (lamSc lam_l_enter_1) fr_l_enter_1 = true := by decide +kernel
theorem free_E2 : NdefX.ndefB (defScope s_l_enter) (lamSc lam_l_enter_2) fr_l_enter_2 = true := by decide +kernel
theorem free_E3 : NdefX.ndefB (lamSc lam_l_enter_2) (lamSc lam_l_enter_3) fr_l_enter_3 = true := by decide +kernel
theorem free_E4 : NdefX.ndefB (defScope s_l_enter) (lamSc lam_l_enter_4) fr_l_enter_4 = true := by decide +kernel
theorem free_E5 : NdefX.ndefB (defScope s_l_enter) (lamSc lam_l_enter_5) fr_l_enter_5 = true := by decide +kernel
theorem nd_len {α : Type} [BEq α] [LawfulBEq α] : ∀ {l m : List α}, l.Nodup → (∀ x ∈ l, x ∈ m) → l.length ≤ m.length
  | [], _, _, _ => Nat.zero_le _
  | a :: l, m, nd, h => by
    have ha := h a (by simp)
    have z := nd_len (l := l) (m := m.erase a) (List.nodup_cons.mp nd).2 fun x hx => (List.mem_erase_of_ne (fun e => (List.nodup_cons.mp nd).1 (by rw [← e]; exact hx))).mpr (h x (by simp [hx]))
    rw [List.length_erase_of_mem ha] at z
    have : 0 < m.length := List.length_pos_of_mem ha
    rw [List.length_cons]
    omega
/-- the law's own things -/
structure Ct where
  t : Addr
  g : Addr
  bx : Addr
  u : Addr
  bl : Addr
  el : Addr
  sl : Addr
  wl : Addr
  kl : Addr
  b : Nat → Addr
  x : Nat → Addr
  r : Nat → Addr
  m : Nat → Str
  us : List Str
  sB : Nat → Tbl
  kv : Nat → Tbl
/-- a round's numbers -/
structure Rw where
  bo : Nat
  tp : Nat
  wy : Nat
/-- the law's box -/
def boxT (c : Ct) (dl : Addr) (rw : Rw) : Tbl := [(.inr "state", .ref c.t), (.inr "names", .ref c.u), (.inr "base", .ref c.bl), (.inr "engines", .ref c.el), (.inr "kept", .ref c.kl), (.inr "due", .ref dl), (.inr "wrong", .ref c.wl), (.inr "scopes", .ref c.sl), (.inr "bottom", .int rw.bo), (.inr "top", .int rw.tp), (.inr "way", .int rw.wy)]
theorem box_not {c : Ct} {dl : Addr} {rw : Rw} : ¬ TOk (boxT c dl rw) := fun h => by
  have z := h.ok (.inr "state", .ref c.t) (by unfold boxT; simp)
  cases z
section
variable {c : Ct} {dl : Addr} {rw : Rw} {H : Hp}
theorem bg_state (h : H c.bx = some (.dK (boxT c dl rw))) : DGet H c.bx (.str "state") (some (.ref c.t)) := DGet.k (k := Sum.inr "state") h
theorem bg_names (h : H c.bx = some (.dK (boxT c dl rw))) : DGet H c.bx (.str "names") (some (.ref c.u)) := DGet.k (k := Sum.inr "names") h
theorem bg_base (h : H c.bx = some (.dK (boxT c dl rw))) : DGet H c.bx (.str "base") (some (.ref c.bl)) := DGet.k (k := Sum.inr "base") h
theorem bg_engines (h : H c.bx = some (.dK (boxT c dl rw))) : DGet H c.bx (.str "engines") (some (.ref c.el)) := DGet.k (k := Sum.inr "engines") h
theorem bg_kept (h : H c.bx = some (.dK (boxT c dl rw))) : DGet H c.bx (.str "kept") (some (.ref c.kl)) := DGet.k (k := Sum.inr "kept") h
theorem bg_due (h : H c.bx = some (.dK (boxT c dl rw))) : DGet H c.bx (.str "due") (some (.ref dl)) := DGet.k (k := Sum.inr "due") h
theorem bg_wrong (h : H c.bx = some (.dK (boxT c dl rw))) : DGet H c.bx (.str "wrong") (some (.ref c.wl)) := DGet.k (k := Sum.inr "wrong") h
theorem bg_scopes (h : H c.bx = some (.dK (boxT c dl rw))) : DGet H c.bx (.str "scopes") (some (.ref c.sl)) := DGet.k (k := Sum.inr "scopes") h
theorem bg_bottom (h : H c.bx = some (.dK (boxT c dl rw))) : DGet H c.bx (.str "bottom") (some (.int rw.bo)) := DGet.k (k := Sum.inr "bottom") h
theorem bg_top (h : H c.bx = some (.dK (boxT c dl rw))) : DGet H c.bx (.str "top") (some (.int rw.tp)) := DGet.k (k := Sum.inr "top") h
theorem bg_way (h : H c.bx = some (.dK (boxT c dl rw))) : DGet H c.bx (.str "way") (some (.int rw.wy)) := DGet.k (k := Sum.inr "way") h
end
/-- a kept action of the law: its addresses, its tables -/
structure KI where
  tp : Addr
  k : Addr
  fs : Addr
  er : Addr
  c1 : Addr
  P1 : Addr
  c : Addr
  rc : Addr
  o : Obj
  cl : List (Str × Addr)
  sR : Tbl
  tb : Tbl
  hm : Nat
structure KP (base : Heap) (bx : Addr) (us : List Str) (i : KI) : Prop where
  od : i.o.data = .cell (some (.ref bx))
  cl1 : ∀ z c', i.cl.lookup z = some c' → z = ("_law_box" : Str) ∧ c' = i.c
  cl2 : i.cl.lookup ("_law_box" : Str) = some i.c
  fc : i.fs ≠ i.c
  cc : i.c1 ≠ i.c
  nb : base.get? i.c = none
  srt : Srt i.tb i.sR
  tok : TOk i.tb
  all : ∀ p ∈ i.tb, ∃ y ∈ us, p.1 = .inr y
  hm : i.hm < 2
structure KH (C Kc : Addr) (H : Hp) (x : Addr) (i : KI) : Prop where
  tp : H i.tp = some (.tup [.ref i.k, .ref i.rc, .int i.hm])
  k : ∃ dk, H i.k = some (.ins Kc dk (KeptF (.ref i.fs) (.ref i.er) (.ref x)))
  env : EnvAt C H i.er i.sR
  lam : H i.fs = some (LamO i.fs (lfE lam_l_enter_4 qE i.cl i.c1) (lamB lam_l_enter_4))
  code : H i.c1 = some (CodeH i.c1 qE i.P1)
  cell : H i.c = some (CellO i.c i.o)
  rc : H i.rc = some (.dK i.tb)
theorem mut_lam {f : Addr} {F : NdefX.NF} {e : Expr} : ¬ MutO (LamO f F e) := fun m => m.elim (fun ⟨_, z⟩ => lamO_ne.1 _ z) fun m => m.elim (fun ⟨_, _, _, _, z⟩ => lamO_ne.2.1 _ _ _ z) fun ⟨_, z, _⟩ => lamO_ne.2.2.1 _ z
theorem mut_code {c P : Addr} {q : Str} : ¬ MutO (CodeH c q P) := fun m => m.elim (fun ⟨_, z⟩ => codeH_ne.1 _ z) fun m => m.elim (fun ⟨_, _, _, _, z⟩ => codeH_ne.2.1 _ _ _ z) fun ⟨_, z, _⟩ => codeH_ne.2.2.1 _ z
theorem mut_cell {c : Addr} {o : Obj} : ¬ MutO (CellO c o) := fun m => m.elim (fun ⟨_, z⟩ => cellO_ne.1 _ z) fun m => m.elim (fun ⟨_, _, _, _, z⟩ => cellO_ne.2.1 _ _ _ z) fun ⟨_, z, _⟩ => cellO_ne.2.2.1 _ z
theorem KH.dy {C Kc x : Addr} {H H' : Hp} {i : KI} {Z : List Addr} {base : Heap} {bx : Addr} {us : List Str} (K : KH C Kc H x i) (p : KP base bx us i) (D : Dy Z H H') (z : ZOk Z H) : KH C Kc H' x i := by
  obtain ⟨dk, hk⟩ := K.k
  obtain ⟨de, d, h1, h2⟩ := K.env
  exact ⟨D.keep z K.tp mut_tup (fun _ z => by cases z), ⟨dk, D.keep z hk (mut_ins (by decide +kernel)) (fun _ z => by cases z)⟩, ⟨de, d, D.keep z h1 (mut_ins (by decide +kernel)) (fun _ z => by cases z), D.dk z h2 (p.srt.tok p.tok)⟩, D.keep z K.lam mut_lam lamO_ne.2.2.2, D.keep z K.code mut_code codeH_ne.2.2.2, D.keep z K.cell mut_cell cellO_ne.2.2.2, D.dk z K.rc p.tok⟩
/-- the table that shows what these layers bind -/
structure EvK (us : List Str) (as : List Tbl) (sB te : Tbl) : Prop where
  tok : TOk te
  all : ∀ p ∈ te, ∃ y ∈ us, p.1 = .inr y
  val : ∀ y, valV te (.inr y) = lookL (as ++ [sB]) y
theorem tbl_few {us : List Str} {te : Tbl} (tk : TOk te) (all : ∀ p ∈ te, ∃ y ∈ us, p.1 = .inr y) : te.length ≤ us.length := by
  have e : (names te).length = te.length := by unfold names; rw [List.length_map]
  rw [← e]
  refine nd_len tk.names_nd fun x hx => ?_
  obtain ⟨p, hp, rfl⟩ := List.mem_map.mp hx
  obtain ⟨y, my, z⟩ := all p hp
  rw [z]
  exact my
theorem EvK.over {us : List Str} {as : List Tbl} {sB te g sg : Tbl} (E : EvK us as sB te) (tg : TOk g) (ag : ∀ p ∈ g, ∃ y ∈ us, p.1 = .inr y) (hs : Eqv sg g) : EvK us (sg :: as) sB (mergeK te g) := by
  refine ⟨merge_tok E.tok tg, fun p mp => ?_, fun y => ?_⟩
  · have e : (valV (mergeK te g) p.1).isSome = true := valV_key.mpr (List.mem_map.mpr ⟨p, mp, rfl⟩)
    rw [valV_merge tg.nd] at e
    cases ev : valV g p.1 with
    | some v =>
      obtain ⟨q, hq, e2⟩ := List.mem_map.mp (valV_key.mp (show (valV g p.1).isSome = true by rw [ev]; rfl))
      obtain ⟨y, my, e3⟩ := ag q hq
      exact ⟨y, my, e2.symm.trans e3⟩
    | none =>
      rw [ev] at e
      obtain ⟨q, hq, e2⟩ := List.mem_map.mp (valV_key.mp e)
      obtain ⟨y, my, e3⟩ := E.all q hq
      exact ⟨y, my, e2.symm.trans e3⟩
  · rw [valV_merge tg.nd, E.val, ← hs]
    show _ = (match valV sg (.inr y) with | some v => some v | none => lookL (as ++ [sB]) y)
    cases valV sg (Sum.inr y : Key) <;> rfl
theorem upd_comm {H : Hp} {a b : Addr} {o u : HO} (n : a ≠ b) : upd (upd H a o) b u = upd (upd H b u) a o := by
  funext d
  by_cases h1 : d = a
  · subst h1
    rw [upd_same, upd_ne n, upd_same]
  · by_cases h2 : d = b
    · subst h2
      rw [upd_same, upd_ne h1, upd_same]
    · rw [upd_ne h2, upd_ne h1, upd_ne h1, upd_ne h2]
/-- what a call may change, and nothing is forgotten -/
structure DyN (Z : List Addr) (H H' : Hp) : Prop where
  dy : Dy Z H H'
  nn : ∀ b, H' b = none → H b = none
theorem DyN.refl (Z : List Addr) (H : Hp) : DyN Z H H := ⟨.refl _ _, fun _ h => h⟩
theorem DyN.trans {Z : List Addr} {H H1 H2 : Hp} (a : DyN Z H H1) (b : DyN Z H1 H2) : DyN Z H H2 := ⟨a.dy.trans b.dy, fun d h => a.nn d (b.nn d h)⟩
theorem DyN.same {Z : List Addr} {H H' : Hp} (s : Same H H') : DyN Z H H' := ⟨.same s, fun d h => same_none s h⟩
theorem DyN.extN {Z : List Addr} {H H' : Hp} (e : LamX.ExtN H H') (nn : ∀ b, H' b = none → H b = none) : DyN Z H H' := ⟨.extN e, nn⟩
theorem DyN.put {Z : List Addr} {H : Hp} {x : Addr} {o : HO} (h : x ∈ Z) : DyN Z H (upd H x o) := ⟨.put h, fun d e => by
  by_cases z : d = x
  · rw [z, upd_same] at e
    cases e
  · rw [upd_ne z] at e
    exact e⟩
theorem DyN.exS {Z : List Addr} {H H' : Hp} {t g : Addr} (v : ExS t g H H') (T' : Stt H' t g) (ht : t ∈ Z) (hg : g ∈ Z) : DyN Z H H' := ⟨.exS v ht hg, fun d e => by
  obtain ⟨_, gs, c, k, sd, e1, e2, _⟩ := T'
  cases h : H d with
  | none => rfl
  | some o =>
    exfalso
    by_cases z1 : d = t
    · rw [z1, e1] at e
      cases e
    · by_cases z2 : d = g
      · rw [z2, e2] at e
        cases e
      · rw [v d o z1 z2 h] at e
        cases e⟩
theorem DyN.exT {Z : List Addr} {H H' : Hp} {x : Addr} {o : HO} (s : ExT x H H') (h : x ∈ Z) (e : H' x = some o) : DyN Z H H' := ⟨.exT s h, fun d n => by
  cases hd : H d with
  | none => rfl
  | some u =>
    exfalso
    by_cases z : d = x
    · rw [z, e] at n
      cases n
    · rw [s d u z hd] at n
      cases n⟩
theorem DyN.to {Z Z' : List Addr} {H H1 H2 : Hp} (a : DyN Z H H1) (b : DyN Z' H1 H2) (z : ∀ d ∈ Z', d ∈ Z ∨ H d = none) : DyN Z H H2 := ⟨fun d o h n e => b.dy d o (fun m => (z d m).elim h fun y => by rw [y] at e; cases e) n (a.dy d o h n e), fun d h => a.nn d (b.nn d h)⟩
/-- what stays the same in the whole law -/
structure Cst (c : Ct) : Prop where
  few : c.us.length ≤ 5
  ne : c.us ≠ []
  nd : c.us.Nodup
  ids : ∀ y ∈ c.us, isIdent y = true
  has : ∀ w, w < 2 → ∀ y ∈ c.us, (valV (c.sB w) (.inr y)).isSome = true
  per : ∀ w, w < 2 → (names (c.sB w)).Perm c.us
  tsB : ∀ w, w < 2 → TOk (c.sB w)
  ev : ∀ w, w < 2 → EvK c.us [] (c.sB w) (c.kv w)
  xne : c.x 0 ≠ c.x 1
theorem two_cases {w : Nat} (h : w < 2) : w = 0 ∨ w = 1 := by omega
abbrev Zw (c : Ct) (dl : Addr) : List Addr := [c.t, c.g, c.bx, c.kl, dl, c.x 0, c.x 1]
theorem zw_x {c : Ct} {dl : Addr} {w : Nat} (h : w < 2) : c.x w ∈ Zw c dl := by
  rcases two_cases h with rfl | rfl <;> simp
theorem two_at {α : Type} {f : Nat → α} {w : Nat} (h : w < 2) : atI [f 0, f 1] (w : Int) = some (f w) := by
  rcases two_cases h with rfl | rfl <;> rfl
/-- both scopes stand where they are told to -/
def Hx (S : Addr) (H : Hp) (c : Ct) : Prop := ∀ w, w < 2 → ∃ dx r l st n m, H (c.x w) = some (.ins S dx (ScpF r l st n m))
def Sc2 (S L : Addr) (H : Hp) (c : Ct) (l : Nat → Addr) (as : Nat → List Tbl) : Prop := ∀ w, w < 2 → ∃ st n, ScpOk S L H (c.x w) (c.r w) (l w) st n (c.m w) (as w) (c.sB w)
theorem Sc2.hx {S L : Addr} {H : Hp} {c : Ct} {l : Nat → Addr} {as : Nat → List Tbl} (h : Sc2 S L H c l as) : Hx S H c := fun w hw => by
  obtain ⟨st, n, sc⟩ := h w hw
  obtain ⟨dx, hx⟩ := id sc.at_
  exact ⟨dx, _, _, _, _, _, hx⟩
theorem Sc2.nl {S L : Addr} {H H' : Hp} {c : Ct} {l : Nat → Addr} {as : Nat → List Tbl} (h : Sc2 S L H c l as) (k : NL H H') : Sc2 S L H' c l as := fun w hw => let ⟨st, n, sc⟩ := h w hw; ⟨st, n, sc.nl k⟩
theorem Sc2.same {S L : Addr} {H H' : Hp} {c : Ct} {l : Nat → Addr} {as : Nat → List Tbl} (h : Sc2 S L H c l as) (s : Same H H') : Sc2 S L H' c l as := fun w hw => let ⟨st, n, sc⟩ := h w hw; ⟨st, n, sc.kp (.same s)⟩
/-- the world of the law -/
structure Wo (base : Heap) (mg : Str → Option Value) (B : List (Addr × Str)) (C Kc : Addr) (c : Ct) (H : Hp) (dl : Addr) (rw : Rw) (ks : List KI) (ds : List Addr) : Prop where
  T : Stt H c.t c.g
  tw : TW base mg B H
  hbx : H c.bx = some (.dK (boxT c dl rw))
  hu : H c.u = some (.lst (c.us.map V.str))
  hbl : H c.bl = some (.lst [.ref (c.b 0), .ref (c.b 1)])
  hb : ∀ w, w < 2 → H (c.b w) = some (.dK (c.kv w))
  hel : H c.el = some (.lst [.str (c.m 0), .str (c.m 1)])
  hsl : H c.sl = some (.lst [.ref (c.x 0), .ref (c.x 1)])
  hwl : H c.wl = some (.lst [])
  hkl : H c.kl = some (.lst (ks.map fun i => V.ref i.tp))
  kk : ∀ i ∈ ks, KH C Kc H (c.x i.hm) i ∧ KP base c.bx c.us i
  hdl : H dl = some (.lst (ds.map V.ref))
  nd : [c.t, c.g, c.u, c.bl, c.sl, c.wl, c.kl, dl, c.el].Nodup
section
variable {base : Heap} {mg : Str → Option Value} {B : List (Addr × Str)} {C Kc S L : Addr} {c : Ct} {dl dl' : Addr} {H H' : Hp} {rw rw' : Rw} {ks ks' : List KI} {ds ds' : List Addr} {l : Nat → Addr} {as : Nat → List Tbl}
theorem Wo.z (W : Wo base mg B C Kc c H dl rw ks ds) (hx : Hx S H c) : ZOk (Zw c dl) H := by
  obtain ⟨_, gs, k, m, sd, e1, e2, _⟩ := id W.T
  obtain ⟨_, _, _, _, _, _, h0⟩ := hx 0 (by omega)
  obtain ⟨_, _, _, _, _, _, h1⟩ := hx 1 (by omega)
  intro a ha
  simp at ha
  rcases ha with rfl | rfl | rfl | rfl | rfl | rfl | rfl
  · exact ⟨_, e1, .inl ⟨_, rfl⟩⟩
  · exact ⟨_, e2, .inl ⟨_, rfl⟩⟩
  · exact ⟨_, W.hbx, .inr (.inr ⟨_, rfl, box_not⟩)⟩
  · exact ⟨_, W.hkl, .inl ⟨_, rfl⟩⟩
  · exact ⟨_, W.hdl, .inl ⟨_, rfl⟩⟩
  · exact ⟨_, h0, .inr (.inl ⟨_, _, _, _, rfl⟩)⟩
  · exact ⟨_, h1, .inr (.inl ⟨_, _, _, _, rfl⟩)⟩
theorem Wo.lne (W : Wo base mg B C Kc c H dl rw ks ds) (hx : Hx S H c) {b : Addr} {xs : List V} (e : H b = some (.lst xs)) : b ≠ c.bx ∧ b ≠ c.x 0 ∧ b ≠ c.x 1 := by
  obtain ⟨_, _, _, _, _, _, h0⟩ := hx 0 (by omega)
  obtain ⟨_, _, _, _, _, _, h1⟩ := hx 1 (by omega)
  exact ⟨fun y => (by rw [y, W.hbx] at e; cases e), fun y => (by rw [y, h0] at e; cases e), fun y => (by rw [y, h1] at e; cases e)⟩
/-- from one moment to a later one -/
theorem Wo.step (W : Wo base mg B C Kc c H dl rw ks ds) (Ck : Cst c) (hx : Hx S H c) (D : Dy (Zw c dl) H H') (T' : Stt H' c.t c.g) (tw' : TW base mg B H') (bx' : H' c.bx = some (.dK (boxT c dl' rw'))) (kl' : H' c.kl = some (.lst (ks'.map fun i => V.ref i.tp))) (kk' : ∀ i ∈ ks', i ∈ ks ∨ (KH C Kc H' (c.x i.hm) i ∧ KP base c.bx c.us i)) (dl2 : H' dl' = some (.lst (ds'.map V.ref))) (hd : dl' = dl ∨ H dl' = none) : Wo base mg B C Kc c H' dl' rw' ks' ds' := by
  have z := W.z hx
  obtain ⟨gt, gs, _, _, sd, e1, e2, _⟩ := id W.T
  have nd := W.nd
  simp at nd
  obtain ⟨⟨a1, a2, a3, a4, a5, a6, a7, a8⟩, ⟨b1, b2, b3, b4, b5, b6, b7⟩, ⟨c1, c2, c3, c4, c5, c6⟩, ⟨d1, d2, d3, d4, d5⟩, ⟨f1, f2, f3, f4⟩, ⟨h1, h2, h3⟩, ⟨i1, i2⟩, j1⟩ := nd
  have nz : ∀ {b : Addr} {xs : List V}, H b = some (.lst xs) → b ≠ c.t → b ≠ c.g → b ≠ c.kl → b ≠ dl → H' b = some (.lst xs) := fun e y1 y2 y3 y4 => D.lst (by
    obtain ⟨q1, q2, q3⟩ := W.lne hx e
    simp
    exact ⟨y1, y2, q1, y3, y4, q2, q3⟩) e
  refine ⟨T', tw', bx', nz W.hu (fun e => a2 e.symm) (fun e => b1 e.symm) c4 c5, nz W.hbl (fun e => a3 e.symm) (fun e => b2 e.symm) d3 d4, fun w hw => D.dk z (W.hb w hw) (Ck.ev w hw).tok, nz W.hel (fun e => a8 e.symm) (fun e => b7 e.symm) (fun e => i2 e.symm) (fun e => j1 e.symm), nz W.hsl (fun e => a4 e.symm) (fun e => b3 e.symm) f2 f3, nz W.hwl (fun e => a5 e.symm) (fun e => b4 e.symm) h1 h2, kl', fun i mi => (kk' i mi).elim (fun m => ⟨(W.kk i m).1.dy (W.kk i m).2 D z, (W.kk i m).2⟩) id, dl2, ?_⟩
  rcases hd with rfl | hn
  · exact W.nd
  · have ne : ∀ {b : Addr} {o : HO}, H b = some o → b ≠ dl' := fun e y => by rw [y, hn] at e; cases e
    simp
    exact ⟨⟨a1, a2, a3, a4, a5, a6, ne e1, a8⟩, ⟨b1, b2, b3, b4, b5, ne e2, b7⟩, ⟨c1, c2, c3, c4, ne W.hu, c6⟩, ⟨d1, d2, d3, ne W.hbl, d5⟩, ⟨f1, f2, ne W.hsl, f4⟩, ⟨h1, ne W.hwl, h3⟩, ⟨ne W.hkl, i2⟩, fun e => ne W.hel e.symm⟩
theorem Wo.exS (W : Wo base mg B C Kc c H dl rw ks ds) (Ck : Cst c) (hx : Hx S H c) (T' : Stt H' c.t c.g) (v : ExS c.t c.g H H') : Wo base mg B C Kc c H' dl rw ks ds := by
  have nd := W.nd
  simp at nd
  obtain ⟨⟨a1, a2, a3, a4, a5, a6, a7, a8⟩, ⟨b1, b2, b3, b4, b5, b6, b7⟩, _⟩ := nd
  exact W.step Ck hx (.exS v (by simp) (by simp)) T' (W.tw.keep fun b o e n _ _ => v b o (stt_ne W.T e n).1 (stt_ne W.T e n).2 e) (v _ _ (stt_ne W.T W.hbx (fun _ z => by cases z)).1 (stt_ne W.T W.hbx (fun _ z => by cases z)).2 W.hbx) (v _ _ (fun e => a6 e.symm) (fun e => b5 e.symm) W.hkl) (fun i m => .inl m) (v _ _ (fun e => a7 e.symm) (fun e => b6 e.symm) W.hdl) (.inl rfl)
theorem Wo.same (W : Wo base mg B C Kc c H dl rw ks ds) (Ck : Cst c) (hx : Hx S H c) (s : Same H H') : Wo base mg B C Kc c H' dl rw ks ds := W.exS Ck hx (W.T.same s) (Same.exS s)
/-- a scope changes, or code is made -/
theorem Wo.dx1 {w : Nat} (hw : w < 2) (W : Wo base mg B C Kc c H dl rw ks ds) (Ck : Cst c) (hx : Hx S H c) (D : Dx1 (c.x w) H H') (tw' : TW base mg B H') : Wo base mg B C Kc c H' dl rw ks ds := by
  obtain ⟨_, _, _, _, _, _, hxw⟩ := hx w hw
  exact W.step Ck hx (D.dy (zw_x hw)) (W.T.dx1 hxw D) tw' (dx1_ni hxw D (fun _ _ _ z => by cases z) (fun _ z => by cases z) W.hbx) (dx1_ni hxw D (fun _ _ _ z => by cases z) (fun _ z => by cases z) W.hkl) (fun i m => .inl m) (dx1_ni hxw D (fun _ _ _ z => by cases z) (fun _ z => by cases z) W.hdl) (.inl rfl)
/-- one more kept action -/
theorem Wo.push {i : KI} (W : Wo base mg B C Kc c H dl rw ks ds) (Ck : Cst c) (hx : Hx S H c) (Kn : KH C Kc H (c.x i.hm) i) (Kp : KP base c.bx c.us i) : Wo base mg B C Kc c (upd H c.kl (.lst (ks.map (fun i => V.ref i.tp) ++ [V.ref i.tp]))) dl rw (ks ++ [i]) ds := by
  have nd := W.nd
  simp at nd
  obtain ⟨⟨a1, a2, a3, a4, a5, a6, a7, a8⟩, ⟨b1, b2, b3, b4, b5, b6, b7⟩, _, _, _, _, ⟨i1, i2⟩, j1⟩ := nd
  refine W.step Ck hx (.put (by simp)) (W.T.upd (fun e => a6 e.symm) (fun e => b5 e.symm)) (W.tw.keep (keepT_upd W.hkl (.inl ⟨_, rfl⟩))) (by rw [upd_ne (fun e => (W.lne hx W.hkl).1 e.symm)]; exact W.hbx) (by rw [upd_same, List.map_append]; rfl) (fun j mj => ?_) (by rw [upd_ne (fun e => i1 e.symm)]; exact W.hdl) (.inl rfl)
  rcases List.mem_append.mp mj with m | m
  · exact .inl m
  · have e : j = i := by simpa using m
    rw [e]
    exact .inr ⟨Kn.dy Kp (.put (by simp) : Dy (Zw c dl) H _) (W.z hx), Kp⟩
/-- what is due changes -/
theorem Wo.due (W : Wo base mg B C Kc c H dl rw ks ds) (Ck : Cst c) (hx : Hx S H c) (ds2 : List Addr) : Wo base mg B C Kc c (upd H dl (.lst (ds2.map V.ref))) dl rw ks ds2 := by
  have nd := W.nd
  simp at nd
  obtain ⟨⟨a1, a2, a3, a4, a5, a6, a7, a8⟩, ⟨b1, b2, b3, b4, b5, b6, b7⟩, _, _, _, _, ⟨i1, i2⟩, j1⟩ := nd
  exact W.step Ck hx (.put (by simp)) (W.T.upd (fun e => a7 e.symm) (fun e => b6 e.symm)) (W.tw.keep (keepT_upd W.hdl (.inl ⟨_, rfl⟩))) (by rw [upd_ne (fun e => (W.lne hx W.hdl).1 e.symm)]; exact W.hbx) (by rw [upd_ne i1]; exact W.hkl) (fun j mj => .inl mj) upd_same (.inl rfl)
/-- the box gets a new list of what is due -/
theorem Wo.fresh {dl2 : Addr} {ds2 : List Addr} (W : Wo base mg B C Kc c H dl rw ks ds) (Ck : Cst c) (hx : Hx S H c) (s : Same H H') (nd2 : H dl2 = none) (h2 : H' dl2 = some (.lst (ds2.map V.ref))) (rw2 : Rw) : Wo base mg B C Kc c (upd H' c.bx (.dK (boxT c dl2 rw2))) dl2 rw2 ks ds2 := by
  have W' := W.same Ck hx s
  have ne : ∀ {b : Addr} {xs : List V}, H' b = some (.lst xs) → b ≠ c.bx := fun e y => by rw [y, W'.hbx] at e; cases e
  obtain ⟨gt, gs, _, _, sd, e1, e2, e3⟩ := id W'.T
  exact W.step Ck hx ((Dy.same s).trans (.put (by simp))) (W'.T.upd (fun y => ne e1 y.symm) (fun y => ne e2 y.symm)) (W'.tw.keep (keepT_upd W'.hbx (.inr (.inr ⟨_, rfl⟩)))) upd_same (by rw [upd_ne (ne W'.hkl)]; exact W'.hkl) (fun i m => .inl m) (by rw [upd_ne (ne h2)]; exact h2) (.inr nd2)
end
theorem Lay.dyK {C r : Addr} {H H' : Hp} {Z : List Addr} (D : Dy Z H H') (z : ZOk Z H) : ∀ {ts : List Tbl} {l : Addr}, (∀ t ∈ ts, TOk t) → Lay C r H l ts → Lay C r H' l ts
  | [], _, _, h => h
  | t :: ts, _, ok, ⟨dx, d, hd, h⟩ => ⟨dx, d, D.dk z hd (ok t (by simp)), h.elim (fun ⟨e, e2, y⟩ => .inl ⟨e, e2, D.keep z y (mut_ins (by decide +kernel)) (fun _ z => by cases z)⟩) fun ⟨l', h', y⟩ => .inr ⟨l', Lay.dyK D z (fun u m => ok u (by simp [m])) h', D.keep z y (mut_ins (by decide +kernel)) (fun _ z => by cases z)⟩⟩
theorem ScpOk.dyK {S L x r l st : Addr} {H H' : Hp} {n : Int} {m : Str} {ts : List Tbl} {t0 : Tbl} {Z : List Addr} (h : ScpOk S L H x r l st n m ts t0) (D : Dy Z H H') (z : ZOk Z H) (hx : Scp S H' x r l st n m) : ScpOk S L H' x r l st n m ts t0 :=
  ⟨hx, h.root.dyK D z (by simpa using h.ok0), h.lay.dyK D z h.all, let ⟨ss, e, hk⟩ := h.std; ⟨ss, e.dyK D z hk, hk⟩, h.ok0, h.ok⟩
def setN {α : Type} (f : Nat → α) (w : Nat) (v : α) : Nat → α := fun k => if k = w then v else f k
theorem setN_same {α : Type} {f : Nat → α} {w : Nat} {v : α} : setN f w v w = v := if_pos rfl
theorem setN_ne {α : Type} {f : Nat → α} {w k : Nat} {v : α} (h : k ≠ w) : setN f w v k = f k := if_neg h
section
variable {base : Heap} {mg : Str → Option Value} {B : List (Addr × Str)} {C Kc S L : Addr} {c : Ct} {dl dl' dx : Addr} {H H' : Hp} {rw rw' : Rw} {ks ks' : List KI} {ds ds' : List Addr} {l : Nat → Addr} {as : Nat → List Tbl} {w : Nat}
theorem xne (Ck : Cst c) {w k : Nat} (hw : w < 2) (hk : k < 2) (h : k ≠ w) : c.x k ≠ c.x w := by
  rcases two_cases hw with rfl | rfl <;> rcases two_cases hk with rfl | rfl
  · exact absurd rfl h
  · exact fun e => Ck.xne e.symm
  · exact Ck.xne
  · exact absurd rfl h
/-- one scope changes as told; the other stays -/
theorem Sc2.one (Ck : Cst c) (hw : w < 2) (h : Sc2 S L H c l as) (D : Dx1 (c.x w) H H') {l' : Addr} {ts : List Tbl} (hs : ∃ st n, ScpOk S L H' (c.x w) (c.r w) l' st n (c.m w) ts (c.sB w)) : Sc2 S L H' c (setN l w l') (setN as w ts) := fun k hk => by
  by_cases e : k = w
  · subst e
    rw [setN_same, setN_same]
    exact hs
  · rw [setN_ne e, setN_ne e]
    obtain ⟨st, n, sc⟩ := h k hk
    obtain ⟨st2, n2, sc2⟩ := h w hw
    obtain ⟨dx, hx⟩ := id sc2.at_
    obtain ⟨dx1, hx1⟩ := id sc.at_
    exact ⟨st, n, sc.at_.elim fun dx e => ⟨dx, D _ _ (xne Ck hw hk ‹_›) (fun _ z => by cases z) e⟩, sc.root.dx1 hx D, sc.lay.dx1 hx D, let ⟨ss, z, ok⟩ := sc.std; ⟨ss, z.dx1 hx D, ok⟩, sc.ok0, sc.ok⟩
/-- both scopes, when the box is written -/
theorem Sc2.box (W : Wo base mg B C Kc c H dl rw ks ds) (sc : Sc2 S L H c l as) {o : HO} : Sc2 S L (upd H c.bx o) c l as := fun w hw => by
  obtain ⟨st, n, s⟩ := sc w hw
  obtain ⟨dx, hx⟩ := id s.at_
  refine ⟨st, n, s.dyK (.put (show c.bx ∈ Zw c dl by simp)) (W.z sc.hx) ⟨dx, ?_⟩⟩
  rw [upd_ne (fun e => by have z := W.hbx; rw [← e, hx] at z; cases z)]
  exact hx
end

end
end Own

set_option Elab.async false
set_option linter.all false
set_option maxRecDepth 100000
set_option maxHeartbeats 4000000
namespace Own
open PySem PySem.Spec PyProof.Rows L2
section
variable {P : Program} {w : World} {K : PySem.W.Frag} {mg : Str → Option Value} {base : Heap}
/-- two places: tables and depths -/
structure Pls (H : Hp) (p : Addr) (q e : Nat → Addr) (as : Nat → List Tbl) (te : Nat → Tbl) : Prop where
  p : H p = some (.lst [.ref (q 0), .ref (q 1)])
  q : ∀ w, w < 2 → H (q w) = some (.tup [.ref (e w), .int (as w).length])
  e : ∀ w, w < 2 → H (e w) = some (.dK (te w))
theorem Pls.same {H H' : Hp} {p : Addr} {q e : Nat → Addr} {as : Nat → List Tbl} {te : Nat → Tbl} (h : Pls H p q e as te) (s : Same H H') : Pls H' p q e as te := ⟨s _ _ h.p, fun w hw => s _ _ (h.q w hw), fun w hw => s _ _ (h.e w hw)⟩
theorem Pls.dy {H H' : Hp} {p : Addr} {q e : Nat → Addr} {as : Nat → List Tbl} {te : Nat → Tbl} {Z : List Addr} (h : Pls H p q e as te) (n : p ∉ Z) (D : Dy Z H H') (z : ZOk Z H) (ok : ∀ w, w < 2 → TOk (te w)) : Pls H' p q e as te := ⟨D.lst n h.p, fun w hw => D.keep z (h.q w hw) mut_tup (fun _ z => by cases z), fun w hw => D.dk z (h.e w hw) (ok w hw)⟩
def spMoved : Sp := fun vs H Q _ => ∃ (p pl : Addr) (q : Nat → Addr) (w : Nat), vs = [.ref p, .int w, .ref pl] ∧ w < 2 ∧ H p = some (.lst [.ref (q 0), .ref (q 1)]) ∧ ∀ p' H', H p' = none → Same H H' → H' p' = some (.lst [.ref (setN q w pl 0), .ref (setN q w pl 1)]) → Q (.ref p') H'
theorem ok_l_moved (T : Txt K mg) : FnOk P w K mg base CX0 1 T.d_l_moved.a T.d_l_moved.d ["_law_places", "_law_which", "_law_place"] spMoved := by
  refine T.d_l_moved.F.ok sc_l_moved (fun vs H Q E h => ?_) (fun cdv A outer s H vs Q E hr h => ?_)
  · obtain ⟨_, _, _, _, rfl, _⟩ := h
    rfl
  · obtain ⟨p, pl, q, w, rfl, hw, hp, k⟩ := h
    have hu := hr.units
    refine ⟨_, (pss_one (ps_ret (pe_ifExp (pt_cmpR op_eq (pv 1) pe_int (nomark _)) (pe_lst (pa_cons (pv 2) (pa_cons (pe_ix ix_list (pv 0) pe_int (fun _ _ => rfl)) pa_nil))) (pe_lst (pa_cons (pe_ix ix_list (pv 0) pe_int (fun _ _ => rfl)) (pa_cons (pv 2) pa_nil)))))), ?_⟩
    (try simp only [tIxO, rIsB, rNotB, tSeq, tIfS, tTest, tB, tOp, tUn, tVar, tC, tAsg, gName, tRet, tRetN, tCB, tCons, tNil, tLst_eq, tTup_eq, tDNewK_eq, tNext, tPar, tM0, tM1, tSl, tNoPart, tPart, rSlS, tAug, tAugS, tExf_eq, ipI, tChain, tCall, tDrop, tBM, tAnd, tOr, tNot, tAndV, tOrV, tNotV, tIf, tIsN, tNotN, rI, rI0, rU, rEq, rNe, gSub, cx_K, cx_K2, L2.start, wipe, scal_ii, scal_ss, scal_bb, scal_is, scal_si, scal_nn, List.map_cons, List.map_nil, List.length_cons, List.length_nil, List.cons_append, List.nil_append, List.append_nil, List.replicate, List.getElem?_cons_zero, List.getElem?_cons_succ, Option.some.injEq, exists_and_left, exists_eq_left', exists_eq_left, exists_eq, exists_eq', V.int.injEq, V.ref.injEq, V.str.injEq, V.bl.injEq, List.cons.injEq, and_true, true_and, false_and, exists_false, or_false, false_or, reduceCtorEq, List.set_cons_zero, List.set_cons_succ, Nat.reduceAdd, Nat.reduceSub, Int.reduceToNat, decide_eq_true_eq, if_true, if_false, Bool.false_eq_true, Bool.not_true, Bool.not_false, Bool.true_eq_false, ite_false, ite_true, ne_eq, not_false_eq_true, Int.reduceEq])
    rcases two_cases hw with rfl | rfl
    · exact ite2 (fun _ => ixM_go hp (two_at (f := fun w => V.ref (q w)) (w := 1) (by omega)) (newL_go fun p' H' n s r => k p' H' n s r)) (fun z => absurd rfl z)
    · exact ite2 (fun z => absurd z (by decide)) (fun _ => ixM_go hp (two_at (f := fun w => V.ref (q w)) (w := 0) (by omega)) (newL_go fun p' H' n s r => k p' H' n s r))
/-- what a call did to the world -/
structure PW (base : Heap) (mg : Str → Option Value) (B : List (Addr × Str)) (S L C Kc : Addr) (c : Ct) (l : Nat → Addr) (as : Nat → List Tbl) (H : Hp) (dl : Addr) (rw : Rw) (ks : List KI) (ds : List Addr) (n : Nat) (H' : Hp) (ks' : List KI) (ds' : List Addr) : Prop where
  wo : Wo base mg B C Kc c H' dl rw ks' ds'
  dy : DyN (Zw c dl) H H'
  few : ks'.length ≤ ks.length + n
  due : ds'.length ≤ ds.length + n
  sc : Sc2 S L H' c l as
/-- what a call finds -/
structure GW (base : Heap) (mg : Str → Option Value) (B : List (Addr × Str)) (S L C Kc : Addr) (c : Ct) (l : Nat → Addr) (as : Nat → List Tbl) (H : Hp) (p : Addr) (q e : Nat → Addr) (te : Nat → Tbl) (dl : Addr) (rw : Rw) (ks : List KI) (ds : List Addr) : Prop where
  wo : Wo base mg B C Kc c H dl rw ks ds
  sc : Sc2 S L H c l as
  ck : Cst c
  pl : Pls H p q e as te
  pn : p ∉ Zw c dl
  ev : ∀ w, w < 2 → EvK c.us (as w) (c.sB w) (te w)
section
variable {base : Heap} {mg : Str → Option Value} {B : List (Addr × Str)} {S L C Kc : Addr} {c : Ct} {l l2 : Nat → Addr} {as as2 : Nat → List Tbl} {H H1 H2 H3 H' : Hp} {dl : Addr} {rw : Rw} {n : Nat} {ks ks1 ks' : List KI} {ds ds1 ds' : List Addr} {p : Addr} {q e : Nat → Addr} {te : Nat → Tbl} {w : Nat}
theorem PW.same (pw : PW base mg B S L C Kc c l as H dl rw ks ds n H1 ks1 ds1) (Ck : Cst c) (s : Same H1 H2) : PW base mg B S L C Kc c l as H dl rw ks ds n H2 ks1 ds1 :=
  ⟨pw.wo.same Ck pw.sc.hx s, pw.dy.trans (.same s), pw.few, pw.due, pw.sc.same s⟩
theorem GW.tok (G : GW base mg B S L C Kc c l as H p q e te dl rw ks ds) : ∀ w, w < 2 → TOk (te w) := fun w hw => (G.ev w hw).tok
theorem GW.plDy (G : GW base mg B S L C Kc c l as H p q e te dl rw ks ds) (D : Dy (Zw c dl) H H') : Pls H' p q e as te := G.pl.dy G.pn D (G.wo.z G.sc.hx) G.tok
theorem Wo.notZ (W : Wo base mg B C Kc c H dl rw ks ds) (hx : Hx S H c) (n : H p = none) : p ∉ Zw c dl := fun m => by
  obtain ⟨o, e, _⟩ := W.z hx p m
  rw [n] at e
  cases e
theorem GW.exS (G : GW base mg B S L C Kc c l as H p q e te dl rw ks ds) (T : Stt H' c.t c.g) (v : ExS c.t c.g H H') : GW base mg B S L C Kc c l as H' p q e te dl rw ks ds :=
  ⟨G.wo.exS G.ck G.sc.hx T v, G.sc.nl (NL.exS G.wo.T v), G.ck, G.plDy (.exS v (by simp) (by simp)), G.pn, G.ev⟩
theorem GW.same (G : GW base mg B S L C Kc c l as H p q e te dl rw ks ds) (s : Same H H') : GW base mg B S L C Kc c l as H' p q e te dl rw ks ds := G.exS (G.wo.T.same s) (Same.exS s)
theorem GW.me (G : GW base mg B S L C Kc c l as H p q e te dl rw ks ds) : PW base mg B S L C Kc c l as H dl rw ks ds n H ks ds := ⟨G.wo, .refl _ _, Nat.le_add_right _ _, Nat.le_add_right _ _, G.sc⟩
/-- behind a call, the places as they were -/
theorem GW.after (G : GW base mg B S L C Kc c l as H p q e te dl rw ks ds) (pw : PW base mg B S L C Kc c l as H dl rw ks ds n H' ks' ds') : GW base mg B S L C Kc c l as H' p q e te dl rw ks' ds' := ⟨pw.wo, pw.sc, G.ck, G.plDy pw.dy.dy, G.pn, G.ev⟩
theorem Sc2.oth (Ck : Cst c) (hw : w < 2) (h : Sc2 S L H c l as) (D : Dx1 (c.x w) H H') {k : Nat} (hk : k < 2) (ne : k ≠ w) : ∃ st n, ScpOk S L H' (c.x k) (c.r k) (l k) st n (c.m k) (as k) (c.sB k) := by
  obtain ⟨st, n, sc⟩ := h k hk
  obtain ⟨st2, n2, sc2⟩ := h w hw
  obtain ⟨dx, hx⟩ := id sc2.at_
  exact ⟨st, n, sc.at_.elim fun dx e => ⟨dx, D _ _ (xne Ck hw hk ne) (fun _ z => by cases z) e⟩, sc.root.dx1 hx D, sc.lay.dx1 hx D, let ⟨ss, z, ok⟩ := sc.std; ⟨ss, z.dx1 hx D, ok⟩, sc.ok0, sc.ok⟩
theorem PW.back (hw : w < 2) (W : Wo base mg B C Kc c H dl rw ks ds) (Ck : Cst c) (sc : Sc2 S L H c l as) (D3 : DyN (Zw c dl) H H3) {l' dx4 : Addr} {ts : List Tbl} {fs4 : List (Str × V)} (pw : PW base mg B S L C Kc c (setN l w l') (setN as w ts) H3 dl rw ks ds n H' ks' ds') (e4 : H' (c.x w) = some (.ins S dx4 fs4)) :
    PW base mg B S L C Kc c l as H dl rw ks ds n (upd H' (c.x w) (.ins S dx4 (putF "layer" (.ref (l w)) fs4))) ks' ds' := by
  obtain ⟨st', n', sc'⟩ := pw.sc w hw
  obtain ⟨st0, n0, sc0⟩ := sc w hw
  obtain ⟨dx', ex'⟩ := id sc'.at_
  obtain ⟨rfl, rfl⟩ : dx4 = dx' ∧ fs4 = ScpF (c.r w) (setN l w l' w) st' n' (c.m w) := by
    rw [ex'] at e4
    cases e4
    exact ⟨rfl, rfl⟩
  have ef : putF "layer" (.ref (l w)) (ScpF (c.r w) (setN l w l' w) st' n' (c.m w)) = ScpF (c.r w) (l w) st' n' (c.m w) := rfl
  rw [ef]
  have D6 : Dx1 (c.x w) H' (upd H' (c.x w) (.ins S dx4 (ScpF (c.r w) (l w) st' n' (c.m w)))) := .put
  have DD : DyN (Zw c dl) H (upd H' (c.x w) (.ins S dx4 (ScpF (c.r w) (l w) st' n' (c.m w)))) := (D3.trans pw.dy).trans (.put (zw_x hw))
  have z := W.z sc.hx
  obtain ⟨ss, hs, hk⟩ := sc'.std
  refine ⟨pw.wo.dx1 hw Ck pw.sc.hx D6 (pw.wo.tw.keep (keepT_upd ex' (.inr (.inl ⟨_, _, _, rfl⟩)))), DD, pw.few, pw.due, fun k hk2 => ?_⟩
  by_cases e : k = w
  · subst e
    exact ⟨st', n', ⟨⟨dx4, upd_same⟩, sc0.root.dyK DD.dy z (by simpa using sc0.ok0), sc0.lay.dyK DD.dy z sc0.all, ⟨ss, hs.dx1 ex' D6, hk⟩, sc0.ok0, sc0.ok⟩⟩
  · have h := pw.sc.oth Ck hw D6 hk2 e
    rw [setN_ne e, setN_ne e] at h
    exact h
end

end
end Own

set_option Elab.async false
set_option linter.all false
set_option maxRecDepth 100000
set_option maxHeartbeats 4000000
namespace Own
open PySem PySem.Spec PyProof.Rows L2
section
variable {P : Program} {w : World} {K : PySem.W.Frag} {mg : Str → Option Value} {base : Heap}
theorem ScpOk.looked {S L x r l st dx st' : Addr} {t0 : Tbl} {m : Str} {as : List Tbl} {H : Hp} {n n' : Int} (sc : ScpOk S L H x r l st n m as t0) (e : H x = some (.ins S dx (ScpF r l st n m))) (h : st' = st ∨ st' = l) : ScpOk S L (upd H x (.ins S dx (ScpF r l st' n' m))) x r l st' n' m as t0 := by
  have D : Dx1 x H (upd H x (.ins S dx (ScpF r l st' n' m))) := .put
  refine ⟨⟨dx, upd_same⟩, sc.root.dx1 e D, sc.lay.dx1 e D, ?_, sc.ok0, sc.ok⟩
  obtain ⟨ss, hs, ht⟩ := sc.std
  rcases h with rfl | rfl
  · exact ⟨ss, hs.dx1 e D, ht⟩
  · refine ⟨_, sc.lay.dx1 e D, fun t mt => ?_⟩
    rcases List.mem_append.mp mt with z | z
    · exact sc.ok t z
    · have e : t = t0 := by simpa using z
      rw [e]
      exact sc.ok0
section
variable {base : Heap} {mg : Str → Option Value} {B : List (Addr × Str)} {S L C Kc : Addr} {c : Ct} {l : Nat → Addr} {as : Nat → List Tbl} {H H' : Hp} {dl : Addr} {rw : Rw} {ks : List KI} {ds : List Addr} {p : Addr} {q e : Nat → Addr} {te : Nat → Tbl} {w : Nat}
/-- one scope changes, at its place -/
theorem GW.dxw (G : GW base mg B S L C Kc c l as H p q e te dl rw ks ds) (hw : w < 2) (D : Dx1 (c.x w) H H') (k : KeepT H H') (sw : ∃ st n, ScpOk S L H' (c.x w) (c.r w) (l w) st n (c.m w) (as w) (c.sB w)) : GW base mg B S L C Kc c l as H' p q e te dl rw ks ds :=
  ⟨G.wo.dx1 hw G.ck G.sc.hx D (G.wo.tw.keep k), fun j hj => by
    by_cases z : j = w
    · subst z
      exact sw
    · exact G.sc.oth G.ck hw D hj z, G.ck, G.plDy (D.dy (zw_x hw)), G.pn, G.ev⟩
theorem GW.look {dx st st' : Addr} {n n' : Int} (G : GW base mg B S L C Kc c l as H p q e te dl rw ks ds) (hw : w < 2) (ex : H (c.x w) = some (.ins S dx (ScpF (c.r w) (l w) st n (c.m w)))) (sc : ScpOk S L H (c.x w) (c.r w) (l w) st n (c.m w) (as w) (c.sB w)) (h : st' = st ∨ st' = l w) :
    GW base mg B S L C Kc c l as (upd H (c.x w) (.ins S dx (ScpF (c.r w) (l w) st' n' (c.m w)))) p q e te dl rw ks ds :=
  G.dxw hw .put (keepT_upd ex (.inr (.inl ⟨_, _, _, rfl⟩))) ⟨st', n', sc.looked ex h⟩
end
/-- _law_shows -/
def spShows (base : Heap) (mg : Str → Option Value) (B : List (Addr × Str)) (S L C Kc : Addr) : Sp := fun vs H Q _ => ∃ (c : Ct) (l : Nat → Addr) (as : Nat → List Tbl) (p : Addr) (q e : Nat → Addr) (te : Nat → Tbl) (dl : Addr) (rw : Rw) (ks : List KI) (ds : List Addr), vs = [.ref c.bx, .ref p] ∧ GW base mg B S L C Kc c l as H p q e te dl rw ks ds ∧
  ∀ H', DyN (Zw c dl) H H' → GW base mg B S L C Kc c l as H' p q e te dl rw ks ds → Q (.bl true) H'
theorem ok_l_shows (T : Txt K mg) {B : List (Addr × Str)} : FnOk P w K mg base CX0 7 T.d_l_shows.a T.d_l_shows.d ["_law_box", "_law_places"] (spShows base mg B T.e_Scope.C T.e_Layer.C T.e_Env.C T.e_Kept.C) := by
  refine T.d_l_shows.F.ok sc_l_shows (fun vs H Q E h => ?_) (fun cdv A outer s H vs Q E hr h => ?_)
  · obtain ⟨_, _, _, _, _, _, _, _, _, _, _, rfl, _⟩ := h
    rfl
  · obtain ⟨c, l, as, p, q, e, te, dl, rw, ks, ds, rfl, G, qq⟩ := h
    have hu := hr.units
    refine ⟨_, (pss_cons (ps_for PassesOwn.never rfl (pi_range1 (by rfl) T.z_range (pa_cons pe_int pa_nil)) (pg_name (i := 2) sc_l_shows.nd rfl (Or.inl rfl)) (pss_cons (ps_set (i := 3) sc_l_shows.nd rfl (Or.inl rfl) (pe_ix ix_list (pe_dget (hu_of hr) (pv 0) pe_str (fun _ _ => rfl)) (pv 2) (fun _ _ => rfl)))
      (pss_cons (ps_asg (pe_ix ix_list (pv 1) (pv 2) (fun _ _ => rfl)) (pg_tup (by rfl) (pgs_cons (pg_name (i := 4) sc_l_shows.nd rfl (Or.inl rfl)) (pgs_cons (pg_name (i := 5) sc_l_shows.nd rfl (Or.inl rfl)) pgs_nil))))
      (pss_cons (ps_if (PW.pt (pw_or (pt_cmpR op_ne (pe_prop (pv 3) T.e_Scope.c T.p_Scope_depth.pr (ok_Scope_depth T) (hr.mono (by decide)) T.p_Scope_depth.b .nil pass0 rfl) (pv 5) (nomark _)) (pw_or1 (pt_cmpR op_ne (pe_prop (pv 3) T.e_Scope.c T.p_Scope_engine.pr (ok_Scope_engine T) (hr.mono (by decide)) T.p_Scope_engine.b .nil pass0 rfl) (pe_ix ix_list (pe_dget (hu_of hr) (pv 0) pe_str (fun _ _ => rfl)) (pv 2) (fun _ _ => rfl)) (nomark _))))) (pss_one (ps_ret pe_bl)) pss_nil)
      (pss_one (ps_for PassesOwn.never rfl (pi_list (pe_dget (hu_of hr) (pv 0) pe_str (fun _ _ => rfl))) (pg_name (i := 6) sc_l_shows.nd rfl (Or.inl rfl)) (pss_one (ps_if (PW.pt (pw_or (pt_cmpR op_ne (pe_ixO T.get_Scope (okR (ok_Scope_getitem T) T.i_Scope_getitem.b) (hr.mono (by decide)) pass0 (pv 3) (pv 6) (fun _ _ => rfl)) (pe_dget (hu_of hr) (pv 4) (pv 6) (fun _ _ => rfl)) (nomark _)) (pw_or1 (pt_cmpR op_ne (pe_meth (pv 3) T.e_Scope.c ⟨T.i_Scope_look.at_, T.i_Scope_look.fn, T.i_Scope_look.F.kp⟩ (ok_Scope_look T) (hr.mono (by decide)) T.i_Scope_look.b .nil pass0 (pa_cons (pv 6) pa_nil)) (pe_dget (hu_of hr) (pv 4) (pv 6) (fun _ _ => rfl)) (nomark _))))) (pss_one (ps_ret pe_bl)) pss_nil))))))))
      (pss_one (ps_ret pe_bl))), ?_⟩
    (try simp only [tIxO, rIsB, rNotB, tSeq, tIfS, tTest, tB, tOp, tUn, tVar, tC, tAsg, gName, tRet, tRetN, tCB, tCons, tNil, tLst_eq, tTup_eq, tDNewK_eq, tNext, tPar, tM0, tM1, tSl, tNoPart, tPart, rSlS, tAug, tAugS, tExf_eq, ipI, tChain, tCall, tDrop, tBM, tAnd, tOr, tNot, tAndV, tOrV, tNotV, tIf, tIsN, tNotN, rI, rI0, rU, rEq, rNe, gSub, cx_K, cx_K2, L2.start, wipe, scal_ii, scal_ss, scal_bb, scal_is, scal_si, scal_nn, List.map_cons, List.map_nil, List.length_cons, List.length_nil, List.cons_append, List.nil_append, List.append_nil, List.replicate, List.getElem?_cons_zero, List.getElem?_cons_succ, Option.some.injEq, exists_and_left, exists_eq_left', exists_eq_left, exists_eq, exists_eq', V.int.injEq, V.ref.injEq, V.str.injEq, V.bl.injEq, List.cons.injEq, and_true, true_and, false_and, exists_false, or_false, false_or, reduceCtorEq, List.set_cons_zero, List.set_cons_succ, Nat.reduceAdd, Nat.reduceSub, Int.reduceToNat, decide_eq_true_eq, if_true, if_false, Bool.false_eq_true, Bool.not_true, Bool.not_false, Bool.true_eq_false, ite_false, ite_true, ne_eq, not_false_eq_true, Int.reduceEq])
    refine forR_go (n := 2) (fun R r => ?_) (by omega) (fun i σ' H' => ∃ o2 o3 o4 o5 o6, DyN (Zw c dl) H H' ∧ GW base mg B T.e_Scope.C T.e_Layer.C T.e_Env.C T.e_Kept.C c l as H' p q e te dl rw ks ds ∧ σ' = [some (.ref c.bx), some (.ref p), o2, o3, o4, o5, o6]) ⟨_, _, _, _, _, .refl _ _, G, rfl⟩ (fun i σ' H' hi pp => ?_) (fun σ' H' pp => ?_)
    · (try simp only [tIxO, rIsB, rNotB, tSeq, tIfS, tTest, tB, tOp, tUn, tVar, tC, tAsg, gName, tRet, tRetN, tCB, tCons, tNil, tLst_eq, tTup_eq, tDNewK_eq, tNext, tPar, tM0, tM1, tSl, tNoPart, tPart, rSlS, tAug, tAugS, tExf_eq, ipI, tChain, tCall, tDrop, tBM, tAnd, tOr, tNot, tAndV, tOrV, tNotV, tIf, tIsN, tNotN, rI, rI0, rU, rEq, rNe, gSub, cx_K, cx_K2, L2.start, wipe, scal_ii, scal_ss, scal_bb, scal_is, scal_si, scal_nn, List.map_cons, List.map_nil, List.length_cons, List.length_nil, List.cons_append, List.nil_append, List.append_nil, List.replicate, List.getElem?_cons_zero, List.getElem?_cons_succ, Option.some.injEq, exists_and_left, exists_eq_left', exists_eq_left, exists_eq, exists_eq', V.int.injEq, V.ref.injEq, V.str.injEq, V.bl.injEq, List.cons.injEq, and_true, true_and, false_and, exists_false, or_false, false_or, reduceCtorEq, List.set_cons_zero, List.set_cons_succ, Nat.reduceAdd, Nat.reduceSub, Int.reduceToNat, decide_eq_true_eq, if_true, if_false, Bool.false_eq_true, Bool.not_true, Bool.not_false, Bool.true_eq_false, ite_false, ite_true, ne_eq, not_false_eq_true, Int.reduceEq])
      exact r
    · obtain ⟨o2, o3, o4, o5, o6, D1, G1, rfl⟩ := pp
      (try simp only [tIxO, rIsB, rNotB, tSeq, tIfS, tTest, tB, tOp, tUn, tVar, tC, tAsg, gName, tRet, tRetN, tCB, tCons, tNil, tLst_eq, tTup_eq, tDNewK_eq, tNext, tPar, tM0, tM1, tSl, tNoPart, tPart, rSlS, tAug, tAugS, tExf_eq, ipI, tChain, tCall, tDrop, tBM, tAnd, tOr, tNot, tAndV, tOrV, tNotV, tIf, tIsN, tNotN, rI, rI0, rU, rEq, rNe, gSub, cx_K, cx_K2, L2.start, wipe, scal_ii, scal_ss, scal_bb, scal_is, scal_si, scal_nn, List.map_cons, List.map_nil, List.length_cons, List.length_nil, List.cons_append, List.nil_append, List.append_nil, List.replicate, List.getElem?_cons_zero, List.getElem?_cons_succ, Option.some.injEq, exists_and_left, exists_eq_left', exists_eq_left, exists_eq, exists_eq', V.int.injEq, V.ref.injEq, V.str.injEq, V.bl.injEq, List.cons.injEq, and_true, true_and, false_and, exists_false, or_false, false_or, reduceCtorEq, List.set_cons_zero, List.set_cons_succ, Nat.reduceAdd, Nat.reduceSub, Int.reduceToNat, decide_eq_true_eq, if_true, if_false, Bool.false_eq_true, Bool.not_true, Bool.not_false, Bool.true_eq_false, ite_false, ite_true, ne_eq, not_false_eq_true, Int.reduceEq, tDGet, tProp, tMeth])
      refine ⟨_, bg_scopes G1.wo.hbx, ixM_go G1.wo.hsl (two_at (f := fun w => V.ref (c.x w)) hi) (ixM_go G1.pl.p (two_at (f := fun w => V.ref (q w)) hi) ⟨q i, _, rfl, .inl (.inl (G1.pl.q i hi)), rfl, ?_⟩)⟩
      (try simp only [tIxO, rIsB, rNotB, tSeq, tIfS, tTest, tB, tOp, tUn, tVar, tC, tAsg, gName, tRet, tRetN, tCB, tCons, tNil, tLst_eq, tTup_eq, tDNewK_eq, tNext, tPar, tM0, tM1, tSl, tNoPart, tPart, rSlS, tAug, tAugS, tExf_eq, ipI, tChain, tCall, tDrop, tBM, tAnd, tOr, tNot, tAndV, tOrV, tNotV, tIf, tIsN, tNotN, rI, rI0, rU, rEq, rNe, gSub, cx_K, cx_K2, L2.start, wipe, scal_ii, scal_ss, scal_bb, scal_is, scal_si, scal_nn, List.map_cons, List.map_nil, List.length_cons, List.length_nil, List.cons_append, List.nil_append, List.append_nil, List.replicate, List.getElem?_cons_zero, List.getElem?_cons_succ, Option.some.injEq, exists_and_left, exists_eq_left', exists_eq_left, exists_eq, exists_eq', V.int.injEq, V.ref.injEq, V.str.injEq, V.bl.injEq, List.cons.injEq, and_true, true_and, false_and, exists_false, or_false, false_or, reduceCtorEq, List.set_cons_zero, List.set_cons_succ, Nat.reduceAdd, Nat.reduceSub, Int.reduceToNat, decide_eq_true_eq, if_true, if_false, Bool.false_eq_true, Bool.not_true, Bool.not_false, Bool.true_eq_false, ite_false, ite_true, ne_eq, not_false_eq_true, Int.reduceEq, gCons, gNil, tDGet, tProp, tMeth])
      refine ⟨_, _, ⟨rfl, rfl⟩, _, _, rfl, rfl, ?_⟩
      obtain ⟨st, n0, sc⟩ := G1.sc i hi
      obtain ⟨dx, ex⟩ := id sc.at_
      refine ⟨dx, _, ex, c.x i, c.r i, l i, st, n0, c.m i, as i, c.sB i, rfl, sc, by simp [scal], ite2 (fun z => by simp at z) (fun _ => ?_)⟩
      refine ⟨dx, _, ex, c.x i, c.r i, l i, st, n0, c.m i, rfl, ⟨dx, ex⟩, _, bg_engines G1.wo.hbx, ixM_go G1.wo.hel (two_at (f := fun w => V.str (c.m w)) hi) ⟨by simp [scal], ite2 (fun z => by simp at z) (fun _ => ?_)⟩⟩
      refine forL_go (K := K) (xs := c.us.map V.str) (fun j σ'' H'' => ∃ o6, DyN (Zw c dl) H H'' ∧ GW base mg B T.e_Scope.C T.e_Layer.C T.e_Env.C T.e_Kept.C c l as H'' p q e te dl rw ks ds ∧ σ'' = [some (.ref c.bx), some (.ref p), some (.int i), some (.ref (c.x i)), some (.ref (e i)), some (.int (as i).length), o6]) (fun Q q => ⟨_, rfl, _, _, rfl, bg_names G1.wo.hbx, q⟩) (fun j σ'' H'' _ pp => ?_) ⟨_, D1, G1, rfl⟩ (fun j z σ'' H'' hx pp => ?_) (fun σ'' H'' pp => ?_)
      · obtain ⟨_, _, G2, _⟩ := pp
        exact .inl (.inl G2.wo.hu)
      · obtain ⟨o6, D2, G2, rfl⟩ := pp
        rw [List.getElem?_map] at hx
        obtain ⟨y, hy0, rfl⟩ := Option.map_eq_some_iff.mp hx
        have my := List.mem_of_getElem? hy0
        (try simp only [tIxO, rIsB, rNotB, tSeq, tIfS, tTest, tB, tOp, tUn, tVar, tC, tAsg, gName, tRet, tRetN, tCB, tCons, tNil, tLst_eq, tTup_eq, tDNewK_eq, tNext, tPar, tM0, tM1, tSl, tNoPart, tPart, rSlS, tAug, tAugS, tExf_eq, ipI, tChain, tCall, tDrop, tBM, tAnd, tOr, tNot, tAndV, tOrV, tNotV, tIf, tIsN, tNotN, rI, rI0, rU, rEq, rNe, gSub, cx_K, cx_K2, L2.start, wipe, scal_ii, scal_ss, scal_bb, scal_is, scal_si, scal_nn, List.map_cons, List.map_nil, List.length_cons, List.length_nil, List.cons_append, List.nil_append, List.append_nil, List.replicate, List.getElem?_cons_zero, List.getElem?_cons_succ, Option.some.injEq, exists_and_left, exists_eq_left', exists_eq_left, exists_eq, exists_eq', V.int.injEq, V.ref.injEq, V.str.injEq, V.bl.injEq, List.cons.injEq, and_true, true_and, false_and, exists_false, or_false, false_or, reduceCtorEq, List.set_cons_zero, List.set_cons_succ, Nat.reduceAdd, Nat.reduceSub, Int.reduceToNat, decide_eq_true_eq, if_true, if_false, Bool.false_eq_true, Bool.not_true, Bool.not_false, Bool.true_eq_false, ite_false, ite_true, ne_eq, not_false_eq_true, Int.reduceEq, tMeth, tProp, tDGet])
        obtain ⟨st2, n2, sc2⟩ := G2.sc i hi
        obtain ⟨dx2, ex2⟩ := id sc2.at_
        have hy := G2.ck.has i hi y my
        obtain ⟨v, hv⟩ := lookL_some hy (as i)
        have vok : valOk v = true := lookL_ok sc2.all hv
        have sv : scal v v = true := by cases v <;> first | rfl | cases vok
        have dg : ∀ {G : Hp}, G (e i) = some (.dK (te i)) → DGet G (e i) (.str y) (some v) := fun {G} h => by
          have g := DGet.k (k := Sum.inr y) h
          rw [(G2.ev i hi).val, hv] at g
          exact g
        refine ⟨dx2, _, ex2, c.x i, c.r i, l i, st2, n2, c.m i, _, c.sB i, y, v, rfl, sc2.rd, hy, hv, v, dg (G2.pl.e i hi), sv, ite2 (fun z => by simp at z) (fun _ => ?_)⟩
        refine ⟨dx2, _, ex2, rfl, c.x i, c.r i, l i, st2, n2, c.m i, _, c.sB i, y, v, rfl, sc2, hy, hv, fun dx3 st' n' e3 hst => ?_⟩
        have G3 := G2.look (n' := n') hi e3 sc2 hst
        refine ⟨v, dg (G3.pl.e i hi), sv, ite2 (fun z => by simp at z) (fun _ => ?_)⟩
        exact ⟨D2.trans (.put (zw_x hi)), G3⟩
      · obtain ⟨o6, D2, G2, rfl⟩ := pp
        (try simp only [tIxO, rIsB, rNotB, tSeq, tIfS, tTest, tB, tOp, tUn, tVar, tC, tAsg, gName, tRet, tRetN, tCB, tCons, tNil, tLst_eq, tTup_eq, tDNewK_eq, tNext, tPar, tM0, tM1, tSl, tNoPart, tPart, rSlS, tAug, tAugS, tExf_eq, ipI, tChain, tCall, tDrop, tBM, tAnd, tOr, tNot, tAndV, tOrV, tNotV, tIf, tIsN, tNotN, rI, rI0, rU, rEq, rNe, gSub, cx_K, cx_K2, L2.start, wipe, scal_ii, scal_ss, scal_bb, scal_is, scal_si, scal_nn, List.map_cons, List.map_nil, List.length_cons, List.length_nil, List.cons_append, List.nil_append, List.append_nil, List.replicate, List.getElem?_cons_zero, List.getElem?_cons_succ, Option.some.injEq, exists_and_left, exists_eq_left', exists_eq_left, exists_eq, exists_eq', V.int.injEq, V.ref.injEq, V.str.injEq, V.bl.injEq, List.cons.injEq, and_true, true_and, false_and, exists_false, or_false, false_or, reduceCtorEq, List.set_cons_zero, List.set_cons_succ, Nat.reduceAdd, Nat.reduceSub, Int.reduceToNat, decide_eq_true_eq, if_true, if_false, Bool.false_eq_true, Bool.not_true, Bool.not_false, Bool.true_eq_false, ite_false, ite_true, ne_eq, not_false_eq_true, Int.reduceEq])
        exact ⟨D2, G2⟩
    · obtain ⟨o2, o3, o4, o5, o6, D1, G1, rfl⟩ := pp
      exact qq _ D1 G1

end
end Own

set_option Elab.async false
set_option linter.all false
set_option maxRecDepth 100000
set_option maxHeartbeats 4000000
namespace Own
open PySem PySem.Spec PyProof.Rows L2
section
variable {P : Program} {w : World} {K : PySem.W.Frag} {mg : Str → Option Value} {base : Heap}
theorem atI_end {α : Type} (l : List α) (x : α) : atI (l ++ [x]) (-1) = some x := by
  have e : ixN (l ++ [x]).length (-1) = some l.length := by
    unfold ixN
    rw [if_neg (by decide), if_pos (by rw [List.length_append]; show -(((l.length + 1 : Nat)) : Int) ≤ -1; omega)]
    congr 1
    simp
    omega
  unfold atI
  rw [e]
  show (l ++ [x])[l.length]? = some x
  simp
section
variable {S L : Addr} {c : Ct} {l : Nat → Addr} {as : Nat → List Tbl} {H H' : Hp} {p : Addr} {q e : Nat → Addr} {te : Nat → Tbl}
theorem Sc2.extN (h : Sc2 S L H c l as) (eN : LamX.ExtN H H') : Sc2 S L H' c l as := fun w hw => by
  obtain ⟨st, n, sc⟩ := h w hw
  obtain ⟨dx, hx⟩ := id sc.at_
  exact ⟨st, n, sc.dx1 (.extN eN) ⟨dx, eN _ _ hx (fun _ z => by cases z)⟩⟩
theorem Pls.extN (h : Pls H p q e as te) (eN : LamX.ExtN H H') : Pls H' p q e as te := ⟨eN _ _ h.p (fun _ z => by cases z), fun w hw => eN _ _ (h.q w hw) (fun _ z => by cases z), fun w hw => eN _ _ (h.e w hw) (fun _ z => by cases z)⟩
theorem Pls.dx1 {x dx r l0 st : Addr} {n : Int} {m : Str} (h : Pls H p q e as te) (hx : H x = some (.ins S dx (ScpF r l0 st n m))) (D : Dx1 x H H') : Pls H' p q e as te := ⟨dx1_ni hx D (fun _ _ _ z => by cases z) (fun _ z => by cases z) h.p, fun w hw => dx1_ni hx D (fun _ _ _ z => by cases z) (fun _ z => by cases z) (h.q w hw), fun w hw => dx1_ni hx D (fun _ _ _ z => by cases z) (fun _ z => by cases z) (h.e w hw)⟩
/-- one place is another -/
theorem Pls.set {H4 : Hp} {p2 q2 iv : Addr} {w : Nat} {ts : List Tbl} {t : Tbl} (h : Pls H p q e as te) (s : Same H H4) (rp : H4 p2 = some (.lst [.ref (setN q w q2 0), .ref (setN q w q2 1)])) (rq : H4 q2 = some (.tup [.ref iv, .int ts.length])) (re : H4 iv = some (.dK t)) : Pls H4 p2 (setN q w q2) (setN e w iv) (setN as w ts) (setN te w t) :=
  ⟨rp, fun k hk => by
    by_cases z : k = w
    · subst z
      rw [setN_same, setN_same, setN_same]
      exact rq
    · rw [setN_ne z, setN_ne z, setN_ne z]
      exact s _ _ (h.q k hk), fun k hk => by
    by_cases z : k = w
    · subst z
      rw [setN_same, setN_same]
      exact re
    · rw [setN_ne z, setN_ne z]
      exact s _ _ (h.e k hk)⟩
theorem evs_set {us : List Str} {sB : Nat → Tbl} {w : Nat} {ts : List Tbl} {t : Tbl} (h : ∀ k, k < 2 → EvK us (as k) (sB k) (te k)) (g : EvK us ts (sB w) t) : ∀ k, k < 2 → EvK us (setN as w ts k) (sB k) (setN te w t k) := fun k hk => by
  by_cases z : k = w
  · subst z
    rw [setN_same, setN_same]
    exact g
  · rw [setN_ne z, setN_ne z]
    exact h k hk
end
/-- the numbers of a moment -/
structure Bnd (rw : Rw) (lev n : Nat) (ks : List KI) (ds : List Addr) : Prop where
  bo : rw.bo = lev + n
  tp : rw.tp < rw.bo
  wy : rw.wy ≤ 2
  nk : ks.length + n ≤ 100
  nd : ds.length + n ≤ 100
/-- what is wanted behind _law_down -/
def PostD (base : Heap) (mg : Str → Option Value) (B : List (Addr × Str)) (S L C Kc CF : Addr) (c : Ct) (l : Nat → Addr) (as : Nat → List Tbl) (H : Hp) (dl : Addr) (rw : Rw) (ks : List KI) (ds : List Addr) (lev n : Nat) (Q : VK) (E : XK) : Prop :=
  (lev ≤ rw.tp → ∀ H' ks' ds', PW base mg B S L C Kc c l as H dl rw ks ds n H' ks' ds' → Q .non H') ∧
  (rw.tp < lev → ∀ cls d H' ks' ds', ErrN CF rw.wy cls → PW base mg B S L C Kc c l as H dl rw ks ds n H' ks' ds' → E cls d H')
def spDown (base : Heap) (mg : Str → Option Value) (B : List (Addr × Str)) (S L C Kc CF : Addr) (n : Nat) : Sp := fun vs H Q E => ∃ (c : Ct) (l : Nat → Addr) (as : Nat → List Tbl) (p : Addr) (q e : Nat → Addr) (te : Nat → Tbl) (dl : Addr) (rw : Rw) (ks : List KI) (ds : List Addr) (lev : Nat), vs = [.ref c.bx, .ref p, .int lev] ∧ GW base mg B S L C Kc c l as H p q e te dl rw ks ds ∧ Bnd rw lev n ks ds ∧ PostD base mg B S L C Kc CF c l as H dl rw ks ds lev n Q E
abbrev nDo : List Str := ["_law_box", "_law_places", "_law_level"]
/-- lambda one: down(box, inner, level + 1) -/
def spDn1 (base : Heap) (mg : Str → Option Value) (B : List (Addr × Str)) (S L C Kc CF : Addr) (n : Nat) : SpC := fun _ _ ws vs H Q E => ∃ (bx p x : Addr) (lev : Nat), ws = [some (.ref bx), some (.ref p), some (.int lev)] ∧ vs = [.ref x] ∧ spDown base mg B S L C Kc CF n [.ref bx, .ref p, .int ((lev + 1 : Nat) : Int)] H Q E
theorem cb_E1 (T : Txt K mg) {B : List (Addr × Str)} {n kf : Nat} (hd : FnT P w K mg base (L2.CX P w) kf T.d_l_down.a T.d_l_down.d nDo (fun _ _ => spDown base mg B T.e_Scope.C T.e_Layer.C T.e_Env.C T.e_Kept.C T.c_Failed.C n)) {cl : List (Str × Addr)} {c' f Pt : Addr} :
    CbT P w K mg base (L2.CX P w) (kf + 1) f (cbL f (lfE lam_l_enter_1 (qSub qE) cl c') (lamB lam_l_enter_1) Pt) ["_law_one"] fr_l_enter_1 (spDn1 base mg B T.e_Scope.C T.e_Layer.C T.e_Env.C T.e_Kept.C T.c_Failed.C n) := by
  refine cb_lamT sc_lam_l_enter_1 (fun pm ctv us hl => match us, hl with | [_], _ => rfl) (fun outer s ws vs H Q E h => ?_) (fun A outer s H vs ws Q E ht hfl hcc Ce h => ?_)
  · obtain ⟨_, _, _, _, _, rfl, _⟩ := h
    rfl
  · obtain ⟨bx, p, x, lev, rfl, rfl, D⟩ := h
    have hr := ht.leaf
    refine ⟨_, (pe_fnT (spA := fun _ => spDown base mg B T.e_Scope.C T.e_Layer.C T.e_Env.C T.e_Kept.C T.c_Failed.C n) hd ht (by rfl) T.d_l_down.g T.d_l_down.F.kp T.d_l_down.b (passesE (takesL (E := E) rfl rfl rfl rfl)) (fun _ _ _ _ _ _ _ h => h) (pa_cons (pv 1) (pa_cons (pv 2) (pa_cons (pe_op op_add (pv 3) pe_int) pa_nil)))), ?_⟩
    (try simp only [tIxO, rIsB, rNotB, tSeq, tIfS, tTest, tB, tOp, tUn, tVar, tC, tAsg, gName, tRet, tRetN, tCB, tCons, tNil, tLst_eq, tTup_eq, tDNewK_eq, tNext, tPar, tM0, tM1, tSl, tNoPart, tPart, rSlS, tAug, tAugS, tExf_eq, ipI, tChain, tCall, tDrop, tBM, tAnd, tOr, tNot, tAndV, tOrV, tNotV, tIf, tIsN, tNotN, rI, rI0, rU, rEq, rNe, gSub, cx_K, cx_K2, L2.start, wipe, scal_ii, scal_ss, scal_bb, scal_is, scal_si, scal_nn, List.map_cons, List.map_nil, List.length_cons, List.length_nil, List.cons_append, List.nil_append, List.append_nil, List.replicate, List.getElem?_cons_zero, List.getElem?_cons_succ, Option.some.injEq, exists_and_left, exists_eq_left', exists_eq_left, exists_eq, exists_eq', V.int.injEq, V.ref.injEq, V.str.injEq, V.bl.injEq, List.cons.injEq, and_true, true_and, false_and, exists_false, or_false, false_or, reduceCtorEq, List.set_cons_zero, List.set_cons_succ, Nat.reduceAdd, Nat.reduceSub, Int.reduceToNat, decide_eq_true_eq, if_true, if_false, Bool.false_eq_true, Bool.not_true, Bool.not_false, Bool.true_eq_false, ite_false, ite_true, ne_eq, not_false_eq_true, Int.reduceEq, NdefX.startF, tFnS])
    exact D
theorem cb_E3 (T : Txt K mg) {B : List (Addr × Str)} {n kf : Nat} (hd : FnT P w K mg base (L2.CX P w) kf T.d_l_down.a T.d_l_down.d nDo (fun _ _ => spDown base mg B T.e_Scope.C T.e_Layer.C T.e_Env.C T.e_Kept.C T.c_Failed.C n)) {cl : List (Str × Addr)} {c' f Pt : Addr} :
    CbT P w K mg base (L2.CX P w) (kf + 1) f (cbL f (lfE lam_l_enter_3 (qSub qE) cl c') (lamB lam_l_enter_3) Pt) ["_law_one"] fr_l_enter_3 (spDn1 base mg B T.e_Scope.C T.e_Layer.C T.e_Env.C T.e_Kept.C T.c_Failed.C n) := by
  refine cb_lamT sc_lam_l_enter_3 (fun pm ctv us hl => match us, hl with | [_], _ => rfl) (fun outer s ws vs H Q E h => ?_) (fun A outer s H vs ws Q E ht hfl hcc Ce h => ?_)
  · obtain ⟨_, _, _, _, _, rfl, _⟩ := h
    rfl
  · obtain ⟨bx, p, x, lev, rfl, rfl, D⟩ := h
    have hr := ht.leaf
    refine ⟨_, (pe_fnT (spA := fun _ => spDown base mg B T.e_Scope.C T.e_Layer.C T.e_Env.C T.e_Kept.C T.c_Failed.C n) hd ht (by rfl) T.d_l_down.g T.d_l_down.F.kp T.d_l_down.b (passesE (takesL (E := E) rfl rfl rfl rfl)) (fun _ _ _ _ _ _ _ h => h) (pa_cons (pv 1) (pa_cons (pv 2) (pa_cons (pe_op op_add (pv 3) pe_int) pa_nil)))), ?_⟩
    (try simp only [tIxO, rIsB, rNotB, tSeq, tIfS, tTest, tB, tOp, tUn, tVar, tC, tAsg, gName, tRet, tRetN, tCB, tCons, tNil, tLst_eq, tTup_eq, tDNewK_eq, tNext, tPar, tM0, tM1, tSl, tNoPart, tPart, rSlS, tAug, tAugS, tExf_eq, ipI, tChain, tCall, tDrop, tBM, tAnd, tOr, tNot, tAndV, tOrV, tNotV, tIf, tIsN, tNotN, rI, rI0, rU, rEq, rNe, gSub, cx_K, cx_K2, L2.start, wipe, scal_ii, scal_ss, scal_bb, scal_is, scal_si, scal_nn, List.map_cons, List.map_nil, List.length_cons, List.length_nil, List.cons_append, List.nil_append, List.append_nil, List.replicate, List.getElem?_cons_zero, List.getElem?_cons_succ, Option.some.injEq, exists_and_left, exists_eq_left', exists_eq_left, exists_eq, exists_eq', V.int.injEq, V.ref.injEq, V.str.injEq, V.bl.injEq, List.cons.injEq, and_true, true_and, false_and, exists_false, or_false, false_or, reduceCtorEq, List.set_cons_zero, List.set_cons_succ, Nat.reduceAdd, Nat.reduceSub, Int.reduceToNat, decide_eq_true_eq, if_true, if_false, Bool.false_eq_true, Bool.not_true, Bool.not_false, Bool.true_eq_false, ite_false, ite_true, ne_eq, not_false_eq_true, Int.reduceEq, NdefX.startF, tFnS])
    exact D
/-- the action of a level: what it finds -/
structure AcG (base : Heap) (mg : Str → Option Value) (B : List (Addr × Str)) (S L C Kc : Addr) (c : Ct) (l : Nat → Addr) (as : Nat → List Tbl) (H : Hp) (dl : Addr) (rw : Rw) (ks : List KI) (ds : List Addr) (lev n w : Nat) (p' : Addr) (q' e' : Nat → Addr) (te' : Nat → Tbl) (ts : List Tbl) : Prop where
  wo : Wo base mg B C Kc c H dl rw ks ds
  sc : Sc2 S L H c l as
  ck : Cst c
  hw : w < 2
  bn : Bnd rw (lev + 1) n ks ds
  pl : Pls H p' q' e' (setN as w ts) te'
  pn : p' ∉ Zw c dl
  ev : ∀ k, k < 2 → EvK c.us (setN as w ts k) (c.sB k) (te' k)
/-- lambda: scope.during(given, ..) -/
def spEa (base : Heap) (mg : Str → Option Value) (B : List (Addr × Str)) (S L C Kc CF : Addr) (n : Nat) (Pt : Addr) (cl : List (Str × Addr)) : SpC := fun outer _ ws vs H Q E => ∃ (c : Ct) (l : Nat → Addr) (as : Nat → List Tbl) (dl : Addr) (rw : Rw) (ks : List KI) (ds : List Addr) (lev w : Nat) (b p' : Addr) (q' e' : Nat → Addr) (te' : Nat → Tbl) (gv : Tbl),
  ws = [some (.ref (c.x w)), some (.ref b), some (.ref c.bx), some (.ref p'), some (.int lev)] ∧ vs = [] ∧ (∀ y a, cl.lookup y = some a → a ∉ frs outer) ∧ TW base mg ((Pt, qSub qE) :: B) H ∧ AcG base mg B S L C Kc c l as H dl rw ks ds lev n w p' q' e' te' (gv :: as w) ∧
  H b = some (.dK gv) ∧ TOk gv ∧ (∀ p ∈ gv, ∃ y ∈ c.us, p.1 = .inr y) ∧ PostD base mg B S L C Kc CF c l as H dl rw ks ds (lev + 1) n Q E
theorem cb_E0 (T : Txt K mg) {B : List (Addr × Str)} {n kf : Nat} (hd : FnT P w K mg base (L2.CX P w) kf T.d_l_down.a T.d_l_down.d nDo (fun _ _ => spDown base mg B T.e_Scope.C T.e_Layer.C T.e_Env.C T.e_Kept.C T.c_Failed.C n)) {cl : List (Str × Addr)} {c' f Pt : Addr} :
    CbT P w K mg base (L2.CX P w) (kf + 3) f (cbL f (lfE lam_l_enter_0 qE cl c') (lamB lam_l_enter_0) Pt) [] fr_l_enter_0 (spEa base mg B T.e_Scope.C T.e_Layer.C T.e_Env.C T.e_Kept.C T.c_Failed.C n Pt cl) := by
  refine cb_lamT (k := kf + 2) sc_lam_l_enter_0 (fun pm ctv us hl => match us, hl with | [], _ => rfl) (fun outer s ws vs H Q E h => ?_) (fun A outer s H vs ws Q E ht hfl hcc Ce h => ?_)
  · obtain ⟨_, _, _, _, _, _, _, _, _, _, _, _, _, _, _, _, rfl, _⟩ := h
    rfl
  · obtain ⟨c, l, as, dl, rw, ks, ds, lev, wh, b, p', q', e', te', gv, rfl, rfl, nf, hT, G, hb, tk, ins, Px⟩ := h
    have hr := ht.leaf
    have hu := hr.units
    obtain ⟨spX, hX⟩ : ∃ spX : L2.St → Sp, spX = fun σ vs H1 Q1 E1 => ∃ (f1 c1 P1 : Addr), vs = [.ref (c.x wh), .ref b, .ref f1] ∧ σ[2]? = some (some (.ref c.bx)) ∧ σ[3]? = some (some (.ref p')) ∧ σ[4]? = some (some (.int lev)) ∧ H1 f1 = some (LamO f1 (lfE lam_l_enter_1 (qSub qE) (cloFrom cl (lamSc lam_l_enter_1).names []) c1) (lamB lam_l_enter_1)) ∧ H1 c1 = some (CodeH c1 (qSub qE) P1) ∧ LamX.ExtN H H1 ∧ (∀ b, H1 b = none → H b = none) ∧ TW base mg B H1 ∧ Q1 = Q ∧ E1 = E := ⟨_, rfl⟩
    have hS : ∀ (pins : List (Addr × Obj)) (σ : L2.St) (H1 : Hp) (s1 : Shared) (vs : List V) (Q1 : VK), Inv (NdefX.ncx (L2.CX P w) P w K mg base ["_law_scope", "_law_given", "_law_box", "_law_inner", "_law_level"] (lfE lam_l_enter_0 qE cl c') f A outer s H E) pins σ H1 s1 → spX σ vs H1 Q1 E → spDurT P w K mg base (kf + 1) T.e_Env.C T.e_Scope.C T.e_Layer.C (NdefX.envF (lfE lam_l_enter_0 qE cl c') f s.heap.objs.size :: outer) s1 vs H1 Q1 E := by
      intro pins σ H1 s1 vs Q1 I h
      rw [hX] at h
      obtain ⟨f1, c1, P1, rfl, e2, e3, e4, hf1, hc1, eN, nn, T1, rfl, _⟩ := h
      have es : [2, 3, 4].map (NdefX.slotAt σ) = [some (.ref c.bx), some (.ref p'), some (.int lev)] := by
        unfold NdefX.slotAt
        simp [e2, e3, e4]
      have ck := ck_inv I rfl
      obtain ⟨st0, n0, s0⟩ := G.sc wh G.hw
      obtain ⟨dx0, ex0⟩ := id s0.at_
      have ex1 := eN _ _ ex0 (fun _ z => by cases z)
      have sc1 : ScpOk T.e_Scope.C T.e_Layer.C H1 (c.x wh) (c.r wh) (l wh) st0 n0 (c.m wh) (as wh) (c.sB wh) := s0.dx1 (.extN eN) ⟨dx0, ex1⟩
      have D1 : Dx1 (c.x wh) H H1 := .extN eN
      refine ⟨c.x wh, c.r wh, l wh, st0, b, f1, n0, c.m wh, as wh, c.sB wh, gv, cbL f1 (lfE lam_l_enter_1 (qSub qE) _ c1) (lamB lam_l_enter_1) P1, "_law_one", fr_l_enter_1, [2, 3, 4].map (NdefX.slotAt σ), spDn1 base mg B T.e_Scope.C T.e_Layer.C T.e_Env.C T.e_Kept.C T.c_Failed.C n, rfl, cb_E1 T hd, lam_caps I free_E1 rfl, fun y a hy => (ck _ _ _ Ce nf).2 y a (lam_sub (js := [2, 3, 4]) I free_E1 rfl hy), hf1, hc1, ⟨sc1, .inr (eN _ _ hb (fun _ z => by cases z)), tk, ?_, fun p mp => ?_⟩, fun H3 l' d1 d2 DH R EE h1 h2 o' s' ck2 => ?_⟩
      · have z := tbl_few tk ins
        have := G.ck.few
        omega
      · obtain ⟨y, my, ey⟩ := ins p mp
        rw [ey]
        exact G.ck.has wh G.hw y my
      · rw [es]
        have D3 : Dx1 (c.x wh) H1 H3 := .exT DH.ext
        have W1 := G.wo.dx1 G.hw G.ck G.sc.hx D1 T1
        have S1 : Sc2 T.e_Scope.C T.e_Layer.C H1 c l as := fun j hj => by
          by_cases z : j = wh
          · subst z
            exact ⟨_, _, sc1⟩
          · exact G.sc.oth G.ck G.hw D1 hj z
        have T3 := T1.keep (keepT_exT ex1 DH.ext)
        have W3 := W1.dx1 G.hw G.ck S1.hx D3 T3
        have S3 := S1.one G.ck G.hw D3 ⟨st0, n0, sc1.on tk DH⟩
        obtain ⟨dx3, ex3⟩ := id DH.sc
        have pl3 : Pls H3 p' q' e' (setN as wh (gv :: as wh)) te' := (G.pl.extN eN).dx1 ex1 D3
        have Y3 : DyN (Zw c dl) H H3 := (DyN.extN eN nn).trans (.exT DH.ext (zw_x G.hw) ex3)
        have G3 : GW base mg B T.e_Scope.C T.e_Layer.C T.e_Env.C T.e_Kept.C c (setN l wh l') (setN as wh (gv :: as wh)) H3 p' q' e' te' dl rw ks ds := ⟨W3, S3, G.ck, pl3, G.pn, G.ev⟩
        refine ⟨c.bx, p', c.x wh, lev, rfl, rfl, c, setN l wh l', setN as wh (gv :: as wh), p', q', e', te', dl, rw, ks, ds, lev + 1, rfl, G3, G.bn, fun hl H' ks' ds' pw => ?_, fun hl cls dd H' ks' ds' er pw => ?_⟩
        · obtain ⟨st4, n4, s4⟩ := pw.sc wh G.hw
          obtain ⟨dx4, e4⟩ := id s4.at_
          exact h1 _ H' dx4 _ e4 (show 5 < 1000 by decide) (Px.1 hl _ ks' ds' (PW.back G.hw G.wo G.ck G.sc Y3 pw e4))
        · obtain ⟨st4, n4, s4⟩ := pw.sc wh G.hw
          obtain ⟨dx4, e4⟩ := id s4.at_
          exact h2 cls dd H' dx4 _ e4 (show 5 < 1000 by decide) (Px.2 hl cls dd _ ks' ds' er (PW.back G.hw G.wo G.ck G.sc Y3 pw e4))
    refine ⟨_, (pe_methT (spA := spX) (pv 0) T.e_Scope.c ⟨T.i_Scope_during.at_, T.i_Scope_during.fn, T.i_Scope_during.F.kp⟩ (ok_Scope_durT T (kf := kf + 1)) ht T.i_Scope_during.b (passesE (takesL (E := E) rfl rfl rfl rfl)) hS (pa_cons (pv 1) (pa_cons (pe_lamS (e := lam_l_enter_1) (q := qSub qE) rfl rfl rfl rfl (NdefX.ndef_free (sc := lamSc lam_l_enter_0) (nsc := lamSc lam_l_enter_1) free_E1)) pa_nil))), ?_⟩
    (try simp only [tIxO, rIsB, rNotB, tSeq, tIfS, tTest, tB, tOp, tUn, tVar, tC, tAsg, gName, tRet, tRetN, tCB, tCons, tNil, tLst_eq, tTup_eq, tDNewK_eq, tNext, tPar, tM0, tM1, tSl, tNoPart, tPart, rSlS, tAug, tAugS, tExf_eq, ipI, tChain, tCall, tDrop, tBM, tAnd, tOr, tNot, tAndV, tOrV, tNotV, tIf, tIsN, tNotN, rI, rI0, rU, rEq, rNe, gSub, cx_K, cx_K2, L2.start, wipe, scal_ii, scal_ss, scal_bb, scal_is, scal_si, scal_nn, List.map_cons, List.map_nil, List.length_cons, List.length_nil, List.cons_append, List.nil_append, List.append_nil, List.replicate, List.getElem?_cons_zero, List.getElem?_cons_succ, Option.some.injEq, exists_and_left, exists_eq_left', exists_eq_left, exists_eq, exists_eq', V.int.injEq, V.ref.injEq, V.str.injEq, V.bl.injEq, List.cons.injEq, and_true, true_and, false_and, exists_false, or_false, false_or, reduceCtorEq, List.set_cons_zero, List.set_cons_succ, Nat.reduceAdd, Nat.reduceSub, Int.reduceToNat, decide_eq_true_eq, if_true, if_false, Bool.false_eq_true, Bool.not_true, Bool.not_false, Bool.true_eq_false, ite_false, ite_true, ne_eq, not_false_eq_true, Int.reduceEq, NdefX.startF, tMethS, tLamS])
    obtain ⟨st0, n0, s0⟩ := G.sc wh G.hw
    obtain ⟨dx0, ex0⟩ := id s0.at_
    refine ⟨dx0, _, ex0, rfl, (Pt, qSub qE) :: B, hT, Pt, fun h ok _ => (codeH_at ok hcc).2, by simp, fun f1 c1 P1 H1 eN nn T1 n1 hf1 hc1 => ?_⟩
    rw [hX]
    exact ⟨f1, c1, P1, rfl, rfl, rfl, rfl, hf1, hc1, eN, nn, T1.sub fun p hp => List.mem_cons_of_mem _ (List.mem_cons_of_mem _ hp), rfl, rfl⟩

end
end Own

set_option Elab.async false
set_option linter.all false
set_option maxRecDepth 100000
set_option maxHeartbeats 4000000
namespace Own
open PySem PySem.Spec PyProof.Rows L2
section
variable {P : Program} {w : World} {K : PySem.W.Frag} {mg : Str → Option Value} {base : Heap}
/-- apart -/
theorem ScpOk.ap {S L x r l st dx : Addr} {H : Hp} {n : Int} {m : Str} {as : List Tbl} {t0 : Tbl} (h : ScpOk S L H x r l st n m as t0) (e : H x = some (.ins S dx (ScpF r l st n m))) : ScpOk S L (upd H x (.ins S dx (ScpF r r st n m))) x r r st n m [] t0 := by
  have P : Dx1 x H (upd H x (.ins S dx (ScpF r r st n m))) := .put
  obtain ⟨ss, hs, hk⟩ := h.std
  exact ⟨⟨dx, upd_same⟩, h.root.dx1 e P, h.root.dx1 e P, ⟨ss, hs.dx1 e P, hk⟩, h.ok0, fun t mt => by cases mt⟩
/-- lambda: scope.apart(..) -/
def spEb (base : Heap) (mg : Str → Option Value) (B : List (Addr × Str)) (S L C Kc CF : Addr) (n : Nat) (Pt : Addr) (cl : List (Str × Addr)) : SpC := fun outer _ ws vs H Q E => ∃ (c : Ct) (l : Nat → Addr) (as : Nat → List Tbl) (dl : Addr) (rw : Rw) (ks : List KI) (ds : List Addr) (lev w : Nat) (p' : Addr) (q' e' : Nat → Addr) (te' : Nat → Tbl),
  ws = [some (.ref (c.x w)), some (.ref c.bx), some (.ref p'), some (.int lev)] ∧ vs = [] ∧ (∀ y a, cl.lookup y = some a → a ∉ frs outer) ∧ TW base mg ((Pt, qSub qE) :: B) H ∧ AcG base mg B S L C Kc c l as H dl rw ks ds lev n w p' q' e' te' [] ∧ PostD base mg B S L C Kc CF c l as H dl rw ks ds (lev + 1) n Q E
theorem cb_E2 (T : Txt K mg) {B : List (Addr × Str)} {n kf : Nat} (hd : FnT P w K mg base (L2.CX P w) kf T.d_l_down.a T.d_l_down.d nDo (fun _ _ => spDown base mg B T.e_Scope.C T.e_Layer.C T.e_Env.C T.e_Kept.C T.c_Failed.C n)) {cl : List (Str × Addr)} {c' f Pt : Addr} :
    CbT P w K mg base (L2.CX P w) (kf + 3) f (cbL f (lfE lam_l_enter_2 qE cl c') (lamB lam_l_enter_2) Pt) [] fr_l_enter_2 (spEb base mg B T.e_Scope.C T.e_Layer.C T.e_Env.C T.e_Kept.C T.c_Failed.C n Pt cl) := by
  refine cb_lamT (k := kf + 2) sc_lam_l_enter_2 (fun pm ctv us hl => match us, hl with | [], _ => rfl) (fun outer s ws vs H Q E h => ?_) (fun A outer s H vs ws Q E ht hfl hcc Ce h => ?_)
  · obtain ⟨_, _, _, _, _, _, _, _, _, _, _, _, _, _, rfl, _⟩ := h
    rfl
  · obtain ⟨c, l, as, dl, rw, ks, ds, lev, wh, p', q', e', te', rfl, rfl, nf, hT, G, Px⟩ := h
    have hr := ht.leaf
    have hu := hr.units
    obtain ⟨spX, hX⟩ : ∃ spX : L2.St → Sp, spX = fun σ vs H1 Q1 E1 => ∃ (f1 c1 P1 : Addr), vs = [.ref (c.x wh), .ref f1] ∧ σ[1]? = some (some (.ref c.bx)) ∧ σ[2]? = some (some (.ref p')) ∧ σ[3]? = some (some (.int lev)) ∧ H1 f1 = some (LamO f1 (lfE lam_l_enter_3 (qSub qE) (cloFrom cl (lamSc lam_l_enter_3).names []) c1) (lamB lam_l_enter_3)) ∧ H1 c1 = some (CodeH c1 (qSub qE) P1) ∧ LamX.ExtN H H1 ∧ (∀ b, H1 b = none → H b = none) ∧ TW base mg B H1 ∧ Q1 = Q ∧ E1 = E := ⟨_, rfl⟩
    have hS : ∀ (pins : List (Addr × Obj)) (σ : L2.St) (H1 : Hp) (s1 : Shared) (vs : List V) (Q1 : VK), Inv (NdefX.ncx (L2.CX P w) P w K mg base ["_law_scope", "_law_box", "_law_root", "_law_level"] (lfE lam_l_enter_2 qE cl c') f A outer s H E) pins σ H1 s1 → spX σ vs H1 Q1 E → spApT P w K mg base (kf + 1) T.e_Scope.C T.e_Layer.C (NdefX.envF (lfE lam_l_enter_2 qE cl c') f s.heap.objs.size :: outer) s1 vs H1 Q1 E := by
      intro pins σ H1 s1 vs Q1 I h
      rw [hX] at h
      obtain ⟨f1, c1, P1, rfl, e2, e3, e4, hf1, hc1, eN, nn, T1, rfl, _⟩ := h
      have es : [1, 2, 3].map (NdefX.slotAt σ) = [some (.ref c.bx), some (.ref p'), some (.int lev)] := by
        unfold NdefX.slotAt
        simp [e2, e3, e4]
      have ck := ck_inv I rfl
      obtain ⟨st0, n0, s0⟩ := G.sc wh G.hw
      obtain ⟨dx0, ex0⟩ := id s0.at_
      have ex1 := eN _ _ ex0 (fun _ z => by cases z)
      have sc1 : ScpOk T.e_Scope.C T.e_Layer.C H1 (c.x wh) (c.r wh) (l wh) st0 n0 (c.m wh) (as wh) (c.sB wh) := s0.dx1 (.extN eN) ⟨dx0, ex1⟩
      have D1 : Dx1 (c.x wh) H H1 := .extN eN
      refine ⟨c.x wh, c.r wh, l wh, st0, f1, dx0, n0, c.m wh, cbL f1 (lfE lam_l_enter_3 (qSub qE) _ c1) (lamB lam_l_enter_3) P1, "_law_one", fr_l_enter_3, [1, 2, 3].map (NdefX.slotAt σ), spDn1 base mg B T.e_Scope.C T.e_Layer.C T.e_Env.C T.e_Kept.C T.c_Failed.C n, rfl, cb_E3 T hd, lam_caps I free_E3 rfl, fun y a hy => (ck _ _ _ Ce nf).2 y a (lam_sub (js := [1, 2, 3]) I free_E3 rfl hy), hf1, hc1, ex1, fun R EE h1 h2 o' s' ck2 => ?_⟩
      rw [es]
      have D3 : Dx1 (c.x wh) H1 (upd H1 (c.x wh) (.ins T.e_Scope.C dx0 (ScpF (c.r wh) (c.r wh) st0 n0 (c.m wh)))) := .put
      have W1 := G.wo.dx1 G.hw G.ck G.sc.hx D1 T1
      have S1 : Sc2 T.e_Scope.C T.e_Layer.C H1 c l as := fun j hj => by
        by_cases z : j = wh
        · subst z
          exact ⟨_, _, sc1⟩
        · exact G.sc.oth G.ck G.hw D1 hj z
      have W3 := W1.dx1 G.hw G.ck S1.hx D3 (T1.keep (keepT_upd ex1 (.inr (.inl ⟨_, _, _, rfl⟩))))
      have S3 := S1.one G.ck G.hw D3 ⟨st0, n0, sc1.ap ex1⟩
      have pl3 := (G.pl.extN eN).dx1 ex1 D3
      have Y3 : DyN (Zw c dl) H (upd H1 (c.x wh) (.ins T.e_Scope.C dx0 (ScpF (c.r wh) (c.r wh) st0 n0 (c.m wh)))) := (DyN.extN eN nn).trans (.put (zw_x G.hw))
      have G3 : GW base mg B T.e_Scope.C T.e_Layer.C T.e_Env.C T.e_Kept.C c (setN l wh (c.r wh)) (setN as wh []) _ p' q' e' te' dl rw ks ds := ⟨W3, S3, G.ck, pl3, G.pn, G.ev⟩
      refine ⟨c.bx, p', c.x wh, lev, rfl, rfl, c, setN l wh (c.r wh), setN as wh [], p', q', e', te', dl, rw, ks, ds, lev + 1, rfl, G3, G.bn, fun hl H' ks' ds' pw => ?_, fun hl cls dd H' ks' ds' er pw => ?_⟩
      · obtain ⟨st4, n4, s4⟩ := pw.sc wh G.hw
        obtain ⟨dx4, e4⟩ := id s4.at_
        exact h1 _ H' dx4 _ e4 (show 5 < 1000 by decide) (Px.1 hl _ ks' ds' (PW.back G.hw G.wo G.ck G.sc Y3 pw e4))
      · obtain ⟨st4, n4, s4⟩ := pw.sc wh G.hw
        obtain ⟨dx4, e4⟩ := id s4.at_
        exact h2 cls dd H' dx4 _ e4 (show 5 < 1000 by decide) (Px.2 hl cls dd _ ks' ds' er (PW.back G.hw G.wo G.ck G.sc Y3 pw e4))
    refine ⟨_, (pe_methT (spA := spX) (pv 0) T.e_Scope.c ⟨T.i_Scope_apart.at_, T.i_Scope_apart.fn, T.i_Scope_apart.F.kp⟩ (ok_Scope_apT T (kf := kf + 1)) ht T.i_Scope_apart.b (passesE (takesL (E := E) rfl rfl rfl rfl)) hS (pa_cons (pe_lamS (e := lam_l_enter_3) (q := qSub qE) rfl rfl rfl rfl (NdefX.ndef_free (sc := lamSc lam_l_enter_2) (nsc := lamSc lam_l_enter_3) free_E3)) pa_nil)), ?_⟩
    (try simp only [tIxO, rIsB, rNotB, tSeq, tIfS, tTest, tB, tOp, tUn, tVar, tC, tAsg, gName, tRet, tRetN, tCB, tCons, tNil, tLst_eq, tTup_eq, tDNewK_eq, tNext, tPar, tM0, tM1, tSl, tNoPart, tPart, rSlS, tAug, tAugS, tExf_eq, ipI, tChain, tCall, tDrop, tBM, tAnd, tOr, tNot, tAndV, tOrV, tNotV, tIf, tIsN, tNotN, rI, rI0, rU, rEq, rNe, gSub, cx_K, cx_K2, L2.start, wipe, scal_ii, scal_ss, scal_bb, scal_is, scal_si, scal_nn, List.map_cons, List.map_nil, List.length_cons, List.length_nil, List.cons_append, List.nil_append, List.append_nil, List.replicate, List.getElem?_cons_zero, List.getElem?_cons_succ, Option.some.injEq, exists_and_left, exists_eq_left', exists_eq_left, exists_eq, exists_eq', V.int.injEq, V.ref.injEq, V.str.injEq, V.bl.injEq, List.cons.injEq, and_true, true_and, false_and, exists_false, or_false, false_or, reduceCtorEq, List.set_cons_zero, List.set_cons_succ, Nat.reduceAdd, Nat.reduceSub, Int.reduceToNat, decide_eq_true_eq, if_true, if_false, Bool.false_eq_true, Bool.not_true, Bool.not_false, Bool.true_eq_false, ite_false, ite_true, ne_eq, not_false_eq_true, Int.reduceEq, NdefX.startF, tMethS, tLamS])
    obtain ⟨st0, n0, s0⟩ := G.sc wh G.hw
    obtain ⟨dx0, ex0⟩ := id s0.at_
    refine ⟨dx0, _, ex0, rfl, (Pt, qSub qE) :: B, hT, Pt, fun h ok _ => (codeH_at ok hcc).2, by simp, fun f1 c1 P1 H1 eN nn T1 n1 hf1 hc1 => ?_⟩
    rw [hX]
    exact ⟨f1, c1, P1, rfl, rfl, rfl, rfl, hf1, hc1, eN, nn, T1.sub fun p hp => List.mem_cons_of_mem _ (List.mem_cons_of_mem _ hp), rfl, rfl⟩
/-- the action that is kept: down, by what is due last -/
def spEk (base : Heap) (mg : Str → Option Value) (B : List (Addr × Str)) (S L C Kc CF : Addr) (n : Nat) : SpC := fun outer s ws vs H Q E => ∃ (c0 : Ct) (x c d p' dl : Addr) (o : Obj) (rw : Rw) (ds : List Addr) (lev : Nat), ws = [some (.ref c0.bx)] ∧ vs = [.ref x] ∧ H c = none ∧ s.heap.get? c = some o ∧ c ∉ frs outer ∧ base.get? c = none ∧
  H c0.bx = some (.dK (boxT c0 dl rw)) ∧ H dl = some (.lst ((ds ++ [d]).map V.ref)) ∧ H d = some (.tup [.ref p', .int lev]) ∧
  spDown base mg B S L C Kc CF n [.ref c0.bx, .ref p', .int lev] (upd H c (CellO c o)) (fun v H' => H' c = some (CellO c o) ∧ Q v (unp H' c)) (fun cls d H' => H' c = some (CellO c o) ∧ E cls d (unp H' c))
theorem cb_E4 (T : Txt K mg) {B : List (Addr × Str)} {n kf : Nat} (hd : FnT P w K mg base (L2.CX P w) kf T.d_l_down.a T.d_l_down.d nDo (fun _ _ => spDown base mg B T.e_Scope.C T.e_Layer.C T.e_Env.C T.e_Kept.C T.c_Failed.C n)) {cl : List (Str × Addr)} {c' f Pt : Addr} :
    CbT P w K mg base (L2.CX P w) (kf + 1) f (cbL f (lfE lam_l_enter_4 qE cl c') (lamB lam_l_enter_4) Pt) ["_law_one"] fr_l_enter_4 (spEk base mg B T.e_Scope.C T.e_Layer.C T.e_Env.C T.e_Kept.C T.c_Failed.C n) := by
  refine cb_lamT sc_lam_l_enter_4 (fun pm ctv us hl => match us, hl with | [_], _ => rfl) (fun outer s ws vs H Q E h => ?_) (fun A outer s H vs ws Q E ht hfl hcc Ce h => ?_)
  · obtain ⟨_, _, _, _, _, _, _, _, _, _, _, rfl, _⟩ := h
    rfl
  · obtain ⟨c0, x, c, d, p', dl, o, rw, ds, lev, rfl, rfl, hn, ho, nfs, nb, hb, hdl, hdd, D⟩ := h
    have hr := ht.leaf
    have hu := hr.units
    have nst : c ∉ frs (NdefX.envF (lfE lam_l_enter_4 qE cl c') f s.heap.objs.size :: outer) := fun m => by
      rcases List.mem_cons.mp (show c ∈ s.heap.objs.size :: frs outer from m) with z | z
      · exact absurd (Heap.lt_size ho) (by rw [z]; exact Nat.lt_irrefl _)
      · exact nfs z
    refine ⟨_, (pe_fnTU (y := "_law_box") (spA := fun _ => spDown base mg B T.e_Scope.C T.e_Layer.C T.e_Env.C T.e_Kept.C T.c_Failed.C n) (c := c) (ob := o) hd ht (by rfl) T.d_l_down.g T.d_l_down.F.kp T.d_l_down.b (passesE (takesL (E := E) rfl rfl rfl rfl)) ho hn nfs rfl nst nb (fun _ _ _ _ _ _ h => h) (pa_cons (pv 1) (pa_cons (pe_ix ix_tup (pe_ix ix_list (pe_dget (hu_of hr) (pv 1) pe_str (fun _ _ => rfl)) (pe_un un_neg pe_int) (fun _ _ => rfl)) pe_int (fun _ _ => rfl)) (pa_cons (pe_ix ix_tup (pe_ix ix_list (pe_dget (hu_of hr) (pv 1) pe_str (fun _ _ => rfl)) (pe_un un_neg pe_int) (fun _ _ => rfl)) pe_int (fun _ _ => rfl)) pa_nil)))), ?_⟩
    (try simp only [tIxO, rIsB, rNotB, tSeq, tIfS, tTest, tB, tOp, tUn, tVar, tC, tAsg, gName, tRet, tRetN, tCB, tCons, tNil, tLst_eq, tTup_eq, tDNewK_eq, tNext, tPar, tM0, tM1, tSl, tNoPart, tPart, rSlS, tAug, tAugS, tExf_eq, ipI, tChain, tCall, tDrop, tBM, tAnd, tOr, tNot, tAndV, tOrV, tNotV, tIf, tIsN, tNotN, rI, rI0, rU, rEq, rNe, gSub, cx_K, cx_K2, L2.start, wipe, scal_ii, scal_ss, scal_bb, scal_is, scal_si, scal_nn, List.map_cons, List.map_nil, List.length_cons, List.length_nil, List.cons_append, List.nil_append, List.append_nil, List.replicate, List.getElem?_cons_zero, List.getElem?_cons_succ, Option.some.injEq, exists_and_left, exists_eq_left', exists_eq_left, exists_eq, exists_eq', V.int.injEq, V.ref.injEq, V.str.injEq, V.bl.injEq, List.cons.injEq, and_true, true_and, false_and, exists_false, or_false, false_or, reduceCtorEq, List.set_cons_zero, List.set_cons_succ, Nat.reduceAdd, Nat.reduceSub, Int.reduceToNat, decide_eq_true_eq, if_true, if_false, Bool.false_eq_true, Bool.not_true, Bool.not_false, Bool.true_eq_false, ite_false, ite_true, ne_eq, not_false_eq_true, Int.reduceEq, NdefX.startF, tFnS, tDGet])
    exact ⟨_, bg_due hb, ixM_go hdl (atI_map (f := V.ref) (atI_end ds d)) ⟨d, _, 0, _, rfl, rfl, .inl (.inl hdd), atI_nat (j := 0) rfl, _, bg_due hb, ixM_go hdl (atI_map (f := V.ref) (atI_end ds d)) ⟨d, _, 1, _, rfl, rfl, .inl (.inl hdd), atI_nat (j := 1) rfl, ⟨hn, D⟩⟩⟩⟩

end
end Own

set_option Elab.async false
set_option linter.all false
set_option maxRecDepth 100000
set_option maxHeartbeats 4000000
namespace Own
open PySem PySem.Spec PyProof.Rows L2
section
variable {P : Program} {w : World} {K : PySem.W.Frag} {mg : Str → Option Value} {base : Heap}
/-- an instance called, the lambda's one cell told in the heap meanwhile -/
theorem pe_callT0U {X : Cx} {k : Nat} {f C : Addr} {fd : FuncData} {ps : List Str} {ds : List Value} {dvs : List V} {sp : SpS} {E : XK} {te : TE} {spA : L2.St → Sp} {fe : Expr} {pos : Pos} {c : Addr} {ob : Obj} (he : PE X fe te) (cc : CallC X.K C f) (F : FnT X.prog X.w X.K X.mg X.base (L2.CX X.prog X.w) k f fd ps sp) (hr : RT k X.A) (hb : Binds X.K fd ps ds) (hd : Vals dvs ds) (hx : Passes (L2.CX X.prog X.w) X E)
    (ho : X.s_0.heap.get? c = some ob) (hn : X.H_0 c = none) (nfs : c ∉ X.fs) (nex : X.ex = []) (nst : c ∉ frs X.stack) (nb : X.base.get? c = none)
    (hs : ∀ (σ : L2.St) (H : Hp) (s : Shared) (vs : List V) (Q : VK) (E : XK), spA σ vs H Q E → sp X.stack s vs H Q E)
    (hev : eval (.Call fe [] [] pos) X.env = (eval fe X.env >>= fun v => callWith pos v [] (backTo pos (starEach [] X.env)) (backToKw pos (keywordEach [] X.env))) := by rfl) : PE X (.Call fe [] [] pos) (tCallI C (spUnp c ob spA) dvs E te tNil) := by
  refine ⟨fun pins s σ H Q I h => ?_⟩
  rw [hev]
  refine wpAny_bind (thn (he.run pins s σ H _ I h) fun u s1 z => ?_)
  obtain ⟨x, H1, I1, rx, a, dx, fs, rfl, ea, ⟨dx2, fs2, ea2⟩, hn2, q⟩ := z
  obtain rfl : u = Value.ref a := rx
  show wpAny _ _ (callWith pos (.ref a) [] [] []) _ _ _
  refine callWith_I (C := C) rfl (evalArgs_nil3 ⟨⟨dx, inst_at I1.hok ea⟩, ?_⟩)
  have ho2 : s1.heap.get? c = some ob := I1.base.keep c ob ho hn nfs (by rw [nex]; simp)
  have h := hs _ _ s1 _ _ _ q
  have r2 : Vals ((.ref a :: ([] : List V)) ++ dvs) ((.ref a :: ([] : List Value)) ++ ds) := Vals.append (.cons rfl .nil) hd
  have hl : ((Value.ref a :: ([] : List Value)) ++ ds).length = ps.length := by
    rw [← r2.length]
    exact F.len _ _ _ _ _ _ h
  refine wpAny_call (call_I I1.kIn (inst_at I1.hok ea) cc (codeAny_mono (F.run X.A X.stack s1 _ ⟨[.ref a], []⟩ _ _ _ _ hr (env0_pin I1.env0 hn2 ho2 nst nb) (hb s1 [.ref a] I1.kIn hl) r2 h) fun r s' hq => ?_))
  match r, hq with
  | .error e, hq => exact hx pins σ H1 s1 e s' I1 (cx_unp hq hn2 ho2 nst fun _ _ _ z => z)
  | .ok (.ret u), hq => exact I1.after (ce_unp hq hn2 ho2 nst fun _ _ z => z)
  | .ok .next, hq => exact False.elim hq
  | .ok .brk, hq => exact False.elim hq
  | .ok .cont, hq => exact False.elim hq
theorem pe_callIT1U {X : Cx} {k : Nat} {f C : Addr} {fd : FuncData} {ps : List Str} {ds : List Value} {dvs : List V} {sp : SpS} {E : XK} {te : TE} {t : TA} {spA : L2.St → Sp} {fe e : Expr} {es : List Expr} {pos : Pos} {c : Addr} {ob : Obj} (he : PE X fe te) (cc : CallC X.K C f) (F : FnT X.prog X.w X.K X.mg X.base (L2.CX X.prog X.w) k f fd ps sp) (hr : RT k X.A) (hb : Binds X.K fd ps ds) (hd : Vals dvs ds) (hx : Passes (L2.CX X.prog X.w) X E)
    (ho : X.s_0.heap.get? c = some ob) (hn : X.H_0 c = none) (nfs : c ∉ X.fs) (nex : X.ex = []) (nst : c ∉ frs X.stack) (nb : X.base.get? c = none)
    (hs : ∀ (σ : L2.St) (H : Hp) (s : Shared) (vs : List V) (Q : VK) (E : XK), spA σ vs H Q E → sp X.stack s vs H Q E) (ha : PA X (e :: es) t)
    (hst : starEach (e :: es) X.env = (false, eval e X.env) :: starEach es X.env := by rfl) (hpl : (backTo pos (starEach es X.env)).any (·.1) = false := by rfl)
    (hev : eval (.Call fe (e :: es) [] pos) X.env = (eval fe X.env >>= fun v => callWith pos v [] (backTo pos (starEach (e :: es) X.env)) (backToKw pos (keywordEach [] X.env))) := by rfl) : PE X (.Call fe (e :: es) [] pos) (tCallI C (spUnp c ob spA) dvs E te t) := by
  refine ⟨fun pins s σ H Q I h => ?_⟩
  rw [hev]
  refine wpAny_bind (thn (he.run pins s σ H _ I h) fun u s1 z => ?_)
  obtain ⟨x, H1, I1, rx, a, dx, fs, rfl, ea, q⟩ := z
  obtain rfl : u = Value.ref a := rx
  have hp2 : ((backTo pos (starEach (e :: es) X.env)).any (·.1) || ([] : List (Option Str × Sem Value)).any (·.1.isNone)) = false := by
    rw [hst]
    show ((false || (backTo pos (starEach es X.env)).any (·.1)) || false) = false
    rw [hpl]
    rfl
  show wpAny _ _ (callWith pos (.ref a) [] (backTo pos (starEach (e :: es) X.env)) []) _ _ _
  have run := ha.run pos pins s1 σ H1 _ I1 q
  refine callWith_I (C := C) hp2 ?_
  rw [hst] at run ⊢
  refine PySem.Calls.evalArgs_plain (thn run fun us s2 z => ?_)
  obtain ⟨vs, H2, I2, r, ⟨dx2, fs2, ea2⟩, hn2, q2⟩ := z
  have ho2 : s2.heap.get? c = some ob := I2.base.keep c ob ho hn nfs (by rw [nex]; simp)
  have h := hs _ _ s2 _ _ _ q2
  have r2 : Vals ((.ref a :: vs) ++ dvs) ((.ref a :: us) ++ ds) := Vals.append (.cons rfl r) hd
  have hl : ((Value.ref a :: us) ++ ds).length = ps.length := by
    rw [← r2.length]
    exact F.len _ _ _ _ _ _ h
  refine ⟨⟨dx2, inst_at I2.hok ea2⟩, wpAny_call (call_I I2.kIn (inst_at I2.hok ea2) cc (codeAny_mono (F.run X.A X.stack s2 _ ⟨.ref a :: us, []⟩ _ _ _ _ hr (env0_pin I2.env0 hn2 ho2 nst nb) (hb s2 (.ref a :: us) I2.kIn hl) r2 h) fun r s' hq => ?_))⟩
  match r, hq with
  | .error e, hq => exact hx pins σ H2 s2 e s' I2 (cx_unp hq hn2 ho2 nst fun _ _ _ z => z)
  | .ok (.ret u), hq => exact I2.after (ce_unp hq hn2 ho2 nst fun _ _ z => z)
  | .ok .next, hq => exact False.elim hq
  | .ok .brk, hq => exact False.elim hq
  | .ok .cont, hq => exact False.elim hq
/-- lambda: kept(..), kept() -/
def spEc (P : Program) (w : World) (K : PySem.W.Frag) (mg : Str → Option Value) (base : Heap) (C S L Kc : Addr) (kf : Nat) : SpC := fun outer s ws vs H Q E => ∃ (c0 : Ct) (k c dl dk : Addr) (fk : List (Str × V)) (o : Obj) (rw : Rw) (tg hm : Nat), ws = [some (.int tg), some (.int hm), some (.ref k), some (.ref c0.bx)] ∧ vs = [] ∧ tg < 2 ∧ H c = none ∧ s.heap.get? c = some o ∧ c ∉ frs outer ∧ base.get? c = none ∧
  H c0.bx = some (.dK (boxT c0 dl rw)) ∧ H c0.sl = some (.lst [.ref (c0.x 0), .ref (c0.x 1)]) ∧ H k = some (.ins Kc dk fk) ∧
  ∀ outer' s', spKT P w K mg base kf C S L Kc outer' s' [.ref k, if tg = hm then .non else .ref (c0.x tg)] (upd H c (CellO c o)) (fun v H' => H' c = some (CellO c o) ∧ Q v (unp H' c)) (fun cls d H' => H' c = some (CellO c o) ∧ E cls d (unp H' c))
theorem cb_E5 (T : Txt K mg) {kf : Nat} {cl : List (Str × Addr)} {c' f Pt : Addr} :
    CbT P w K mg base (L2.CX P w) (kf + 3) f (cbL f (lfE lam_l_enter_5 qE cl c') (lamB lam_l_enter_5) Pt) [] fr_l_enter_5 (spEc P w K mg base T.e_Env.C T.e_Scope.C T.e_Layer.C T.e_Kept.C kf) := by
  refine cb_lamT (k := kf + 2) sc_lam_l_enter_5 (fun pm ctv us hl => match us, hl with | [], _ => rfl) (fun outer s ws vs H Q E h => ?_) (fun A outer s H vs ws Q E ht hfl hcc Ce h => ?_)
  · obtain ⟨_, _, _, _, _, _, _, _, _, _, _, rfl, _⟩ := h
    rfl
  · obtain ⟨c0, k, c, dl, dk, fk, o, rw, tg, hm, rfl, rfl, ht2, hn, ho, nfs, nb, hb, hsl, hk, D⟩ := h
    have hr := ht.leaf
    have hu := hr.units
    have nst : c ∉ frs (NdefX.envF (lfE lam_l_enter_5 qE cl c') f s.heap.objs.size :: outer) := fun m => by
      rcases List.mem_cons.mp (show c ∈ s.heap.objs.size :: frs outer from m) with z | z
      · exact absurd (Heap.lt_size ho) (by rw [z]; exact Nat.lt_irrefl _)
      · exact nfs z
    obtain ⟨spX, hX⟩ : ∃ spX : L2.St → Sp, spX = fun _ vs H Q E => ∀ outer s, spKT P w K mg base kf T.e_Env.C T.e_Scope.C T.e_Layer.C T.e_Kept.C outer s vs H Q E := ⟨_, rfl⟩
    have hS : ∀ (σ : L2.St) (H : Hp) (s1 : Shared) (vs : List V) (Q : VK) (E : XK), spX σ vs H Q E → spKT P w K mg base kf T.e_Env.C T.e_Scope.C T.e_Layer.C T.e_Kept.C (NdefX.envF (lfE lam_l_enter_5 qE cl c') f s.heap.objs.size :: outer) s1 vs H Q E := by
      intro σ H s1 vs Q E h
      rw [hX] at h
      exact h _ _
    refine ⟨_, (pe_ifExp (pt_cmpR op_ne (pv 0) (pv 1) (nomark _)) (pe_callIT1U (spA := spX) (dvs := []) (c := c) (ob := o) (pv 2) T.call_Kept (ok_Kept_callT T (kf := kf)) ht T.i_Kept_call.b .nil (passesE (takesL (E := E) rfl rfl rfl rfl)) ho hn nfs rfl nst nb hS (pa_cons (pe_ix ix_list (pe_dget (hu_of hr) (pv 3) pe_str (fun _ _ => rfl)) (pv 0) (fun _ _ => rfl)) pa_nil)) (pe_callT0U (spA := spX) (dvs := [.non]) (c := c) (ob := o) (pv 2) T.call_Kept (ok_Kept_callT T (kf := kf)) ht T.i_Kept_call.bd T.i_Kept_call.hv (passesE (takesL (E := E) rfl rfl rfl rfl)) ho hn nfs rfl nst nb hS)), ?_⟩
    (try simp only [tIxO, rIsB, rNotB, tSeq, tIfS, tTest, tB, tOp, tUn, tVar, tC, tAsg, gName, tRet, tRetN, tCB, tCons, tNil, tLst_eq, tTup_eq, tDNewK_eq, tNext, tPar, tM0, tM1, tSl, tNoPart, tPart, rSlS, tAug, tAugS, tExf_eq, ipI, tChain, tCall, tDrop, tBM, tAnd, tOr, tNot, tAndV, tOrV, tNotV, tIf, tIsN, tNotN, rI, rI0, rU, rEq, rNe, gSub, cx_K, cx_K2, L2.start, wipe, scal_ii, scal_ss, scal_bb, scal_is, scal_si, scal_nn, List.map_cons, List.map_nil, List.length_cons, List.length_nil, List.cons_append, List.nil_append, List.append_nil, List.replicate, List.getElem?_cons_zero, List.getElem?_cons_succ, Option.some.injEq, exists_and_left, exists_eq_left', exists_eq_left, exists_eq, exists_eq', V.int.injEq, V.ref.injEq, V.str.injEq, V.bl.injEq, List.cons.injEq, and_true, true_and, false_and, exists_false, or_false, false_or, reduceCtorEq, List.set_cons_zero, List.set_cons_succ, Nat.reduceAdd, Nat.reduceSub, Int.reduceToNat, decide_eq_true_eq, if_true, if_false, Bool.false_eq_true, Bool.not_true, Bool.not_false, Bool.true_eq_false, ite_false, ite_true, ne_eq, not_false_eq_true, Int.reduceEq, NdefX.startF, tCallI, tDGet])
    by_cases e : tg = hm
    · subst e
      refine ite2 (fun z => by simp at z) (fun _ => ⟨dk, fk, hk, ⟨dk, fk, hk⟩, hn, ?_⟩)
      rw [hX]
      intro o' s'
      have z := D o' s'
      rw [if_pos rfl] at z
      exact z
    · have ne : (tg : Int) ≠ (hm : Int) := fun z => e (Int.ofNat.inj z)
      refine ite2 (fun _ => ⟨dk, fk, hk, _, bg_scopes hb, ixM_go hsl (two_at (f := fun w => V.ref (c0.x w)) ht2) ⟨⟨dk, fk, hk⟩, hn, ?_⟩⟩) (fun z => by simp [ne] at z)
      rw [hX]
      intro o' s'
      have z := D o' s'
      rw [if_neg e] at z
      exact z

end
end Own

set_option Elab.async false
set_option linter.all false
set_option maxRecDepth 100000
set_option maxHeartbeats 4000000
namespace Own
open PySem PySem.Spec PyProof.Rows L2
section
variable {P : Program} {w : World} {K : PySem.W.Frag} {mg : Str → Option Value} {base : Heap}
/-- the action of a level, ready to be called -/
def ActOk (P : Program) (w : World) (K : PySem.W.Frag) (mg : Str → Option Value) (base : Heap) (kf : Nat) (Post : VK → XK → Prop) (f : Addr) (H' : Hp) : Prop := ∃ (B0 : CB) (sp : SpC), CbT P w K mg base (L2.CX P w) kf f B0 [] [] sp ∧ B0.cl = [] ∧ H' f = some B0.O ∧ H' B0.c = some (CodeH B0.c B0.q B0.P) ∧ ∀ outer s R EE, Post R EE → sp outer s [] [] H' R EE
/-- _law_enter -/
def spEnter (P : Program) (w : World) (K : PySem.W.Frag) (base : Heap) (mg : Str → Option Value) (B : List (Addr × Str)) (S L C Kc CF : Addr) (kf n : Nat) : Sp := fun vs H Q _ => ∃ (c : Ct) (l : Nat → Addr) (as : Nat → List Tbl) (p : Addr) (q e : Nat → Addr) (te : Nat → Tbl) (dl : Addr) (rw : Rw) (ks : List KI) (ds : List Addr) (lev wh : Nat), vs = [.ref c.bx, .ref p, .int wh, .int lev] ∧ wh < 2 ∧
  GW base mg B S L C Kc c l as H p q e te dl rw ks ds ∧ Bnd rw lev (n + 1) ks ds ∧
  ∀ f HX H' ks' ds', Same HX H' → GW base mg B S L C Kc c l as HX p q e te dl rw ks' ds' → DyN (Zw c dl) H HX → ks'.length ≤ ks.length + 1 → ds'.length ≤ ds.length + 1 → ActOk P w K mg base (kf + 4) (PostD base mg B S L C Kc CF c l as HX dl rw ks' ds' (lev + 1) n) f H' → Q (.ref f) H'
theorem unpL_pinL : ∀ {l : List (Addr × Obj)} {H : Hp}, (l.map (·.1)).Nodup → (∀ p ∈ l, H p.1 = none) → unpL (pinL H l) l = H := by
  intro l H nd h
  funext a
  by_cases m : ∃ p ∈ l, a = p.1
  · obtain ⟨p, mp, rfl⟩ := m
    rw [unpL_in mp, h p mp]
  · have ne : ∀ p ∈ l, a ≠ p.1 := fun p mp e => m ⟨p, mp, e⟩
    rw [unpL_ne ne, pinL_ne ne]
/-- _law_enter's third way, behind the append to what is kept -/
structure Tl (base : Heap) (mg : Str → Option Value) (B : List (Addr × Str)) (S L C Kc : Addr) (c : Ct) (l : Nat → Addr) (as : Nat → List Tbl) (p : Addr) (q e : Nat → Addr) (te : Nat → Tbl) (dl : Addr) (rw : Rw) (ks : List KI) (ds : List Addr) (H8 : Hp) (ds' : List Addr) (kx : List KI) (H : Hp) : Prop where
  G : GW base mg B S L C Kc c l as H8 p q e te dl rw ks ds
  D : DyN (Zw c dl) H8 H
  T : Stt H c.t c.g
  tw : TW base mg B H
  bx : H c.bx = some (.dK (boxT c dl rw))
  kl : H c.kl = some (.lst ((ks ++ kx).map fun i => V.ref i.tp))
  hd : H dl = some (.lst (ds'.map V.ref))
  sc : Sc2 S L H c l as
section
variable {base : Heap} {mg : Str → Option Value} {B : List (Addr × Str)} {S L C Kc : Addr} {c : Ct} {l : Nat → Addr} {as : Nat → List Tbl} {H8 H H' : Hp} {dl : Addr} {rw : Rw} {ks kx kx' : List KI} {ds ds' : List Addr} {p : Addr} {q e : Nat → Addr} {te : Nat → Tbl} {w : Nat}
theorem Wo.lns (W : Wo base mg B C Kc c H dl rw ks ds) : (c.kl ≠ c.t ∧ c.kl ≠ c.g) ∧ (dl ≠ c.t ∧ dl ≠ c.g) ∧ c.kl ≠ dl := by
  have nd := W.nd
  simp at nd
  obtain ⟨⟨a1, a2, a3, a4, a5, a6, a7, a8⟩, ⟨b1, b2, b3, b4, b5, b6, b7⟩, _, _, _, _, ⟨i1, i2⟩, j1⟩ := nd
  exact ⟨⟨fun z => a6 z.symm, fun z => b5 z.symm⟩, ⟨fun z => a7 z.symm, fun z => b6 z.symm⟩, i1⟩
theorem Tl.start (G : GW base mg B S L C Kc c l as H p q e te dl rw ks ds) (i : KI) : Tl base mg B S L C Kc c l as p q e te dl rw ks ds H ds [i] (upd H c.kl (.lst (ks.map (fun i => V.ref i.tp) ++ [V.ref i.tp]))) := by
  obtain ⟨⟨n1, n2⟩, _, n3⟩ := G.wo.lns
  have nb : c.bx ≠ c.kl := fun z => (G.wo.lne G.sc.hx G.wo.hkl).1 z.symm
  exact ⟨G, .put (by simp), G.wo.T.upd n1 n2, G.wo.tw.keep (keepT_upd G.wo.hkl (.inl ⟨_, rfl⟩)), by rw [upd_ne nb]; exact G.wo.hbx, by rw [upd_same, List.map_append]; rfl, by rw [upd_ne (fun z => n3 z.symm)]; exact G.wo.hdl, G.sc.nl fun b o h k => by
    rw [upd_ne (fun z => by rw [z, G.wo.hkl] at h; exact k _ (Option.some.inj h).symm)]
    exact h⟩
theorem Tl.zero (G : GW base mg B S L C Kc c l as H p q e te dl rw ks ds) : Tl base mg B S L C Kc c l as p q e te dl rw ks ds H ds [] H := ⟨G, .refl _ _, G.wo.T, G.wo.tw, G.wo.hbx, by rw [List.append_nil]; exact G.wo.hkl, G.wo.hdl, G.sc⟩
theorem Tl.exS (t : Tl base mg B S L C Kc c l as p q e te dl rw ks ds H8 ds' kx H) (T' : Stt H' c.t c.g) (v : ExS c.t c.g H H') : Tl base mg B S L C Kc c l as p q e te dl rw ks ds H8 ds' kx H' := by
  obtain ⟨⟨n1, n2⟩, ⟨m1, m2⟩, _⟩ := t.G.wo.lns
  exact ⟨t.G, t.D.trans (.exS v T' (by simp) (by simp)), T', t.tw.keep fun b o e n _ _ => v b o (stt_ne t.T e n).1 (stt_ne t.T e n).2 e, v _ _ (stt_ne t.T t.bx (fun _ z => by cases z)).1 (stt_ne t.T t.bx (fun _ z => by cases z)).2 t.bx, v _ _ n1 n2 t.kl, v _ _ m1 m2 t.hd, t.sc.nl (NL.exS t.T v)⟩
theorem Tl.same (t : Tl base mg B S L C Kc c l as p q e te dl rw ks ds H8 ds' kx H) (s : Same H H') : Tl base mg B S L C Kc c l as p q e te dl rw ks ds H8 ds' kx H' := t.exS (t.T.same s) (Same.exS s)
/-- due.append -/
theorem Tl.due (t : Tl base mg B S L C Kc c l as p q e te dl rw ks ds H8 ds' kx H) (d : Addr) : Tl base mg B S L C Kc c l as p q e te dl rw ks ds H8 (ds' ++ [d]) kx (upd H dl (.lst (ds'.map V.ref ++ [.ref d]))) := by
  obtain ⟨_, ⟨m1, m2⟩, n3⟩ := t.G.wo.lns
  exact ⟨t.G, t.D.trans (.put (by simp)), t.T.upd m1 m2, t.tw.keep (keepT_upd t.hd (.inl ⟨_, rfl⟩)), by rw [upd_ne (fun z => by have y := t.bx; rw [z, t.hd] at y; cases y)]; exact t.bx, by rw [upd_ne n3]; exact t.kl, by rw [upd_same, List.map_append]; rfl, t.sc.nl fun b o h k => by
    rw [upd_ne (fun z => by rw [z, t.hd] at h; exact k _ (Option.some.inj h).symm)]
    exact h⟩
theorem Tl.extN (t : Tl base mg B S L C Kc c l as p q e te dl rw ks ds H8 ds' kx H) (eN : LamX.ExtN H H') (nn : ∀ b, H' b = none → H b = none) (tw : TW base mg B H') : Tl base mg B S L C Kc c l as p q e te dl rw ks ds H8 ds' kx H' := by
  obtain ⟨_, gs, k, m, sd, e1, e2, s⟩ := id t.T
  exact ⟨t.G, t.D.trans (.extN eN nn), ⟨t.T.1, gs, k, m, sd, eN _ _ e1 (fun _ z => by cases z), eN _ _ e2 (fun _ z => by cases z), s⟩, tw, eN _ _ t.bx (fun _ z => by cases z), eN _ _ t.kl (fun _ z => by cases z), eN _ _ t.hd (fun _ z => by cases z), t.sc.extN eN⟩
/-- the frame is left: its cell is told, and the new action is whole -/
theorem Tl.wo (t : Tl base mg B S L C Kc c l as p q e te dl rw ks ds H8 ds' kx H) {cb : Addr} {o : Obj} (n : H cb = none) (km : kx'.map (fun i => V.ref i.tp) = kx.map fun i => V.ref i.tp) (kk : ∀ i ∈ kx', KH C Kc (upd H cb (CellO cb o)) (c.x i.hm) i ∧ KP base c.bx c.us i) :
    GW base mg B S L C Kc c l as (upd H cb (CellO cb o)) p q e te dl rw (ks ++ kx') ds' ∧ DyN (Zw c dl) H8 (upd H cb (CellO cb o)) := by
  have s : Same H (upd H cb (CellO cb o)) := same_new n
  have t' := t.same s
  refine ⟨⟨t.G.wo.step t.G.ck t.G.sc.hx t'.D.dy t'.T t'.tw t'.bx ?_ (fun i m => ?_) t'.hd (.inl rfl), t'.sc, t.G.ck, t.G.plDy t'.D.dy, t.G.pn, t.G.ev⟩, t'.D⟩
  · rw [t'.kl, List.map_append, List.map_append, km]
  · rcases List.mem_append.mp m with m | m
    · exact .inl m
    · exact .inr (kk i m)
end
/-- a kept action, but for its cell -/
structure KN (C Kc : Addr) (H : Hp) (x : Addr) (i : KI) : Prop where
  tp : H i.tp = some (.tup [.ref i.k, .ref i.rc, .int i.hm])
  k : ∃ dk, H i.k = some (.ins Kc dk (KeptF (.ref i.fs) (.ref i.er) (.ref x)))
  env : EnvAt C H i.er i.sR
  lam : H i.fs = some (LamO i.fs (lfE lam_l_enter_4 qE i.cl i.c1) (lamB lam_l_enter_4))
  code : H i.c1 = some (CodeH i.c1 qE i.P1)
  rc : H i.rc = some (.dK i.tb)
structure KM (us : List Str) (i : KI) : Prop where
  srt : Srt i.tb i.sR
  tok : TOk i.tb
  all : ∀ p ∈ i.tb, ∃ y ∈ us, p.1 = .inr y
  hm : i.hm < 2
theorem KH.kn {C Kc x : Addr} {H : Hp} {i : KI} (K : KH C Kc H x i) : KN C Kc H x i := ⟨K.tp, K.k, K.env, K.lam, K.code, K.rc⟩
theorem KP.km {base : Heap} {bx : Addr} {us : List Str} {i : KI} (K : KP base bx us i) : KM us i := ⟨K.srt, K.tok, K.all, K.hm⟩
theorem KN.dy {C Kc x : Addr} {H H' : Hp} {i : KI} {Z : List Addr} {us : List Str} (K : KN C Kc H x i) (p : KM us i) (D : Dy Z H H') (z : ZOk Z H) : KN C Kc H' x i := by
  obtain ⟨dk, hk⟩ := K.k
  obtain ⟨de, d, h1, h2⟩ := K.env
  exact ⟨D.keep z K.tp mut_tup (fun _ z => by cases z), ⟨dk, D.keep z hk (mut_ins (by decide +kernel)) (fun _ z => by cases z)⟩, ⟨de, d, D.keep z h1 (mut_ins (by decide +kernel)) (fun _ z => by cases z), D.dk z h2 (p.srt.tok p.tok)⟩, D.keep z K.lam mut_lam lamO_ne.2.2.2, D.keep z K.code mut_code codeH_ne.2.2.2, D.dk z K.rc p.tok⟩
/-- its cell is told -/
def KI.fill (i : KI) (cb : Addr) (o : Obj) : KI := { i with c := cb, o := o }
theorem KN.whole {C Kc x cb bx : Addr} {H : Hp} {i : KI} {o : Obj} {us : List Str} {base : Heap} (K : KN C Kc H x i) (M : KM us i) (n : H cb = none) (od : o.data = .cell (some (.ref bx))) (cl1 : ∀ z c', i.cl.lookup z = some c' → z = ("_law_box" : Str) ∧ c' = cb) (cl2 : i.cl.lookup ("_law_box" : Str) = some cb) (nb : base.get? cb = none) : KH C Kc (upd H cb (CellO cb o)) x (i.fill cb o) ∧ KP base bx us (i.fill cb o) := by
  have s : Same H (upd H cb (CellO cb o)) := same_new n
  obtain ⟨dk, hk⟩ := K.k
  exact ⟨⟨s _ _ K.tp, ⟨dk, s _ _ hk⟩, K.env.same s, s _ _ K.lam, s _ _ K.code, upd_same, s _ _ K.rc⟩, ⟨od, cl1, cl2, fun z => (by
    have z : i.fs = cb := z
    have h := K.lam
    rw [z, n] at h
    cases h), fun z => (by
    have z : i.c1 = cb := z
    have h := K.code
    rw [z, n] at h
    cases h), nb, M.srt, M.tok, M.all, M.hm⟩⟩
theorem recD_inl {ys : List Str} {ls : List Tbl} {z : Int} (tk : TOk (recD ys ls)) : valV (recD ys ls) (.inl z) = none := by
  cases e : valV (recD ys ls) (.inl z) with
  | none => rfl
  | some v =>
    obtain ⟨p, mp, ep⟩ := List.mem_map.mp (valV_key.mp (show (valV (recD ys ls) (.inl z)).isSome = true by rw [e]; rfl))
    obtain ⟨y, _, e2⟩ := recD_keys tk mp
    rw [ep] at e2
    cases e2
theorem recD_mem {ys : List Str} {ls : List Tbl} {y : Str} (tk : TOk (recD ys ls)) : y ∈ names (recD ys ls) ↔ y ∈ ys := by
  constructor
  · intro m
    obtain ⟨p, mp, rfl⟩ := List.mem_map.mp m
    obtain ⟨z, mz, e⟩ := recD_keys tk mp
    rw [e]
    exact mz
  · intro m
    have e : (valV (recD ys ls) (.inr y)).isSome = true := by rw [recD_val, if_pos m]; rfl
    obtain ⟨p, mp, ep⟩ := List.mem_map.mp (valV_key.mp e)
    exact List.mem_map.mpr ⟨p, mp, by rw [ep]; rfl⟩
theorem recD_names {ys : List Str} {ls : List Tbl} (tk : TOk (recD ys ls)) (tk2 : TOk (recD (names (recD ys ls)) ls)) : Eqv (recD (names (recD ys ls)) ls) (recD ys ls) := fun k => by
  cases k with
  | inl z => rw [recD_inl tk, recD_inl tk2]
  | inr y =>
    rw [recD_val, recD_val]
    by_cases m : y ∈ ys
    · rw [if_pos m, if_pos ((recD_mem tk).mpr m)]
    · rw [if_neg m, if_neg (fun z => m ((recD_mem tk).mp z))]
theorem cells_nil {h : Heap} {H : Hp} : NdefX.CellsAt [] [] [] h H := ⟨rfl, fun _ _ e => (by cases e), fun _ _ _ e => (by cases e), fun i y e => (by simp at e)⟩
abbrev cl4 (n : Nat) : List (Str × Addr) := cloFrom (cellsFrom n (defScope s_l_enter).names []) (lamSc lam_l_enter_4).names []
section
variable {base : Heap} {mg : Str → Option Value} {B : List (Addr × Str)} {S L C Kc : Addr} {c : Ct} {l : Nat → Addr} {as : Nat → List Tbl} {H8 H H' : Hp} {dl : Addr} {rw : Rw} {ks kx kx' : List KI} {ds ds' : List Addr} {p : Addr} {q e : Nat → Addr} {te : Nat → Tbl} {w : Nat}
/-- what is known of each action that is kept by now -/
theorem Tl.kn (t : Tl base mg B S L C Kc c l as p q e te dl rw ks ds H8 ds' kx H) (hk : ∀ i ∈ kx, KN C Kc H8 (c.x i.hm) i ∧ KM c.us i) : ∀ i ∈ ks ++ kx, KN C Kc H (c.x i.hm) i ∧ KM c.us i := fun i m => by
  have z := t.G.wo.z t.G.sc.hx
  have h8 : KN C Kc H8 (c.x i.hm) i ∧ KM c.us i := by
    rcases List.mem_append.mp m with m | m
    · exact ⟨(t.G.wo.kk i m).1.kn, (t.G.wo.kk i m).2.km⟩
    · exact hk i m
  exact ⟨h8.1.dy h8.2 t.D.dy z, h8.2⟩
theorem Tl.pl (t : Tl base mg B S L C Kc c l as p q e te dl rw ks ds H8 ds' kx H) : Pls H p q e as te := t.G.plDy t.D.dy
theorem Tl.sl (t : Tl base mg B S L C Kc c l as p q e te dl rw ks ds H8 ds' kx H) : H c.sl = some (.lst [.ref (c.x 0), .ref (c.x 1)]) := by
  have W := t.G.wo
  have nd := W.nd
  simp at nd
  obtain ⟨⟨_, _, a3, _⟩, ⟨_, b3, _⟩, _, _, ⟨f1, f2, f3, f4⟩, _⟩ := nd
  obtain ⟨q1, q2, q3⟩ := W.lne t.G.sc.hx W.hsl
  refine t.D.dy.lst ?_ W.hsl
  simp
  have nd := W.nd
  simp at nd
  obtain ⟨⟨a1, a2, a3, a4, a5, a6, a7, a8⟩, ⟨b1, b2, b3, b4, b5, b6, b7⟩, _⟩ := nd
  exact ⟨fun z => a4 z.symm, fun z => b3 z.symm, q1, f2, f3, q2, q3⟩
end
theorem clo_one {cells : List (Str × Addr)} {names : List (Str × NameKind)} {x : Str} {c : Addr} (hx : cells.lookup x = some c) (hn : names.all (fun y => !decide (y.2 = .free) || decide (y.1 = x)) = true) (hm : (x, NameKind.free) ∈ names) : (∀ z c', (cloFrom cells names []).lookup z = some c' → z = x ∧ c' = c) ∧ (cloFrom cells names []).lookup x = some c := by
  have one : ∀ y ∈ names, y.2 = .free → y.1 = x := fun y my hy => by
    have z := List.all_eq_true.mp hn y my
    rw [hy] at z
    simpa using z
  have hfree : ∀ y ∈ names, y.2 = .free → ∃ c, cells.lookup y.1 = some c := fun y my hy => ⟨c, by rw [one y my hy]; exact hx⟩
  have has := NdefX.clo_has hfree hm hx
  refine ⟨fun z c' h => ?_, has⟩
  rcases cloFrom_mem (PySem.mem_of_lookup h) with m | ⟨m, _⟩
  · cases m
  · have e := one _ m rfl
    have e : z = x := e
    subst e
    exact ⟨rfl, Option.some.inj (h.symm.trans has)⟩
theorem Pls.put {H : Hp} {p d : Addr} {q e : Nat → Addr} {as : Nat → List Tbl} {te : Nat → Tbl} {xs : List V} {o : HO} (h : Pls H p q e as te) (hd : H d = some (.lst xs)) (n : p ≠ d) : Pls (upd H d o) p q e as te :=
  ⟨by rw [upd_ne n]; exact h.p, fun w hw => by rw [upd_ne (fun z => by have y := h.q w hw; rw [z, hd] at y; cases y)]; exact h.q w hw, fun w hw => by rw [upd_ne (fun z => by have y := h.e w hw; rw [z, hd] at y; cases y)]; exact h.e w hw⟩
abbrev nEn : List Str := ["_law_box", "_law_places", "_law_which", "_law_level"]
theorem ok_l_enter (T : Txt K mg) {cE PE2 : Addr} {B : List (Addr × Str)} {n kf : Nat} (hcE : T.d_l_enter.d.code = .ref cE) (TBE : LamX.TabB base mg cE PE2) (hPE : (PE2, qE) ∈ B) (hd : FnT P w K mg base (L2.CX P w) kf T.d_l_down.a T.d_l_down.d nDo (fun _ _ => spDown base mg B T.e_Scope.C T.e_Layer.C T.e_Env.C T.e_Kept.C T.c_Failed.C n)) :
    FnT P w K mg base CX0 1 T.d_l_enter.a T.d_l_enter.d nEn (fun _ _ => spEnter P w K base mg B T.e_Scope.C T.e_Layer.C T.e_Env.C T.e_Kept.C T.c_Failed.C kf n) := by
  refine okPR (k := 0) T.d_l_enter.F sc_l_enter (fun outer s vs H Q E h => ?_) (fun A outer s H vs Q E ht e0 h => ?_)
  · obtain ⟨_, _, _, _, _, _, _, _, _, _, _, _, _, rfl, _⟩ := h
    rfl
  · obtain ⟨c, l, as, p, q, e, te, dl, rw, ks, ds, lev, wh, rfl, hw, G, bn, qq⟩ := h
    have hr := ht.leaf
    have hu := hr.units
    refine ⟨_, (prs_cons (ps_set (i := 4) sc_l_enter.nd rfl (Or.inr rfl) (pe_dget (hu_of hr) (pv 0) pe_str (fun _ _ => rfl)))
      (prs_cons (ps_set (i := 5) sc_l_enter.nd rfl (Or.inr rfl) (pe_ix ix_list (pe_dget (hu_of hr) (pv 0) pe_str (fun _ _ => rfl)) (pv 2) (fun _ _ => rfl)))
      (prs_cons (ps_asg (pe_ix ix_list (pv 1) (pv 2) (fun _ _ => rfl)) (pg_tup (by rfl) (pgs_cons (pg_name (i := 6) sc_l_enter.nd rfl (Or.inl rfl)) (pgs_cons (pg_name (i := 7) sc_l_enter.nd rfl (Or.inl rfl)) pgs_nil))))
      (prs_cons (ps_set (i := 8) sc_l_enter.nd rfl (Or.inl rfl) (pe_call (ok_l_draw T) (hr.mono (by decide)) (by rfl) T.d_l_draw.g T.d_l_draw.F.kp T.d_l_draw.b .nil pass0 (pa_cons (pv 4) (pa_cons pe_int pa_nil))))
      (prs_if (pt_cmpR op_eq (pv 8) pe_int (nomark _)) (prs_cons (ps_set (i := 9) sc_l_enter.nd rfl (Or.inr rfl) (pe_call (ok_l_bindings T) (hr.mono (by decide)) (by rfl) T.d_l_bindings.g T.d_l_bindings.F.kp T.d_l_bindings.b .nil pass0 (pa_cons (pv 4) (pa_cons (pe_dget (hu_of hr) (pv 0) pe_str (fun _ _ => rfl)) (pa_cons pe_int pa_nil)))))
      (prs_cons (ps_set (i := 10) sc_l_enter.nd rfl (Or.inr rfl) (pe_call (ok_l_moved T) (hr.mono (by decide)) (by rfl) T.d_l_moved.g T.d_l_moved.F.kp T.d_l_moved.b .nil pass0 (pa_cons (pv 1) (pa_cons (pv 2) (pa_cons (pe_tup (pa_cons (pe_call (ok_l_over T) (hr.mono (by decide)) (by rfl) T.d_l_over.g T.d_l_over.F.kp T.d_l_over.b .nil pass0 (pa_cons (pv 6) (pa_cons (pv 9) pa_nil))) (pa_cons (pe_op op_add (pv 7) pe_int) pa_nil))) pa_nil)))))
      (prs_ret (pe_lamS (e := lam_l_enter_0) (q := qE) rfl rfl hcE rfl (NdefX.ndef_free (sc := defScope s_l_enter) (nsc := lamSc lam_l_enter_0) free_E0)))))
      (prs_if (pt_cmpR op_eq (pv 8) pe_int (nomark _)) (prs_cons (ps_set (i := 11) sc_l_enter.nd rfl (Or.inr rfl) (pe_call (ok_l_moved T) (hr.mono (by decide)) (by rfl) T.d_l_moved.g T.d_l_moved.F.kp T.d_l_moved.b .nil pass0 (pa_cons (pv 1) (pa_cons (pv 2) (pa_cons (pe_tup (pa_cons (pe_ix ix_list (pe_dget (hu_of hr) (pv 0) pe_str (fun _ _ => rfl)) (pv 2) (fun _ _ => rfl)) (pa_cons pe_int pa_nil))) pa_nil)))))
      (prs_ret (pe_lamS (e := lam_l_enter_2) (q := qE) rfl rfl hcE rfl (NdefX.ndef_free (sc := defScope s_l_enter) (nsc := lamSc lam_l_enter_2) free_E2))))
      (prs_cut (ps_if (PW.pt (pw_or (pt_cmpR (op_eqNil hu) (pe_dget (hu_of hr) (pv 0) pe_str (fun _ _ => rfl)) (pe_lst pa_nil) (nomark _)) (pw_or1 (pt_cmpR op_eq (pv 8) pe_int (nomark _))))) (pss_cons (ps_set (i := 12) sc_l_enter.nd rfl (Or.inl rfl) pe_dnewK)
      (pss_cons (ps_for (L2.passes_of rfl) rfl (pi_list (pe_lc (own := [("_law_name_here", 13)]) (g := gName 13) (by rfl) sc_l_enter.nd (pi_list (pe_dget (hu_of hr) (pv 0) pe_str (fun _ _ => rfl))) (blkOk_by (own := [("_law_name_here", 13)]) (N := ["_law_box", "_law_places", "_law_which", "_law_level", "_law_state_here", "_law_scope", "_law_env", "_law_depth", "_law_way", "_law_given", "_law_inner", "_law_root", "_law_record", "_law_name_here", "_law_kept", "_law_home", "_law_target"]) (sc := defScope s_l_enter) (by decide +kernel)) (fun _ _ _ _ _ => pg_name (i := 13) sc_l_enter.nd rfl (Or.inl rfl)) (fun _ _ _ _ _ => pts_one (pt_cmpR op_eq (pe_call (ok_l_draw T) (hr.mono (by decide)) (by rfl) T.d_l_draw.g T.d_l_draw.F.kp T.d_l_draw.b .nil pass0 (pa_cons (pv 4) (pa_cons pe_int pa_nil))) pe_int (nomark _))) (fun _ _ _ _ _ => (pv 13)))) (pg_name (i := 13) sc_l_enter.nd rfl (Or.inl rfl)) (pss_one (ps_dput (hu_of hr) (pv 12) (pv 13) (pe_dget (hu_of hr) (pv 6) (pv 13) (fun _ _ => rfl)) rfl)))
      (pss_cons (ps_set (i := 14) sc_l_enter.nd rfl (Or.inr rfl) (pe_meth (pv 5) T.e_Scope.c ⟨T.i_Scope_keep.at_, T.i_Scope_keep.fn, T.i_Scope_keep.F.kp⟩ (ok_Scope_keep T) (hr.mono (by decide)) T.i_Scope_keep.b .nil pass0 (pa_cons (pe_lamS (e := lam_l_enter_4) (q := qE) rfl rfl hcE rfl (NdefX.ndef_free (sc := defScope s_l_enter) (nsc := lamSc lam_l_enter_4) free_E4)) (pa_cons (pe_callTy (call_listD rfl) (by rfl) T.z_list (by decide +kernel) (pa_cons (pv 12) pa_nil)) pa_nil))))
      (pss_one (ps_expr (pe_bm PySem.F.plainAttrs_list PySem.F.slot_list_append PySem.F.type_list_append mt_append (pe_dget (hu_of hr) (pv 0) pe_str (fun _ _ => rfl)) (pa_cons (pe_tup (pa_cons (pv 14) (pa_cons (pv 12) (pa_cons (pv 2) pa_nil)))) pa_nil))))))) pss_nil)
      (prs_cons (ps_asg (pe_ix ix_list (pe_dget (hu_of hr) (pv 0) pe_str (fun _ _ => rfl)) (pe_call (ok_l_draw T) (hr.mono (by decide)) (by rfl) T.d_l_draw.g T.d_l_draw.F.kp T.d_l_draw.b .nil pass0 (pa_cons (pv 4) (pa_cons (pe_callB call_lenL (by rfl) T.z_len (by decide +kernel) (pa_cons (pe_dget (hu_of hr) (pv 0) pe_str (fun _ _ => rfl)) pa_nil)) pa_nil))) (fun _ _ => rfl)) (pg_tup (by rfl) (pgs_cons (pg_name (i := 14) sc_l_enter.nd rfl (Or.inr rfl)) (pgs_cons (pg_name (i := 12) sc_l_enter.nd rfl (Or.inl rfl)) (pgs_cons (pg_name (i := 15) sc_l_enter.nd rfl (Or.inr rfl)) pgs_nil)))))
      (prs_cons (ps_set (i := 16) sc_l_enter.nd rfl (Or.inr rfl) (pe_ix ix_list (pe_lst (pa_cons (pv 15) (pa_cons (pv 2) pa_nil))) (pe_call (ok_l_draw T) (hr.mono (by decide)) (by rfl) T.d_l_draw.g T.d_l_draw.F.kp T.d_l_draw.b .nil pass0 (pa_cons (pv 4) (pa_cons pe_int pa_nil))) (fun _ _ => rfl)))
      (prs_cons (ps_asg (pe_ix ix_list (pv 1) (pv 16) (fun _ _ => rfl)) (pg_tup (by rfl) (pgs_cons (pg_name (i := 6) sc_l_enter.nd rfl (Or.inl rfl)) (pgs_cons (pg_name (i := 7) sc_l_enter.nd rfl (Or.inl rfl)) pgs_nil))))
      (prs_cons (ps_set (i := 10) sc_l_enter.nd rfl (Or.inr rfl) (pe_call (ok_l_moved T) (hr.mono (by decide)) (by rfl) T.d_l_moved.g T.d_l_moved.F.kp T.d_l_moved.b .nil pass0 (pa_cons (pv 1) (pa_cons (pv 16) (pa_cons (pe_tup (pa_cons (pe_call (ok_l_over T) (hr.mono (by decide)) (by rfl) T.d_l_over.g T.d_l_over.F.kp T.d_l_over.b .nil pass0 (pa_cons (pv 6) (pa_cons (pv 12) pa_nil))) (pa_cons (pe_op op_add (pv 7) pe_int) pa_nil))) pa_nil)))))
      (prs_cons (ps_expr (pe_bm PySem.F.plainAttrs_list PySem.F.slot_list_append PySem.F.type_list_append mt_append (pe_dget (hu_of hr) (pv 0) pe_str (fun _ _ => rfl)) (pa_cons (pe_tup (pa_cons (pv 10) (pa_cons (pe_op op_add (pv 3) pe_int) pa_nil))) pa_nil)))
      (prs_ret (pe_lamS (e := lam_l_enter_5) (q := qE) rfl rfl hcE rfl (NdefX.ndef_free (sc := defScope s_l_enter) (nsc := lamSc lam_l_enter_5) free_E5))))))))))))))), ?_⟩
    (try simp only [tIxO, rIsB, rNotB, tSeq, tIfS, tTest, tB, tOp, tUn, tVar, tC, tAsg, gName, tRet, tRetN, tCB, tCons, tNil, tLst_eq, tTup_eq, tDNewK_eq, tNext, tPar, tM0, tM1, tSl, tNoPart, tPart, rSlS, tAug, tAugS, tExf_eq, ipI, tChain, tCall, tDrop, tBM, tAnd, tOr, tNot, tAndV, tOrV, tNotV, tIf, tIsN, tNotN, rI, rI0, rU, rEq, rNe, gSub, cx_K, cx_K2, L2.start, wipe, scal_ii, scal_ss, scal_bb, scal_is, scal_si, scal_nn, List.map_cons, List.map_nil, List.length_cons, List.length_nil, List.cons_append, List.nil_append, List.append_nil, List.replicate, List.getElem?_cons_zero, List.getElem?_cons_succ, Option.some.injEq, exists_and_left, exists_eq_left', exists_eq_left, exists_eq, exists_eq', V.int.injEq, V.ref.injEq, V.str.injEq, V.bl.injEq, List.cons.injEq, and_true, true_and, false_and, exists_false, or_false, false_or, reduceCtorEq, List.set_cons_zero, List.set_cons_succ, Nat.reduceAdd, Nat.reduceSub, Int.reduceToNat, decide_eq_true_eq, if_true, if_false, Bool.false_eq_true, Bool.not_true, Bool.not_false, Bool.true_eq_false, ite_false, ite_true, ne_eq, not_false_eq_true, Int.reduceEq, tMethS, tLamS, tDGet])
    have tne : c.u ≠ c.t ∧ c.u ≠ c.g := by
      have nd := G.wo.nd
      simp at nd
      exact ⟨fun z => nd.1.2.1 z.symm, fun z => nd.2.1.1 z.symm⟩
    refine ⟨_, bg_state G.wo.hbx, _, bg_scopes G.wo.hbx, ixM_go G.wo.hsl (two_at (f := fun w => V.ref (c.x w)) hw) (ixM_go G.pl.p (two_at (f := fun w => V.ref (q w)) hw) ⟨q wh, _, rfl, .inl (.inl (G.pl.q wh hw)), rfl, ?_⟩)⟩
    (try simp only [tIxO, rIsB, rNotB, tSeq, tIfS, tTest, tB, tOp, tUn, tVar, tC, tAsg, gName, tRet, tRetN, tCB, tCons, tNil, tLst_eq, tTup_eq, tDNewK_eq, tNext, tPar, tM0, tM1, tSl, tNoPart, tPart, rSlS, tAug, tAugS, tExf_eq, ipI, tChain, tCall, tDrop, tBM, tAnd, tOr, tNot, tAndV, tOrV, tNotV, tIf, tIsN, tNotN, rI, rI0, rU, rEq, rNe, gSub, cx_K, cx_K2, L2.start, wipe, scal_ii, scal_ss, scal_bb, scal_is, scal_si, scal_nn, List.map_cons, List.map_nil, List.length_cons, List.length_nil, List.cons_append, List.nil_append, List.append_nil, List.replicate, List.getElem?_cons_zero, List.getElem?_cons_succ, Option.some.injEq, exists_and_left, exists_eq_left', exists_eq_left, exists_eq, exists_eq', V.int.injEq, V.ref.injEq, V.str.injEq, V.bl.injEq, List.cons.injEq, and_true, true_and, false_and, exists_false, or_false, false_or, reduceCtorEq, List.set_cons_zero, List.set_cons_succ, Nat.reduceAdd, Nat.reduceSub, Int.reduceToNat, decide_eq_true_eq, if_true, if_false, Bool.false_eq_true, Bool.not_true, Bool.not_false, Bool.true_eq_false, ite_false, ite_true, ne_eq, not_false_eq_true, Int.reduceEq, gCons, gNil, tMethS, tLamS, tDGet])
    refine ⟨_, _, ⟨rfl, rfl⟩, _, _, rfl, rfl, ?_⟩
    refine drS_go G.wo.T (by decide) (by decide) fun wy H1 a0 a1 T1 v1 => ?_
    have G1 := G.exS T1 v1
    have Y1 : DyN (Zw c dl) H H1 := .exS v1 T1 (by simp) (by simp)
    have few := G.ck.few
    (try simp only [tIxO, rIsB, rNotB, tSeq, tIfS, tTest, tB, tOp, tUn, tVar, tC, tAsg, gName, tRet, tRetN, tCB, tCons, tNil, tLst_eq, tTup_eq, tDNewK_eq, tNext, tPar, tM0, tM1, tSl, tNoPart, tPart, rSlS, tAug, tAugS, tExf_eq, ipI, tChain, tCall, tDrop, tBM, tAnd, tOr, tNot, tAndV, tOrV, tNotV, tIf, tIsN, tNotN, rI, rI0, rU, rEq, rNe, gSub, cx_K, cx_K2, L2.start, wipe, scal_ii, scal_ss, scal_bb, scal_is, scal_si, scal_nn, List.map_cons, List.map_nil, List.length_cons, List.length_nil, List.cons_append, List.nil_append, List.append_nil, List.replicate, List.getElem?_cons_zero, List.getElem?_cons_succ, Option.some.injEq, exists_and_left, exists_eq_left', exists_eq_left, exists_eq, exists_eq', V.int.injEq, V.ref.injEq, V.str.injEq, V.bl.injEq, List.cons.injEq, and_true, true_and, false_and, exists_false, or_false, false_or, reduceCtorEq, List.set_cons_zero, List.set_cons_succ, Nat.reduceAdd, Nat.reduceSub, Int.reduceToNat, decide_eq_true_eq, if_true, if_false, Bool.false_eq_true, Bool.not_true, Bool.not_false, Bool.true_eq_false, ite_false, ite_true, ne_eq, not_false_eq_true, Int.reduceEq, tMethS, tLamS, tDGet])
    refine ite2 (fun w0 => ?_) (fun w0 => ?_)
    · -- a layer
      refine ⟨_, bg_names G1.wo.hbx, ?_⟩
      refine ⟨c.t, c.g, c.u, c.us, 3, rfl, G1.wo.T, G1.wo.hu, tne.1, tne.2, by omega, G.ck.ids, by decide, fun gd H2 gv ngd rgd tkg lg ing T2 v2 => ?_⟩
      have G2 := G1.exS T2 v2
      have Y2 : DyN (Zw c dl) H H2 := Y1.trans (.exS v2 T2 (by simp) (by simp))
      have lte := tbl_few (G2.ev wh hw).tok (G2.ev wh hw).all
      have lgv := tbl_few tkg ing
      refine ⟨e wh, gd, te wh, gv, rfl, G2.pl.e wh hw, rgd, tkg, by omega, fun iv H3 niv s3 r3 => ?_⟩
      refine newT_go fun qn H4 nq s4 r4 => ?_
      refine ⟨p, qn, q, wh, rfl, hw, s4 _ _ (s3 _ _ G2.pl.p), fun p' H5 np s5 rp => ?_⟩
      have sA := (s3.trans s4).trans s5
      have G5 := G2.same sA
      have Y5 : DyN (Zw c dl) H H5 := Y2.trans (.same sA)
      have pl5 : Pls H5 p' (setN q wh qn) (setN e wh iv) (setN as wh (gv :: as wh)) (setN te wh (mergeK (te wh) gv)) := G2.pl.set sA rp (by rw [s5 _ _ r4]; rfl) (s5 _ _ (s4 _ _ r3))
      have ev5 := evs_set G.ev ((G.ev wh hw).over tkg ing (fun _ => rfl))
      have npz : p' ∉ Zw c dl := (G2.same (s3.trans s4)).wo.notZ (G2.same (s3.trans s4)).sc.hx np
      refine ⟨B, G5.wo.tw, PE2, fun h _ st => TBE.code.keeps fun b o y => st b o y, hPE, fun f1 c1 P1 H6 eN nn T6 nf1 hf1 hc1 => ?_⟩
      intro s' u rv J
      obtain ⟨cs, n1, n2, n4, n3, go⟩ := ret_pins (js := [5, 9, 0, 10, 3]) J e0.hok free_E0 rfl (by decide) (by decide +kernel)
      have nc : ∀ p ∈ cs, H6 p.1 = none := fun p m => (n2 p m).1
      have sP := pinL_same n1 nc
      have G6 : GW base mg B T.e_Scope.C T.e_Layer.C T.e_Env.C T.e_Kept.C c l as H6 p q e te dl rw ks ds := by
        obtain ⟨st, n0, sc⟩ := G5.sc wh hw
        obtain ⟨dx, ex⟩ := id sc.at_
        have D6 : Dx1 (c.x wh) H5 H6 := .extN eN
        have tw6 := T6.sub (B' := B) fun p hp => List.mem_cons_of_mem _ hp
        exact ⟨G5.wo.dx1 hw G.ck G5.sc.hx D6 tw6, G5.sc.extN eN, G.ck, G5.pl.extN eN, G.pn, G.ev⟩
      refine go _ _ rv (qq f1 H6 (pinL H6 cs) ks ds sP G6 (Y5.trans (.extN eN nn)) (Nat.le_succ _) (Nat.le_succ _) ?_)
      refine ⟨⟨LamO f1 (lfE lam_l_enter_0 qE _ c1) (lamB lam_l_enter_0), c1, qE, [], P1⟩, _, (CbT.dropL (cb_E0 T hd (cl := cloFrom (cellsFrom (s.heap.objs.size + 1) (defScope s_l_enter).names []) (lamSc lam_l_enter_0).names []) (c' := c1) (f := f1) (Pt := P1)) (cs := cs) (ws := [some (.ref (c.x wh)), some (.ref gd), some (.ref c.bx), some (.ref p'), some (.int lev)]) (fun p m => ⟨fun z => ?_, fun z => ?_⟩) (fun s2 a H2 b => n3 s2.heap H2 a b)).mono (by omega), rfl, sP _ _ hf1, sP _ _ hc1, fun o2 s2 R EE post => ⟨rfl, Pins.pinL n1, fun s3 at3 => ?_⟩⟩
      · rw [z, nc p m] at hf1
        cases hf1
      · have z : c1 = p.1 := z
        rw [z, nc p m] at hc1
        cases hc1
      · rw [unpL_pinL n1 nc]
        refine ⟨c, l, as, dl, rw, ks, ds, lev, wh, gd, p', setN q wh qn, setN e wh iv, setN te wh (mergeK (te wh) gv), gv, rfl, rfl, fun y a hy => ?_, T6, ⟨G6.wo, G6.sc, G.ck, hw, ?_, pl5.extN eN, npz, ev5⟩, eN _ _ (sA _ _ rgd) (fun _ z => by cases z), tkg, ing, post⟩
        · obtain ⟨p, mp, e⟩ := n4 y a hy
          rw [← e]
          exact (at3 p mp).2
        · exact ⟨by have := bn.bo; omega, bn.tp, bn.wy, by have := bn.nk; omega, by have := bn.nd; omega⟩
    refine ite2 (fun w1 => ?_) (fun w1 => ?_)
    · -- apart
      refine ⟨_, bg_base G1.wo.hbx, ixM_go G1.wo.hbl (two_at (f := fun w => V.ref (c.b w)) hw) ?_⟩
      refine newT_go fun qn H4 nq s4 r4 => ?_
      refine ⟨p, qn, q, wh, rfl, hw, s4 _ _ G1.pl.p, fun p' H5 np s5 rp => ?_⟩
      have sA := s4.trans s5
      have G5 := G1.same sA
      have Y5 : DyN (Zw c dl) H H5 := Y1.trans (.same sA)
      have pl5 : Pls H5 p' (setN q wh qn) (setN e wh (c.b wh)) (setN as wh []) (setN te wh (c.kv wh)) := G1.pl.set sA rp (s5 _ _ r4) (sA _ _ (G1.wo.hb wh hw))
      have ev5 := evs_set G.ev (G.ck.ev wh hw)
      have npz : p' ∉ Zw c dl := (G1.same s4).wo.notZ (G1.same s4).sc.hx np
      refine ⟨B, G5.wo.tw, PE2, fun h _ st => TBE.code.keeps fun b o y => st b o y, hPE, fun f1 c1 P1 H6 eN nn T6 nf1 hf1 hc1 => ?_⟩
      intro s' u rv J
      obtain ⟨cs, n1, n2, n4, n3, go⟩ := ret_pins (js := [5, 0, 11, 3]) J e0.hok free_E2 rfl (by decide) (by decide +kernel)
      have nc : ∀ p ∈ cs, H6 p.1 = none := fun p m => (n2 p m).1
      have sP := pinL_same n1 nc
      have G6 : GW base mg B T.e_Scope.C T.e_Layer.C T.e_Env.C T.e_Kept.C c l as H6 p q e te dl rw ks ds := by
        obtain ⟨st, n0, sc⟩ := G5.sc wh hw
        obtain ⟨dx, ex⟩ := id sc.at_
        have D6 : Dx1 (c.x wh) H5 H6 := .extN eN
        have tw6 := T6.sub (B' := B) fun p hp => List.mem_cons_of_mem _ hp
        exact ⟨G5.wo.dx1 hw G.ck G5.sc.hx D6 tw6, G5.sc.extN eN, G.ck, G5.pl.extN eN, G.pn, G.ev⟩
      refine go _ _ rv (qq f1 H6 (pinL H6 cs) ks ds sP G6 (Y5.trans (.extN eN nn)) (Nat.le_succ _) (Nat.le_succ _) ?_)
      refine ⟨⟨LamO f1 (lfE lam_l_enter_2 qE _ c1) (lamB lam_l_enter_2), c1, qE, [], P1⟩, _, (CbT.dropL (cb_E2 T hd (cl := cloFrom (cellsFrom (s.heap.objs.size + 1) (defScope s_l_enter).names []) (lamSc lam_l_enter_2).names []) (c' := c1) (f := f1) (Pt := P1)) (cs := cs) (ws := [some (.ref (c.x wh)), some (.ref c.bx), some (.ref p'), some (.int lev)]) (fun p m => ⟨fun z => ?_, fun z => ?_⟩) (fun s2 a H2 b => n3 s2.heap H2 a b)).mono (by omega), rfl, sP _ _ hf1, sP _ _ hc1, fun o2 s2 R EE post => ⟨rfl, Pins.pinL n1, fun s3 at3 => ?_⟩⟩
      · rw [z, nc p m] at hf1
        cases hf1
      · have z : c1 = p.1 := z
        rw [z, nc p m] at hc1
        cases hc1
      · rw [unpL_pinL n1 nc]
        refine ⟨c, l, as, dl, rw, ks, ds, lev, wh, p', setN q wh qn, setN e wh (c.b wh), setN te wh (c.kv wh), rfl, rfl, fun y a hy => ?_, T6, ⟨G6.wo, G6.sc, G.ck, hw, ?_, pl5.extN eN, npz, ev5⟩, post⟩
        · obtain ⟨p, mp, e⟩ := n4 y a hy
          rw [← e]
          exact (at3 p mp).2
        · exact ⟨by have := bn.bo; omega, bn.tp, bn.wy, by have := bn.nk; omega, by have := bn.nd; omega⟩
    -- a kept action
    have W := G1.wo
    have Ck := G1.ck
    have us5 := Ck.few
    have nk100 := bn.nk
    have nd100 := bn.nd
    have lte := tbl_few (G1.ev wh hw).tok (G1.ev wh hw).all
    have nd := W.nd
    simp at nd
    obtain ⟨⟨a1, a2, a3, a4, a5, a6, a7, a8⟩, ⟨b1, b2, b3, b4, b5, b6, b7⟩, _⟩ := nd
    refine ⟨fun σ' H' => ∃ (H8 : Hp) (kx : List KI) (o12 o13 o14 : Option V), Tl base mg B T.e_Scope.C T.e_Layer.C T.e_Env.C T.e_Kept.C c l as p q e te dl rw ks ds H8 ds kx H' ∧ kx.length ≤ 1 ∧ ks ++ kx ≠ [] ∧ DyN (Zw c dl) H H8 ∧ (∀ i ∈ kx, (KN T.e_Env.C T.e_Kept.C H8 (c.x i.hm) i ∧ KM c.us i) ∧ i.cl = cl4 (s.heap.objs.size + 1)) ∧ σ' = [some (.ref c.bx), some (.ref p), some (.int wh), some (.int lev), some (.ref c.t), some (.ref (c.x wh)), some (.ref (e wh)), some (.int (as wh).length), some (.int wy), none, none, none, o12, o13, o14, none, none], ?_, ?_⟩
    · refine ⟨_, bg_kept G1.wo.hbx, newL_go fun nl H2 nn2 s2 r2 => ?_⟩
      have G2 := G1.same s2
      have Y2 : DyN (Zw c dl) H H2 := Y1.trans (.same s2)
      refine ⟨c.kl, nl, _, rfl, rfl, .inl (.inl G2.wo.hkl), .inl (.inl r2), ?_⟩
      rw [if_neg (by simp)]
      refine ⟨_, rfl, ?_⟩
      clear W G1 T1 v1 Y1 s2 r2 nn2
      refine Or.elim (Classical.em (ks = [])) (fun hk => ?b1) (fun hk => ?bn)
      case' b1 =>
        refine ite2 (fun _ => ?_) (fun z => absurd (by rw [hk]; rfl) z)
        clear hk
      case' bn =>
        refine ite2 (fun z => absurd (List.eq_nil_iff_length_eq_zero.mpr (by cases h : ks with
          | nil => rfl
          | cons _ _ => rw [h] at z; simp at z)) hk) (fun _ => ?_)
        refine ite2 (fun _ => ?b2) (fun _ => ?b3)
      case b3 =>
        exact ⟨H2, [], _, _, _, Tl.zero G2, by simp, by simpa using hk, Y2, fun _ m => (by cases m), rfl⟩
      case' b2 => clear hk
      all_goals
        refine newD_go fun d HC nd sC rC => ?_
        have GC := G2.same sC
        have DC := Y2.trans (.same sC)
        obtain ⟨dt, dg⟩ := G2.wo.T.ne nd
        refine forLC_go (fun a H1 => ∃ ys : List Str, H1 a = some (.lst (ys.map V.str)) ∧ ys.length ≤ c.us.length ∧ (∀ y ∈ ys, y ∈ c.us) ∧ Stt H1 c.t c.g ∧ ExS c.t c.g HC H1 ∧ a ≠ c.t ∧ a ≠ c.g ∧ HC a = none) (fun R q => ?_) (fun a H1 pa => ?_)
        · refine lcI_go (K := K) (xs := c.us.map V.str) (fun D i acc H9 => (∃ ys : List Str, acc = ys.map V.str ∧ ys.length ≤ i ∧ ∀ y ∈ ys, y ∈ c.us) ∧ Stt H9 c.t c.g ∧ ExS c.t c.g HC H9 ∧ D ≠ c.t ∧ D ≠ c.g ∧ HC D = none) (fun Q q => ⟨_, rfl, _, _, rfl, bg_names GC.wo.hbx, q⟩) (.inl (.inl GC.wo.hu)) (fun D i acc H9 _ p _ => .inl (.inl (p.2.2.1 _ _ (fun e => a2 e.symm) (fun e => b1 e.symm) GC.wo.hu))) (fun D H9 nD sD rD => ?_) (fun D i x9 acc H9 hx nD hD hl p => ?_) (fun ln H9 acc np rp hl pp => ?_)
          · obtain ⟨d1, d2⟩ := GC.wo.T.ne nD
            exact ⟨⟨[], rfl, Nat.le_refl _, by simp⟩, GC.wo.T.same sD, Same.exS sD, d1, d2, nD⟩
          · obtain ⟨⟨ys, rfl, ly, iy⟩, T9, v9, dt9, dg9, nD'⟩ := p
            rw [List.getElem?_map] at hx
            obtain ⟨y, hy, rfl⟩ := Option.map_eq_some_iff.mp hx
            have my := List.mem_of_getElem? hy
            have hi := (List.getElem?_eq_some_iff.mp hy).1
            (try simp only [tIxO, rIsB, rNotB, tSeq, tIfS, tTest, tB, tOp, tUn, tVar, tC, tAsg, gName, tRet, tRetN, tCB, tCons, tNil, tLst_eq, tTup_eq, tDNewK_eq, tNext, tPar, tM0, tM1, tSl, tNoPart, tPart, rSlS, tAug, tAugS, tExf_eq, ipI, tChain, tCall, tDrop, tBM, tAnd, tOr, tNot, tAndV, tOrV, tNotV, tIf, tIsN, tNotN, rI, rI0, rU, rEq, rNe, gSub, cx_K, cx_K2, L2.start, wipe, scal_ii, scal_ss, scal_bb, scal_is, scal_si, scal_nn, List.map_cons, List.map_nil, List.length_cons, List.length_nil, List.cons_append, List.nil_append, List.append_nil, List.replicate, List.getElem?_cons_zero, List.getElem?_cons_succ, Option.some.injEq, exists_and_left, exists_eq_left', exists_eq_left, exists_eq, exists_eq', V.int.injEq, V.ref.injEq, V.str.injEq, V.bl.injEq, List.cons.injEq, and_true, true_and, false_and, exists_false, or_false, false_or, reduceCtorEq, List.set_cons_zero, List.set_cons_succ, Nat.reduceAdd, Nat.reduceSub, Int.reduceToNat, decide_eq_true_eq, if_true, if_false, Bool.false_eq_true, Bool.not_true, Bool.not_false, Bool.true_eq_false, ite_false, ite_true, ne_eq, not_false_eq_true, Int.reduceEq, tDGet])
            refine drS_go T9 (by decide) (by decide) fun w9 HA a0 a1 TA vA => ?_
            have hDA := vA _ _ dt9 dg9 hD
            refine ⟨by simp [scal], ite2 (fun _ => ⟨_, hDA, ?_, _, upd_same, ?_, ⟨ys ++ [y], by rw [List.map_append]; rfl, by rw [List.length_append]; exact Nat.succ_le_succ ly, fun z hz => ?_⟩, TA.upd dt9 dg9, (v9.trans vA).upd nD', dt9, dg9, nD'⟩) (fun _ => ⟨_, hDA, by omega, ⟨ys, rfl, by omega, iy⟩, TA, v9.trans vA, dt9, dg9, nD'⟩)⟩
            · refine Nat.lt_of_le_of_lt (show _ ≤ 19 from ?_) (by decide)
              rw [List.length_map]
              omega
            · rw [List.length_append]
              exact Nat.succ_le_succ hl
            · rcases List.mem_append.mp hz with m | m
              · exact iy z m
              · have e : z = y := by simpa using m
                rw [e]
                exact my
          · obtain ⟨⟨ys, rfl, ly, iy⟩, T1, v1, l1, l2, n1⟩ := pp
            rw [List.length_map] at ly
            exact q ln H9 ⟨ys, rp, ly, iy, T1, v1, l1, l2, n1⟩
        · obtain ⟨ys, ra, ly, iy, T1, v1, at_, ag, na⟩ := pa
          have rd1 := dk_exS rC GC.wo.T v1
          have nad : a ≠ d := fun z => by rw [z, rC] at na; cases na
          have G1 := GC.exS T1 v1
          have hed : e wh ≠ d := fun z => by
            have y := G2.pl.e wh hw
            rw [z, nd] at y
            cases y
          have valE : ∀ y ∈ ys, ∃ v, valV (te wh) (.inr y) = some v ∧ (lookL (as wh ++ [c.sB wh]) y).getD .non = v := fun y my => by
            obtain ⟨v, hv⟩ := lookL_some (Ck.has wh hw y (iy y my)) (as wh)
            exact ⟨v, by rw [(G2.ev wh hw).val]; exact hv, by rw [hv]; rfl⟩
          have he1 := G1.pl.e wh hw
          have v01 : ExS c.t c.g _ H1 := (Same.exS sC).trans v1
          clear GC DC G1
          refine forL_go (K := K) (xs := ys.map V.str) (fun j σ' H' => H' d = some (.dK (recD (ys.take j) (as wh ++ [c.sB wh]))) ∧ (∀ b u, b ≠ d → H1 b = some u → H' b = some u) ∧ ∃ o13, σ' = [some (.ref c.bx), some (.ref p), some (.int wh), some (.int lev), some (.ref c.t), some (.ref (c.x wh)), some (.ref (e wh)), some (.int (as wh).length), some (.int wy), none, none, none, some (.ref d), o13, none, none, none]) (fun Q q => q) (fun j σ' H' _ p => .inl (.inl (p.2.1 _ _ nad ra))) ⟨rd1, fun _ _ _ h => h, _, rfl⟩ (fun j x σ' H' hx p => ?_) (fun σ' H' p => ?_)
          · obtain ⟨r6, k6, o13, rfl⟩ := p
            rw [List.getElem?_map] at hx
            obtain ⟨y, hy, rfl⟩ := Option.map_eq_some_iff.mp hx
            have my := List.mem_of_getElem? hy
            obtain ⟨v, hv, fv⟩ := valE y my
            (try simp only [tIxO, rIsB, rNotB, tSeq, tIfS, tTest, tB, tOp, tUn, tVar, tC, tAsg, gName, tRet, tRetN, tCB, tCons, tNil, tLst_eq, tTup_eq, tDNewK_eq, tNext, tPar, tM0, tM1, tSl, tNoPart, tPart, rSlS, tAug, tAugS, tExf_eq, ipI, tChain, tCall, tDrop, tBM, tAnd, tOr, tNot, tAndV, tOrV, tNotV, tIf, tIsN, tNotN, rI, rI0, rU, rEq, rNe, gSub, cx_K, cx_K2, L2.start, wipe, scal_ii, scal_ss, scal_bb, scal_is, scal_si, scal_nn, List.map_cons, List.map_nil, List.length_cons, List.length_nil, List.cons_append, List.nil_append, List.append_nil, List.replicate, List.getElem?_cons_zero, List.getElem?_cons_succ, Option.some.injEq, exists_and_left, exists_eq_left', exists_eq_left, exists_eq, exists_eq', V.int.injEq, V.ref.injEq, V.str.injEq, V.bl.injEq, List.cons.injEq, and_true, true_and, false_and, exists_false, or_false, false_or, reduceCtorEq, List.set_cons_zero, List.set_cons_succ, Nat.reduceAdd, Nat.reduceSub, Int.reduceToNat, decide_eq_true_eq, if_true, if_false, Bool.false_eq_true, Bool.not_true, Bool.not_false, Bool.true_eq_false, ite_false, ite_true, ne_eq, not_false_eq_true, Int.reduceEq, sDPut, tDGet])
            have gg := DGet.k (k := Sum.inr y) (k6 _ _ hed he1)
            rw [hv] at gg
            refine ⟨v, gg, _, DPut.k (k := Sum.inr y) r6 (Nat.lt_of_le_of_lt (show _ ≤ 60 from Nat.le_trans rows_len (by have := List.length_take (i := j) (l := ys); omega)) (by decide)), ?_, fun b u nb eb => by rw [upd_ne nb]; exact k6 b u nb eb⟩
            rw [upd_same, List.take_add_one, hy]
            unfold recD rowsF mergeK
            rw [List.map_append, List.foldl_append]
            show _ = some (HO.dK (putK _ (Sum.inr y) ((lookL (as wh ++ [c.sB wh]) y).getD .non)))
            rw [fv]
          · obtain ⟨r6, k6, o13, rfl⟩ := p
            rw [List.length_map, List.take_length] at r6
            have T2 : Stt H' c.t c.g := by
              obtain ⟨h1, gs, c9, k9, sd9, e1, e2, s9⟩ := T1
              exact ⟨h1, gs, c9, k9, sd9, k6 _ _ (fun z => dt z.symm) e1, k6 _ _ (fun z => dg z.symm) e2, s9⟩
            have v2 : ExS c.t c.g _ H' := fun b o nt ng eb => k6 b o (fun z => by rw [z, nd] at eb; cases eb) (v01 b o nt ng eb)
            have GD := G2.exS T2 v2
            have DD := Y2.trans (.exS v2 T2 (by simp) (by simp))
            have iys : ∀ y ∈ ys, isIdent y = true := fun y my => Ck.ids y (iy y my)
            obtain ⟨st0, n00, sc0⟩ := GD.sc wh hw
            have okA : ∀ t ∈ as wh ++ [c.sB wh], TOk t := sc0.all
            have tkR0 : TOk (recD ys (as wh ++ [c.sB wh])) := recD_ok iys okA fun y my => lookL_some (Ck.has wh hw y (iy y my)) (as wh)
            clear G2 Y2 T1 v1 v01 rC sC nd he1 k6 T2 v2 rd1
            (try simp only [tIxO, rIsB, rNotB, tSeq, tIfS, tTest, tB, tOp, tUn, tVar, tC, tAsg, gName, tRet, tRetN, tCB, tCons, tNil, tLst_eq, tTup_eq, tDNewK_eq, tNext, tPar, tM0, tM1, tSl, tNoPart, tPart, rSlS, tAug, tAugS, tExf_eq, ipI, tChain, tCall, tDrop, tBM, tAnd, tOr, tNot, tAndV, tOrV, tNotV, tIf, tIsN, tNotN, rI, rI0, rU, rEq, rNe, gSub, cx_K, cx_K2, L2.start, wipe, scal_ii, scal_ss, scal_bb, scal_is, scal_si, scal_nn, List.map_cons, List.map_nil, List.length_cons, List.length_nil, List.cons_append, List.nil_append, List.append_nil, List.replicate, List.getElem?_cons_zero, List.getElem?_cons_succ, Option.some.injEq, exists_and_left, exists_eq_left', exists_eq_left, exists_eq, exists_eq', V.int.injEq, V.ref.injEq, V.str.injEq, V.bl.injEq, List.cons.injEq, and_true, true_and, false_and, exists_false, or_false, false_or, reduceCtorEq, List.set_cons_zero, List.set_cons_succ, Nat.reduceAdd, Nat.reduceSub, Int.reduceToNat, decide_eq_true_eq, if_true, if_false, Bool.false_eq_true, Bool.not_true, Bool.not_false, Bool.true_eq_false, ite_false, ite_true, ne_eq, not_false_eq_true, Int.reduceEq, tCallI, tDGet, tLamS, tMeth])
            obtain ⟨dxD, hxD⟩ := id sc0.at_
            refine ⟨dxD, _, hxD, rfl, B, GD.wo.tw, PE2, fun h _ st => TBE.code.keeps fun b o y => st b o y, hPE, fun fs c1 P1 H4 eN nn T4 n4' hf hc => ?_⟩
            have D4 := DD.trans (.extN eN nn)
            have r4 := eN _ _ r6 (fun _ z => by cases z)
            have G4 : GW base mg B T.e_Scope.C T.e_Layer.C T.e_Env.C T.e_Kept.C c l as H4 p q e te dl rw ks ds := by
              have D6 : Dx1 (c.x wh) H' H4 := .extN eN
              have tw6 := T4.sub (B' := B) fun p hp => List.mem_cons_of_mem _ hp
              exact ⟨GD.wo.dx1 hw G.ck GD.sc.hx D6 tw6, GD.sc.extN eN, G.ck, GD.pl.extN eN, G.pn, G.ev⟩
            clear GD DD sc0 hxD eN nn T4 n4' r6
            refine ⟨_, .inl r4, fun p1 np1 => ?_⟩
            have eN : List.map (fun kv : Key × V => kV kv.1) (recD ys (as wh ++ [c.sB wh])) = (names (recD ys (as wh ++ [c.sB wh]))).map V.str := by
              unfold names
              rw [List.map_map]
              exact List.map_congr_left fun kv mk => kV_txt tkR0 mk
            rw [eN]
            have sp1 := same_new (o := .lst ((names (recD ys (as wh ++ [c.sB wh]))).map V.str)) np1
            have G5 := G4.same sp1
            have lnm : (names (recD ys (as wh ++ [c.sB wh]))).length ≤ 5 := by
              unfold names
              rw [List.length_map]
              exact Nat.le_trans rows_len (by omega)
            have uys : ∀ y ∈ names (recD ys (as wh ++ [c.sB wh])), y ∈ c.us := fun y my => iy y ((recD_mem tkR0).mp my)
            obtain ⟨st5, n5, sc5⟩ := G5.sc wh hw
            refine ⟨c.x wh, c.r wh, l wh, st5, p1, n5, c.m wh, as wh, c.sB wh, names (recD ys (as wh ++ [c.sB wh])), .ref fs, rfl, sc5, .inl (.inl (.inl upd_same)), by omega, fun y my => Ck.has wh hw y (uys y my), fun y my => Ck.ids y (uys y my), fun k dk er sR H6 s6 nk ek he' hsR tkR => ?_⟩
            (try simp only [tIxO, rIsB, rNotB, tSeq, tIfS, tTest, tB, tOp, tUn, tVar, tC, tAsg, gName, tRet, tRetN, tCB, tCons, tNil, tLst_eq, tTup_eq, tDNewK_eq, tNext, tPar, tM0, tM1, tSl, tNoPart, tPart, rSlS, tAug, tAugS, tExf_eq, ipI, tChain, tCall, tDrop, tBM, tAnd, tOr, tNot, tAndV, tOrV, tNotV, tIf, tIsN, tNotN, rI, rI0, rU, rEq, rNe, gSub, cx_K, cx_K2, L2.start, wipe, scal_ii, scal_ss, scal_bb, scal_is, scal_si, scal_nn, List.map_cons, List.map_nil, List.length_cons, List.length_nil, List.cons_append, List.nil_append, List.append_nil, List.replicate, List.getElem?_cons_zero, List.getElem?_cons_succ, Option.some.injEq, exists_and_left, exists_eq_left', exists_eq_left, exists_eq, exists_eq', V.int.injEq, V.ref.injEq, V.str.injEq, V.bl.injEq, List.cons.injEq, and_true, true_and, false_and, exists_false, or_false, false_or, reduceCtorEq, List.set_cons_zero, List.set_cons_succ, Nat.reduceAdd, Nat.reduceSub, Int.reduceToNat, decide_eq_true_eq, if_true, if_false, Bool.false_eq_true, Bool.not_true, Bool.not_false, Bool.true_eq_false, ite_false, ite_true, ne_eq, not_false_eq_true, Int.reduceEq, tCallI, tDGet, tLamS, tMeth])
            have G6 := G5.same s6
            refine ⟨_, bg_kept G6.wo.hbx, .inl ⟨rfl, _, .inl (.inl G6.wo.hkl)⟩, newT_go fun tp H8 ntp s8 rtp => ?_⟩
            have s58 := (sp1.trans s6).trans s8
            have G8 := G4.same s58
            refine ⟨c.kl, _, _, rfl, rfl, G8.wo.hkl, by rw [List.length_map]; exact Nat.lt_of_le_of_lt (show ks.length ≤ 100 by omega) (by decide), ?_⟩
            refine ⟨H8, [⟨tp, k, fs, er, c1, P1, 0, d, default, cl4 (s.heap.objs.size + 1), sR, recD ys (as wh ++ [c.sB wh]), wh⟩], Tl.start G8 _, by simp, by simp, D4.trans (.same s58), fun i mi => ?_⟩
            obtain rfl := List.mem_singleton.mp mi
            refine ⟨⟨⟨rtp, ⟨dk, s8 _ _ ek⟩, he'.same s8, s58 _ _ hf, s58 _ _ hc, s58 _ _ r4⟩, ⟨srt_congr tkR tkR0 (recD_names tkR0 tkR) hsR, tkR0, fun q9 mq => let ⟨y, my, e2⟩ := recD_keys tkR0 mq; ⟨y, iy y my, e2⟩, hw⟩⟩, rfl⟩
    · rintro σ' H' ⟨H8, kx, o12, o13, o14, t, kx1, kne, Y8, hkx, rfl⟩
      clear W G1 T1 v1 Y1
      (try simp only [tIxO, rIsB, rNotB, tSeq, tIfS, tTest, tB, tOp, tUn, tVar, tC, tAsg, gName, tRet, tRetN, tCB, tCons, tNil, tLst_eq, tTup_eq, tDNewK_eq, tNext, tPar, tM0, tM1, tSl, tNoPart, tPart, rSlS, tAug, tAugS, tExf_eq, ipI, tChain, tCall, tDrop, tBM, tAnd, tOr, tNot, tAndV, tOrV, tNotV, tIf, tIsN, tNotN, rI, rI0, rU, rEq, rNe, gSub, cx_K, cx_K2, L2.start, wipe, scal_ii, scal_ss, scal_bb, scal_is, scal_si, scal_nn, List.map_cons, List.map_nil, List.length_cons, List.length_nil, List.cons_append, List.nil_append, List.append_nil, List.replicate, List.getElem?_cons_zero, List.getElem?_cons_succ, Option.some.injEq, exists_and_left, exists_eq_left', exists_eq_left, exists_eq, exists_eq', V.int.injEq, V.ref.injEq, V.str.injEq, V.bl.injEq, List.cons.injEq, and_true, true_and, false_and, exists_false, or_false, false_or, reduceCtorEq, List.set_cons_zero, List.set_cons_succ, Nat.reduceAdd, Nat.reduceSub, Int.reduceToNat, decide_eq_true_eq, if_true, if_false, Bool.false_eq_true, Bool.not_true, Bool.not_false, Bool.true_eq_false, ite_false, ite_true, ne_eq, not_false_eq_true, Int.reduceEq, tDGet, tLamS, tMeth])
      have hkn : ∀ i ∈ kx, KN T.e_Env.C T.e_Kept.C H8 (c.x i.hm) i ∧ KM c.us i := fun i m => (hkx i m).1
      have lk : (ks ++ kx).length ≤ 100 := by rw [List.length_append]; omega
      refine ⟨_, bg_kept t.bx, _, bg_kept t.bx, c.kl, rfl, _, .inl (.inl t.kl), ?_⟩
      rw [List.length_map]
      refine drS_go t.T (by have := List.length_pos_iff.mpr kne; omega) (Nat.lt_of_le_of_lt (by rw [Int.natAbs_natCast]; exact lk) (show 100 < 2 ^ 1000 by decide +kernel)) fun z H2 b0 b1 T2 v2 => ?_
      have t2 := t.exS T2 v2
      obtain ⟨i, mi, ei⟩ := atI_ex (l := ks ++ kx) b0 b1
      refine ixM_go t2.kl (atI_map (f := fun i => V.ref i.tp) ei) ?_
      obtain ⟨Ki, Km⟩ := t2.kn hkn i mi
      have hm2 := Km.hm
      refine ⟨i.tp, _, rfl, .inl (.inl Ki.tp), rfl, ?_⟩
      clear t T2 v2
      (try simp only [tIxO, rIsB, rNotB, tSeq, tIfS, tTest, tB, tOp, tUn, tVar, tC, tAsg, gName, tRet, tRetN, tCB, tCons, tNil, tLst_eq, tTup_eq, tDNewK_eq, tNext, tPar, tM0, tM1, tSl, tNoPart, tPart, rSlS, tAug, tAugS, tExf_eq, ipI, tChain, tCall, tDrop, tBM, tAnd, tOr, tNot, tAndV, tOrV, tNotV, tIf, tIsN, tNotN, rI, rI0, rU, rEq, rNe, gSub, cx_K, cx_K2, L2.start, wipe, scal_ii, scal_ss, scal_bb, scal_is, scal_si, scal_nn, List.map_cons, List.map_nil, List.length_cons, List.length_nil, List.cons_append, List.nil_append, List.append_nil, List.replicate, List.getElem?_cons_zero, List.getElem?_cons_succ, Option.some.injEq, exists_and_left, exists_eq_left', exists_eq_left, exists_eq, exists_eq', V.int.injEq, V.ref.injEq, V.str.injEq, V.bl.injEq, List.cons.injEq, and_true, true_and, false_and, exists_false, or_false, false_or, reduceCtorEq, List.set_cons_zero, List.set_cons_succ, Nat.reduceAdd, Nat.reduceSub, Int.reduceToNat, decide_eq_true_eq, if_true, if_false, Bool.false_eq_true, Bool.not_true, Bool.not_false, Bool.true_eq_false, ite_false, ite_true, ne_eq, not_false_eq_true, Int.reduceEq, gCons, gNil, tDGet, tLamS, tMeth])
      refine ⟨_, _, ⟨rfl, rfl⟩, _, _, rfl, _, _, rfl, rfl, newL_go fun tl H3 ntl s3 rtl => ?_⟩
      have t3 := t2.same s3
      refine drS_go t3.T (by decide) (by decide) fun z2 H4 d0 d1 T4 v4 => ?_
      obtain ⟨m2, rfl⟩ := Int.eq_ofNat_of_zero_le d0
      have hm4 : m2 < 2 := by omega
      obtain ⟨tl1, tl2⟩ := t2.T.ne ntl
      have rtl4 := v4 _ _ tl1 tl2 rtl
      have t4 := t3.exS T4 v4
      obtain ⟨tgs, htgs⟩ : ∃ tgs : Nat → Nat, tgs = fun w => if w = 0 then i.hm else wh := ⟨_, rfl⟩
      have rtl5 : H4 tl = some (.lst [.int (tgs 0), .int (tgs 1)]) := by rw [htgs]; exact rtl4
      have tg2 : tgs m2 < 2 := by
        rw [htgs]
        show (if m2 = 0 then i.hm else wh) < 2
        split
        · exact hm2
        · exact hw
      refine ixM_go rtl5 (two_at (f := fun w => V.int (tgs w)) hm4) ?_
      generalize tgs m2 = tg at tg2 ⊢
      clear t2 t3 T4 v4 rtl rtl4 rtl5 tl1 tl2 s3 ntl htgs
      refine ixM_go t4.pl.p (two_at (f := fun w => V.ref (q w)) tg2) ⟨q tg, _, rfl, .inl (.inl (t4.pl.q tg tg2)), rfl, ?_⟩
      (try simp only [tIxO, rIsB, rNotB, tSeq, tIfS, tTest, tB, tOp, tUn, tVar, tC, tAsg, gName, tRet, tRetN, tCB, tCons, tNil, tLst_eq, tTup_eq, tDNewK_eq, tNext, tPar, tM0, tM1, tSl, tNoPart, tPart, rSlS, tAug, tAugS, tExf_eq, ipI, tChain, tCall, tDrop, tBM, tAnd, tOr, tNot, tAndV, tOrV, tNotV, tIf, tIsN, tNotN, rI, rI0, rU, rEq, rNe, gSub, cx_K, cx_K2, L2.start, wipe, scal_ii, scal_ss, scal_bb, scal_is, scal_si, scal_nn, List.map_cons, List.map_nil, List.length_cons, List.length_nil, List.cons_append, List.nil_append, List.append_nil, List.replicate, List.getElem?_cons_zero, List.getElem?_cons_succ, Option.some.injEq, exists_and_left, exists_eq_left', exists_eq_left, exists_eq, exists_eq', V.int.injEq, V.ref.injEq, V.str.injEq, V.bl.injEq, List.cons.injEq, and_true, true_and, false_and, exists_false, or_false, false_or, reduceCtorEq, List.set_cons_zero, List.set_cons_succ, Nat.reduceAdd, Nat.reduceSub, Int.reduceToNat, decide_eq_true_eq, if_true, if_false, Bool.false_eq_true, Bool.not_true, Bool.not_false, Bool.true_eq_false, ite_false, ite_true, ne_eq, not_false_eq_true, Int.reduceEq, gCons, gNil, tDGet, tLamS, tMethS])
      obtain ⟨Ki4, _⟩ := t4.kn hkn i mi
      have ltb := tbl_few Km.tok Km.all
      have ltg := tbl_few (G.ev tg tg2).tok (G.ev tg tg2).all
      refine ⟨_, _, ⟨rfl, rfl⟩, _, _, rfl, rfl, ?_⟩
      (try simp only [tIxO, rIsB, rNotB, tSeq, tIfS, tTest, tB, tOp, tUn, tVar, tC, tAsg, gName, tRet, tRetN, tCB, tCons, tNil, tLst_eq, tTup_eq, tDNewK_eq, tNext, tPar, tM0, tM1, tSl, tNoPart, tPart, rSlS, tAug, tAugS, tExf_eq, ipI, tChain, tCall, tDrop, tBM, tAnd, tOr, tNot, tAndV, tOrV, tNotV, tIf, tIsN, tNotN, rI, rI0, rU, rEq, rNe, gSub, cx_K, cx_K2, L2.start, wipe, scal_ii, scal_ss, scal_bb, scal_is, scal_si, scal_nn, List.map_cons, List.map_nil, List.length_cons, List.length_nil, List.cons_append, List.nil_append, List.append_nil, List.replicate, List.getElem?_cons_zero, List.getElem?_cons_succ, Option.some.injEq, exists_and_left, exists_eq_left', exists_eq_left, exists_eq, exists_eq', V.int.injEq, V.ref.injEq, V.str.injEq, V.bl.injEq, List.cons.injEq, and_true, true_and, false_and, exists_false, or_false, false_or, reduceCtorEq, List.set_cons_zero, List.set_cons_succ, Nat.reduceAdd, Nat.reduceSub, Int.reduceToNat, decide_eq_true_eq, if_true, if_false, Bool.false_eq_true, Bool.not_true, Bool.not_false, Bool.true_eq_false, ite_false, ite_true, ne_eq, not_false_eq_true, Int.reduceEq, gCons, gNil, tDGet, tLamS, tMethS])
      refine ⟨e tg, i.rc, te tg, i.tb, rfl, t4.pl.e tg tg2, Ki4.rc, Km.tok, by omega, fun iv H5 niv s5 r5 => ?_⟩
      refine newT_go fun qn H6 nq s6 r6 => ?_
      refine ⟨p, qn, q, tg, rfl, tg2, s6 _ _ (s5 _ _ t4.pl.p), fun p' H7 np s7 rp => ?_⟩
      have s47 := (s5.trans s6).trans s7
      have t7 := t4.same s47
      have pn7 : p' ∉ Zw c dl := t4.G.wo.notZ t4.G.sc.hx ((t4.same (s5.trans s6)).D.nn _ np)
      have pl7 : Pls H7 p' (setN q tg qn) (setN e tg iv) (setN as tg (i.sR :: as tg)) (setN te tg (mergeK (te tg) i.tb)) := t4.pl.set s47 rp (by rw [s7 _ _ r6]; rfl) (s7 _ _ (s6 _ _ r5))
      have ev7 := evs_set (as := as) (te := te) G.ev ((G.ev tg tg2).over Km.tok Km.all (Km.srt.eqv Km.tok))
      clear t4 r5 r6 s5 s6 s7 s47 rp niv nq np Ki Ki4 b0 b1 ei
      refine ⟨_, bg_due t7.bx, .inl ⟨rfl, _, .inl (.inl t7.hd)⟩, newT_go fun d H9 nd s9 rd => ?_⟩
      have t9 := t7.same s9
      have pl9 := pl7.same s9
      refine ⟨dl, _, _, rfl, rfl, t9.hd, by rw [List.length_map]; exact Nat.lt_of_le_of_lt (show ds.length ≤ 100 by omega) (by decide), ?_⟩
      have pdl : p' ≠ dl := fun z => pn7 (by rw [z]; simp)
      have plA := pl9.put (o := .lst (ds.map V.ref ++ [.ref d])) t9.hd pdl
      have tA := t9.due d
      have rdA : upd H9 dl (.lst (ds.map V.ref ++ [.ref d])) d = some (.tup [.ref p', .int ((lev + 1 : Nat) : Int)]) := by
        rw [upd_ne (fun z => by rw [z, t9.hd] at rd; cases rd)]
        exact rd
      clear t7 pl7 s9 t9 pl9 nd rd
      generalize upd H9 dl (.lst (ds.map V.ref ++ [.ref d])) = HA at plA tA rdA ⊢
      refine ⟨B, tA.tw, PE2, fun h _ st => TBE.code.keeps fun b o y => st b o y, hPE, fun f1 c1 P1 H6 eN nn T6 nf1 hf1 hc1 => ?_⟩
      have tB := tA.extN eN nn (T6.sub fun p hp => List.mem_cons_of_mem _ hp)
      have plB := plA.extN eN
      have rdB := eN _ _ rdA (fun _ z => by cases z)
      clear plA tA rdA
      intro s' u rv J
      obtain ⟨cs, n1, n2, n4, n3, go⟩ := ret_pins (js := [16, 15, 14, 0]) J e0.hok free_E5 rfl (by decide) (by decide +kernel)
      obtain ⟨cb, ob, ub, hcb, hob, od, rub, ncb⟩ := cell_inV (i := 0) (x := "_law_box") J rfl rfl (show (defScope s_l_enter).names.lookup ("_law_box" : Str) = some .cell by decide +kernel)
      obtain rfl : ub = Value.ref c.bx := rub
      have mcb : (cb, ob) ∈ cs := by
        obtain ⟨c', hc', _⟩ := (lam_caps (js := [16, 15, 14, 0]) J free_E5 rfl).has 3 "_law_box" rfl
        obtain rfl : c' = cb := Option.some.inj ((lam_sub (js := [16, 15, 14, 0]) J free_E5 rfl hc').symm.trans hcb)
        obtain ⟨y, my, ey⟩ := n4 _ _ hc'
        have z := (n2 y my).2.2
        rw [ey, hob] at z
        obtain rfl : ob = y.2 := Option.some.inj z
        rw [← ey]
        exact my
      have nb := (n2 _ mcb).2.1
      obtain ⟨l3, e3, nd3, iff3⟩ := pinL_one (H := H6) n1 mcb
      have co := clo_one (names := (lamSc lam_l_enter_4).names) hcb (by decide +kernel) (by decide +kernel)
      obtain ⟨GX, DX⟩ := tB.wo (kx' := kx.map fun i => i.fill cb ob) (o := ob) ncb (by rw [List.map_map]; rfl) (fun i' m' => by
        obtain ⟨j, mj, rfl⟩ := List.mem_map.mp m'
        obtain ⟨k1, k2⟩ := tB.kn hkn j (List.mem_append_right _ mj)
        have ecl := (hkx j mj).2
        exact k1.whole k2 ncb od (by rw [ecl]; exact co.1) (by rw [ecl]; exact co.2) nb)
      have nl3 : ∀ p ∈ l3, p.1 ≠ cb := fun p m => (nd_ne (p := (cb, ob)) nd3).2 p m
      have none3 : ∀ p ∈ (cb, ob) :: l3, H6 p.1 = none := fun p m => (n2 p ((iff3 p).mpr m)).1
      have sX : Same H6 (upd H6 cb (CellO cb ob)) := same_new ncb
      have sP : Same (upd H6 cb (CellO cb ob)) (pinL H6 cs) := by
        rw [e3]
        refine pinL_same (nd_ne (p := (cb, ob)) nd3).1 fun p m => ?_
        rw [upd_ne (nl3 p m)]
        exact none3 p (List.mem_cons_of_mem _ m)
      refine go _ _ rv (qq f1 (upd H6 cb (CellO cb ob)) (pinL H6 cs) (ks ++ kx.map fun i => i.fill cb ob) (ds ++ [d]) sP GX (Y8.trans DX) (by rw [List.length_append, List.length_map]; omega) (by simp) ?_)
      obtain ⟨i', mi', ek, er, eh, es, et⟩ : ∃ i' ∈ ks ++ kx.map (fun i => i.fill cb ob), i'.k = i.k ∧ i'.rc = i.rc ∧ i'.hm = i.hm ∧ i'.sR = i.sR ∧ i'.tb = i.tb := by
        rcases List.mem_append.mp mi with m | m
        · exact ⟨i, List.mem_append_left _ m, rfl, rfl, rfl, rfl, rfl⟩
        · exact ⟨i.fill cb ob, List.mem_append_right _ (List.mem_map.mpr ⟨i, m, rfl⟩), rfl, rfl, rfl, rfl, rfl⟩
      obtain ⟨dki, hki⟩ := (tB.kn hkn i mi).1.k
      have hslB := tB.sl
      have hbxB := tB.bx
      refine ⟨⟨LamO f1 (lfE lam_l_enter_5 qE _ c1) (lamB lam_l_enter_5), c1, qE, [], P1⟩, _, CbT.dropP (cb_E5 T (kf := kf + 1) (cl := cloFrom (cellsFrom (s.heap.objs.size + 1) (defScope s_l_enter).names []) (lamSc lam_l_enter_5).names []) (c' := c1) (f := f1) (Pt := P1)) (cs := l3) (c := cb) (ob := ob) (ws := [some (.int tg), some (.int i.hm), some (.ref i.k), some (.ref c.bx)]) (fun p m => ⟨fun z => ?_, fun z => ?_⟩) (fun s2 a H2 b => n3 s2.heap H2 (fun p m => a p ((iff3 p).mp m)) (fun p m => b p ((iff3 p).mp m))), rfl, sP _ _ (sX _ _ hf1), sP _ _ (sX _ _ hc1), fun o2 s2 R EE post => ⟨rfl, ?_, fun s3 at3 => ?_⟩⟩
      · rw [z, none3 p m] at hf1
        cases hf1
      · have z : c1 = p.1 := z
        rw [z, none3 p m] at hc1
        cases hc1
      · rw [e3]
        exact Pins.pinL (l := (cb, ob) :: l3) (H := H6) nd3
      · have eH : unpL (unp (pinL H6 cs) cb) l3 = H6 := by
          rw [e3]
          exact unpL_pinL (l := (cb, ob) :: l3) nd3 none3
        rw [eH]
        obtain ⟨at1, at2⟩ := at3 (cb, ob) (by simp)
        refine ⟨c, i.k, cb, dl, dki, _, ob, rw, tg, i.hm, rfl, rfl, tg2, ncb, at1, at2, nb, hbxB, hslB, hki, fun o3 s4 => ?_⟩
        have plX := plB.same sX
        have rdX := sX _ _ rdB
        have hcbX : upd H6 cb (CellO cb ob) cb = some (CellO cb ob) := upd_same
        have lX : (ks ++ kx.map fun i => i.fill cb ob).length + n ≤ 100 ∧ (ds ++ [d]).length + n ≤ 100 := by
          rw [List.length_append, List.length_append, List.length_map]
          exact ⟨by omega, by show ds.length + 1 + n ≤ 100; omega⟩
        rw [← es, ← et] at ev7 plX
        clear tB plB rdB hslB hbxB hki eH at3 go n3 n4 mcb co iff3 none3 hcb hob J n2 n1 e3 nl3 nd3 sP sX hkn hkx rv kne kx1
        generalize upd H6 cb (CellO cb ob) = HX at GX DX plX rdX hcbX post ⊢
        generalize (ks ++ kx.map fun i => i.fill cb ob) = ksX at GX mi' lX post
        obtain ⟨KiX, KpX⟩ := GX.wo.kk i' mi'
        have hh2 := KpX.hm
        obtain ⟨dk', hk'⟩ := id KiX.k
        obtain ⟨st, n0, scX⟩ := GX.sc tg tg2
        obtain ⟨dxX, hxX⟩ := id scX.at_
        have zX := GX.wo.z GX.sc.hx
        have lsR : i'.sR.length ≤ 5 := by
          rw [KpX.srt.len]
          exact Nat.le_trans (tbl_few KpX.tok KpX.all) us5
        refine ⟨i'.k, dk', i'.fs, i'.er, c.x i'.hm, c.x tg, dxX, _, _, by rw [ek], hk', ?_, hxX, rfl, ?_⟩
        · by_cases e9 : tg = i.hm
          · rw [if_pos e9]
            exact .inl ⟨rfl, by rw [eh, e9]⟩
          · rw [if_neg e9]
            exact .inr rfl
        refine ⟨c.x tg, c.r tg, l tg, st, i'.er, i'.fs, n0, c.m tg, as tg, c.sB tg, i'.sR, ⟨LamO i'.fs (lfE lam_l_enter_4 qE i'.cl i'.c1) (lamB lam_l_enter_4), i'.c1, qE, [], i'.P1⟩, "_law_one", [], [], _, rfl, (cb_E4 T hd).pin (y := ("_law_box" : Str)) (b := c.bx) KpX.od KpX.cl1 KpX.cl2 KpX.fc KpX.cc, cells_nil, fun y c e9 => (by cases e9), KiX.lam, KiX.code, ⟨scX, .inl KiX.env, KpX.srt.tok KpX.tok, by omega, fun q9 mq => ?_⟩, fun H9 l' dl9 d9 DH R2 EE2 h1 h2 o' s' ck => ?_⟩
        · obtain ⟨q8, hq8, e8⟩ := srt_keyG KpX.tok KpX.srt mq
          obtain ⟨y, my, e7⟩ := KpX.all q8 hq8
          rw [← e8, e7]
          exact Ck.has _ tg2 y my
        have hc9 : H9 i'.c = some (CellO i'.c i'.o) := DH.ext _ _ (fun z => by have y := KiX.cell; rw [z, hxX] at y; exact cellO_ne.2.1 _ _ _ (Option.some.inj y).symm) KiX.cell
        refine ⟨rfl, hc9, fun s7 ho nfs => ?_⟩
        obtain ⟨dx9, hx9⟩ := id DH.sc
        have D9 : Dx1 (c.x tg) HX H9 := .exT DH.ext
        have Sc9 := GX.sc.one Ck tg2 D9 ⟨st, n0, scX.on (KpX.srt.tok KpX.tok) DH⟩
        have W9 := GX.wo.dx1 tg2 Ck GX.sc.hx D9 (GX.wo.tw.keep (keepT_exT hxX DH.ext))
        have rd9 := dx1_ni hxX D9 (fun _ _ _ z => by cases z) (fun _ z => by cases z) rdX
        have DN9 : DyN (Zw c dl) HX H9 := .exT DH.ext (zw_x tg2) hx9
        have z9 := W9.z Sc9.hx
        have un : ∀ {b : Addr} {o : HO}, o ≠ CellO i'.c i'.o → H9 b = some o → unp H9 i'.c b = some o := fun nc e9 => by
          rw [unp_ne (fun z => by rw [z, hc9] at e9; exact nc (Option.some.inj e9).symm)]
          exact e9
        refine ⟨c, c.x tg, i'.c, d, p', dl, i'.o, rw, ds, lev + 1, rfl, rfl, unp_same, ho, nfs, KpX.nb, un (fun z => cellO_ne.2.2.1 _ z.symm) W9.hbx, un (fun z => cellO_ne.1 _ z.symm) W9.hdl, un (fun z => cellO_tup z.symm) rd9, ?_⟩
        rw [repin (e := hc9)]
        refine ⟨c, setN l tg l', setN as tg (i'.sR :: as tg), p', setN q tg qn, setN e tg iv, setN te tg (mergeK (te tg) i'.tb), dl, rw, ksX, ds ++ [d], lev + 1, rfl, ⟨W9, Sc9, Ck, plX.dx1 hxX D9, pn7, ev7⟩, ⟨by have := bn.bo; omega, bn.tp, bn.wy, lX.1, lX.2⟩, fun hle H' ks' ds' P5 => ?_, fun hlt cls dd H' ks' ds' erC P5 => ?_⟩
        · have hc' := P5.dy.dy.keep z9 hc9 mut_cell cellO_ne.2.2.2
          refine ⟨hc', fun _ => ?_⟩
          rw [repin (e := hc')]
          obtain ⟨st7, n7, sc7⟩ := P5.sc tg tg2
          obtain ⟨dx7, e7⟩ := id sc7.at_
          refine h1 _ H' dx7 _ e7 (show 5 < 1000 by decide) ?_
          have P7 := PW.back tg2 GX.wo Ck GX.sc DN9 P5 e7
          have hcb' := P7.dy.dy.keep zX hcbX mut_cell cellO_ne.2.2.2
          refine ⟨hcb', fun _ => ?_⟩
          rw [repin (e := hcb')]
          exact post.1 hle _ ks' ds' P7
        · have hc' := P5.dy.dy.keep z9 hc9 mut_cell cellO_ne.2.2.2
          refine ⟨hc', fun _ => ?_⟩
          rw [repin (e := hc')]
          obtain ⟨st7, n7, sc7⟩ := P5.sc tg tg2
          obtain ⟨dx7, e7⟩ := id sc7.at_
          refine h2 cls dd H' dx7 _ e7 (show 5 < 1000 by decide) ?_
          have P7 := PW.back tg2 GX.wo Ck GX.sc DN9 P5 e7
          have hcb' := P7.dy.dy.keep zX hcbX mut_cell cellO_ne.2.2.2
          refine ⟨hcb', fun _ => ?_⟩
          rw [repin (e := hcb')]
          exact post.2 hlt cls dd _ ks' ds' erC P7

end
end Own

set_option Elab.async false
set_option linter.all false
set_option maxRecDepth 100000
set_option maxHeartbeats 4000000
namespace Own
open PySem PySem.Spec PyProof.Rows L2
section
variable {P : Program} {w : World} {K : PySem.W.Frag} {mg : Str → Option Value} {base : Heap}
theorem down_step (T : Txt K mg) {B : List (Addr × Str)} {n : Nat} {spE : Sp} (hen : FnT P w K mg base CX0 1 T.d_l_enter.a T.d_l_enter.d nEn (fun _ _ => spE)) (hE : ∀ m, n = m + 1 → spE = spEnter P w K base mg B T.e_Scope.C T.e_Layer.C T.e_Env.C T.e_Kept.C T.c_Failed.C (6 * m + 3) m) :
    FnT P w K mg base (L2.CX P w) (6 * n + 3) T.d_l_down.a T.d_l_down.d nDo (fun _ _ => spDown base mg B T.e_Scope.C T.e_Layer.C T.e_Env.C T.e_Kept.C T.c_Failed.C n) := by
  refine okT (k := 6 * n + 2) T.d_l_down.F sc_l_down (fun outer s vs H Q E h => ?_) (fun A outer s H vs Q E ht e0 h => ?_)
  · obtain ⟨_, _, _, _, _, _, _, _, _, _, _, _, rfl, _⟩ := h
    rfl
  · obtain ⟨c, l, as, p, q, e, te, dl, rw, ks, ds, lev, rfl, G, bn, px⟩ := h
    have hr := ht.leaf
    have hu := hr.units
    obtain ⟨spC, hC⟩ : ∃ spC : L2.St → Sp, spC = fun _ vs H1 Q1 E1 => ∃ f Post, vs = [.ref f] ∧ ActOk P w K mg base (6 * n + 1) Post f H1 ∧ ∀ (R : VK) (EE : XK), (∀ v H', (∀ p, H' p = none → Q1 (.ref p) (upd H' p (.tup [.str "value", v]))) → R v H') → (∀ n cls d H', ErrN T.c_Failed.C n cls → (∀ p, H' p = none → Q1 (.ref p) (upd H' p (.tup [.str (nmE n), .int n]))) → EE cls d H') → Post R EE := ⟨_, rfl⟩
    have hSC : ∀ (pins : List (Addr × Obj)) (σ : L2.St) (H1 : Hp) (s1 : Shared) (vs : List V) (Q1 : VK), Inv (cxOf (L2.CX P w) P w K mg base ["_law_box", "_law_places", "_law_level", "_law_act"] "_law_down" (defScope s_l_down) T.d_l_down.a T.d_l_down.d.code A outer s H E) pins σ H1 s1 → spC σ vs H1 Q1 E0 → spCauT P w K mg base (6 * n + 1) T.c_Failed.C (Cx.stack (cxOf (L2.CX P w) P w K mg base ["_law_box", "_law_places", "_law_level", "_law_act"] "_law_down" (defScope s_l_down) T.d_l_down.a T.d_l_down.d.code A outer s H E)) s1 vs H1 Q1 E0 := by
      intro pins σ H1 s1 vs Q1 I h
      rw [hC] at h
      obtain ⟨f, Post, rfl, ⟨B0, sp, Fn, ecl, hf, hc, run⟩, go⟩ := h
      exact ⟨f, B0, [], [], sp, rfl, Fn, by rw [ecl]; exact cells_nil, (fun y a hy => by rw [ecl] at hy; cases hy), hf, hc, fun R EE h1 h2 o' s' ck => run o' s' R EE (go R EE h1 h2)⟩
    refine ⟨_, (pss_cons (ps_if (pt_not (pt_val (pe_call (ok_l_shows T (B := B)) (hr.mono (by decide)) (by rfl) T.d_l_shows.g T.d_l_shows.F.kp T.d_l_shows.b .nil pass0 (pa_cons (pv 0) (pa_cons (pv 1) pa_nil))))) (pss_one (ps_expr (pe_bm PySem.F.plainAttrs_list PySem.F.slot_list_append PySem.F.type_list_append mt_append (pe_dget (hu_of hr) (pv 0) pe_str (fun _ _ => rfl)) (pa_cons (pv 2) pa_nil)))) pss_nil)
      (pss_cons (ps_if (pt_cmpR op_eq (pv 2) (pe_dget (hu_of hr) (pv 0) pe_str (fun _ _ => rfl)) (nomark _)) (pss_one (ps_expr (pe_call (ok_l_raise T) (hr.mono (by decide)) (by rfl) T.d_l_raise.g T.d_l_raise.F.kp T.d_l_raise.b .nil (passesE (takesL (E := E) rfl rfl rfl rfl)) (pa_cons (pe_dget (hu_of hr) (pv 0) pe_str (fun _ _ => rfl)) pa_nil)))) pss_nil)
      (pss_cons (ps_set (i := 3) sc_l_down.nd rfl (Or.inl rfl) (pe_fnT (spA := fun _ => spE) hen (ht.mono (by omega)) (by rfl) T.d_l_enter.g T.d_l_enter.F.kp T.d_l_enter.b pass0 (fun _ _ _ _ _ _ _ h => h) (pa_cons (pv 0) (pa_cons (pv 1) (pa_cons (pe_call (ok_l_draw T) (hr.mono (by decide)) (by rfl) T.d_l_draw.g T.d_l_draw.F.kp T.d_l_draw.b .nil pass0 (pa_cons (pe_dget (hu_of hr) (pv 0) pe_str (fun _ _ => rfl)) (pa_cons pe_int pa_nil))) (pa_cons (pv 2) pa_nil))))))
      (Evl.pss_cut (ps_if (pt_cmpR op_eq (pv 2) (pe_dget (hu_of hr) (pv 0) pe_str (fun _ _ => rfl)) (nomark _)) (pss_one (ps_if (pt_cmpR (op_neAT hu) (pe_fnT (spA := spC) (ok_l_caughtT T (kf := 6 * n + 1)) (ht.mono (by omega)) (by rfl) T.d_l_caught.g T.d_l_caught.F.kp T.d_l_caught.b pass0 hSC (pa_cons (pv 3) pa_nil)) (pe_ix ix_list (pe_lst (pa_cons (pe_tup (pa_cons pe_str (pa_cons pe_int pa_nil))) (pa_cons (pe_tup (pa_cons pe_str (pa_cons pe_int pa_nil))) (pa_cons (pe_tup (pa_cons pe_str (pa_cons pe_int pa_nil))) pa_nil)))) (pe_dget (hu_of hr) (pv 0) pe_str (fun _ _ => rfl)) (fun _ _ => rfl)) (nomark _)) (pss_one (ps_expr (pe_bm PySem.F.plainAttrs_list PySem.F.slot_list_append PySem.F.type_list_append mt_append (pe_dget (hu_of hr) (pv 0) pe_str (fun _ _ => rfl)) (pa_cons pe_str pa_nil)))) pss_nil)) (pss_cons (ps_expr (pe_callTT0 (k := 6 * n + 1) (i := 3) (Ew := fun _ => E) rfl (ht.mono (by omega)) (passE (takesL (E := E) rfl rfl rfl rfl)) rfl (.inl rfl)))
      (pss_one (ps_if (pt_cmpR op_gt (pv 2) (pe_dget (hu_of hr) (pv 0) pe_str (fun _ _ => rfl)) (nomark _)) (pss_one (ps_expr (pe_bm PySem.F.plainAttrs_list PySem.F.slot_list_append PySem.F.type_list_append mt_append (pe_dget (hu_of hr) (pv 0) pe_str (fun _ _ => rfl)) (pa_cons pe_str pa_nil)))) pss_nil))))
      (pss_one (ps_if (pt_not (pt_val (pe_call (ok_l_shows T (B := B)) (hr.mono (by decide)) (by rfl) T.d_l_shows.g T.d_l_shows.F.kp T.d_l_shows.b .nil pass0 (pa_cons (pv 0) (pa_cons (pv 1) pa_nil))))) (pss_one (ps_expr (pe_bm PySem.F.plainAttrs_list PySem.F.slot_list_append PySem.F.type_list_append mt_append (pe_dget (hu_of hr) (pv 0) pe_str (fun _ _ => rfl)) (pa_cons pe_str pa_nil)))) pss_nil)))))), ?_⟩
    (try simp only [tIxO, rIsB, rNotB, tSeq, tIfS, tTest, tB, tOp, tUn, tVar, tC, tAsg, gName, tRet, tRetN, tCB, tCons, tNil, tLst_eq, tTup_eq, tDNewK_eq, tNext, tPar, tM0, tM1, tSl, tNoPart, tPart, rSlS, tAug, tAugS, tExf_eq, ipI, tChain, tCall, tDrop, tBM, tAnd, tOr, tNot, tAndV, tOrV, tNotV, tIf, tIsN, tNotN, rI, rI0, rU, rEq, rNe, gSub, cx_K, cx_K2, L2.start, wipe, scal_ii, scal_ss, scal_bb, scal_is, scal_si, scal_nn, List.map_cons, List.map_nil, List.length_cons, List.length_nil, List.cons_append, List.nil_append, List.append_nil, List.replicate, List.getElem?_cons_zero, List.getElem?_cons_succ, Option.some.injEq, exists_and_left, exists_eq_left', exists_eq_left, exists_eq, exists_eq', V.int.injEq, V.ref.injEq, V.str.injEq, V.bl.injEq, List.cons.injEq, and_true, true_and, false_and, exists_false, or_false, false_or, reduceCtorEq, List.set_cons_zero, List.set_cons_succ, Nat.reduceAdd, Nat.reduceSub, Int.reduceToNat, decide_eq_true_eq, if_true, if_false, Bool.false_eq_true, Bool.not_true, Bool.not_false, Bool.true_eq_false, ite_false, ite_true, ne_eq, not_false_eq_true, Int.reduceEq, tDGet, tFnS, tCallT0, tMeth])
    refine ⟨c, l, as, p, q, e, te, dl, rw, ks, ds, rfl, G, fun H1 D1 G1 => ⟨_, rfl, ite2 (fun z => by simp at z) (fun _ => ?_)⟩⟩
    refine ⟨_, bg_bottom G1.wo.hbx, by simp [scal], ite2 (fun eb => ?_) (fun nb => ?_)⟩
    · -- the bottom
      have eb : (lev : Int) = rw.bo := by injection eb
      have := bn.bo
      have := bn.tp
      exact ⟨_, bg_way G1.wo.hbx, rw.wy, rfl, bn.wy, fun cls d er => px.2 (by omega) cls d H1 ks ds er ⟨G1.wo, D1, Nat.le_add_right _ _, Nat.le_add_right _ _, G1.sc⟩⟩
    have nb : (lev : Int) ≠ rw.bo := fun z => nb (by rw [z])
    obtain ⟨m, rfl⟩ : ∃ m, n = m + 1 := ⟨n - 1, by have := bn.bo; omega⟩
    have es := hE m rfl
    subst es
    refine ⟨_, bg_state G1.wo.hbx, drS_go G1.wo.T (by decide) (by decide) fun wv H2 a0 a1 T2 v2 => ?_⟩
    obtain ⟨wh, rfl⟩ := Int.eq_ofNat_of_zero_le a0
    have G2 := G1.exS T2 v2
    have D2 : DyN (Zw c dl) H H2 := D1.trans (.exS v2 T2 (by simp) (by simp))
    refine ⟨c, l, as, p, q, e, te, dl, rw, ks, ds, lev, wh, rfl, by omega, G2, bn, fun f HX H3 ks3 ds3 sX GX DX lk ld act => ?_⟩
    have D3 : DyN (Zw c dl) H HX := D2.trans DX
    have whole : ∀ {H' ks' ds'}, PW base mg B T.e_Scope.C T.e_Layer.C T.e_Env.C T.e_Kept.C c l as HX dl rw ks3 ds3 m H' ks' ds' → PW base mg B T.e_Scope.C T.e_Layer.C T.e_Env.C T.e_Kept.C c l as H dl rw ks ds (m + 1) H' ks' ds' := fun pw => ⟨pw.wo, D3.trans pw.dy, by have := pw.few; omega, by have := pw.due; omega, pw.sc⟩
    have hb3 := sX _ _ GX.wo.hbx
    refine cut_go (fun σ' H' => σ' = [some (.ref c.bx), some (.ref p), some (.int lev), some (.ref f)] ∧ lev ≤ rw.tp ∧ ∃ ks' ds', PW base mg B T.e_Scope.C T.e_Layer.C T.e_Env.C T.e_Kept.C c l as H dl rw ks ds (m + 1) H' ks' ds') ?_ ?_
    · (try simp only [tIxO, rIsB, rNotB, tSeq, tIfS, tTest, tB, tOp, tUn, tVar, tC, tAsg, gName, tRet, tRetN, tCB, tCons, tNil, tLst_eq, tTup_eq, tDNewK_eq, tNext, tPar, tM0, tM1, tSl, tNoPart, tPart, rSlS, tAug, tAugS, tExf_eq, ipI, tChain, tCall, tDrop, tBM, tAnd, tOr, tNot, tAndV, tOrV, tNotV, tIf, tIsN, tNotN, rI, rI0, rU, rEq, rNe, gSub, cx_K, cx_K2, L2.start, wipe, scal_ii, scal_ss, scal_bb, scal_is, scal_si, scal_nn, List.map_cons, List.map_nil, List.length_cons, List.length_nil, List.cons_append, List.nil_append, List.append_nil, List.replicate, List.getElem?_cons_zero, List.getElem?_cons_succ, Option.some.injEq, exists_and_left, exists_eq_left', exists_eq_left, exists_eq, exists_eq', V.int.injEq, V.ref.injEq, V.str.injEq, V.bl.injEq, List.cons.injEq, and_true, true_and, false_and, exists_false, or_false, false_or, reduceCtorEq, List.set_cons_zero, List.set_cons_succ, Nat.reduceAdd, Nat.reduceSub, Int.reduceToNat, decide_eq_true_eq, if_true, if_false, Bool.false_eq_true, Bool.not_true, Bool.not_false, Bool.true_eq_false, ite_false, ite_true, ne_eq, not_false_eq_true, Int.reduceEq, tDGet, tFnS, tCallT0, tMeth])
      refine ⟨_, bg_top hb3, by simp [scal], ite2 (fun et => ?_) (fun nt => ?_)⟩
      · have et : (lev : Int) = rw.tp := by injection et
        rw [hC]
        refine ⟨f, _, rfl, act, fun R EE h1 h2 => ⟨fun hle => by omega, fun hlt cls d H' ks' ds' er pw => h2 rw.wy cls d H' er fun p9 np => ?_⟩⟩
        have pw := (whole pw).same G.ck (same_new (o := .tup [.str (nmE rw.wy), .int rw.wy]) np)
        have ep : (upd H' p9 (.tup [.str (nmE rw.wy), .int rw.wy])) p9 = some (.tup [.str (nmE rw.wy), .int rw.wy]) := upd_same
        generalize upd H' p9 (.tup [.str (nmE rw.wy), .int rw.wy]) = H5 at pw ep ⊢
        (try simp only [tIxO, rIsB, rNotB, tSeq, tIfS, tTest, tB, tOp, tUn, tVar, tC, tAsg, gName, tRet, tRetN, tCB, tCons, tNil, tLst_eq, tTup_eq, tDNewK_eq, tNext, tPar, tM0, tM1, tSl, tNoPart, tPart, rSlS, tAug, tAugS, tExf_eq, ipI, tChain, tCall, tDrop, tBM, tAnd, tOr, tNot, tAndV, tOrV, tNotV, tIf, tIsN, tNotN, rI, rI0, rU, rEq, rNe, gSub, cx_K, cx_K2, L2.start, wipe, scal_ii, scal_ss, scal_bb, scal_is, scal_si, scal_nn, List.map_cons, List.map_nil, List.length_cons, List.length_nil, List.cons_append, List.nil_append, List.append_nil, List.replicate, List.getElem?_cons_zero, List.getElem?_cons_succ, Option.some.injEq, exists_and_left, exists_eq_left', exists_eq_left, exists_eq, exists_eq', V.int.injEq, V.ref.injEq, V.str.injEq, V.bl.injEq, List.cons.injEq, and_true, true_and, false_and, exists_false, or_false, false_or, reduceCtorEq, List.set_cons_zero, List.set_cons_succ, Nat.reduceAdd, Nat.reduceSub, Int.reduceToNat, decide_eq_true_eq, if_true, if_false, Bool.false_eq_true, Bool.not_true, Bool.not_false, Bool.true_eq_false, ite_false, ite_true, ne_eq, not_false_eq_true, Int.reduceEq, tDGet])
        refine newT_go fun q0 H7 nq0 s7 r7 => newT_go fun q1 H8 nq1 s8 r8 => newT_go fun q2 H9 nq2 s9 r9 => newL_go fun ql H11 nql s11 r11 => ?_
        have s6 := ((s7.trans s8).trans s9).trans s11
        have pw6 := pw.same G.ck s6
        obtain ⟨qq, hq, eq⟩ : ∃ qq, ([.ref q0, .ref q1, .ref q2] : List V)[rw.wy]? = some (.ref qq) ∧ H11 qq = some (.tup [.str (nmE rw.wy), .int rw.wy]) := by
          have b0 := s11 _ _ (s9 _ _ (s8 _ _ r7))
          have b1 := s11 _ _ (s9 _ _ r8)
          have b2 := s11 _ _ r9
          have := bn.wy
          have hw : rw.wy = 0 ∨ rw.wy = 1 ∨ rw.wy = 2 := by omega
          rcases hw with e | e | e <;> rw [e]
          · exact ⟨q0, rfl, b0⟩
          · exact ⟨q1, rfl, b1⟩
          · exact ⟨q2, rfl, b2⟩
        refine ⟨_, bg_way pw6.wo.hbx, ixM_go r11 (atI_nat (j := rw.wy) hq) ⟨1, p9, qq, _, _, by decide, rfl, rfl, .inl (.inl (s6 _ _ ep)), .inl (.inl eq), rfl, fun i x y e1 e2 => ?_, ⟨_, rfl, ite2 (fun z => by cases z) (fun _ => ⟨by omega, ks', ds', pw6⟩)⟩⟩⟩
        rw [e1] at e2
        cases e2
        refine .same ?_
        have z := List.mem_of_getElem? e1
        simp at z
        rcases z with rfl | rfl <;> rfl
      · have nt : (lev : Int) ≠ rw.tp := fun z => nt (by rw [z])
        obtain ⟨B0, sp, Fn, ecl, hf, hc, run⟩ := act
        refine ⟨B0, [], [], sp, Fn, hf, hc, fun o' s' ck => ⟨by rw [ecl]; exact cells_nil, run o' s' _ _ ⟨fun hle H' ks' ds' pw => ?_, fun hlt cls d H' ks' ds' er pw => px.2 (by omega) cls d H' ks' ds' er (whole pw)⟩⟩⟩
        exact ⟨_, bg_top pw.wo.hbx, _, rfl, ite2 (fun z => by omega) (fun _ => ⟨by omega, ks', ds', whole pw⟩)⟩
    · rintro σ' H' ⟨rfl, hle, ks', ds', pw⟩
      (try simp only [tIxO, rIsB, rNotB, tSeq, tIfS, tTest, tB, tOp, tUn, tVar, tC, tAsg, gName, tRet, tRetN, tCB, tCons, tNil, tLst_eq, tTup_eq, tDNewK_eq, tNext, tPar, tM0, tM1, tSl, tNoPart, tPart, rSlS, tAug, tAugS, tExf_eq, ipI, tChain, tCall, tDrop, tBM, tAnd, tOr, tNot, tAndV, tOrV, tNotV, tIf, tIsN, tNotN, rI, rI0, rU, rEq, rNe, gSub, cx_K, cx_K2, L2.start, wipe, scal_ii, scal_ss, scal_bb, scal_is, scal_si, scal_nn, List.map_cons, List.map_nil, List.length_cons, List.length_nil, List.cons_append, List.nil_append, List.append_nil, List.replicate, List.getElem?_cons_zero, List.getElem?_cons_succ, Option.some.injEq, exists_and_left, exists_eq_left', exists_eq_left, exists_eq, exists_eq', V.int.injEq, V.ref.injEq, V.str.injEq, V.bl.injEq, List.cons.injEq, and_true, true_and, false_and, exists_false, or_false, false_or, reduceCtorEq, List.set_cons_zero, List.set_cons_succ, Nat.reduceAdd, Nat.reduceSub, Int.reduceToNat, decide_eq_true_eq, if_true, if_false, Bool.false_eq_true, Bool.not_true, Bool.not_false, Bool.true_eq_false, ite_false, ite_true, ne_eq, not_false_eq_true, Int.reduceEq, tDGet])
      exact ⟨c, l, as, p, q, e, te, dl, rw, ks', ds', rfl, G.after pw, fun H1 D1 G1 => ⟨_, rfl, ite2 (fun z => by simp at z) (fun _ => px.1 hle H1 ks' ds' ⟨G1.wo, pw.dy.trans D1, pw.few, pw.due, G1.sc⟩)⟩⟩
/-- what is never called -/
theorem ok_never {f : Addr} {fd : FuncData} {ps : List Str} {k : Nat} : FnT P w K mg base CX0 k f fd ps (fun _ _ _ _ _ _ => False) := ⟨fun _ _ _ _ _ _ h => h.elim, fun _ _ _ _ _ _ _ _ _ _ _ _ _ h => h.elim⟩
theorem ok_l_down (T : Txt K mg) {cE PE2 : Addr} {B : List (Addr × Str)} (hcE : T.d_l_enter.d.code = .ref cE) (TBE : LamX.TabB base mg cE PE2) (hPE : (PE2, qE) ∈ B) : ∀ n, FnT P w K mg base (L2.CX P w) (6 * n + 3) T.d_l_down.a T.d_l_down.d nDo (fun _ _ => spDown base mg B T.e_Scope.C T.e_Layer.C T.e_Env.C T.e_Kept.C T.c_Failed.C n)
  | 0 => down_step (n := 0) T (spE := fun _ _ _ _ => False) ok_never (fun m h => by omega)
  | n + 1 => down_step (n := n + 1) T (ok_l_enter T hcE TBE hPE (ok_l_down T hcE TBE hPE n)) (fun m h => by
    obtain rfl : n = m := Nat.succ.inj h
    rfl)

end
end Own

set_option Elab.async false
set_option linter.all false
set_option maxRecDepth 100000
set_option maxHeartbeats 4000000
namespace Own
open PySem PySem.Spec PyProof.Rows L2
section
variable {P : Program} {w : World} {K : PySem.W.Frag} {mg : Str → Option Value} {base : Heap}
theorem mkS_go {C S L b : Addr} {kvs : Tbl} {m : Str} {H : Hp} {R : Addr → Hp → Prop} {E : XK} (hb : Src C H b kvs) (hm : m = "chain" ∨ m = "cells") (q : ∀ x r s dx dr de H', Same H H' → H x = none → Srt kvs s → H r = none → H de = none → H' r = some (.ins L dr (LayF de .non 0)) → H' de = some (.dK s) → H' x = some (.ins S dx (ScpF r r r 0 m)) → R x H') :
    ∀ x1 dx, H x1 = none → H dx = none → ¬ dx = x1 → spInitS C S L [.ref x1, .ref b, .str m] (upd (upd H dx (.own x1)) x1 (.ins S dx [])) (fun v H2 => v = .non ∧ R x1 H2) E := fun x dx nx ndx ne => by
  have n1 : (upd H dx (.own x)) x = none := by rw [upd_ne (fun e => ne e.symm)]; exact nx
  have s0 : Same H (upd (upd H dx (.own x)) x (.ins S dx [])) := (same_new ndx).trans (same_new n1)
  refine ⟨x, dx, b, kvs, m, rfl, upd_same, hb.same s0, hm, fun r s dr de H' hs nr nde hr hd hx ex => ⟨rfl, q x r s dx dr de H' (fun c o e => ?_) nx hs (same_none s0 nr) (same_none s0 nde) hr hd hx⟩⟩
  exact ex _ _ (fun z => by rw [z, nx] at e; cases e) (s0 _ _ e)
def box7 (t u bl el kl dl wl : Addr) : Tbl := [(.inr "state", .ref t), (.inr "names", .ref u), (.inr "base", .ref bl), (.inr "engines", .ref el), (.inr "kept", .ref kl), (.inr "due", .ref dl), (.inr "wrong", .ref wl)]
theorem range_set {X : Nat → Addr} {j : Nat} {x : Addr} : (List.range j).map (fun n => V.ref (X n)) ++ [V.ref x] = (List.range (j + 1)).map (fun n => V.ref (setN X j x n)) := by
  rw [List.range_succ, List.map_append]
  congr 1
  · exact List.map_congr_left fun n hn => by rw [setN_ne (Nat.ne_of_lt (List.mem_range.mp hn))]
  · show _ = [V.ref (setN X j x j)]
    rw [setN_same]
theorem box7_not {t u bl el kl dl wl : Addr} : ¬ TOk (box7 t u bl el kl dl wl) := fun h => by
  have z := h.ok (.inr "state", .ref t) (by unfold box7; simp)
  cases z
theorem Lay.box7 {C r bx : Addr} {H : Hp} {o : HO} {bt : Tbl} (hb : H bx = some (.dK bt)) (nb : ¬ TOk bt) : ∀ {ts : List Tbl} {l : Addr}, (∀ t ∈ ts, TOk t) → Lay C r H l ts → Lay C r (upd H bx o) l ts
  | [], _, _, h => h
  | t :: ts, l, ok, ⟨dx, d, hd, h⟩ => by
    have ne : ∀ {a C dx fs}, H a = some (.ins C dx fs) → a ≠ bx := fun e z => by rw [z, hb] at e; cases e
    exact ⟨dx, d, by rw [upd_ne (fun z => by rw [z, hb] at hd; cases hd; exact nb (ok _ (by simp)))]; exact hd, h.elim (fun ⟨e, e2, y⟩ => .inl ⟨e, e2, by rw [upd_ne (ne y)]; exact y⟩) fun ⟨l', h', y⟩ => .inr ⟨l', Lay.box7 hb nb (fun u m => ok u (by simp [m])) h', by rw [upd_ne (ne y)]; exact y⟩⟩
theorem ScpOk.box7 {S L x r l st bx : Addr} {H : Hp} {o : HO} {n : Int} {m : Str} {ts : List Tbl} {t0 bt : Tbl} (h : ScpOk S L H x r l st n m ts t0) (hb : H bx = some (.dK bt)) (nb : ¬ TOk bt) : ScpOk S L (upd H bx o) x r l st n m ts t0 := by
  obtain ⟨dx, hx⟩ := id h.at_
  exact ⟨⟨dx, by rw [upd_ne (fun z => by rw [z, hb] at hx; cases hx)]; exact hx⟩, h.root.box7 hb nb (by simpa using h.ok0), h.lay.box7 hb nb h.all, let ⟨ss, e, hk⟩ := h.std; ⟨ss, e.box7 hb nb hk, hk⟩, h.ok0, h.ok⟩
def box8 (t u bl el kl dl wl sl : Addr) : Tbl := [(.inr "state", .ref t), (.inr "names", .ref u), (.inr "base", .ref bl), (.inr "engines", .ref el), (.inr "kept", .ref kl), (.inr "due", .ref dl), (.inr "wrong", .ref wl), (.inr "scopes", .ref sl)]
theorem box8_not {t u bl el kl dl wl sl : Addr} : ¬ TOk (box8 t u bl el kl dl wl sl) := fun h => by
  have z := h.ok (.inr "state", .ref t) (by unfold box8; simp)
  cases z
theorem upd_self {H : Hp} {a : Addr} {o : HO} (h : H a = some o) : upd H a o = H := by
  funext b
  by_cases e : b = a
  · rw [e, upd_same, h]
  · rw [upd_ne e]
/-- a box that a round may begin with -/
structure BtOk (c : Ct) (bt : Tbl) : Prop where
  len : bt.length ≤ 11
  wr : valV bt (.inr "wrong") = some (.ref c.wl)
  gb : ∀ b : V, valV (putK bt (Sum.inr "bottom") b) (.inr "bottom") = some b
  ln : ∀ b t w : V, (putK bt (Sum.inr "bottom") b).length ≤ 11 ∧ (putK (putK bt (Sum.inr "bottom") b) (Sum.inr "top") t).length ≤ 11 ∧ (putK (putK (putK bt (Sum.inr "bottom") b) (Sum.inr "top") t) (Sum.inr "way") w).length ≤ 11
  pb : ∀ (b t w : Nat) (d' : Addr), putK (putK (putK (putK bt (Sum.inr "bottom") (.int b)) (Sum.inr "top") (.int t)) (Sum.inr "way") (.int w)) (Sum.inr "due") (.ref d') = boxT c d' ⟨b, t, w⟩
theorem BtOk.t {c : Ct} {dl : Addr} {rw : Rw} : BtOk c (boxT c dl rw) := ⟨(show 11 ≤ 11 by omega), rfl, fun _ => rfl, fun _ _ _ => ⟨(show 11 ≤ 11 by omega), (show 11 ≤ 11 by omega), (show 11 ≤ 11 by omega)⟩, fun _ _ _ _ => rfl⟩
/-- between the rounds -/
structure Rd (base : Heap) (mg : Str → Option Value) (B : List (Addr × Str)) (S L C Kc : Addr) (c : Ct) (R : Nat → Addr) (dl : Addr) (rw : Rw) (ks : List KI) (ds : List Addr) (bt : Tbl) (H : Hp) : Prop where
  hb : H c.bx = some (.dK bt)
  wo : Wo base mg B C Kc c (upd H c.bx (.dK (boxT c dl rw))) dl rw ks ds
  sc : Sc2 S L (upd H c.bx (.dK (boxT c dl rw))) c R (fun _ => [])
  ck : Cst c
section
variable {base : Heap} {mg : Str → Option Value} {B : List (Addr × Str)} {S L C Kc : Addr} {c : Ct} {R : Nat → Addr} {dl dl2 : Addr} {rw : Rw} {ks : List KI} {ds : List Addr} {bt bt' : Tbl} {H H' : Hp}
theorem Rd.put (h : Rd base mg B S L C Kc c R dl rw ks ds bt H) (bt' : Tbl) : Rd base mg B S L C Kc c R dl rw ks ds bt' (upd H c.bx (.dK bt')) := ⟨upd_same, by rw [upd_twice]; exact h.wo, by rw [upd_twice]; exact h.sc, h.ck⟩
theorem Rd.ne (h : Rd base mg B S L C Kc c R dl rw ks ds bt H) : c.t ≠ c.bx ∧ c.g ≠ c.bx := by
  obtain ⟨_, gs, _, _, _, e1, e2, _⟩ := h.wo.T
  exact ⟨fun z => (by rw [z, upd_same] at e1; cases e1), fun z => (by rw [z, upd_same] at e2; cases e2)⟩
theorem Rd.T (h : Rd base mg B S L C Kc c R dl rw ks ds bt H) : Stt H c.t c.g := by
  obtain ⟨n1, n2⟩ := h.ne
  obtain ⟨h1, gs, c1, k, sd, e1, e2, s⟩ := h.wo.T
  rw [upd_ne n1] at e1
  rw [upd_ne n2] at e2
  exact ⟨h1, gs, c1, k, sd, e1, e2, s⟩
theorem Rd.exS (h : Rd base mg B S L C Kc c R dl rw ks ds bt H) (T' : Stt H' c.t c.g) (v : ExS c.t c.g H H') : Rd base mg B S L C Kc c R dl rw ks ds bt H' := by
  obtain ⟨n1, n2⟩ := h.ne
  have T2 : Stt (upd H' c.bx (.dK (boxT c dl rw))) c.t c.g := T'.upd n1.symm n2.symm
  have v2 : ExS c.t c.g (upd H c.bx (.dK (boxT c dl rw))) (upd H' c.bx (.dK (boxT c dl rw))) := fun b o nt ng e => by
    by_cases z : b = c.bx
    · subst z
      rw [upd_same] at e ⊢
      exact e
    · rw [upd_ne z] at e ⊢
      exact v _ _ nt ng e
  exact ⟨v _ _ n1.symm n2.symm h.hb, h.wo.exS h.ck h.sc.hx T2 v2, h.sc.nl (NL.exS h.wo.T v2), h.ck⟩
theorem Rd.same (h : Rd base mg B S L C Kc c R dl rw ks ds bt H) (s : Same H H') : Rd base mg B S L C Kc c R dl rw ks ds bt H' := h.exS (h.T.same s) (Same.exS s)
theorem Rd.hwl (h : Rd base mg B S L C Kc c R dl rw ks ds bt H) : H c.wl = some (.lst []) := by
  have e := h.wo.hwl
  rw [upd_ne (fun z => by rw [z, upd_same] at e; cases e)] at e
  exact e
theorem Rd.hbl (h : Rd base mg B S L C Kc c R dl rw ks ds bt H) : H c.bl = some (.lst [.ref (c.b 0), .ref (c.b 1)]) := by
  have e := h.wo.hbl
  rw [upd_ne (fun z => by rw [z, upd_same] at e; cases e)] at e
  exact e
/-- a round begins -/
theorem Rd.go (h : Rd base mg B S L C Kc c R dl rw ks ds bt H) (s : Same H H') (n : H dl2 = none) (e2 : H' dl2 = some (.lst [])) (rw2 : Rw) : Wo base mg B C Kc c (upd H' c.bx (.dK (boxT c dl2 rw2))) dl2 rw2 ks [] ∧ Sc2 S L (upd H' c.bx (.dK (boxT c dl2 rw2))) c R (fun _ => []) := by
  have h' := h.same s
  have nb : dl2 ≠ c.bx := fun z => by rw [z, h.hb] at n; cases n
  have s2 : Same (upd H c.bx (.dK (boxT c dl rw))) (upd H' c.bx (.dK (boxT c dl rw))) := fun b o e => by
    by_cases z : b = c.bx
    · subst z
      rw [upd_same] at e ⊢
      exact e
    · rw [upd_ne z] at e ⊢
      exact s _ _ e
  have a := h.wo.fresh (ds2 := []) h.ck h.sc.hx s2 (by rw [upd_ne nb]; exact n) (by rw [upd_ne nb]; exact e2) rw2
  have b := h'.sc.box (o := .dK (boxT c dl2 rw2)) h'.wo
  rw [upd_twice] at a b
  exact ⟨a, b⟩
/-- a round has ended -/
theorem Rd.of (W : Wo base mg B C Kc c H dl rw ks ds) (sc : Sc2 S L H c R (fun _ => [])) (Ck : Cst c) : Rd base mg B S L C Kc c R dl rw ks ds (boxT c dl rw) H := ⟨W.hbx, by rw [upd_self W.hbx]; exact W, by rw [upd_self W.hbx]; exact sc, Ck⟩
end
/-- the scopes made so far -/
def ScL (S L : Addr) (kv : Nat → Tbl) (M : Nat → Str) (H9 : Hp) (acc : List V) (j : Nat) : Prop := ∃ (X R : Nat → Addr) (SB : Nat → Tbl), acc = (List.range j).map (fun n => V.ref (X n)) ∧ (∀ n, n < j → ScpOk S L H9 (X n) (R n) (R n) (R n) 0 (M n) [] (SB n) ∧ Srt (kv n) (SB n)) ∧ (j = 2 → X 0 ≠ X 1)
theorem ScL.add {S L t g x r D : Addr} {M : Nat → Str} {sB : Tbl} {kv : Nat → Tbl} {H9 HE : Hp} {acc : List V} {j : Nat} (h : ScL S L kv M H9 acc j) (T9 : Stt H9 t g) (v : ExS t g H9 HE) (sc : ScpOk S L HE x r r r 0 (M j) [] sB) (hs : Srt (kv j) sB) (nx : H9 x = none) (hD : HE D = some (.lst acc)) : ScL S L kv M (upd HE D (.lst (acc ++ [.ref x]))) (acc ++ [.ref x]) (j + 1) := by
  obtain ⟨X, R, SB, rfl, hS, h2⟩ := h
  have up : NL HE (upd HE D (.lst ((List.range j).map (fun n => V.ref (X n)) ++ [.ref x]))) := fun b o e n => by
    rw [upd_ne (fun z => by rw [z, hD] at e; exact n _ (Option.some.inj e).symm)]
    exact e
  refine ⟨setN X j x, setN R j r, setN SB j sB, range_set, fun n hn => ?_, fun e => ?_⟩
  · by_cases z : n = j
    · subst z
      rw [setN_same, setN_same, setN_same]
      exact ⟨sc.nl up, hs⟩
    · rw [setN_ne z, setN_ne z, setN_ne z]
      obtain ⟨q1, q2⟩ := hS n (by omega)
      exact ⟨(q1.nl (NL.exS T9 v)).nl up, q2⟩
  · obtain rfl : j = 1 := by omega
    rw [setN_ne (show (0 : Nat) ≠ 1 by decide), setN_same]
    obtain ⟨q1, _⟩ := hS 0 (by omega)
    obtain ⟨dx, hx⟩ := q1.at_
    exact fun z => by rw [z, nx] at hx; cases hx
/-- what the law has made by now -/
structure Lw (Tb : List (Addr × Str)) (t g u bx : Addr) (us : List Str) (b : Nat → Addr) (kv : Nat → Tbl) (bt : Tbl) (ls : List (Addr × List V)) (H : Hp) : Prop where
  T : Stt H t g
  hb : H bx = some (.dK bt)
  hu : H u = some (.lst (us.map V.str))
  hd : ∀ w, w < 2 → H (b w) = some (.dK (kv w))
  hl : ∀ p ∈ ls, H p.1 = some (.lst p.2)
  nd : (t :: g :: u :: ls.map (·.1)).Nodup
  hT : ∀ p ∈ Tb, H p.1 = some (.tbl #[])
  dne : ∀ w, w < 2 → b w ≠ bx
section
variable {Tb : List (Addr × Str)} {t g u bx p : Addr} {us : List Str} {b : Nat → Addr} {kv : Nat → Tbl} {bt bt' : Tbl} {ls : List (Addr × List V)} {H H' : Hp} {xs : List V}
theorem Lw.exS (L : Lw Tb t g u bx us b kv bt ls H) (T' : Stt H' t g) (v : ExS t g H H') : Lw Tb t g u bx us b kv bt ls H' := by
  have nl : ∀ {c : Addr} {o : HO}, (∀ xs, o ≠ .lst xs) → H c = some o → H' c = some o := fun n e => v _ _ (stt_ne L.T e n).1 (stt_ne L.T e n).2 e
  have nd := L.nd
  simp only [List.nodup_cons, List.mem_cons, List.mem_map, not_or, not_exists, not_and] at nd
  obtain ⟨⟨_, a1, a2⟩, ⟨b1, b2⟩, _⟩ := nd
  exact ⟨T', nl (fun _ z => by cases z) L.hb, v _ _ (fun z => a1 z.symm) (fun z => b1 z.symm) L.hu, fun w h => nl (fun _ z => by cases z) (L.hd w h), fun p m => v _ _ (a2 p m) (b2 p m) (L.hl p m), L.nd, fun p m => nl (fun _ z => by cases z) (L.hT p m), L.dne⟩
theorem Lw.same (L : Lw Tb t g u bx us b kv bt ls H) (s : Same H H') : Lw Tb t g u bx us b kv bt ls H' := L.exS (L.T.same s) (Same.exS s)
theorem Lw.addX (L : Lw Tb t g u bx us b kv bt ls H) (n : H p = none) (T' : Stt H' t g) (v : ExS t g H H') (r : H' p = some (.lst xs)) : Lw Tb t g u bx us b kv bt ((p, xs) :: ls) H' := by
  have L' := L.exS T' v
  obtain ⟨pt, pg⟩ := L.T.ne n
  have pu : p ≠ u := fun e => by rw [e, L.hu] at n; cases n
  have pl : ∀ q ∈ ls, p ≠ q.1 := fun q m e => by rw [e, L.hl q m] at n; cases n
  refine { L' with hl := fun q m => ?_, nd := ?_ }
  · rcases List.mem_cons.mp m with rfl | m
    · exact r
    · exact L'.hl q m
  · have nd := L.nd
    simp only [List.map_cons, List.nodup_cons, List.mem_cons, List.mem_map, not_or, not_exists, not_and] at nd ⊢
    obtain ⟨⟨a, b, c⟩, ⟨d, e⟩, f, g⟩ := nd
    exact ⟨⟨a, b, fun z => pt z.symm, c⟩, ⟨d, fun z => pg z.symm, e⟩, ⟨fun z => pu z.symm, f⟩, fun q m z => pl q m z.symm, g⟩
theorem Lw.add (L : Lw Tb t g u bx us b kv bt ls H) (n : H p = none) (s : Same H H') (r : H' p = some (.lst xs)) : Lw Tb t g u bx us b kv bt ((p, xs) :: ls) H' := L.addX n (L.T.same s) (Same.exS s) r
theorem Lw.put (L : Lw Tb t g u bx us b kv bt ls H) (bt' : Tbl) : Lw Tb t g u bx us b kv bt' ls (upd H bx (.dK bt')) := by
  obtain ⟨_, gs, c, k, sd, e1, e2, _⟩ := id L.T
  have ne : ∀ {b : Addr} {o : HO}, (∀ k, o ≠ .dK k) → H b = some o → upd H bx (.dK bt') b = some o := fun n e => by
    rw [upd_ne (fun z => by rw [z, L.hb] at e; exact n _ (Option.some.inj e).symm)]
    exact e
  exact ⟨L.T.upd (fun z => by have := L.hb; rw [z, e1] at this; cases this) (fun z => by have := L.hb; rw [z, e2] at this; cases this), upd_same, ne (fun _ z => by cases z) L.hu, fun w h => by rw [upd_ne (L.dne w h)]; exact L.hd w h, fun p m => ne (fun _ z => by cases z) (L.hl p m), L.nd, fun p m => ne (fun _ z => by cases z) (L.hT p m), L.dne⟩
end
def spLaw (K : PySem.W.Frag) (T : List (Addr × Str)) : Sp := fun vs H Q _ => ∃ (a : Addr) (ns : List Int), vs = [.ref a] ∧ SqL K H a (ns.map V.int) ∧ ns.length ≤ 63 ∧ (∀ p ∈ T, H p.1 = some (.tbl #[])) ∧ ∀ H', Q (.bl true) H'
theorem RT.of_room {A : Around} (r : Room 219 A) : RT (6 * 9 + 3) A := ⟨r.hd, by have := r.dp; omega, by have := r.un; omega⟩
def spDownN (base : Heap) (mg : Str → Option Value) (B : List (Addr × Str)) (S L C Kc CF : Addr) : Sp := fun vs H Q E => ∃ n, n ≤ 9 ∧ spDown base mg B S L C Kc CF n vs H Q E
theorem ok_l_downN (T : Txt K mg) {cE PE2 : Addr} {B : List (Addr × Str)} (hcE : T.d_l_enter.d.code = .ref cE) (TBE : LamX.TabB base mg cE PE2) (hPE : (PE2, qE) ∈ B) : FnT P w K mg base (L2.CX P w) (6 * 9 + 3) T.d_l_down.a T.d_l_down.d nDo (fun _ _ => spDownN base mg B T.e_Scope.C T.e_Layer.C T.e_Env.C T.e_Kept.C T.c_Failed.C) :=
  ⟨fun o s vs H Q E ⟨n, _, h⟩ => (ok_l_down (P := P) (w := w) T hcE TBE hPE n).len o s vs H Q E h, fun A o s H ar us vs Q E r e b v ⟨n, hn, h⟩ => (ok_l_down (P := P) (w := w) T hcE TBE hPE n).run A o s H ar us vs Q E (r.mono (by omega)) e b v h⟩
theorem ok_law (T : Txt K mg) {cE PE2 : Addr} {Tb : List (Addr × Str)}
    (hcE : T.d_l_enter.d.code = .ref cE) (TBE : LamX.TabB base mg cE PE2) (hmE : (PE2, qE) ∈ Tb) (huE : ∀ p ∈ Tb, p.1 = PE2 → p.2 = qE) : FnOk P w K mg base CX0 220 T.d_law.a T.d_law.d ["_law_script"] (spLaw K Tb) := by
  obtain ⟨B, hB⟩ : ∃ B : List (Addr × Str), B = [(PE2, qE)] := ⟨_, rfl⟩
  have hdn := ok_l_downN (P := P) (w := w) T (B := B) hcE TBE (by rw [hB]; simp)
  refine T.d_law.F.ok sc_law (fun vs H Q E h => ?_) (fun cdv A outer s H vs Q E hr h => ?_)
  · obtain ⟨a, _, rfl, _⟩ := h
    rfl
  · obtain ⟨a, ns, rfl, hs, hl, hT, q⟩ := h
    have hu := hr.units
    have hrt := RT.of_room hr
    refine ⟨_, (pss_cons (ps_set (i := 1) sc_law.nd rfl (Or.inr rfl) (pe_call (ok_l_state T) (hr.mono (by decide)) (by rfl) T.d_l_state.g T.d_l_state.F.kp T.d_l_state.b .nil pass0 (pa_cons (pv 0) pa_nil)))
      (pss_cons (ps_set (i := 2) sc_law.nd rfl (Or.inl rfl) (pe_call (ok_l_names T) (hr.mono (by decide)) (by rfl) T.d_l_names.g T.d_l_names.F.kp T.d_l_names.b .nil pass0 (pa_cons (pv 1) (pa_cons (pe_op op_add pe_int (pe_call (ok_l_draw T) (hr.mono (by decide)) (by rfl) T.d_l_draw.g T.d_l_draw.F.kp T.d_l_draw.b .nil pass0 (pa_cons (pv 1) (pa_cons pe_int pa_nil)))) pa_nil))))
      (pss_cons (ps_set (i := 3) sc_law.nd rfl (Or.inr rfl) (pe_lst (pa_cons pe_dnewK (pa_cons pe_dnewK pa_nil))))
      (pss_cons (ps_for PassesOwn.never rfl (pi_list (pv 2)) (pg_name (i := 4) sc_law.nd rfl (Or.inr rfl)) (pss_one (ps_set (i := 3) sc_law.nd rfl (Or.inr rfl) (pe_lc (own := [("_law_table", 5)]) (g := gName 5) (tt := tYes) (by rfl) sc_law.nd (pi_list (pv 3)) (blkOk_by (own := [("_law_table", 5)]) (N := ["_law_script", "_law_state_here", "_law_names_here", "_law_base", "_law_name_here", "_law_table", "_law_engines", "_law_k", "_law_box", "_law_places"]) (sc := defScope s_law) (by decide +kernel)) (fun _ _ _ _ _ => pg_name (i := 5) sc_law.nd rfl (Or.inl rfl)) (fun _ _ _ _ _ => pts_nil) (fun _ _ _ _ _ => (pe_call (ok_l_over T) (hr.mono (by decide)) (by rfl) T.d_l_over.g T.d_l_over.F.kp T.d_l_over.b .nil pass0 (pa_cons (pv 5) (pa_cons (pe_disp (pps_cons (pv 4) (pe_call (ok_l_value T) (hr.mono (by decide)) (by rfl) T.d_l_value.g T.d_l_value.F.kp T.d_l_value.b .nil pass0 (pa_cons (pv 1) pa_nil)) pps_nil) (by rfl) (by rfl) (fun z => by cases z) (by decide)) pa_nil))))))))
      (pss_cons (ps_set (i := 6) sc_law.nd rfl (Or.inr rfl) (pe_lc (own := [("_law_k", 7)]) (g := gName 7) (tt := tYes) (by rfl) sc_law.nd (pi_range1 (by rfl) T.z_range (pa_cons pe_int pa_nil)) (blkOk_by (own := [("_law_k", 7)]) (N := ["_law_script", "_law_state_here", "_law_names_here", "_law_base", "_law_name_here", "_law_table", "_law_engines", "_law_k", "_law_box", "_law_places"]) (sc := defScope s_law) (by decide +kernel)) (fun _ _ _ _ _ => pg_name (i := 7) sc_law.nd rfl (Or.inl rfl)) (fun _ _ _ _ _ => pts_nil) (fun _ _ _ _ _ => (pe_ix ixB_list (pe_lst (pa_cons pe_str (pa_cons pe_str pa_nil))) (pe_call (ok_l_draw T) (hr.mono (by decide)) (by rfl) T.d_l_draw.g T.d_l_draw.F.kp T.d_l_draw.b .nil pass0 (pa_cons (pv 1) (pa_cons pe_int pa_nil))) (fun _ _ => rfl)))))
      (pss_cons (ps_set (i := 8) sc_law.nd rfl (Or.inl rfl) (pe_disp (pps_cons pe_str (pv 1) (pps_cons pe_str (pv 2) (pps_cons pe_str (pv 3) (pps_cons pe_str (pv 6) (pps_cons pe_str (pe_lst pa_nil) (pps_cons pe_str (pe_lst pa_nil) (pps_cons pe_str (pe_lst pa_nil) pps_nil))))))) (by rfl) (by rfl) (fun z => by cases z) (by decide)))
      (pss_cons (ps_dput (hu_of hr) (pv 8) pe_str (pe_lc (own := [("_law_k", 7)]) (g := gName 7) (tt := tYes) (by rfl) sc_law.nd (pi_range1 (by rfl) T.z_range (pa_cons pe_int pa_nil)) (blkOk_by (own := [("_law_k", 7)]) (N := ["_law_script", "_law_state_here", "_law_names_here", "_law_base", "_law_name_here", "_law_table", "_law_engines", "_law_k", "_law_box", "_law_places"]) (sc := defScope s_law) (by decide +kernel)) (fun _ _ _ _ _ => pg_name (i := 7) sc_law.nd rfl (Or.inl rfl)) (fun _ _ _ _ _ => pts_nil) (fun _ _ _ _ _ => (pe_make ⟨T.e_Scope.mks, T.i_Scope_init.at_, T.i_Scope_init.fn, T.e_Scope.kp⟩ (ok_Scope_init T) (hr.mono (by decide)) (by rfl) T.e_Scope.m T.i_Scope_init.b .nil pass0 (pa_cons (pe_callTy call_dictD (by rfl) T.z_dict (by decide +kernel) (pa_cons (pe_ix ixB_list (pv 3) (pv 7) (fun _ _ => rfl)) pa_nil)) (pa_cons (pe_ix ixB_list (pv 6) (pv 7) (fun _ _ => rfl)) pa_nil))))) rfl)
      (pss_cons (ps_for PassesOwn.never rfl (pi_range1 (by rfl) T.z_range (pa_cons (pe_op op_add pe_int (pe_call (ok_l_draw T) (hr.mono (by decide)) (by rfl) T.d_l_draw.g T.d_l_draw.F.kp T.d_l_draw.b .nil pass0 (pa_cons (pv 1) (pa_cons pe_int pa_nil)))) pa_nil)) (pg_name (i := 7) sc_law.nd rfl (Or.inl rfl)) (pss_cons (ps_dput (hu_of hr) (pv 8) pe_str (pe_op op_add pe_int (pe_call (ok_l_draw T) (hr.mono (by decide)) (by rfl) T.d_l_draw.g T.d_l_draw.F.kp T.d_l_draw.b .nil pass0 (pa_cons (pv 1) (pa_cons pe_int pa_nil)))) rfl)
      (pss_cons (ps_dput (hu_of hr) (pv 8) pe_str (pe_call (ok_l_draw T) (hr.mono (by decide)) (by rfl) T.d_l_draw.g T.d_l_draw.F.kp T.d_l_draw.b .nil pass0 (pa_cons (pv 1) (pa_cons (pe_dget (hu_of hr) (pv 8) pe_str (fun _ _ => rfl)) pa_nil))) rfl)
      (pss_cons (ps_dput (hu_of hr) (pv 8) pe_str (pe_call (ok_l_draw T) (hr.mono (by decide)) (by rfl) T.d_l_draw.g T.d_l_draw.F.kp T.d_l_draw.b .nil pass0 (pa_cons (pv 1) (pa_cons pe_int pa_nil))) rfl)
      (pss_cons (ps_dput (hu_of hr) (pv 8) pe_str (pe_lst pa_nil) rfl)
      (pss_cons (ps_set (i := 9) sc_law.nd rfl (Or.inl rfl) (pe_lst (pa_cons (pe_tup (pa_cons (pe_ix ix_list (pv 3) pe_int (fun _ _ => rfl)) (pa_cons pe_int pa_nil))) (pa_cons (pe_tup (pa_cons (pe_ix ix_list (pv 3) pe_int (fun _ _ => rfl)) (pa_cons pe_int pa_nil))) pa_nil))))
      (pss_cons (ps_expr (pe_fnT (spA := fun _ => spDownN base mg B T.e_Scope.C T.e_Layer.C T.e_Env.C T.e_Kept.C T.c_Failed.C) hdn hrt (by rfl) T.d_l_down.g T.d_l_down.F.kp T.d_l_down.b passL (fun _ _ _ _ _ _ _ h => h) (pa_cons (pv 8) (pa_cons (pv 9) (pa_cons pe_int pa_nil)))))
      (pss_one (ps_if (pt_not (pt_val (pe_call (ok_l_shows T (B := B)) (hr.mono (by decide)) (by rfl) T.d_l_shows.g T.d_l_shows.F.kp T.d_l_shows.b .nil pass0 (pa_cons (pv 8) (pa_cons (pv 9) pa_nil))))) (pss_one (ps_ret pe_bl)) pss_nil)))))))))
      (pss_one (ps_ret (pe_cmpR (op_eqNil hu) (pe_dget (hu_of hr) (pv 8) pe_str (fun _ _ => rfl)) (pe_lst pa_nil) (nomark _)))))))))))), ?_⟩
    (try simp only [tIxO, rIsB, rNotB, tSeq, tIfS, tTest, tB, tOp, tUn, tVar, tC, tAsg, gName, tRet, tRetN, tCB, tCons, tNil, tLst_eq, tTup_eq, tDNewK_eq, tNext, tPar, tM0, tM1, tSl, tNoPart, tPart, rSlS, tAug, tAugS, tExf_eq, ipI, tChain, tCall, tDrop, tBM, tAnd, tOr, tNot, tAndV, tOrV, tNotV, tIf, tIsN, tNotN, rI, rI0, rU, rEq, rNe, gSub, cx_K, cx_K2, L2.start, wipe, scal_ii, scal_ss, scal_bb, scal_is, scal_si, scal_nn, List.map_cons, List.map_nil, List.length_cons, List.length_nil, List.cons_append, List.nil_append, List.append_nil, List.replicate, List.getElem?_cons_zero, List.getElem?_cons_succ, Option.some.injEq, exists_and_left, exists_eq_left', exists_eq_left, exists_eq, exists_eq', V.int.injEq, V.ref.injEq, V.str.injEq, V.bl.injEq, List.cons.injEq, and_true, true_and, false_and, exists_false, or_false, false_or, reduceCtorEq, List.set_cons_zero, List.set_cons_succ, Nat.reduceAdd, Nat.reduceSub, Int.reduceToNat, decide_eq_true_eq, if_true, if_false, Bool.false_eq_true, Bool.not_true, Bool.not_false, Bool.true_eq_false, ite_false, ite_true, ne_eq, not_false_eq_true, Int.reduceEq, tFnS, tDGet])
    refine ⟨a, ns, rfl, hs, hl, fun t g H1 nt ng T1 s1 => ?_⟩
    refine drS_go T1 (by decide) (by decide) fun m H2 m0 m1 T2 v2 => ?_
    obtain ⟨m, rfl⟩ := Int.eq_ofNat_of_zero_le m0
    have e1 : (1 : Int) + (m : Int) = ((1 + m : Nat) : Int) := by omega
    refine ⟨_, rfl, ?_⟩
    rw [e1]
    refine ⟨t, g, 1 + m, rfl, T2, by omega, fun u us H3 lus nd ids nu r3 T3 v3 => ?_⟩
    obtain ⟨u1, u2⟩ := T2.ne nu
    have une : us ≠ [] := fun e => by rw [e] at lus; simp at lus; omega
    have lus5 : us.length ≤ 5 := by omega
    have tb_st : ∀ {H H' : Hp}, Stt H t g → ExS t g H H' → (∀ p ∈ Tb, H p.1 = some (.tbl #[])) → ∀ p ∈ Tb, H' p.1 = some (.tbl #[]) := fun ht v h p hp => v _ _ (stt_ne ht (h p hp) (fun _ z => by cases z)).1 (stt_ne ht (h p hp) (fun _ z => by cases z)).2 (h p hp)
    have hT3 := tb_st T2 v3 (tb_st T1 v2 (fun p hp => s1 _ _ (hT p hp)))
    clear v2 v3 s1 T1 T2 nu nt ng hs hT lus m0 m1 e1
    refine newD_go fun d0 HA nA sA rA => newD_go fun d1 HB nB sB' rB => newL_go fun bl HC nC sC rC => ?_
    have sAC := (sA.trans sB').trans sC
    have blne := (T3.same (sA.trans sB')).ne nC
    have blu : bl ≠ u := fun e => by have z := sB' _ _ (sA _ _ r3); rw [← e, nC] at z; cases z
    refine forL_go (K := K) (xs := us.map V.str) (fun i σ' H' => ∃ (bl : Addr) (b : Nat → Addr) (kv : Nat → Tbl) (o4 o5 : Option V), H' bl = some (.lst [.ref (b 0), .ref (b 1)]) ∧ (∀ w, w < 2 → H' (b w) = some (.dK (kv w)) ∧ (kv w).map (·.1) = (us.take i).map Sum.inr ∧ TOk (kv w)) ∧ (bl ≠ t ∧ bl ≠ g ∧ bl ≠ u) ∧ Stt H' t g ∧ ExS t g H3 H' ∧ σ' = [some (.ref a), some (.ref t), some (.ref u), some (.ref bl), o4, o5, none, none, none, none]) (fun Q q => ⟨_, rfl, q⟩) (fun i σ' H' _ p => ?_) ⟨bl, fun w => if w = 0 then d0 else d1, fun _ => [], _, _, rC, fun w hw => ?_, ⟨blne.1, blne.2, blu⟩, T3.same sAC, Same.exS sAC, rfl⟩ (fun i x σ' H' hx p => ?_) (fun σ' H' p => ?_)
    · obtain ⟨bl, b, kv, o4, o5, _, _, _, _, v, _⟩ := p
      exact .inl (.inl (v _ _ u1 u2 r3))
    · refine ⟨?_, rfl, TOk.nil⟩
      rcases two_cases hw with rfl | rfl
      · exact sC _ _ (sB' _ _ rA)
      · exact sC _ _ rB
    · clear rC nC sC blne blu sAC nA sA rA nB sB' rB
      obtain ⟨bl, b, kv, o4, o5, rbl, hkv, bne, T6, v6, rfl⟩ := p
      rw [List.getElem?_map] at hx
      obtain ⟨y, hy, rfl⟩ := Option.map_eq_some_iff.mp hx
      have hi : i < us.length := (List.getElem?_eq_some_iff.mp hy).1
      have iy := ids y (List.mem_of_getElem? hy)
      (try simp only [tIxO, rIsB, rNotB, tSeq, tIfS, tTest, tB, tOp, tUn, tVar, tC, tAsg, gName, tRet, tRetN, tCB, tCons, tNil, tLst_eq, tTup_eq, tDNewK_eq, tNext, tPar, tM0, tM1, tSl, tNoPart, tPart, rSlS, tAug, tAugS, tExf_eq, ipI, tChain, tCall, tDrop, tBM, tAnd, tOr, tNot, tAndV, tOrV, tNotV, tIf, tIsN, tNotN, rI, rI0, rU, rEq, rNe, gSub, cx_K, cx_K2, L2.start, wipe, scal_ii, scal_ss, scal_bb, scal_is, scal_si, scal_nn, List.map_cons, List.map_nil, List.length_cons, List.length_nil, List.cons_append, List.nil_append, List.append_nil, List.replicate, List.getElem?_cons_zero, List.getElem?_cons_succ, Option.some.injEq, exists_and_left, exists_eq_left', exists_eq_left, exists_eq, exists_eq', V.int.injEq, V.ref.injEq, V.str.injEq, V.bl.injEq, List.cons.injEq, and_true, true_and, false_and, exists_false, or_false, false_or, reduceCtorEq, List.set_cons_zero, List.set_cons_succ, Nat.reduceAdd, Nat.reduceSub, Int.reduceToNat, decide_eq_true_eq, if_true, if_false, Bool.false_eq_true, Bool.not_true, Bool.not_false, Bool.true_eq_false, ite_false, ite_true, ne_eq, not_false_eq_true, Int.reduceEq])
      refine lcI_go (K := K) (xs := [V.ref (b 0), V.ref (b 1)]) (fun D j acc H9 => (∃ (X : Nat → Addr) (KV : Nat → Tbl), acc = (List.range j).map (fun n => V.ref (X n)) ∧ ∀ n, n < j → H9 (X n) = some (.dK (KV n)) ∧ (KV n).map (·.1) = (us.take (i + 1)).map Sum.inr ∧ TOk (KV n)) ∧ Stt H9 t g ∧ ExS t g H' H9 ∧ D ≠ t ∧ D ≠ g ∧ H' D = none) (fun Q q => ⟨_, rfl, q⟩) (.inl (.inl rbl)) (fun D j acc H9 _ p _ => .inl (.inl (p.2.2.1 _ _ bne.1 bne.2.1 rbl))) (fun D H9 nD sD rD => ?_) (fun D j x9 acc H9 hx9 nD hD hl p => ?_) (fun D H9 acc nD hD hl p => ?_)
      · obtain ⟨e1, e2⟩ := T6.ne nD
        exact ⟨⟨fun _ => D, fun _ => [], rfl, fun n h => absurd h (Nat.not_lt_zero n)⟩, T6.same sD, Same.exS sD, e1, e2, nD⟩
      · obtain ⟨⟨X, KV, rfl, hX⟩, T9, v9, dt, dg, nD'⟩ := p
        have hj : j < 2 := (List.getElem?_eq_some_iff.mp hx9).1
        obtain rfl : x9 = V.ref (b j) := by
          rcases two_cases hj with rfl | rfl
          · exact (Option.some.inj hx9).symm
          · exact (Option.some.inj hx9).symm
        obtain ⟨hb, hk, tk⟩ := hkv j hj
        (try simp only [tIxO, rIsB, rNotB, tSeq, tIfS, tTest, tB, tOp, tUn, tVar, tC, tAsg, gName, tRet, tRetN, tCB, tCons, tNil, tLst_eq, tTup_eq, tDNewK_eq, tNext, tPar, tM0, tM1, tSl, tNoPart, tPart, rSlS, tAug, tAugS, tExf_eq, ipI, tChain, tCall, tDrop, tBM, tAnd, tOr, tNot, tAndV, tOrV, tNotV, tIf, tIsN, tNotN, rI, rI0, rU, rEq, rNe, gSub, cx_K, cx_K2, L2.start, wipe, scal_ii, scal_ss, scal_bb, scal_is, scal_si, scal_nn, List.map_cons, List.map_nil, List.length_cons, List.length_nil, List.cons_append, List.nil_append, List.append_nil, List.replicate, List.getElem?_cons_zero, List.getElem?_cons_succ, Option.some.injEq, exists_and_left, exists_eq_left', exists_eq_left, exists_eq, exists_eq', V.int.injEq, V.ref.injEq, V.str.injEq, V.bl.injEq, List.cons.injEq, and_true, true_and, false_and, exists_false, or_false, false_or, reduceCtorEq, List.set_cons_zero, List.set_cons_succ, Nat.reduceAdd, Nat.reduceSub, Int.reduceToNat, decide_eq_true_eq, if_true, if_false, Bool.false_eq_true, Bool.not_true, Bool.not_false, Bool.true_eq_false, ite_false, ite_true, ne_eq, not_false_eq_true, Int.reduceEq])
        unfold tDisp
        intro pz nz
        (try simp only [tIxO, rIsB, rNotB, tSeq, tIfS, tTest, tB, tOp, tUn, tVar, tC, tAsg, gName, tRet, tRetN, tCB, tCons, tNil, tLst_eq, tTup_eq, tDNewK_eq, tNext, tPar, tM0, tM1, tSl, tNoPart, tPart, rSlS, tAug, tAugS, tExf_eq, ipI, tChain, tCall, tDrop, tBM, tAnd, tOr, tNot, tAndV, tOrV, tNotV, tIf, tIsN, tNotN, rI, rI0, rU, rEq, rNe, gSub, cx_K, cx_K2, L2.start, wipe, scal_ii, scal_ss, scal_bb, scal_is, scal_si, scal_nn, List.map_cons, List.map_nil, List.length_cons, List.length_nil, List.cons_append, List.nil_append, List.append_nil, List.replicate, List.getElem?_cons_zero, List.getElem?_cons_succ, Option.some.injEq, exists_and_left, exists_eq_left', exists_eq_left, exists_eq, exists_eq', V.int.injEq, V.ref.injEq, V.str.injEq, V.bl.injEq, List.cons.injEq, and_true, true_and, false_and, exists_false, or_false, false_or, reduceCtorEq, List.set_cons_zero, List.set_cons_succ, Nat.reduceAdd, Nat.reduceSub, Int.reduceToNat, decide_eq_true_eq, if_true, if_false, Bool.false_eq_true, Bool.not_true, Bool.not_false, Bool.true_eq_false, ite_false, ite_true, ne_eq, not_false_eq_true, Int.reduceEq, tPairs])
        refine ⟨t, g, rfl, T9.same (same_new nz), fun v H10 ov T10 v10 => ?_⟩
        obtain ⟨z1, z2⟩ := T9.ne nz
        refine ⟨v10 _ _ z1 z2 upd_same, [(.inr y, v)], rfl, (show 1 ≤ 15 by decide), ?_⟩
        rw [show mergeK [] [((Sum.inr y : Key), v)] = [(Sum.inr y, v)] from rfl]
        have h9 := dk_exS hb T6 v9
        have h10 := dk_exS (same_new (o := .dK []) nz _ _ h9) (T9.same (same_new nz)) v10
        have bz : b j ≠ pz := fun e => by rw [e, nz] at h9; cases h9
        have dz : D ≠ pz := fun e => by rw [e, nz] at hD; cases hD
        have hD10 := v10 _ _ dt dg (same_new (o := .dK []) nz _ _ hD)
        have one : TOk [((Sum.inr y : Key), v)] := TOk.nil.put iy ov
        have lk : (kv j).length ≤ 5 := by
          have e := congrArg List.length hk
          rw [List.length_map, List.length_map] at e
          have := List.length_take_le i us
          omega
        have nk : valV (kv j) (.inr y) = none := new_key hk nd hy
        have ek : mergeK (kv j) [((Sum.inr y : Key), v)] = kv j ++ [(.inr y, v)] := putK_new v nk
        refine ⟨b j, pz, kv j, [(.inr y, v)], rfl, by rw [upd_ne bz]; exact h10, upd_same, one, by show (kv j).length + 1 ≤ 60; omega, fun dd H11 nd11 s11 rd11 => ?_⟩
        have TE : Stt (upd H10 pz (.dK [((Sum.inr y : Key), v)])) t g := T10.upd z1 z2
        have vE : ExS t g H9 (upd H10 pz (.dK [((Sum.inr y : Key), v)])) := ((Same.exS (same_new nz)).trans v10).upd nz
        have hDE : upd H10 pz (.dK [((Sum.inr y : Key), v)]) D = some (.lst ((List.range j).map fun n => V.ref (X n))) := by rw [upd_ne dz]; exact hD10
        have hD11 := s11 _ _ hDE
        have ddD : dd ≠ D := fun e => by rw [e, hDE] at nd11; cases nd11
        refine ⟨_, hD11, ?_, _, upd_same, ?_, ⟨setN X j dd, range_set, setN KV j (mergeK (kv j) [((Sum.inr y : Key), v)]), fun n hn => ?_⟩, (TE.same s11).upd dt dg, ((v9.trans vE).same s11).upd nD', dt, dg, nD'⟩
        · refine Nat.lt_of_le_of_lt (show _ ≤ 19 from ?_) (by decide)
          rw [List.length_map, List.length_range]
          omega
        · rw [List.length_append, List.length_map, List.length_range]
          exact Nat.le_refl _
        · by_cases z : n = j
          · subst z
            rw [setN_same, setN_same, upd_ne ddD]
            refine ⟨rd11, ?_, ?_⟩
            · rw [ek, List.map_append, hk, List.take_add_one, hy, List.map_append]
              rfl
            · exact tk.put iy ov
          · rw [setN_ne z, setN_ne z]
            obtain ⟨q1, q2, q3⟩ := hX n (by omega)
            refine ⟨?_, q2, q3⟩
            have q4 := s11 _ _ (dk_exS q1 T9 vE)
            rw [upd_ne (fun e => by rw [e, hD11] at q4; cases q4)]
            exact q4
      · obtain ⟨⟨X, KV, rfl, hX⟩, T9, v9, dt, dg, nD'⟩ := p
        exact ⟨D, X, hD, KV, hX, ⟨dt, dg, fun e => by have z := v6 _ _ u1 u2 r3; rw [← e, nD'] at z; cases z⟩, T9, v6.trans v9, rfl⟩
    clear rC nC sC blne blu sAC nA sA rA nB sB' rB
    obtain ⟨bl, b, kv, o4, o5, rbl, hkv, bne, T6, v6, rfl⟩ := p
    have hT6 := tb_st T3 v6 hT3
    have ru6 := v6 _ _ u1 u2 r3
    have hk7 : ∀ w, w < 2 → (kv w).map (·.1) = us.map Sum.inr ∧ TOk (kv w) := fun w hw => by
      obtain ⟨_, q2, q3⟩ := hkv w hw
      rw [List.length_map, List.take_length] at q2
      exact ⟨q2, q3⟩
    have hd6 : ∀ w, w < 2 → H' (b w) = some (.dK (kv w)) := fun w hw => (hkv w hw).1
    clear hT3 T3 r3 v6 hkv tb_st
    (try simp only [tIxO, rIsB, rNotB, tSeq, tIfS, tTest, tB, tOp, tUn, tVar, tC, tAsg, gName, tRet, tRetN, tCB, tCons, tNil, tLst_eq, tTup_eq, tDNewK_eq, tNext, tPar, tM0, tM1, tSl, tNoPart, tPart, rSlS, tAug, tAugS, tExf_eq, ipI, tChain, tCall, tDrop, tBM, tAnd, tOr, tNot, tAndV, tOrV, tNotV, tIf, tIsN, tNotN, rI, rI0, rU, rEq, rNe, gSub, cx_K, cx_K2, L2.start, wipe, scal_ii, scal_ss, scal_bb, scal_is, scal_si, scal_nn, List.map_cons, List.map_nil, List.length_cons, List.length_nil, List.cons_append, List.nil_append, List.append_nil, List.replicate, List.getElem?_cons_zero, List.getElem?_cons_succ, Option.some.injEq, exists_and_left, exists_eq_left', exists_eq_left, exists_eq, exists_eq', V.int.injEq, V.ref.injEq, V.str.injEq, V.bl.injEq, List.cons.injEq, and_true, true_and, false_and, exists_false, or_false, false_or, reduceCtorEq, List.set_cons_zero, List.set_cons_succ, Nat.reduceAdd, Nat.reduceSub, Int.reduceToNat, decide_eq_true_eq, if_true, if_false, Bool.false_eq_true, Bool.not_true, Bool.not_false, Bool.true_eq_false, ite_false, ite_true, ne_eq, not_false_eq_true, Int.reduceEq])
    refine lcRI_go (Cond := fun n H8 => n = 2 ∧ H8 = H') (fun n D i acc H8 => (∃ ms : List Str, acc = ms.map V.str ∧ ms.length = i ∧ ∀ m ∈ ms, m = "chain" ∨ m = "cells") ∧ n = 2 ∧ Stt H8 t g ∧ ExS t g H' H8 ∧ D ≠ t ∧ D ≠ g ∧ H' D = none) (fun R r => ?_) (fun n H8 z => by omega) (fun n H8 D H9 z nD sD rD => ?_) (fun n D i acc H8 hi big hD hl p => ?_) (fun n el H8 acc hel hl p => ?_)
    · (try simp only [tIxO, rIsB, rNotB, tSeq, tIfS, tTest, tB, tOp, tUn, tVar, tC, tAsg, gName, tRet, tRetN, tCB, tCons, tNil, tLst_eq, tTup_eq, tDNewK_eq, tNext, tPar, tM0, tM1, tSl, tNoPart, tPart, rSlS, tAug, tAugS, tExf_eq, ipI, tChain, tCall, tDrop, tBM, tAnd, tOr, tNot, tAndV, tOrV, tNotV, tIf, tIsN, tNotN, rI, rI0, rU, rEq, rNe, gSub, cx_K, cx_K2, L2.start, wipe, scal_ii, scal_ss, scal_bb, scal_is, scal_si, scal_nn, List.map_cons, List.map_nil, List.length_cons, List.length_nil, List.cons_append, List.nil_append, List.append_nil, List.replicate, List.getElem?_cons_zero, List.getElem?_cons_succ, Option.some.injEq, exists_and_left, exists_eq_left', exists_eq_left, exists_eq, exists_eq', V.int.injEq, V.ref.injEq, V.str.injEq, V.bl.injEq, List.cons.injEq, and_true, true_and, false_and, exists_false, or_false, false_or, reduceCtorEq, List.set_cons_zero, List.set_cons_succ, Nat.reduceAdd, Nat.reduceSub, Int.reduceToNat, decide_eq_true_eq, if_true, if_false, Bool.false_eq_true, Bool.not_true, Bool.not_false, Bool.true_eq_false, ite_false, ite_true, ne_eq, not_false_eq_true, Int.reduceEq])
      exact r 2 _ ⟨rfl, rfl⟩
    · obtain ⟨rfl, rfl⟩ := z
      obtain ⟨e1, e2⟩ := T6.ne nD
      exact ⟨⟨[], rfl, rfl, by simp⟩, rfl, T6.same sD, Same.exS sD, e1, e2, nD⟩
    · obtain ⟨⟨ms, rfl, lm, am⟩, rfl, T8, v8, dt, dg, nD⟩ := p
      (try simp only [tIxO, rIsB, rNotB, tSeq, tIfS, tTest, tB, tOp, tUn, tVar, tC, tAsg, gName, tRet, tRetN, tCB, tCons, tNil, tLst_eq, tTup_eq, tDNewK_eq, tNext, tPar, tM0, tM1, tSl, tNoPart, tPart, rSlS, tAug, tAugS, tExf_eq, ipI, tChain, tCall, tDrop, tBM, tAnd, tOr, tNot, tAndV, tOrV, tNotV, tIf, tIsN, tNotN, rI, rI0, rU, rEq, rNe, gSub, cx_K, cx_K2, L2.start, wipe, scal_ii, scal_ss, scal_bb, scal_is, scal_si, scal_nn, List.map_cons, List.map_nil, List.length_cons, List.length_nil, List.cons_append, List.nil_append, List.append_nil, List.replicate, List.getElem?_cons_zero, List.getElem?_cons_succ, Option.some.injEq, exists_and_left, exists_eq_left', exists_eq_left, exists_eq, exists_eq', V.int.injEq, V.ref.injEq, V.str.injEq, V.bl.injEq, List.cons.injEq, and_true, true_and, false_and, exists_false, or_false, false_or, reduceCtorEq, List.set_cons_zero, List.set_cons_succ, Nat.reduceAdd, Nat.reduceSub, Int.reduceToNat, decide_eq_true_eq, if_true, if_false, Bool.false_eq_true, Bool.not_true, Bool.not_false, Bool.true_eq_false, ite_false, ite_true, ne_eq, not_false_eq_true, Int.reduceEq])
      refine newL_go fun l8 H9 nl8 s8 rl8 => ?_
      obtain ⟨l1, l2⟩ := T8.ne nl8
      refine drS_go (T8.same s8) (by decide) (by decide) fun way HG w0 w1 TG vG => ?_
      obtain ⟨m, mm, em⟩ := atI_ex (l := (["chain", "cells"] : List Str)) w0 w1
      refine ixM_go (vG _ _ l1 l2 rl8) (atI_map (f := V.str) em) ?_
      have hm : m = "chain" ∨ m = "cells" := by simpa using mm
      have hDG := vG _ _ dt dg (s8 _ _ hD)
      refine ⟨_, hDG, ?_, _, upd_same, ?_, ⟨ms ++ [m], by rw [List.map_append]; rfl, by rw [List.length_append, lm]; rfl, fun z mz => ?_⟩, rfl, TG.upd dt dg, (v8.trans ((Same.exS s8).trans vG)).upd nD, dt, dg, nD⟩
      · exact Nat.lt_of_le_of_lt (show _ ≤ 19 by rw [List.length_map]; omega) (by decide)
      · rw [List.length_append]
        exact Nat.succ_le_succ hl
      · rcases List.mem_append.mp mz with q9 | q9
        · exact am z q9
        · obtain rfl := List.mem_singleton.mp q9
          exact hm
    obtain ⟨⟨ms, rfl, lm, am⟩, rfl, T8, v8, et, eg, nel⟩ := p
    obtain ⟨M, hM2, rfl⟩ : ∃ M : Nat → Str, (∀ w, w < 2 → M w = "chain" ∨ M w = "cells") ∧ ms = [M 0, M 1] := by
      match ms, lm, am with
      | [a0, a1], _, am => exact ⟨fun w => if w = 0 then a0 else a1, fun w hw => by
          rcases two_cases hw with rfl | rfl
          · exact am a0 (by simp)
          · exact am a1 (by simp), rfl⟩
    (try simp only [tIxO, rIsB, rNotB, tSeq, tIfS, tTest, tB, tOp, tUn, tVar, tC, tAsg, gName, tRet, tRetN, tCB, tCons, tNil, tLst_eq, tTup_eq, tDNewK_eq, tNext, tPar, tM0, tM1, tSl, tNoPart, tPart, rSlS, tAug, tAugS, tExf_eq, ipI, tChain, tCall, tDrop, tBM, tAnd, tOr, tNot, tAndV, tOrV, tNotV, tIf, tIsN, tNotN, rI, rI0, rU, rEq, rNe, gSub, cx_K, cx_K2, L2.start, wipe, scal_ii, scal_ss, scal_bb, scal_is, scal_si, scal_nn, List.map_cons, List.map_nil, List.length_cons, List.length_nil, List.cons_append, List.nil_append, List.append_nil, List.replicate, List.getElem?_cons_zero, List.getElem?_cons_succ, Option.some.injEq, exists_and_left, exists_eq_left', exists_eq_left, exists_eq, exists_eq', V.int.injEq, V.ref.injEq, V.str.injEq, V.bl.injEq, List.cons.injEq, and_true, true_and, false_and, exists_false, or_false, false_or, reduceCtorEq, List.set_cons_zero, List.set_cons_succ, Nat.reduceAdd, Nat.reduceSub, Int.reduceToNat, decide_eq_true_eq, if_true, if_false, Bool.false_eq_true, Bool.not_true, Bool.not_false, Bool.true_eq_false, ite_false, ite_true, ne_eq, not_false_eq_true, Int.reduceEq])
    unfold tDisp
    intro bx nbx
    (try simp only [tIxO, rIsB, rNotB, tSeq, tIfS, tTest, tB, tOp, tUn, tVar, tC, tAsg, gName, tRet, tRetN, tCB, tCons, tNil, tLst_eq, tTup_eq, tDNewK_eq, tNext, tPar, tM0, tM1, tSl, tNoPart, tPart, rSlS, tAug, tAugS, tExf_eq, ipI, tChain, tCall, tDrop, tBM, tAnd, tOr, tNot, tAndV, tOrV, tNotV, tIf, tIsN, tNotN, rI, rI0, rU, rEq, rNe, gSub, cx_K, cx_K2, L2.start, wipe, scal_ii, scal_ss, scal_bb, scal_is, scal_si, scal_nn, List.map_cons, List.map_nil, List.length_cons, List.length_nil, List.cons_append, List.nil_append, List.append_nil, List.replicate, List.getElem?_cons_zero, List.getElem?_cons_succ, Option.some.injEq, exists_and_left, exists_eq_left', exists_eq_left, exists_eq, exists_eq', V.int.injEq, V.ref.injEq, V.str.injEq, V.bl.injEq, List.cons.injEq, and_true, true_and, false_and, exists_false, or_false, false_or, reduceCtorEq, List.set_cons_zero, List.set_cons_succ, Nat.reduceAdd, Nat.reduceSub, Int.reduceToNat, decide_eq_true_eq, if_true, if_false, Bool.false_eq_true, Bool.not_true, Bool.not_false, Bool.true_eq_false, ite_false, ite_true, ne_eq, not_false_eq_true, Int.reduceEq, tPairs])
    have bne8 := T8.ne nbx
    have sE : Same H8 (upd H8 bx (.dK [])) := same_new nbx
    have hd8 : ∀ w, w < 2 → H8 (b w) = some (.dK (kv w)) := fun w hw => dk_exS (hd6 w hw) T6 v8
    have ru8 := v8 _ _ u1 u2 ru6
    have rbl8 := v8 _ _ bne.1 bne.2.1 rbl
    have hT8 : ∀ p ∈ Tb, H8 p.1 = some (.tbl #[]) := fun p hp => v8 _ _ (stt_ne T6 (hT6 p hp) (fun _ z => by cases z)).1 (stt_ne T6 (hT6 p hp) (fun _ z => by cases z)).2 (hT6 p hp)
    have elu : el ≠ u := fun z => by rw [z, ru6] at nel; cases nel
    have elb : el ≠ bl := fun z => by rw [z, rbl] at nel; cases nel
    have L0 : Lw Tb t g u bx us b kv [] [(el, [V.str (M 0), .str (M 1)]), (bl, [V.ref (b 0), .ref (b 1)])] (upd H8 bx (.dK [])) := ⟨T8.same sE, upd_same, sE _ _ ru8, fun w h => sE _ _ (hd8 w h), fun p m => by
      simp at m
      rcases m with rfl | rfl
      · exact sE _ _ hel
      · exact sE _ _ rbl8, by
      simp
      exact ⟨⟨fun e => T8.1 e.symm, fun e => u1 e.symm, fun e => et e.symm, fun e => bne.1 e.symm⟩, ⟨fun e => u2 e.symm, fun e => eg e.symm, fun e => bne.2.1 e.symm⟩, ⟨fun e => elu e.symm, fun e => bne.2.2 e.symm⟩, elb⟩, fun p hp => sE _ _ (hT8 p hp), fun w h z => by
      have y := hd8 w h
      rw [z, nbx] at y
      cases y⟩
    clear hel hl hd8 ru8 rbl8 hT8 elu elb hT6 ru6 hd6 T6 rbl bne v8 T8 nel et eg sE
    refine newL_go fun kl HA nA sA rA => newL_go fun dl HB nB sB rB => newL_go fun wl HC nC sC rC => ?_
    have LC := ((L0.add nA sA rA).add nB sB rB).add nC sC rC
    clear L0 sA rA nA sB rB nB sC rC nC nbx
    refine ⟨LC.hb, box7 t u bl el kl dl wl, rfl, (show 7 ≤ 15 by decide), ?_⟩
    rw [show mergeK [] (box7 t u bl el kl dl wl) = box7 t u bl el kl dl wl from rfl]
    have LD := LC.put (box7 t u bl el kl dl wl)
    clear LC
    generalize upd HC bx (.dK (box7 t u bl el kl dl wl)) = HD at LD ⊢
    (try simp only [tIxO, rIsB, rNotB, tSeq, tIfS, tTest, tB, tOp, tUn, tVar, tC, tAsg, gName, tRet, tRetN, tCB, tCons, tNil, tLst_eq, tTup_eq, tDNewK_eq, tNext, tPar, tM0, tM1, tSl, tNoPart, tPart, rSlS, tAug, tAugS, tExf_eq, ipI, tChain, tCall, tDrop, tBM, tAnd, tOr, tNot, tAndV, tOrV, tNotV, tIf, tIsN, tNotN, rI, rI0, rU, rEq, rNe, gSub, cx_K, cx_K2, L2.start, wipe, scal_ii, scal_ss, scal_bb, scal_is, scal_si, scal_nn, List.map_cons, List.map_nil, List.length_cons, List.length_nil, List.cons_append, List.nil_append, List.append_nil, List.replicate, List.getElem?_cons_zero, List.getElem?_cons_succ, Option.some.injEq, exists_and_left, exists_eq_left', exists_eq_left, exists_eq, exists_eq', V.int.injEq, V.ref.injEq, V.str.injEq, V.bl.injEq, List.cons.injEq, and_true, true_and, false_and, exists_false, or_false, false_or, reduceCtorEq, List.set_cons_zero, List.set_cons_succ, Nat.reduceAdd, Nat.reduceSub, Int.reduceToNat, decide_eq_true_eq, if_true, if_false, Bool.false_eq_true, Bool.not_true, Bool.not_false, Bool.true_eq_false, ite_false, ite_true, ne_eq, not_false_eq_true, Int.reduceEq, sDPut])
    have lst : ∀ {p : Addr} {xs : List V}, (p, xs) ∈ [(wl, []), (dl, []), (kl, []), (el, [V.str (M 0), .str (M 1)]), (bl, [V.ref (b 0), .ref (b 1)])] → HD p = some (.lst xs) := fun m => LD.hl _ m
    have nd8 := LD.nd
    simp at nd8
    obtain ⟨⟨a1, a2, a3, a4, a5, a6, a7⟩, ⟨b1, b2, b3, b4, b5, b6⟩, ⟨c1, c2, c3, c4, c5⟩, ⟨d1', d2', d3', d4'⟩, ⟨f1, f2, f3⟩, ⟨h1, h2⟩, i1⟩ := nd8
    refine lcRI_go (Cond := fun n H8 => n = 2 ∧ H8 = HD) (fun n D j acc H9 => ScL T.e_Scope.C T.e_Layer.C kv M H9 acc j ∧ n = 2 ∧ Stt H9 t g ∧ ExS t g HD H9 ∧ D ≠ t ∧ D ≠ g ∧ HD D = none) (fun R r => ?_) (fun n H8 z => by omega) (fun n H8 D H9 z nD sD rD => ?_) (fun n D j acc H9 hj big hD9 hl p => ?_) (fun n sl H9 acc hsl hl p => ?_)
    · (try simp only [tIxO, rIsB, rNotB, tSeq, tIfS, tTest, tB, tOp, tUn, tVar, tC, tAsg, gName, tRet, tRetN, tCB, tCons, tNil, tLst_eq, tTup_eq, tDNewK_eq, tNext, tPar, tM0, tM1, tSl, tNoPart, tPart, rSlS, tAug, tAugS, tExf_eq, ipI, tChain, tCall, tDrop, tBM, tAnd, tOr, tNot, tAndV, tOrV, tNotV, tIf, tIsN, tNotN, rI, rI0, rU, rEq, rNe, gSub, cx_K, cx_K2, L2.start, wipe, scal_ii, scal_ss, scal_bb, scal_is, scal_si, scal_nn, List.map_cons, List.map_nil, List.length_cons, List.length_nil, List.cons_append, List.nil_append, List.append_nil, List.replicate, List.getElem?_cons_zero, List.getElem?_cons_succ, Option.some.injEq, exists_and_left, exists_eq_left', exists_eq_left, exists_eq, exists_eq', V.int.injEq, V.ref.injEq, V.str.injEq, V.bl.injEq, List.cons.injEq, and_true, true_and, false_and, exists_false, or_false, false_or, reduceCtorEq, List.set_cons_zero, List.set_cons_succ, Nat.reduceAdd, Nat.reduceSub, Int.reduceToNat, decide_eq_true_eq, if_true, if_false, Bool.false_eq_true, Bool.not_true, Bool.not_false, Bool.true_eq_false, ite_false, ite_true, ne_eq, not_false_eq_true, Int.reduceEq])
      exact r 2 _ ⟨rfl, rfl⟩
    · obtain ⟨rfl, rfl⟩ := z
      obtain ⟨e1, e2⟩ := LD.T.ne nD
      exact ⟨⟨fun _ => D, fun _ => D, fun _ => [], rfl, fun n h => absurd h (Nat.not_lt_zero n), fun h => by cases h⟩, rfl, LD.T.same sD, Same.exS sD, e1, e2, nD⟩
    · obtain ⟨hL, rfl, T9, v9, dt, dg, nD'⟩ := p
      obtain ⟨hk, tk⟩ := hk7 j hj
      have lk : (kv j).length ≤ 5 := by
        have e := congrArg List.length hk
        rw [List.length_map, List.length_map] at e
        omega
      have hbj := dk_exS (LD.hd j hj) LD.T v9
      have hbl9 := v9 _ _ (fun z => a7 z.symm) (fun z => b6 z.symm) (lst (p := bl) (xs := [V.ref (b 0), .ref (b 1)]) (by simp))
      have hel9 := v9 _ _ (fun z => a6 z.symm) (fun z => b5 z.symm) (lst (p := el) (xs := [V.str (M 0), .str (M 1)]) (by simp))
      (try simp only [tIxO, rIsB, rNotB, tSeq, tIfS, tTest, tB, tOp, tUn, tVar, tC, tAsg, gName, tRet, tRetN, tCB, tCons, tNil, tLst_eq, tTup_eq, tDNewK_eq, tNext, tPar, tM0, tM1, tSl, tNoPart, tPart, rSlS, tAug, tAugS, tExf_eq, ipI, tChain, tCall, tDrop, tBM, tAnd, tOr, tNot, tAndV, tOrV, tNotV, tIf, tIsN, tNotN, rI, rI0, rU, rEq, rNe, gSub, cx_K, cx_K2, L2.start, wipe, scal_ii, scal_ss, scal_bb, scal_is, scal_si, scal_nn, List.map_cons, List.map_nil, List.length_cons, List.length_nil, List.cons_append, List.nil_append, List.append_nil, List.replicate, List.getElem?_cons_zero, List.getElem?_cons_succ, Option.some.injEq, exists_and_left, exists_eq_left', exists_eq_left, exists_eq, exists_eq', V.int.injEq, V.ref.injEq, V.str.injEq, V.bl.injEq, List.cons.injEq, and_true, true_and, false_and, exists_false, or_false, false_or, reduceCtorEq, List.set_cons_zero, List.set_cons_succ, Nat.reduceAdd, Nat.reduceSub, Int.reduceToNat, decide_eq_true_eq, if_true, if_false, Bool.false_eq_true, Bool.not_true, Bool.not_false, Bool.true_eq_false, ite_false, ite_true, ne_eq, not_false_eq_true, Int.reduceEq, tMake])
      refine ixM_go hbl9 (two_at (f := fun w => V.ref (b w)) hj) ⟨b j, rfl, kv j, .inl hbj, fun p8 n8 => ixM_go (same_new n8 _ _ hel9) (two_at (f := fun w => V.str (M w)) hj) ?_⟩
      refine mkS_go ⟨.inr upd_same, tk, by omega⟩ (hM2 j hj) fun x r sB dx dr de HE sE nx hsB nr nde hr' hd' hx => ?_
      have s9E : Same H9 HE := (same_new n8).trans sE
      have TE := T9.same s9E
      have hDE := s9E _ _ hD9
      have root : Lay T.e_Layer.C r HE r [sB] := ⟨dr, de, hd', .inl ⟨rfl, rfl, hr'⟩⟩
      have tsB := hsB.tok tk
      have sc0 : ScpOk T.e_Scope.C T.e_Layer.C HE x r r r 0 (M j) [] sB := ⟨⟨dx, hx⟩, root, root, ⟨[sB], root, by simpa using tsB⟩, tsB, by simp⟩
      have nx9 := same_none (same_new n8) nx
      refine ⟨_, hDE, ?_, _, upd_same, ?_, hL.add T9 (Same.exS s9E) sc0 hsB nx9 hDE, rfl, TE.upd dt dg, (v9.trans (Same.exS s9E)).upd nD', dt, dg, nD'⟩
      · exact Nat.lt_of_le_of_lt (show _ ≤ 19 by omega) (by decide)
      · rw [List.length_append]
        exact Nat.succ_le_succ hl
    obtain ⟨⟨X, R, SB, rfl, hS, h2x⟩, rfl, T9, v9, slt, slg, nsl'⟩ := p
    have hsr : ∀ w, w < 2 → Srt (kv w) (SB w) := fun w hw => (hS w hw).2
    have hsl2 : H9 sl = some (.lst [.ref (X 0), .ref (X 1)]) := hsl
    have x01 := h2x rfl
    have L9 := LD.addX nsl' T9 v9 hsl2
    clear LD lst a1 a2 a3 a4 a5 a6 a7 b1 b2 b3 b4 b5 b6 c1 c2 c3 c4 c5 d1' d2' d3' d4' f1 f2 f3 h1 h2 i1
    refine ⟨_, DPut.k (k := Sum.inr "scopes") L9.hb (show 7 < _ by decide), ?_⟩
    rw [show putK (box7 t u bl el kl dl wl) (Sum.inr "scopes" : Key) (.ref sl) = box8 t u bl el kl dl wl sl from rfl]
    (try simp only [tIxO, rIsB, rNotB, tSeq, tIfS, tTest, tB, tOp, tUn, tVar, tC, tAsg, gName, tRet, tRetN, tCB, tCons, tNil, tLst_eq, tTup_eq, tDNewK_eq, tNext, tPar, tM0, tM1, tSl, tNoPart, tPart, rSlS, tAug, tAugS, tExf_eq, ipI, tChain, tCall, tDrop, tBM, tAnd, tOr, tNot, tAndV, tOrV, tNotV, tIf, tIsN, tNotN, rI, rI0, rU, rEq, rNe, gSub, cx_K, cx_K2, L2.start, wipe, scal_ii, scal_ss, scal_bb, scal_is, scal_si, scal_nn, List.map_cons, List.map_nil, List.length_cons, List.length_nil, List.cons_append, List.nil_append, List.append_nil, List.replicate, List.getElem?_cons_zero, List.getElem?_cons_succ, Option.some.injEq, exists_and_left, exists_eq_left', exists_eq_left, exists_eq, exists_eq', V.int.injEq, V.ref.injEq, V.str.injEq, V.bl.injEq, List.cons.injEq, and_true, true_and, false_and, exists_false, or_false, false_or, reduceCtorEq, List.set_cons_zero, List.set_cons_succ, Nat.reduceAdd, Nat.reduceSub, Int.reduceToNat, decide_eq_true_eq, if_true, if_false, Bool.false_eq_true, Bool.not_true, Bool.not_false, Bool.true_eq_false, ite_false, ite_true, ne_eq, not_false_eq_true, Int.reduceEq])
    have hS10 : ∀ w, w < 2 → ScpOk T.e_Scope.C T.e_Layer.C (upd H9 bx (.dK (box8 t u bl el kl dl wl sl))) (X w) (R w) (R w) (R w) 0 (M w) [] (SB w) := fun w hw => (hS w hw).1.box7 L9.hb box7_not
    have L10 := L9.put (box8 t u bl el kl dl wl sl)
    clear hsl hsl2 hS T9 v9 L9 nsl' h2x slt slg hl
    generalize upd H9 bx (.dK (box8 t u bl el kl dl wl sl)) = H10 at L10 hS10 ⊢
    have nams : ∀ w, w < 2 → names (kv w) = us := fun w hw => by
      have e : names (kv w) = ((kv w).map (·.1)).map txt := by
        unfold names
        rw [List.map_map]
        rfl
      rw [e, (hk7 w hw).1, List.map_map]
      exact List.map_id us
    have hasW : ∀ w, w < 2 → ∀ y ∈ us, (valV (SB w) (.inr y)).isSome = true := fun w hw y my => by
      rw [(hsr w hw).eqv (hk7 w hw).2]
      exact valV_key.mpr (by rw [(hk7 w hw).1]; exact List.mem_map.mpr ⟨y, my, rfl⟩)
    have Ck : Cst (⟨t, g, bx, u, bl, el, sl, wl, kl, b, X, R, M, us, SB, kv⟩ : Ct) := ⟨lus5, une, nd, ids, hasW, fun w hw => by
      obtain ⟨ys, py, so, e⟩ := (hsr w hw).ex
      have e4 : names (SB w) = ys := by
        rw [e]
        unfold names byN
        rw [List.map_map]
        exact List.map_id _
      show (names (SB w)).Perm us
      rw [e4]
      exact py.trans (by rw [nams w hw]), fun w hw => (hsr w hw).tok (hk7 w hw).2, fun w hw => ⟨(hk7 w hw).2, fun p mp => by
      have z : p.1 ∈ (kv w).map (·.1) := List.mem_map.mpr ⟨p, mp, rfl⟩
      rw [(hk7 w hw).1] at z
      obtain ⟨y, my, e⟩ := List.mem_map.mp z
      exact ⟨y, my, e.symm⟩, fun y => by
      show valV (kv w) (.inr y) = (match valV (SB w) (.inr y) with | some v => some v | none => none)
      rw [(hsr w hw).eqv (hk7 w hw).2]
      cases valV (kv w) (Sum.inr y : Key) <;> rfl⟩, x01⟩
    have TW10 : TW base mg B H10 := by
      rw [hB]
      refine tw_start (fun p hp => ?_) (fun p hp => ?_) (fun p hp p' hp' e => ?_)
      · obtain rfl := List.mem_singleton.mp hp
        exact L10.hT _ hmE
      · obtain rfl := List.mem_singleton.mp hp
        exact ⟨TBE.gP, TBE.bm⟩
      · rw [List.mem_singleton.mp hp, List.mem_singleton.mp hp']
    have R0 : ∃ c : Ct, c.t = t ∧ c.g = g ∧ c.bx = bx ∧ c.bl = bl ∧ BtOk c (box8 t u bl el kl dl wl sl) ∧ Rd base mg B T.e_Scope.C T.e_Layer.C T.e_Env.C T.e_Kept.C c R dl ⟨0, 0, 0⟩ [] [] (box8 t u bl el kl dl wl sl) H10 := by
      have L11 := L10.put (boxT (⟨t, g, bx, u, bl, el, sl, wl, kl, b, X, R, M, us, SB, kv⟩ : Ct) dl ⟨0, 0, 0⟩)
      have lst : ∀ {p : Addr} {xs : List V}, (p, xs) ∈ [(sl, [V.ref (X 0), .ref (X 1)]), (wl, []), (dl, []), (kl, []), (el, [V.str (M 0), .str (M 1)]), (bl, [V.ref (b 0), .ref (b 1)])] → _ = some (HO.lst xs) := fun m => L11.hl _ m
      have nd8 := L11.nd
      simp at nd8
      obtain ⟨⟨a1, a2, a3, a4, a5, a6, a7, a8⟩, ⟨b1, b2, b3, b4, b5, b6, b7⟩, ⟨c1, c2, c3, c4, c5, c6⟩, ⟨d1', d2', d3', d4', d5'⟩, ⟨f1, f2, f3, f4⟩, ⟨h1, h2, h3⟩, ⟨i1, i2⟩, j1⟩ := nd8
      refine ⟨⟨t, g, bx, u, bl, el, sl, wl, kl, b, X, R, M, us, SB, kv⟩, rfl, rfl, rfl, rfl, ⟨(show 8 ≤ 11 by omega), rfl, fun _ => rfl, fun _ _ _ => ⟨(show 9 ≤ 11 by omega), (show 10 ≤ 11 by omega), (show 11 ≤ 11 by omega)⟩, fun _ _ _ _ => rfl⟩, L10.hb, ⟨L11.T, TW10.keep (keepT_upd L10.hb (.inr (.inr ⟨_, rfl⟩))), upd_same, L11.hu, lst (by simp), L11.hd, lst (by simp), lst (by simp), lst (by simp), lst (by simp), fun _ z => (by cases z), lst (by simp), ?_⟩, fun w hw => ⟨R w, 0, (hS10 w hw).box7 L10.hb box8_not⟩, Ck⟩
      simp
      exact ⟨⟨a1, a2, a8, a3, a4, a6, a5, a7⟩, ⟨b1, b7, b2, b3, b5, b4, b6⟩, ⟨c6, c1, c2, c4, c3, c5⟩, ⟨fun z => d5' z.symm, fun z => f4 z.symm, fun z => i2 z.symm, fun z => h3 z.symm, fun z => j1 z.symm⟩, ⟨d1', d3', d2', d4'⟩, ⟨f2, f1, f3⟩, ⟨fun z => h1 z.symm, i1⟩, h2⟩
    clear L10 hS10 TW10 Ck hasW nams x01 hsr hk7
    obtain ⟨c, rfl, rfl, rfl, rfl, bt0, R0⟩ := R0
    refine forC_go (Cond := fun n H1 => n ≤ 8 ∧ Rd base mg B T.e_Scope.C T.e_Layer.C T.e_Env.C T.e_Kept.C c R dl ⟨0, 0, 0⟩ [] [] (box8 c.t u c.bl el kl dl wl sl) H1) (fun R r => ?_) (fun n H1 z => by omega) (fun n i σ' H' => n ≤ 8 ∧ ∃ (dl' : Addr) (rw' : Rw) (ks : List KI) (ds : List Addr) (bt : Tbl) (o7 o9 : Option V), Rd base mg B T.e_Scope.C T.e_Layer.C T.e_Env.C T.e_Kept.C c R dl' rw' ks ds bt H' ∧ BtOk c bt ∧ ks.length ≤ 9 * i ∧ σ' = [some (.ref a), some (.ref c.t), some (.ref u), some (.ref c.bl), o4, o5, some (.ref el), o7, some (.ref c.bx), o9]) (fun n H1 z => ⟨z.1, dl, _, [], [], _, _, _, z.2, bt0, Nat.zero_le _, rfl⟩) (fun n i σ' H' hi pp => ?_) (fun n σ' H' pp => ?_)
    · (try simp only [tIxO, rIsB, rNotB, tSeq, tIfS, tTest, tB, tOp, tUn, tVar, tC, tAsg, gName, tRet, tRetN, tCB, tCons, tNil, tLst_eq, tTup_eq, tDNewK_eq, tNext, tPar, tM0, tM1, tSl, tNoPart, tPart, rSlS, tAug, tAugS, tExf_eq, ipI, tChain, tCall, tDrop, tBM, tAnd, tOr, tNot, tAndV, tOrV, tNotV, tIf, tIsN, tNotN, rI, rI0, rU, rEq, rNe, gSub, cx_K, cx_K2, L2.start, wipe, scal_ii, scal_ss, scal_bb, scal_is, scal_si, scal_nn, List.map_cons, List.map_nil, List.length_cons, List.length_nil, List.cons_append, List.nil_append, List.append_nil, List.replicate, List.getElem?_cons_zero, List.getElem?_cons_succ, Option.some.injEq, exists_and_left, exists_eq_left', exists_eq_left, exists_eq, exists_eq', V.int.injEq, V.ref.injEq, V.str.injEq, V.bl.injEq, List.cons.injEq, and_true, true_and, false_and, exists_false, or_false, false_or, reduceCtorEq, List.set_cons_zero, List.set_cons_succ, Nat.reduceAdd, Nat.reduceSub, Int.reduceToNat, decide_eq_true_eq, if_true, if_false, Bool.false_eq_true, Bool.not_true, Bool.not_false, Bool.true_eq_false, ite_false, ite_true, ne_eq, not_false_eq_true, Int.reduceEq])
      refine drS_go R0.T (by decide) (by decide) fun m8 H11 e0 e1 T1 v1 => ?_
      obtain ⟨m8, rfl⟩ := Int.eq_ofNat_of_zero_le e0
      refine ⟨_, rfl, ?_⟩
      have ee : (1 : Int) + (m8 : Int) = ((1 + m8 : Nat) : Int) := by omega
      rw [ee]
      exact r _ _ ⟨by omega, R0.exS T1 v1⟩
    · obtain ⟨n8, dl', rw', ks, ds, bt, o7, o9, Z, ok, few, rfl⟩ := pp
      clear R0 bt0
      (try simp only [tIxO, rIsB, rNotB, tSeq, tIfS, tTest, tB, tOp, tUn, tVar, tC, tAsg, gName, tRet, tRetN, tCB, tCons, tNil, tLst_eq, tTup_eq, tDNewK_eq, tNext, tPar, tM0, tM1, tSl, tNoPart, tPart, rSlS, tAug, tAugS, tExf_eq, ipI, tChain, tCall, tDrop, tBM, tAnd, tOr, tNot, tAndV, tOrV, tNotV, tIf, tIsN, tNotN, rI, rI0, rU, rEq, rNe, gSub, cx_K, cx_K2, L2.start, wipe, scal_ii, scal_ss, scal_bb, scal_is, scal_si, scal_nn, List.map_cons, List.map_nil, List.length_cons, List.length_nil, List.cons_append, List.nil_append, List.append_nil, List.replicate, List.getElem?_cons_zero, List.getElem?_cons_succ, Option.some.injEq, exists_and_left, exists_eq_left', exists_eq_left, exists_eq, exists_eq', V.int.injEq, V.ref.injEq, V.str.injEq, V.bl.injEq, List.cons.injEq, and_true, true_and, false_and, exists_false, or_false, false_or, reduceCtorEq, List.set_cons_zero, List.set_cons_succ, Nat.reduceAdd, Nat.reduceSub, Int.reduceToNat, decide_eq_true_eq, if_true, if_false, Bool.false_eq_true, Bool.not_true, Bool.not_false, Bool.true_eq_false, ite_false, ite_true, ne_eq, not_false_eq_true, Int.reduceEq, tFnS, tDGet, sDPut])
      refine drS_go Z.T (by decide) (by decide) fun x1 H11 e0 e1 T1 v1 => ?_
      obtain ⟨x1, rfl⟩ := Int.eq_ofNat_of_zero_le e0
      have ee : (1 : Int) + (x1 : Int) = ((1 + x1 : Nat) : Int) := by omega
      refine ⟨_, rfl, ?_⟩
      rw [ee]
      obtain ⟨bo, hbo⟩ : ∃ bo : Nat, bo = 1 + x1 := ⟨_, rfl⟩
      rw [← hbo]
      have Z1 := Z.exS T1 v1
      refine ⟨_, DPut.k (k := Sum.inr "bottom") Z1.hb (Nat.lt_of_le_of_lt ok.len (by decide)), ?_⟩
      have Z2 := Z1.put (putK bt (Sum.inr "bottom") (.int bo))
      clear Z Z1 T1 v1
      generalize upd H11 c.bx (.dK (putK bt (Sum.inr "bottom") (.int bo))) = H12 at Z2 ⊢
      obtain ⟨ln1, ln2, ln3⟩ := ok.ln (.int bo) (.int 0) (.int 0)
      have gb := DGet.k (k := Sum.inr "bottom") Z2.hb
      rw [ok.gb] at gb
      refine ⟨_, gb, drS_go Z2.T (by omega) (by rw [Int.natAbs_natCast]; exact Nat.lt_of_le_of_lt (show bo ≤ 9 by omega) (by decide)) fun x2 H13 e2 e3 T3 v3 => ?_⟩
      obtain ⟨tp, rfl⟩ := Int.eq_ofNat_of_zero_le e2
      have Z3 := Z2.exS T3 v3
      refine ⟨_, DPut.k (k := Sum.inr "top") Z3.hb (Nat.lt_of_le_of_lt (ok.ln (.int bo) (.int tp) (.int 0)).1 (by decide)), ?_⟩
      have Z4 := Z3.put (putK (putK bt (Sum.inr "bottom") (.int bo)) (Sum.inr "top") (.int tp))
      clear Z2 Z3 T3 v3 gb
      generalize upd H13 c.bx (.dK (putK (putK bt (Sum.inr "bottom") (.int bo)) (Sum.inr "top") (.int tp))) = H14 at Z4 ⊢
      refine drS_go Z4.T (by decide) (by decide) fun x3 H15 e4 e5 T5 v5 => ?_
      obtain ⟨wy, rfl⟩ := Int.eq_ofNat_of_zero_le e4
      have Z5 := Z4.exS T5 v5
      refine ⟨_, DPut.k (k := Sum.inr "way") Z5.hb (Nat.lt_of_le_of_lt (ok.ln (.int bo) (.int tp) (.int wy)).2.1 (by decide)), ?_⟩
      have Z6 := Z5.put (putK (putK (putK bt (Sum.inr "bottom") (.int bo)) (Sum.inr "top") (.int tp)) (Sum.inr "way") (.int wy))
      clear Z4 Z5 T5 v5
      generalize upd H15 c.bx (.dK (putK (putK (putK bt (Sum.inr "bottom") (.int bo)) (Sum.inr "top") (.int tp)) (Sum.inr "way") (.int wy))) = H16 at Z6 ⊢
      refine newL_go fun dn H17 nd17 s17 r17 => ?_
      have Z7 := Z6.same s17
      refine ⟨_, DPut.k (k := Sum.inr "due") Z7.hb (Nat.lt_of_le_of_lt (ok.ln (.int bo) (.int tp) (.int wy)).2.2 (by decide)), ?_⟩
      rw [ok.pb bo tp wy dn]
      obtain ⟨W, S⟩ := Z6.go s17 nd17 r17 ⟨bo, tp, wy⟩
      have Ck := Z6.ck
      clear Z6 Z7 s17 nd17 r17 ok
      generalize upd H17 c.bx (.dK (boxT c dn ⟨bo, tp, wy⟩)) = H18 at W S ⊢
      refine ixM_go W.hbl (two_at (f := fun w => V.ref (c.b w)) (w := 0) (by omega)) (newT_go fun q0 HF nq0 sF rq0 => ixM_go (sF _ _ W.hbl) (two_at (f := fun w => V.ref (c.b w)) (w := 1) (by omega)) (newT_go fun q1 HG nq1 sG rq1 => newL_go fun pl HH npl sH rpl => ?_))
      have sA := (sF.trans sG).trans sH
      have pnz : pl ∉ Zw c dn := W.notZ S.hx (same_none (sF.trans sG) npl)
      have GW0 : GW base mg B T.e_Scope.C T.e_Layer.C T.e_Env.C T.e_Kept.C c R (fun _ => []) HH pl (fun w => if w = 0 then q0 else q1) c.b c.kv dn ⟨bo, tp, wy⟩ ks [] := ⟨W.same Ck S.hx sA, S.same sA, Ck, ⟨rpl, fun w hw => by
        rcases two_cases hw with rfl | rfl
        · exact sH _ _ (sG _ _ rq0)
        · exact sH _ _ rq1, fun w hw => sA _ _ (W.hb w hw)⟩, pnz, Ck.ev⟩
      have hi8 : i < 8 := by omega
      refine ⟨bo, by omega, c, R, fun _ => [], pl, _, c.b, c.kv, dn, ⟨bo, tp, wy⟩, ks, [], 0, rfl, GW0, ⟨(Nat.zero_add _).symm, by show tp < bo; omega, by show wy ≤ 2; omega, by omega, by show 0 + bo ≤ 100; omega⟩, fun _ H9 ks9 ds9 P9 => ?_, fun z => absurd z (Nat.not_lt_zero _)⟩
      refine ⟨c, R, fun _ => [], pl, _, c.b, c.kv, dn, ⟨bo, tp, wy⟩, ks9, ds9, rfl, GW0.after P9, fun HZ DZ GZ => ⟨_, rfl, ?_⟩⟩
      rw [if_neg (by simp)]
      have := P9.few
      exact ⟨n8, dn, _, ks9, ds9, _, Rd.of GZ.wo GZ.sc Ck, BtOk.t, by omega⟩
    · obtain ⟨n8, dl', rw', ks, ds, bt, o7, o9, Z, ok, few, rfl⟩ := pp
      (try simp only [tIxO, rIsB, rNotB, tSeq, tIfS, tTest, tB, tOp, tUn, tVar, tC, tAsg, gName, tRet, tRetN, tCB, tCons, tNil, tLst_eq, tTup_eq, tDNewK_eq, tNext, tPar, tM0, tM1, tSl, tNoPart, tPart, rSlS, tAug, tAugS, tExf_eq, ipI, tChain, tCall, tDrop, tBM, tAnd, tOr, tNot, tAndV, tOrV, tNotV, tIf, tIsN, tNotN, rI, rI0, rU, rEq, rNe, gSub, cx_K, cx_K2, L2.start, wipe, scal_ii, scal_ss, scal_bb, scal_is, scal_si, scal_nn, List.map_cons, List.map_nil, List.length_cons, List.length_nil, List.cons_append, List.nil_append, List.append_nil, List.replicate, List.getElem?_cons_zero, List.getElem?_cons_succ, Option.some.injEq, exists_and_left, exists_eq_left', exists_eq_left, exists_eq, exists_eq', V.int.injEq, V.ref.injEq, V.str.injEq, V.bl.injEq, List.cons.injEq, and_true, true_and, false_and, exists_false, or_false, false_or, reduceCtorEq, List.set_cons_zero, List.set_cons_succ, Nat.reduceAdd, Nat.reduceSub, Int.reduceToNat, decide_eq_true_eq, if_true, if_false, Bool.false_eq_true, Bool.not_true, Bool.not_false, Bool.true_eq_false, ite_false, ite_true, ne_eq, not_false_eq_true, Int.reduceEq, tDGet])
      have g := DGet.k (k := Sum.inr "wrong") Z.hb
      rw [ok.wr] at g
      exact ⟨_, g, newL_go fun e H10 ne s10 r10 => ⟨c.wl, e, _, rfl, rfl, .inl (.inl (s10 _ _ Z.hwl)), .inl (.inl r10), q _⟩⟩

end
end Own

set_option Elab.async false
set_option linter.all false
set_option maxRecDepth 100000
set_option maxHeartbeats 4000000
namespace Own
open PySem PySem.Spec PyProof.Rows L2
def fn0 : List He.DefD := mtD "Env" "__init__" "Env.__init__" s_Env_init [He.Dv.non] :: mtD "Layer" "__init__" "Layer.__init__" s_Layer_init [] :: mtD "Scope" "__init__" "Scope.__init__" s_Scope_init [He.Dv.str "chain"] :: mtD "Scope" "during" "Scope.during" s_Scope_during [] :: mtD "Scope" "apart" "Scope.apart" s_Scope_apart [] :: mtD "Scope" "look" "Scope.look" s_Scope_look [] :: mtD "Scope" "__getitem__" "Scope.__getitem__" s_Scope_getitem [] :: mtD "Scope" "__contains__" "Scope.__contains__" s_Scope_contains [] :: mtD "Scope" "keep" "Scope.keep" s_Scope_keep [He.Dv.adr (He.dflAt ("Scope", some "keep") 0)] :: mtD "Scope" "use" "Scope.use" s_Scope_use [] :: mtD "Scope" "_own" "Scope._own" s_Scope_own [] :: mtD "Scope" "_binder" "Scope._binder" s_Scope_binder [] :: mtD "Kept" "__init__" "Kept.__init__" s_Kept_init [] :: mtD "Kept" "__call__" "Kept.__call__" s_Kept_call [He.Dv.non] :: dfD "is_word" s_is_word :: dfD "is_ident" s_is_ident :: dfD "checked" s_checked :: dfD "_is_value" s_is_value :: dfD "_way" s_way :: dfD "_law_state" s_l_state :: dfD "_law_draw" s_l_draw :: dfD "_law_kept_words" s_l_kept_words :: dfD "_law_name" s_l_name :: dfD "_law_names" s_l_names :: dfD "_law_value" s_l_value :: dfD "_law_over" s_l_over :: dfD "_law_bindings" s_l_bindings :: dfD "_law_raise" s_l_raise :: dfD "_law_caught" s_l_caught :: dfD "_law_shows" s_l_shows :: dfD "_law_enter" s_l_enter :: dfD "_law_moved" s_l_moved :: dfD "_law_down" s_l_down :: dfD "law" s_law :: []
def chk0 (K : PySem.W.Frag) : Bool := exG K && (c0B K "Failed" && (clsB K "Env" && ((He.Fa.meth "Env" "__init__").ok K && (clsB K "Layer" && ((He.Fa.meth "Layer" "__init__").ok K && (clsB K "Scope" && ((He.Fa.meth "Scope" "__init__").ok K && ((He.Fa.meth "Scope" "during").ok K && ((He.Fa.meth "Scope" "apart").ok K && ((He.Fa.meth "Scope" "look").ok K && ((He.Fa.meth "Scope" "__getitem__").ok K && ((He.Fa.meth "Scope" "__contains__").ok K && ((He.Fa.meth "Scope" "keep").ok K && ((He.Fa.meth "Scope" "use").ok K && ((He.Fa.meth "Scope" "_own").ok K && ((He.Fa.meth "Scope" "_binder").ok K && (clsB K "Kept" && ((He.Fa.meth "Kept" "__init__").ok K && ((He.Fa.meth "Kept" "__call__").ok K && ((He.Fa.noat "Env" "table").ok K && ((He.Fa.noat "Layer" "table").ok K && ((He.Fa.noat "Layer" "parent").ok K && ((He.Fa.noat "Layer" "level").ok K && ((He.Fa.noat "Scope" "root").ok K && ((He.Fa.noat "Scope" "layer").ok K && ((He.Fa.noat "Scope" "stand").ok K && ((He.Fa.noat "Scope" "taken").ok K && ((He.Fa.noat "Scope" "mode").ok K && ((He.Fa.noat "Kept" "action").ok K && ((He.Fa.noat "Kept" "record").ok K && ((He.Fa.noat "Kept" "home").ok K && (inB K "Scope" && (getB K "Scope" && (callCB K "Kept" && (eqpB K "Scope" && (eqpB K "Layer" && ((He.Fa.glo "is_word").ok K && ((He.Fa.glo "is_ident").ok K && ((He.Fa.glo "checked").ok K && ((He.Fa.glo "_is_value").ok K && ((He.Fa.glo "_way").ok K && ((He.Fa.glo "_law_state").ok K && ((He.Fa.glo "_law_draw").ok K && ((He.Fa.glo "_law_kept_words").ok K && ((He.Fa.glo "_law_name").ok K && ((He.Fa.glo "_law_names").ok K && ((He.Fa.glo "_law_value").ok K && ((He.Fa.glo "_law_over").ok K && ((He.Fa.glo "_law_bindings").ok K && ((He.Fa.glo "_law_raise").ok K && ((He.Fa.glo "_law_caught").ok K && ((He.Fa.glo "_law_shows").ok K && ((He.Fa.glo "_law_enter").ok K && ((He.Fa.glo "_law_moved").ok K && ((He.Fa.glo "_law_down").ok K && ((He.Fa.glo "law").ok K && ((He.Fa.free "abs").ok K && ((He.Fa.free "isinstance").ok K && ((He.Fa.free "dict").ok K && ((He.Fa.free "list").ok K && ((He.Fa.free "sorted").ok K && ((He.Fa.free "all").ok K && ((He.Fa.free "sum").ok K && ((He.Fa.free "range").ok K && ((He.Fa.free "len").ok K && ((He.Fa.free "int").ok K && ((He.Fa.free "str").ok K && ((He.Fa.free "bool").ok K && ((He.Fa.free "tuple").ok K && ((He.Fa.free "KeyError").ok K && ((He.Fa.free "ZeroDivisionError").ok K && ((He.Fa.str "LETTERS" lettersS).ok K && ((He.Fa.str "DIGITS" digitsS).ok K && ((He.Fa.int "LONGEST_WORD" (12)).ok K && ((He.Fa.glo "KEPT_WORDS").ok K && (He.tupB K "KEPT_WORDS" (keptW.map He.Dv.str) && ((He.Fa.int "LIMIT_ROOT" (limitI)).ok K && ((He.Fa.glo "ENGINES").ok K && (He.tupB K "ENGINES" ((["chain", "cells"] : List Str).map He.Dv.str) && (decide (PySem.W.exmOne K (.type "KeyError") (.type "KeyError") = some true) && (decide (PySem.W.exmOne K (.ref (He.ga K "Failed")) (.type "KeyError") = some false) && (decide (PySem.W.exmOne K (.type "ZeroDivisionError") (.type "KeyError") = some false) && (decide (PySem.W.exmOne K (.ref (He.ga K "Failed")) (.ref (He.ga K "Failed")) = some true) && (decide (PySem.W.exmOne K (.type "ZeroDivisionError") (.ref (He.ga K "Failed")) = some false) && (decide (PySem.W.exmOne K (.type "ZeroDivisionError") (.type "ZeroDivisionError") = some true) && (decide (PySem.W.kitOne K (.type "dict") (.ref (He.ga K "Env")) = some false) && (decide (PySem.W.kitOne K (.type "dict") (.type "dict") = some true) && (decide (PySem.W.kitOne K (.type "str") (.type "str") = some true) && (decide (PySem.W.kitOne K (.type "int") (.type "bool") = some false) && (decide (PySem.W.kitOne K (.type "int") (.type "int") = some true) && (decide (PySem.W.kitOne K (.type "str") (.type "bool") = some false) && (decide (PySem.W.kitOne K (.type "str") (.type "int") = some false) && (decide (PySem.W.kitOne K (.type "int") (.type "str") = some false) && (decide (PySem.W.kitOne K (.type "NoneType") (.type "str") = some false)))))))))))))))))))))))))))))))))))))))))))))))))))))))))))))))))))))))))))))))))))))))))))))))
def tfA : List He.Defn := [("_law_enter", none)]
def prL : List PrD := [⟨"Scope", "depth", "Scope.depth", s_Scope_depth⟩, ⟨"Scope", "engine", "Scope.engine", s_Scope_engine⟩]
def TbOf (K : PySem.W.Frag) : List (Addr × Str) := [((He.cT K ("_law_enter", none)).2, qE)]
def chkA (K : PySem.W.Frag) : Bool := chk0 K
def fnA : List He.DefD := fn0
def namesL : List Str := ("_wall" : Str) :: ("__name__" : Str) :: ("BindspanError" : Str) :: ("BadScope" : Str) :: ("NotBindings" : Str) :: ("BadName" : Str) :: ("BadValue" : Str) :: ("UnknownName" : Str) :: ("NoEngine" : Str) :: ("Failed" : Str) :: ("LETTERS" : Str) :: ("DIGITS" : Str) :: ("LONGEST_WORD" : Str) :: ("KEPT_WORDS" : Str) :: ("is_word" : Str) :: ("is_ident" : Str) :: ("LIMIT_ROOT" : Str) :: ("Env" : Str) :: ("checked" : Str) :: ("_is_value" : Str) :: ("_strings" : Str) :: ("ENGINES" : Str) :: ("Layer" : Str) :: ("Scope" : Str) :: ("Kept" : Str) :: ("_way" : Str) :: ("_law_state" : Str) :: ("_law_draw" : Str) :: ("_law_kept_words" : Str) :: ("_law_name" : Str) :: ("_law_names" : Str) :: ("_law_value" : Str) :: ("_law_over" : Str) :: ("_law_bindings" : Str) :: ("_law_raise" : Str) :: ("_law_caught" : Str) :: ("_law_shows" : Str) :: ("_law_enter" : Str) :: ("_law_moved" : Str) :: ("_law_down" : Str) :: []
abbrev R0 : PySem.W.OpenRow := PySem.W.OpenLaw.row PySem.Challenge.rw_bindspan_k45_whole_put_back
set_option maxHeartbeats 0 in
theorem run0 (w : World) : HandSHeadRun.RunEq R0 (PySem.W.view R0.prog [44]) (hookZ chk0 fn0 tfA prL) (obZ chk0 fn0 tfA prL) 9000 namesL w := by
  intro os
  kernel_rfl
theorem run (w : World) : HandSHeadRun.RunEq R0 (PySem.W.view R0.prog [44]) (hookZ chkA fnA tfA prL) (obZ chkA fnA tfA prL) 9000 namesL w := run0 w
set_option maxHeartbeats 0 in
theorem facts {P : Program} {w : World} {K : PySem.W.Frag} {h : Heap} {mg : Str → Option Value} {fa : Addr} (X : K.In h) (G : h.Ns mainGlobals mg) (hfa : mg "law" = some (.ref fa)) (c : obsN chkA fnA K = He.valD fnA) (pz : PropsZ prL K) :
    ∃ fd : FuncData, (∀ (s : Shared) (v : Value), BindsTo s fd ⟨[v], []⟩ [("_law_script", v)]) ∧ ∀ base : Heap, K.In base → base.Ns mainGlobals mg → (∀ p ∈ tfA, LamX.TabB base mg (He.cT K p).1 (He.cT K p).2) → FnOk P w K mg base CX0 220 fa fd ["_law_script"] (spLaw K (TbOf K)) := by
  have k0 := (saysN_both c).1
  simp only [chkA, chk0, Bool.and_eq_true] at k0
  obtain ⟨eG, h0_Failed, hc_Env, hm_Env_init, hc_Layer, hm_Layer_init, hc_Scope, hm_Scope_init, hm_Scope_during, hm_Scope_apart, hm_Scope_look, hm_Scope_getitem, hm_Scope_contains, hm_Scope_keep, hm_Scope_use, hm_Scope_own, hm_Scope_binder, hc_Kept, hm_Kept_init, hm_Kept_call, ho_n_Env_table, ho_n_Layer_table, ho_n_Layer_parent, ho_n_Layer_level, ho_n_Scope_root, ho_n_Scope_layer, ho_n_Scope_stand, ho_n_Scope_taken, ho_n_Scope_mode, ho_n_Kept_action, ho_n_Kept_record, ho_n_Kept_home, ho_in_Scope, ho_get_Scope, ho_call_Kept, ho_eqp_Scope, ho_eqp_Layer, hg_is_word, hg_is_ident, hg_checked, hg_is_value, hg_way, hg_l_state, hg_l_draw, hg_l_kept_words, hg_l_name, hg_l_names, hg_l_value, hg_l_over, hg_l_bindings, hg_l_raise, hg_l_caught, hg_l_shows, hg_l_enter, hg_l_moved, hg_l_down, hg_law, hz_abs, hz_isinstance, hz_dict, hz_list, hz_sorted, hz_all, hz_sum, hz_range, hz_len, hz_int, hz_str, hz_bool, hz_tuple, hz_KeyError, hz_ZeroDivisionError, hv_LETTERS, hv_DIGITS, hv_LONGEST_WORD, hv_KEPT_WORDS, ht_KEPT_WORDS, hv_LIMIT_ROOT, hv_ENGINES, ht_ENGINES, x_KK, x_FK, x_ZK, x_FF, x_ZF, x_ZZ, q_dict_Env, q_dict_dict, q_str_str, q_int_bool, q_int_int, q_str_bool, q_str_int, q_int_str, q_non_str⟩ := k0
  obtain ⟨d_Env_init, F_Env_init⟩ := saysN_def c 0 rfl
  have F_Env_init : FunD K "__init__" "Env.__init__" (defArgs s_Env_init) (defBody s_Env_init) (defScope s_Env_init) [.non] [] (He.ma K (He.ga K "Env") "__init__") d_Env_init := F_Env_init
  obtain ⟨ea_Env_init, va_Env_init, ba_Env_init⟩ := F_Env_init.binds1 (ps := ["self", "bindings"]) 2 1 (by decide) rfl (fun _ _ _ _ _ _ _ us its h1 h2 => match us, its, h1, h2 with | [_, _], [_], _, _ => ⟨_, rfl, rfl⟩)
  obtain rfl : ea_Env_init = [] := by cases va_Env_init; rfl
  obtain ⟨ed_Env_init, vd_Env_init, bd_Env_init⟩ := F_Env_init.binds1 (ps := ["self", "bindings"]) 1 0 (by decide) rfl (fun _ _ _ _ _ _ _ us its h1 h2 => match us, its, h1, h2 with | [_], [_], _, _ => ⟨_, rfl, rfl⟩)
  obtain ⟨d_Layer_init, F0_Layer_init⟩ := saysN_def c 1 rfl
  have F_Layer_init : Fun K "__init__" "Layer.__init__" s_Layer_init (He.ma K (He.ga K "Layer") "__init__") d_Layer_init := fun_of F0_Layer_init
  obtain ⟨d_Scope_init, F_Scope_init⟩ := saysN_def c 2 rfl
  have F_Scope_init : FunD K "__init__" "Scope.__init__" (defArgs s_Scope_init) (defBody s_Scope_init) (defScope s_Scope_init) [.str "chain"] [] (He.ma K (He.ga K "Scope") "__init__") d_Scope_init := F_Scope_init
  obtain ⟨ea_Scope_init, va_Scope_init, ba_Scope_init⟩ := F_Scope_init.binds1 (ps := ["self", "defaults", "engine"]) 3 1 (by decide) rfl (fun _ _ _ _ _ _ _ us its h1 h2 => match us, its, h1, h2 with | [_, _, _], [_], _, _ => ⟨_, rfl, rfl⟩)
  obtain rfl : ea_Scope_init = [] := by cases va_Scope_init; rfl
  obtain ⟨ed_Scope_init, vd_Scope_init, bd_Scope_init⟩ := F_Scope_init.binds1 (ps := ["self", "defaults", "engine"]) 2 0 (by decide) rfl (fun _ _ _ _ _ _ _ us its h1 h2 => match us, its, h1, h2 with | [_, _], [_], _, _ => ⟨_, rfl, rfl⟩)
  obtain ⟨d_Scope_during, F0_Scope_during⟩ := saysN_def c 3 rfl
  have F_Scope_during : Fun K "during" "Scope.during" s_Scope_during (He.ma K (He.ga K "Scope") "during") d_Scope_during := fun_of F0_Scope_during
  obtain ⟨d_Scope_apart, F0_Scope_apart⟩ := saysN_def c 4 rfl
  have F_Scope_apart : Fun K "apart" "Scope.apart" s_Scope_apart (He.ma K (He.ga K "Scope") "apart") d_Scope_apart := fun_of F0_Scope_apart
  obtain ⟨d_Scope_look, F0_Scope_look⟩ := saysN_def c 5 rfl
  have F_Scope_look : Fun K "look" "Scope.look" s_Scope_look (He.ma K (He.ga K "Scope") "look") d_Scope_look := fun_of F0_Scope_look
  obtain ⟨d_Scope_getitem, F0_Scope_getitem⟩ := saysN_def c 6 rfl
  have F_Scope_getitem : Fun K "__getitem__" "Scope.__getitem__" s_Scope_getitem (He.ma K (He.ga K "Scope") "__getitem__") d_Scope_getitem := fun_of F0_Scope_getitem
  obtain ⟨d_Scope_contains, F0_Scope_contains⟩ := saysN_def c 7 rfl
  have F_Scope_contains : Fun K "__contains__" "Scope.__contains__" s_Scope_contains (He.ma K (He.ga K "Scope") "__contains__") d_Scope_contains := fun_of F0_Scope_contains
  obtain ⟨d_Scope_keep, F_Scope_keep⟩ := saysN_def c 8 rfl
  have F_Scope_keep : FunD K "keep" "Scope.keep" (defArgs s_Scope_keep) (defBody s_Scope_keep) (defScope s_Scope_keep) [.ref (He.dflAt ("Scope", some "keep") 0 K)] [] (He.ma K (He.ga K "Scope") "keep") d_Scope_keep := F_Scope_keep
  obtain ⟨ea_Scope_keep, va_Scope_keep, ba_Scope_keep⟩ := F_Scope_keep.binds1 (ps := ["self", "action", "names"]) 3 1 (by simp) rfl (fun _ _ _ _ _ _ _ us its h1 h2 => match us, its, h1, h2 with | [_, _, _], [_], _, _ => ⟨_, rfl, rfl⟩)
  obtain rfl : ea_Scope_keep = [] := by cases va_Scope_keep; rfl
  obtain ⟨ed_Scope_keep, vd_Scope_keep, bd_Scope_keep⟩ := F_Scope_keep.binds1 (ps := ["self", "action", "names"]) 2 0 (by simp) rfl (fun _ _ _ _ _ _ _ us its h1 h2 => match us, its, h1, h2 with | [_, _], [_], _, _ => ⟨_, rfl, rfl⟩)
  obtain ⟨d_Scope_use, F0_Scope_use⟩ := saysN_def c 9 rfl
  have F_Scope_use : Fun K "use" "Scope.use" s_Scope_use (He.ma K (He.ga K "Scope") "use") d_Scope_use := fun_of F0_Scope_use
  obtain ⟨d_Scope_own, F0_Scope_own⟩ := saysN_def c 10 rfl
  have F_Scope_own : Fun K "_own" "Scope._own" s_Scope_own (He.ma K (He.ga K "Scope") "_own") d_Scope_own := fun_of F0_Scope_own
  obtain ⟨d_Scope_binder, F0_Scope_binder⟩ := saysN_def c 11 rfl
  have F_Scope_binder : Fun K "_binder" "Scope._binder" s_Scope_binder (He.ma K (He.ga K "Scope") "_binder") d_Scope_binder := fun_of F0_Scope_binder
  obtain ⟨d_Kept_init, F0_Kept_init⟩ := saysN_def c 12 rfl
  have F_Kept_init : Fun K "__init__" "Kept.__init__" s_Kept_init (He.ma K (He.ga K "Kept") "__init__") d_Kept_init := fun_of F0_Kept_init
  obtain ⟨d_Kept_call, F_Kept_call⟩ := saysN_def c 13 rfl
  have F_Kept_call : FunD K "__call__" "Kept.__call__" (defArgs s_Kept_call) (defBody s_Kept_call) (defScope s_Kept_call) [.non] [] (He.ma K (He.ga K "Kept") "__call__") d_Kept_call := F_Kept_call
  obtain ⟨ea_Kept_call, va_Kept_call, ba_Kept_call⟩ := F_Kept_call.binds1 (ps := ["self", "scope"]) 2 1 (by decide) rfl (fun _ _ _ _ _ _ _ us its h1 h2 => match us, its, h1, h2 with | [_, _], [_], _, _ => ⟨_, rfl, rfl⟩)
  obtain rfl : ea_Kept_call = [] := by cases va_Kept_call; rfl
  obtain ⟨ed_Kept_call, vd_Kept_call, bd_Kept_call⟩ := F_Kept_call.binds1 (ps := ["self", "scope"]) 1 0 (by decide) rfl (fun _ _ _ _ _ _ _ us its h1 h2 => match us, its, h1, h2 with | [_], [_], _, _ => ⟨_, rfl, rfl⟩)
  obtain ⟨d_is_word, F0_is_word⟩ := saysN_def c 14 rfl
  have F_is_word : Fun K "is_word" "is_word" s_is_word (He.ga K "is_word") d_is_word := fun_of F0_is_word
  obtain ⟨d_is_ident, F0_is_ident⟩ := saysN_def c 15 rfl
  have F_is_ident : Fun K "is_ident" "is_ident" s_is_ident (He.ga K "is_ident") d_is_ident := fun_of F0_is_ident
  obtain ⟨d_checked, F0_checked⟩ := saysN_def c 16 rfl
  have F_checked : Fun K "checked" "checked" s_checked (He.ga K "checked") d_checked := fun_of F0_checked
  obtain ⟨d_is_value, F0_is_value⟩ := saysN_def c 17 rfl
  have F_is_value : Fun K "_is_value" "_is_value" s_is_value (He.ga K "_is_value") d_is_value := fun_of F0_is_value
  obtain ⟨d_way, F0_way⟩ := saysN_def c 18 rfl
  have F_way : Fun K "_way" "_way" s_way (He.ga K "_way") d_way := fun_of F0_way
  obtain ⟨d_l_state, F0_l_state⟩ := saysN_def c 19 rfl
  have F_l_state : Fun K "_law_state" "_law_state" s_l_state (He.ga K "_law_state") d_l_state := fun_of F0_l_state
  obtain ⟨d_l_draw, F0_l_draw⟩ := saysN_def c 20 rfl
  have F_l_draw : Fun K "_law_draw" "_law_draw" s_l_draw (He.ga K "_law_draw") d_l_draw := fun_of F0_l_draw
  obtain ⟨d_l_kept_words, F0_l_kept_words⟩ := saysN_def c 21 rfl
  have F_l_kept_words : Fun K "_law_kept_words" "_law_kept_words" s_l_kept_words (He.ga K "_law_kept_words") d_l_kept_words := fun_of F0_l_kept_words
  obtain ⟨d_l_name, F0_l_name⟩ := saysN_def c 22 rfl
  have F_l_name : Fun K "_law_name" "_law_name" s_l_name (He.ga K "_law_name") d_l_name := fun_of F0_l_name
  obtain ⟨d_l_names, F0_l_names⟩ := saysN_def c 23 rfl
  have F_l_names : Fun K "_law_names" "_law_names" s_l_names (He.ga K "_law_names") d_l_names := fun_of F0_l_names
  obtain ⟨d_l_value, F0_l_value⟩ := saysN_def c 24 rfl
  have F_l_value : Fun K "_law_value" "_law_value" s_l_value (He.ga K "_law_value") d_l_value := fun_of F0_l_value
  obtain ⟨d_l_over, F0_l_over⟩ := saysN_def c 25 rfl
  have F_l_over : Fun K "_law_over" "_law_over" s_l_over (He.ga K "_law_over") d_l_over := fun_of F0_l_over
  obtain ⟨d_l_bindings, F0_l_bindings⟩ := saysN_def c 26 rfl
  have F_l_bindings : Fun K "_law_bindings" "_law_bindings" s_l_bindings (He.ga K "_law_bindings") d_l_bindings := fun_of F0_l_bindings
  obtain ⟨d_l_raise, F0_l_raise⟩ := saysN_def c 27 rfl
  have F_l_raise : Fun K "_law_raise" "_law_raise" s_l_raise (He.ga K "_law_raise") d_l_raise := fun_of F0_l_raise
  obtain ⟨d_l_caught, F0_l_caught⟩ := saysN_def c 28 rfl
  have F_l_caught : Fun K "_law_caught" "_law_caught" s_l_caught (He.ga K "_law_caught") d_l_caught := fun_of F0_l_caught
  obtain ⟨d_l_shows, F0_l_shows⟩ := saysN_def c 29 rfl
  have F_l_shows : Fun K "_law_shows" "_law_shows" s_l_shows (He.ga K "_law_shows") d_l_shows := fun_of F0_l_shows
  obtain ⟨d_l_enter, F0_l_enter⟩ := saysN_def c 30 rfl
  have F_l_enter : Fun K "_law_enter" "_law_enter" s_l_enter (He.ga K "_law_enter") d_l_enter := fun_of F0_l_enter
  obtain ⟨d_l_moved, F0_l_moved⟩ := saysN_def c 31 rfl
  have F_l_moved : Fun K "_law_moved" "_law_moved" s_l_moved (He.ga K "_law_moved") d_l_moved := fun_of F0_l_moved
  obtain ⟨d_l_down, F0_l_down⟩ := saysN_def c 32 rfl
  have F_l_down : Fun K "_law_down" "_law_down" s_l_down (He.ga K "_law_down") d_l_down := fun_of F0_l_down
  obtain ⟨d_law, F0_law⟩ := saysN_def c 33 rfl
  have F_law : Fun K "law" "law" s_law (He.ga K "law") d_law := fun_of F0_law
  obtain ⟨t_LETTERS, m_LETTERS⟩ := He.str_ok X G hv_LETTERS
  obtain ⟨t_DIGITS, m_DIGITS⟩ := He.str_ok X G hv_DIGITS
  obtain ⟨t_LONGEST_WORD, m_LONGEST_WORD⟩ := He.int_ok X G hv_LONGEST_WORD
  obtain ⟨t_LIMIT_ROOT, m_LIMIT_ROOT⟩ := He.int_ok X G hv_LIMIT_ROOT
  obtain ⟨pr_depth, dp_depth, Fp_depth⟩ := prD_ok (d := ⟨"Scope", "depth", "Scope.depth", s_Scope_depth⟩) (pz _ (by simp [prL])).1 (pz _ (by simp [prL])).2
  obtain ⟨pr_engine, dp_engine, Fp_engine⟩ := prD_ok (d := ⟨"Scope", "engine", "Scope.engine", s_Scope_engine⟩) (pz _ (by simp [prL])).1 (pz _ (by simp [prL])).2
  let T : Txt K mg := {
    a_keep := (He.dflAt ("Scope", some "keep") 0 K)
    p_Scope_depth := ⟨_, _, dp_depth, Fp_depth, pr_depth, Fp_depth.binds (ps := ["self"]) (fun _ _ _ _ _ _ us hl => match us, hl with | [_], _ => rfl)⟩
    p_Scope_engine := ⟨_, _, dp_engine, Fp_engine, pr_engine, Fp_engine.binds (ps := ["self"]) (fun _ _ _ _ _ _ us hl => match us, hl with | [_], _ => rfl)⟩
    c_Failed := ⟨He.ga K "Failed", glo_mg X G (and3 h0_Failed).1, exK_of eG (and3 h0_Failed).2.1, (and3 h0_Failed).2.2⟩
    e_Env := cnT X G hc_Env
    i_Env_init := ⟨He.ma K (He.ga K "Env") "__init__", d_Env_init, F_Env_init, (meth_of hm_Env_init).1, (meth_of hm_Env_init).2, ba_Env_init, ed_Env_init, vd_Env_init, bd_Env_init⟩
    e_Layer := cnT X G hc_Layer
    i_Layer_init := ⟨He.ma K (He.ga K "Layer") "__init__", d_Layer_init, F_Layer_init, (meth_of hm_Layer_init).1, (meth_of hm_Layer_init).2, F_Layer_init.binds (ps := ["self", "table", "parent"]) (fun _ _ _ _ _ _ us hl => match us, hl with | [_, _, _], _ => rfl)⟩
    e_Scope := cnT X G hc_Scope
    i_Scope_init := ⟨He.ma K (He.ga K "Scope") "__init__", d_Scope_init, F_Scope_init, (meth_of hm_Scope_init).1, (meth_of hm_Scope_init).2, ba_Scope_init, ed_Scope_init, vd_Scope_init, bd_Scope_init⟩
    i_Scope_during := ⟨He.ma K (He.ga K "Scope") "during", d_Scope_during, F_Scope_during, (meth_of hm_Scope_during).1, (meth_of hm_Scope_during).2, F_Scope_during.binds (ps := ["self", "bindings", "action"]) (fun _ _ _ _ _ _ us hl => match us, hl with | [_, _, _], _ => rfl)⟩
    i_Scope_apart := ⟨He.ma K (He.ga K "Scope") "apart", d_Scope_apart, F_Scope_apart, (meth_of hm_Scope_apart).1, (meth_of hm_Scope_apart).2, F_Scope_apart.binds (ps := ["self", "action"]) (fun _ _ _ _ _ _ us hl => match us, hl with | [_, _], _ => rfl)⟩
    i_Scope_look := ⟨He.ma K (He.ga K "Scope") "look", d_Scope_look, F_Scope_look, (meth_of hm_Scope_look).1, (meth_of hm_Scope_look).2, F_Scope_look.binds (ps := ["self", "name"]) (fun _ _ _ _ _ _ us hl => match us, hl with | [_, _], _ => rfl)⟩
    i_Scope_getitem := ⟨He.ma K (He.ga K "Scope") "__getitem__", d_Scope_getitem, F_Scope_getitem, (meth_of hm_Scope_getitem).1, (meth_of hm_Scope_getitem).2, F_Scope_getitem.binds (ps := ["self", "at"]) (fun _ _ _ _ _ _ us hl => match us, hl with | [_, _], _ => rfl)⟩
    i_Scope_contains := ⟨He.ma K (He.ga K "Scope") "__contains__", d_Scope_contains, F_Scope_contains, (meth_of hm_Scope_contains).1, (meth_of hm_Scope_contains).2, F_Scope_contains.binds (ps := ["self", "x"]) (fun _ _ _ _ _ _ us hl => match us, hl with | [_, _], _ => rfl)⟩
    i_Scope_keep := ⟨He.ma K (He.ga K "Scope") "keep", d_Scope_keep, F_Scope_keep, (meth_of hm_Scope_keep).1, (meth_of hm_Scope_keep).2, ba_Scope_keep, ed_Scope_keep, vd_Scope_keep, bd_Scope_keep⟩
    i_Scope_use := ⟨He.ma K (He.ga K "Scope") "use", d_Scope_use, F_Scope_use, (meth_of hm_Scope_use).1, (meth_of hm_Scope_use).2, F_Scope_use.binds (ps := ["self", "engine"]) (fun _ _ _ _ _ _ us hl => match us, hl with | [_, _], _ => rfl)⟩
    i_Scope_own := ⟨He.ma K (He.ga K "Scope") "_own", d_Scope_own, F_Scope_own, (meth_of hm_Scope_own).1, (meth_of hm_Scope_own).2, F_Scope_own.binds (ps := ["self", "bindings"]) (fun _ _ _ _ _ _ us hl => match us, hl with | [_, _], _ => rfl)⟩
    i_Scope_binder := ⟨He.ma K (He.ga K "Scope") "_binder", d_Scope_binder, F_Scope_binder, (meth_of hm_Scope_binder).1, (meth_of hm_Scope_binder).2, F_Scope_binder.binds (ps := ["self", "name"]) (fun _ _ _ _ _ _ us hl => match us, hl with | [_, _], _ => rfl)⟩
    e_Kept := cnT X G hc_Kept
    i_Kept_init := ⟨He.ma K (He.ga K "Kept") "__init__", d_Kept_init, F_Kept_init, (meth_of hm_Kept_init).1, (meth_of hm_Kept_init).2, F_Kept_init.binds (ps := ["self", "action", "record", "home"]) (fun _ _ _ _ _ _ us hl => match us, hl with | [_, _, _, _], _ => rfl)⟩
    i_Kept_call := ⟨He.ma K (He.ga K "Kept") "__call__", d_Kept_call, F_Kept_call, (meth_of hm_Kept_call).1, (meth_of hm_Kept_call).2, ba_Kept_call, ed_Kept_call, vd_Kept_call, bd_Kept_call⟩
    n_Env_table := He.eqO_ok ho_n_Env_table
    n_Layer_table := He.eqO_ok ho_n_Layer_table
    n_Layer_parent := He.eqO_ok ho_n_Layer_parent
    n_Layer_level := He.eqO_ok ho_n_Layer_level
    n_Scope_root := He.eqO_ok ho_n_Scope_root
    n_Scope_layer := He.eqO_ok ho_n_Scope_layer
    n_Scope_stand := He.eqO_ok ho_n_Scope_stand
    n_Scope_taken := He.eqO_ok ho_n_Scope_taken
    n_Scope_mode := He.eqO_ok ho_n_Scope_mode
    n_Kept_action := He.eqO_ok ho_n_Kept_action
    n_Kept_record := He.eqO_ok ho_n_Kept_record
    n_Kept_home := He.eqO_ok ho_n_Kept_home
    in_Scope := in_of ho_in_Scope
    get_Scope := get_of ho_get_Scope
    call_Kept := callC_of ho_call_Kept
    eqp_Scope := eqp_of ho_eqp_Scope
    eqp_Layer := eqp_of ho_eqp_Layer
    d_is_word := ⟨He.ga K "is_word", d_is_word, F_is_word, He.glo_ok X G hg_is_word, F_is_word.binds (ps := ["value"]) (fun _ _ _ _ _ _ us hl => match us, hl with | [_], _ => rfl)⟩
    d_is_ident := ⟨He.ga K "is_ident", d_is_ident, F_is_ident, He.glo_ok X G hg_is_ident, F_is_ident.binds (ps := ["value"]) (fun _ _ _ _ _ _ us hl => match us, hl with | [_], _ => rfl)⟩
    d_checked := ⟨He.ga K "checked", d_checked, F_checked, He.glo_ok X G hg_checked, F_checked.binds (ps := ["bindings"]) (fun _ _ _ _ _ _ us hl => match us, hl with | [_], _ => rfl)⟩
    d_is_value := ⟨He.ga K "_is_value", d_is_value, F_is_value, He.glo_ok X G hg_is_value, F_is_value.binds (ps := ["value"]) (fun _ _ _ _ _ _ us hl => match us, hl with | [_], _ => rfl)⟩
    d_way := ⟨He.ga K "_way", d_way, F_way, He.glo_ok X G hg_way, F_way.binds (ps := ["here", "there"]) (fun _ _ _ _ _ _ us hl => match us, hl with | [_, _], _ => rfl)⟩
    d_l_state := ⟨He.ga K "_law_state", d_l_state, F_l_state, He.glo_ok X G hg_l_state, F_l_state.binds (ps := ["_law_script"]) (fun _ _ _ _ _ _ us hl => match us, hl with | [_], _ => rfl)⟩
    d_l_draw := ⟨He.ga K "_law_draw", d_l_draw, F_l_draw, He.glo_ok X G hg_l_draw, F_l_draw.binds (ps := ["_law_state_here", "_law_many"]) (fun _ _ _ _ _ _ us hl => match us, hl with | [_, _], _ => rfl)⟩
    d_l_kept_words := ⟨He.ga K "_law_kept_words", d_l_kept_words, F_l_kept_words, He.glo_ok X G hg_l_kept_words, F_l_kept_words.binds (ps := []) (fun _ _ _ _ _ _ us hl => match us, hl with | [], _ => rfl)⟩
    d_l_name := ⟨He.ga K "_law_name", d_l_name, F_l_name, He.glo_ok X G hg_l_name, F_l_name.binds (ps := ["_law_state_here", "_law_names_here"]) (fun _ _ _ _ _ _ us hl => match us, hl with | [_, _], _ => rfl)⟩
    d_l_names := ⟨He.ga K "_law_names", d_l_names, F_l_names, He.glo_ok X G hg_l_names, F_l_names.binds (ps := ["_law_state_here", "_law_many"]) (fun _ _ _ _ _ _ us hl => match us, hl with | [_, _], _ => rfl)⟩
    d_l_value := ⟨He.ga K "_law_value", d_l_value, F_l_value, He.glo_ok X G hg_l_value, F_l_value.binds (ps := ["_law_state_here"]) (fun _ _ _ _ _ _ us hl => match us, hl with | [_], _ => rfl)⟩
    d_l_over := ⟨He.ga K "_law_over", d_l_over, F_l_over, He.glo_ok X G hg_l_over, F_l_over.binds (ps := ["_law_low", "_law_high"]) (fun _ _ _ _ _ _ us hl => match us, hl with | [_, _], _ => rfl)⟩
    d_l_bindings := ⟨He.ga K "_law_bindings", d_l_bindings, F_l_bindings, He.glo_ok X G hg_l_bindings, F_l_bindings.binds (ps := ["_law_state_here", "_law_names_here", "_law_most"]) (fun _ _ _ _ _ _ us hl => match us, hl with | [_, _, _], _ => rfl)⟩
    d_l_raise := ⟨He.ga K "_law_raise", d_l_raise, F_l_raise, He.glo_ok X G hg_l_raise, F_l_raise.binds (ps := ["_law_way"]) (fun _ _ _ _ _ _ us hl => match us, hl with | [_], _ => rfl)⟩
    d_l_caught := ⟨He.ga K "_law_caught", d_l_caught, F_l_caught, He.glo_ok X G hg_l_caught, F_l_caught.binds (ps := ["_law_act"]) (fun _ _ _ _ _ _ us hl => match us, hl with | [_], _ => rfl)⟩
    d_l_shows := ⟨He.ga K "_law_shows", d_l_shows, F_l_shows, He.glo_ok X G hg_l_shows, F_l_shows.binds (ps := ["_law_box", "_law_places"]) (fun _ _ _ _ _ _ us hl => match us, hl with | [_, _], _ => rfl)⟩
    d_l_enter := ⟨He.ga K "_law_enter", d_l_enter, F_l_enter, He.glo_ok X G hg_l_enter, F_l_enter.binds (ps := ["_law_box", "_law_places", "_law_which", "_law_level"]) (fun _ _ _ _ _ _ us hl => match us, hl with | [_, _, _, _], _ => rfl)⟩
    d_l_moved := ⟨He.ga K "_law_moved", d_l_moved, F_l_moved, He.glo_ok X G hg_l_moved, F_l_moved.binds (ps := ["_law_places", "_law_which", "_law_place"]) (fun _ _ _ _ _ _ us hl => match us, hl with | [_, _, _], _ => rfl)⟩
    d_l_down := ⟨He.ga K "_law_down", d_l_down, F_l_down, He.glo_ok X G hg_l_down, F_l_down.binds (ps := ["_law_box", "_law_places", "_law_level"]) (fun _ _ _ _ _ _ us hl => match us, hl with | [_, _, _], _ => rfl)⟩
    d_law := ⟨He.ga K "law", d_law, F_law, He.glo_ok X G hg_law, F_law.binds (ps := ["_law_script"]) (fun _ _ _ _ _ _ us hl => match us, hl with | [_], _ => rfl)⟩
    z_abs := He.free_ok X G hz_abs
    z_isinstance := He.free_ok X G hz_isinstance
    z_dict := He.free_ok X G hz_dict
    z_list := He.free_ok X G hz_list
    z_sorted := He.free_ok X G hz_sorted
    z_all := He.free_ok X G hz_all
    z_sum := He.free_ok X G hz_sum
    z_range := He.free_ok X G hz_range
    z_len := He.free_ok X G hz_len
    z_int := He.free_ok X G hz_int
    z_str := He.free_ok X G hz_str
    z_bool := He.free_ok X G hz_bool
    z_tuple := He.free_ok X G hz_tuple
    z_KeyError := He.free_ok X G hz_KeyError
    z_ZeroDivisionError := He.free_ok X G hz_ZeroDivisionError
    t_LETTERS := t_LETTERS
    m_LETTERS := m_LETTERS
    t_DIGITS := t_DIGITS
    m_DIGITS := m_DIGITS
    t_LONGEST_WORD := t_LONGEST_WORD
    m_LONGEST_WORD := m_LONGEST_WORD
    k_KEPT_WORDS := He.ga K "KEPT_WORDS"
    m_KEPT_WORDS := He.glo_ok X G hv_KEPT_WORDS
    s_KEPT_WORDS := fun H => He.tupB_ok ht_KEPT_WORDS H
    t_LIMIT_ROOT := t_LIMIT_ROOT
    m_LIMIT_ROOT := m_LIMIT_ROOT
    k_ENGINES := He.ga K "ENGINES"
    m_ENGINES := He.glo_ok X G hv_ENGINES
    s_ENGINES := fun H => He.tupB_ok ht_ENGINES H
    x_KK := of_decide_eq_true x_KK
    x_FK := of_decide_eq_true x_FK
    x_ZK := of_decide_eq_true x_ZK
    x_FF := of_decide_eq_true x_FF
    x_ZF := of_decide_eq_true x_ZF
    x_ZZ := of_decide_eq_true x_ZZ
    q_dict_Env := of_decide_eq_true q_dict_Env
    q_dict_dict := of_decide_eq_true q_dict_dict
    q_str_str := of_decide_eq_true q_str_str
    q_int_bool := of_decide_eq_true q_int_bool
    q_int_int := of_decide_eq_true q_int_int
    q_str_bool := of_decide_eq_true q_str_bool
    q_str_int := of_decide_eq_true q_str_int
    q_int_str := of_decide_eq_true q_int_str
    q_non_str := of_decide_eq_true q_non_str }
  have e := hfa.symm.trans T.d_law.g
  cases e
  refine ⟨d_law, fun s v => ?_, fun base _ _ tb => ok_law T (Tb := TbOf K) (code_of (p := ("_law_enter", none)) F_l_enter) (tb ("_law_enter", none) (by simp [tfA])) (by simp [TbOf]) (fun p hp e => ?_)⟩
  rotate_left
  · have z : p = ((He.cT K ("_law_enter", none)).2, qE) := by simpa [TbOf] using hp
    rcases z with rfl
    rfl
  obtain ⟨oc, od, kV, doc, pm, an, cdv, ct, osl, rfl, _, _⟩ := F_law.ex
  exact .of_eq rfl
theorem lawStart {K : PySem.W.Frag} {H : Hp} (a : Addr) (ns : List Int) (hl : ns.length ≤ 63) (ht : ∀ p ∈ tfA, H (He.cT K p).2 = some (.tbl #[])) (hS : SqL K H a (ns.map V.int)) : spLaw K (TbOf K) [.ref a] H (fun v _ => v = .bl true) fun _ _ _ => False :=
  ⟨a, ns, rfl, hS, hl, fun p hp => by
    have z : p = ((He.cT K ("_law_enter", none)).2, qE) := by simpa [TbOf] using hp
    rcases z with rfl
    exact ht ("_law_enter", none) (by simp [tfA]), fun _ => rfl⟩
end Own
open PySem PySem.W PySem.Calls PyProof.Rows
set_option maxRecDepth 100000 in
set_option maxHeartbeats 0 in
theorem PySem.Challenge.cw_bindspan_k45_whole_put_back_holds : PySem.Challenge.rw_bindspan_k45_whole_put_back.Holds := by
  w_on; o_law
  refine HandSHeadRun.head_any (r := OpenLaw.row PySem.Challenge.rw_bindspan_k45_whole_put_back) (q := view (OpenLaw.row PySem.Challenge.rw_bindspan_k45_whole_put_back).prog [44]) (H := Own.hookZ Own.chkA Own.fnA Own.tfA Own.prL) (ob := Own.obZ Own.chkA Own.fnA Own.tfA Own.prL) (M := 9000) (loose := Own.namesL) (d := HandSHeadRun.topDef (OpenLaw.row PySem.Challenge.rw_bindspan_k45_whole_put_back).prog 44) (kwd := []) Own.obZ_eq
    (by kernel_rfl) (fun s => by kernel_rfl) Own.run (by kernel_rfl) (by kernel_rfl) (by kernel_rfl) (by rfl) (by first | assumption | decide +kernel) (by decide +kernel) ⟨rfl, rfl, rfl, rfl, rfl, by decide +kernel⟩ ?hw ?hc
  case hw => w_witness2
  case hc =>
    refine LamX.walk_ofTsE (l := PySem.Challenge.rw_bindspan_k45_whole_put_back) (n := 63) (k := 220) (x := "_law_script") (CX := fun _ => L2.CX0) rfl (by decide) (by kernel_rfl) ⟨rfl, by decide, by decide⟩ ?F (fun _ _ _ _ _ z => z)
    intro w mg fa h Y G hmg0
    obtain ⟨K, KX, c, tY, pz⟩ := Y
    have hmg : mg ("law" : PySem.Str) = some (.ref fa) := by
      have e : (HandSHeadRun.topDef (OpenLaw.row PySem.Challenge.rw_bindspan_k45_whole_put_back).prog 44).name = ("law" : PySem.Str) := by kernel_rfl
      rw [← e]
      exact hmg0
    obtain ⟨fd, hb, hF⟩ := Own.facts (P := (PySem.Challenge.rw_bindspan_k45_whole_put_back).prog) (w := w) KX G hmg c pz
    exact ⟨K, KX, Own.lawAtY KX tY hb (fun H a ns hl hT hS => Own.lawStart a ns hl hT hS) hF⟩

