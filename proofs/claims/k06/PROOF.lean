import PyProof.Rows.All
import Wide.All
import OpenK.AllK
import Wide.FinOn
import HandS.ForMost
import HandS.Deep
import HandS.Wide
import HandS.Evl
import HandS.ForExc
import HandS.ExcInit
import HandS.ExcField
import HandS.ExcIs
import HandS.ExcOwn
import HandS.ExcValue
import KE.KExcIs
import KE.KEqNest
import PyProof.NeKinds
import PyProof.Rows.EqBoolInt
import HandS.Head0
import HandS.Head1
import HandS.Head2
import HandS.HeadEnd
import HandS.HeadHook1
import HandS.More
import HandS.Rev
import HandS.DictComp
import HandS.ListItems
import HandS.Conv
import HandS.IsInst
import HandS.SlotsOwn
import HandS.Defaults
import KE.KOpsOwn
import HandS.OwnEq
import HandS.HeadHook2
import HandS.Style
import HandS.Walk
import HandS.ExcCtx
import HandS.CallSlots
import HandS.HotCalls
import HandS.ExcInitHot
import PyProof.ListTruth
import HandS.FStr
import HandS.RaiseMore
import PyProof.FitsInt
import HandS.Lambda
import HandS.WordsExc
import HandS.HeadWalk
import HandS.HeadHook4
import HandS.EndOwn
import HandS.Property
import HandS.Nested
import HandS.Finally
import HandS.RaiseOp
import HandS.TryOnly
import HandS.TryMany
import HandS.ExcBuiltin
import PyProof.AutoIntOps
import HandS.Zip
import HandS.TupSets
import KE.SortData
import PyProof.FactsAll.subtypes_4
import HandS.ClsMeth
import HandS.Star
import HandS.HeadNt
import KE.KIntText
import KE.GoesRaise
import HandS.Flt
import PySem.Challenge.RW_bindspan_k06_captures_compare
set_option Elab.async false
set_option linter.all false
set_option maxRecDepth 100000
set_option maxHeartbeats 4000000
/-! Rules and words that hold for any program. -/
namespace Own
open PySem PySem.Spec PyProof.Rows L2
/-- xs[i], read for xs[i] += e -/
def rGetL : V → V → Hp → VK → Prop := fun o i H Q => ∃ (p : Addr) (xs : List V) (j : Nat) (v : V), o = .ref p ∧ i = .int (j : Int) ∧ H p = some (.lst xs) ∧ xs[j]? = some v ∧ Q v H
theorem pget_list {X : Cx} : PGet X rGetL := by
  intro pins s σ H o i ov iv Q I ro ri h
  obtain ⟨p, xs, j, v, rfl, rfl, hp, hv, q⟩ := h
  cases ro
  obtain ⟨t, rfl⟩ := ri
  obtain ⟨its, n, r, ho, hz⟩ := I.lst hp
  obtain ⟨w, ew, rw'⟩ := r.get hv
  have hn := line63
  have hl := r.length
  have hj : j < its.length := (List.getElem?_eq_some_iff.mp ew).1
  refine wpAny_getItem_list (items := its.toArray) (x := w) ⟨_, ho, rfl, _, rfl⟩ ?_ ?_ ?_ ?_
  · omega
  · omega
  · simpa using ew
  · exact ⟨v, H, I, rw', q⟩

theorem cx_K {CX : CXT} {P : Program} {w : World} {K : PySem.W.Frag} {mg : Str → Option Value} {base : Heap} {N : List Str} {q : Str} {sc : Scope} {f : Addr} {cd : Value} {A : Around} {outer : List Env} {s : Shared} {H : Hp} {E : XK} : (cxOf CX P w K mg base N q sc f cd A outer s H E).nox.K = K := rfl
/-- a read of a list that stands at p -/
theorem cx_K2 {CX : CXT} {P : Program} {w : World} {K : PySem.W.Frag} {mg : Str → Option Value} {base : Heap} {N : List Str} {q : Str} {sc : Scope} {f : Addr} {cd : Value} {A : Around} {outer : List Env} {s : Shared} {H : Hp} {E : XK} : (cxOf CX P w K mg base N q sc f cd A outer s H E).K = K := rfl
theorem ixL_go {K : PySem.W.Frag} {p : Addr} {xs : List V} {i : Int} {v : V} {H : Hp} {Q : VK} (h : SqL K H p xs) (e : atI xs i = some v) (q : Q v H) : rIxL K (.ref p) (.int i) H Q := ⟨p, xs, i, v, rfl, rfl, h, e, q⟩
theorem ixM_go {K : PySem.W.Frag} {p : Addr} {xs : List V} {i : Int} {v : V} {H : Hp} {Q : VK} (h : H p = some (.lst xs)) (e : atI xs i = some v) (q : Q v H) : rIxL K (.ref p) (.int i) H Q := ⟨p, xs, i, v, rfl, rfl, .inl (.inl h), e, q⟩
theorem setL_go {p : Addr} {xs : List V} {i : Int} {v : V} {j : Nat} {H : Hp} {Q : Hp → Prop} (h : H p = some (.lst xs)) (e : ixN xs.length i = some j) (q : Q (upd H p (.lst (xs.set j v)))) : rSetL (.ref p) (.int i) v H Q := ⟨p, xs, i, j, rfl, rfl, h, e, q⟩
theorem getL_go {p : Addr} {xs : List V} {j : Nat} {v : V} {H : Hp} {Q : VK} (h : H p = some (.lst xs)) (e : xs[j]? = some v) (q : Q v H) : rGetL (.ref p) (.int (j : Int)) H Q := ⟨p, xs, j, v, rfl, rfl, h, e, q⟩
theorem call_intI {X : Cx} : CallR X (.type "int") (fun xs H Q => ∃ i, xs = [V.int i] ∧ Q (.int i) H) := fun pins s σ H vs us Q I r h => call_int1 pins s σ H vs us Q I r (Or.inl h)
theorem call_intB {X : Cx} : CallR X (.type "int") (fun xs H Q => ∃ k, xs = [V.bl k] ∧ Q (.int (if k then 1 else 0)) H) := fun pins s σ H vs us Q I r h => call_int1 pins s σ H vs us Q I r (Or.inr h)
theorem fmod_bd {x m : Int} (h : 0 < m) : 0 ≤ x.fmod m ∧ x.fmod m < m := by
  rw [Int.fmod_eq_emod_of_nonneg x (Int.le_of_lt h)]
  exact ⟨Int.emod_nonneg x (by omega), Int.emod_lt_of_pos x h⟩
end Own

set_option Elab.async false
set_option linter.all false
set_option maxRecDepth 100000
set_option maxHeartbeats 4000000
/-! Exceptions held as values: made, asked for a field, asked for their class. -/
namespace Own
open PySem PySem.Spec PyProof.Rows L2
section
variable {X : Cx} {C fI : Addr} {e o : Expr} {es : List Expr} {ta : TA} {te : TE} {p pos : Pos}
/-- C(e, ..) as a value -/
def tMkE (C : Addr) (sp : Sp) (ta : TA) : TE := fun σ H Q => ta σ H fun vs H1 => vs.length ≤ 1000 ∧ ∀ a, H1 a = none → sp (.ref a :: vs) (upd H1 a (exo a C none)) (fun v H2 => v = .non ∧ Q (.ref a) H2) fun _ _ _ => False
theorem pe_mkE {CX : CXT} {x : Str} {k : Nat} {fd : FuncData} {ps : List Str} {sp : Sp} (T : OexC X.K C) (iC : PySem.W.findIn X.K (.ref C) "__init__" = some (some (.ref fI))) (tI : PySem.W.typeIn X.K (.ref fI) = some (.type "function"))
    (F1 : FnOk X.prog X.w X.K X.mg X.base CX k fI fd ps sp) (hr : Room (k + 1) X.A) (hb : Binds X.K fd ps []) (hx : Passes CX X (fun _ _ _ => False)) (hg : Gl X x) (hm : X.mg x = some (.ref C)) (ha : PA X (e :: es) ta)
    (hdb : (x == ("__debug__" : Str)) = false := by decide) (he : starEach (e :: es) X.env = (false, eval e X.env) :: starEach es X.env := by rfl) (hpl : (backTo pos (starEach es X.env)).any (·.1) = false := by rfl) :
    PE X (.Call (.Name x p) (e :: es) [] pos) (tMkE C sp ta) := by
  refine ⟨fun pins s σ H Q I h => ?_⟩
  obtain ⟨nm, q, N, bs, bm, sn, sub, ab, col, dd, k0, k1, k2, k3, k5, hC, hbm⟩ := T.cls
  refine wpAny_Call_Name_kw (ld_glob I hg hm ?_ hdb)
  refine PySem.W.callWith_K (h₀ := X.base) I.ok.mod.kin T.kC (thn (ha.run pos pins s σ H _ I h) fun us s1 ⟨vs, H1, I1, r1, hz, q1⟩ => ⟨I1.kIn, ?_⟩) he hpl
  show wpAny _ _ (call (.ref C) us) _ _ _
  obtain ⟨hp, g, dr, tk, os⟩ := s1
  have hn : H1 (hp.objs.size + 1) = none := I1.hok.fresh (Nat.le_succ _)
  have hq := q1 (hp.objs.size + 1) hn
  have old : ∀ b o, hp.get? b = some o → ((hp.push (PySem.W.kdv_tup us)).push (PySem.HandSPX.excO C hp.objs.size)).get? b = some o := fun b o z => Heap.get?_push_of_some _ (Heap.get?_push_of_some _ z)
  have now : ((hp.push (PySem.W.kdv_tup us)).push (PySem.HandSPX.excO C hp.objs.size)).get? (hp.objs.size + 1) = some (PySem.HandSPX.excO C hp.objs.size) := by heap_get
  have I2 : Inv X pins σ (upd H1 (hp.objs.size + 1) (exo (hp.objs.size + 1) C none)) ⟨(hp.push (PySem.W.kdv_tup us)).push (PySem.HandSPX.excO C hp.objs.size), g, dr, tk, os⟩ := I1.laid (t' := tk) old (Nat.le_succ _) (exo_ok now)
  have r2 : Vals (V.ref (hp.objs.size + 1) :: vs) (Value.ref (hp.objs.size + 1) :: us) := .cons rfl r1
  have hl : (Value.ref (hp.objs.size + 1) :: us).length = ps.length := by
    have z := r2.length
    rw [F1.len _ _ _ _ hq] at z
    exact z.symm
  have hus : us.length ≤ sizeLine := by
    rw [← Paired.length r1, sizeLine_eq]
    omega
  have hbb := hb ⟨(hp.push (PySem.W.kdv_tup us)).push (PySem.HandSPX.excO C hp.objs.size), g, dr, tk, os⟩ (Value.ref (hp.objs.size + 1) :: us) I2.kIn (by simpa using hl)
  rw [List.append_nil] at hbb
  refine wpAny_call (PySem.HandSPX.call_own F.excBase_ValueError (fun Y => PySem.HandSPX.refsVE_contains Y bm hbm) (I1.kIn _ _ hC) (PySem.W.looks_findIn I1.kIn iC) (fun self => PySem.W.bind_fn I1.kIn self tI) hus
    (codeAny_mono (F1.run _ X.stack _ _ ⟨Value.ref (hp.objs.size + 1) :: us, []⟩ (Value.ref (hp.objs.size + 1) :: us) _ _ (fun _ _ _ => False) (hr.make C us []) (I2.env0.make C us []) hbb r2 hq) fun r s' hq' => ?_))
  cases r with
  | error er => exact hx pins σ _ _ er s' I2 hq'
  | ok fl =>
    cases fl with
    | ret u =>
      obtain ⟨v, H2, I3, rv, ev, q2⟩ := I2.after hq'
      subst ev
      exact ⟨rv, ⟨V.ref (hp.objs.size + 1), H2, I3, rfl, q2⟩⟩
    | next => exact False.elim hq'
    | brk => exact False.elim hq'
    | cont => exact False.elim hq'
/-- C(), no __init__ of its own -/
def tMkE0 (C : Addr) : TE := fun _ H Q => ∀ a, H a = none → Q (.ref a) (upd H a (exo a C none))
theorem pe_mkE0 {bmB : List Value} {B newId initId : String} {x : Str} (F : ExcBaseFacts B newId initId bmB) (q : PySem.W.excIn X.K C bmB newId = true) (gC : X.mg x = some (.ref C)) (kC : PySem.W.keepIn X.K (.ref C) = true) (hg : Gl X x)
    (hdb : (x == ("__debug__" : Str)) = false := by decide) : PE X (.Call (.Name x p) [] [] pos) (tMkE0 C) := by
  refine ⟨fun pins s σ H Q I h => ?_⟩
  refine wpAny_Call_Name_kw (ld_glob I hg gC ?_ hdb)
  refine PySem.W.callWith_K0 I.kIn kC ?_
  obtain ⟨bm, N, nm, qn, bs, hdct, sn, sub, ab, col, dd, k0, k1, k2, k3, k5, mN, hC, hN, hni, T⟩ := exc_obj I.kIn q
  obtain ⟨hp, g, d, t, os⟩ := s
  refine wpAny_call_exc_subT F T hC hN hni (fun h' a hm => ?_) (by show 0 ≤ sizeLine; exact Nat.zero_le _)
  have hn : H a = none := I.hok.gone hm.new
  obtain ⟨t, ht, _, _⟩ := hm.there
  exact ⟨.ref a, upd H a (exo a C none), I.laidN (t' := _) hm.keeps hm.new hn (exo_ok ht), rfl, h a hn⟩
/-- o.f, o an exception at a with its dict at dd -/
def tExf (K : PySem.W.Frag) (f : Str) (te : TE) : TE := fun σ H Q => te σ H fun x H1 => ∃ (a C dd : Addr) (fs : List (Str × V)) (v : V), x = .ref a ∧ H1 a = some (exo a C (some dd)) ∧ H1 dd = some (exd dd fs) ∧ XfC K C ∧ PySem.W.findIn K (.ref C) f = some none ∧ fs.lookup f = some v ∧ Q v H1
theorem pe_exf {f : Str} (he : PE X e te) (hb : attributeBase e f X.env (eval e X.env) = eval e X.env := by rfl) : PE X (.Attribute e f pos) (tExf X.K f te) := by
  refine ⟨fun pins s σ H Q I h => ?_⟩
  refine attr_of hb (thn (he.run pins s σ H _ I h) fun u s1 hh => ?_)
  obtain ⟨x, H1, I1, rx, a, C, dd, fs, v, ex, ea, ed, T, hno, l, q⟩ := hh
  subst ex
  obtain rfl : u = Value.ref a := rx
  obtain ⟨t1, ho⟩ := exo_at I1.hok ea
  obtain ⟨mA, hns, hr⟩ := exd_at I1.hok ed
  obtain ⟨od, hod, hl⟩ := lookIn_ns hns
  obtain ⟨w, hu, ru⟩ := RelO.some_of (v := v) (o := mA f) (by rw [← l]; exact hr f)
  have J : PySem.W.InstAt s1.heap a _ C (some od) := ⟨ho, rfl, rfl, hod⟩
  exact HandSPX.exc_get I1.kIn J T.ga T.gg T.exC (PySem.W.findObj_own T.hdC hno rfl (by rw [hl, hu])) (handed_of ru) ⟨v, H1, I1.tok _, ru, q⟩
/-- an exception stands at a: of the class at D, with the fields fs -/
def ExAt (H : Hp) (a D : Addr) (fs : List (Str × V)) : Prop := (H a = some (exo a D none) ∧ fs = []) ∨ ∃ dd, H a = some (exo a D (some dd)) ∧ H dd = some (exd dd fs)
/-- isinstance(e, c), e an exception -/
def rIsV (K : PySem.W.Frag) : List V → Hp → VK → Prop := fun xs H Q => ∃ (a D : Addr) (fs : List (Str × V)) (c : V) (cv : Value) (b : Bool), xs = [.ref a, c] ∧ ExAt H a D fs ∧ ExcC K D ∧ (∀ u, RelV c u → u = cv) ∧ PySem.W.kitOne K (.ref D) cv = some b ∧ Q (.bl b) H
theorem call_isV : CallR X (.builtin "isinstance") (rIsV X.K) := by
  intro pins s σ H xs us Q I r h
  obtain ⟨a, D, fs, c, cv, b, rfl, ha, C, hcv, e, q⟩ := h
  cases r with
  | cons rx rr =>
    cases rr with
    | cons rt rr =>
      cases rr
      cases rx
      have ec := hcv _ rt
      subst ec
      have cl : (PySem.W.clsIn X.K D).isSome = true := by
        obtain ⟨cd, hc, _⟩ := PySem.W.any_some C.hd
        rw [hc]; rfl
      have J : ∃ ox od, PySem.W.InstAt s.heap a ox D od := by
        rcases ha with ⟨ha, _⟩ | ⟨dd, ha, hd⟩
        · obtain ⟨t1, ho⟩ := exo_at I.hok ha
          exact ⟨_, none, ⟨ho, rfl, rfl, trivial⟩⟩
        · obtain ⟨t1, ho⟩ := exo_at I.hok ha
          obtain ⟨mA, hns, _⟩ := exd_at I.hok hd
          obtain ⟨od, hod, _⟩ := lookIn_ns hns
          exact ⟨_, some od, ⟨ho, rfl, rfl, hod⟩⟩
      obtain ⟨ox, od, J⟩ := J
      exact PySem.W.kia_one (PySem.W.kitx_exc cl C.hg C.hk C.hs C.ha C.hn C.ht C.hm) I.kIn J e (fun z => nomatch z) fun tk => ⟨.bl b, H, I.kept (t' := tk) fun _ _ z => z, rfl, q⟩
theorem rel_ref {C : Addr} : ∀ u, RelV (.ref C) u → u = Value.ref C := fun _ r => r
theorem rel_ty {n : String} : ∀ u, RelV (.ty n) u → u = Value.type n := fun _ r => r
end
end Own

set_option Elab.async false
set_option linter.all false
set_option maxRecDepth 100000
set_option maxHeartbeats 4000000
/-! What the written part says of an own exception class, as one truth value. -/
namespace Own
open PySem PySem.Spec PyProof.Rows L2
def exCls (K : PySem.W.Frag) (C : Addr) : Bool := match K.lookup C with
  | some ⟨.type "type", _, .cls cd, sl⟩ => (match cd.mro, sl.toList with
    | .ref C' :: bm, [_, _, _, _, some (.builtin n), _] => C' == C && (n == "ValueError.__new__" && (!cd.hasDel && (cd.hasDict && PySem.HandSPX.refsVE bm)))
    | _, _ => false)
  | _ => false
theorem exCls_ok {K : PySem.W.Frag} {C : Addr} (q : exCls K C = true) : ∃ nm q N bs bm sn sub ab col dd k0 k1 k2 k3 k5, K.lookup C = some (excClassObj nm q C N bs bm true sn sub ab col dd k0 k1 k2 k3 k5 "ValueError.__new__") ∧ PySem.HandSPX.refsVE bm = true := by
  unfold exCls at q
  split at q
  · rename_i dd cd sl ho
    split at q
    · rename_i C' bm k0 k1 k2 k3 n k5 hm hs
      simp only [Bool.and_eq_true, beq_iff_eq, Bool.not_eq_true'] at q
      obtain ⟨rfl, rfl, hdel, hdc, hr⟩ := q
      obtain ⟨nm, bs, mro, ns, qn, hd, sn, sub, ab, col, del⟩ := cd
      dsimp only at hm hdel hdc
      subst hm hdel hdc
      have hsl : sl = #[k0, k1, k2, k3, some (.builtin "ValueError.__new__"), k5] := by
        obtain ⟨l⟩ := sl
        simp only at hs
        rw [hs]
      subst hsl
      exact ⟨nm, qn, ns, bs, bm, sn, sub, ab, col, dd, k0, k1, k2, k3, k5, ho, hr⟩
    · cases q
  · cases q
def exB (K : PySem.W.Frag) (C : Addr) : Bool :=
  exCls K C && (decide (PySem.W.findIn K (.ref C) "__setattr__" = some (some (.builtin "object.__setattr__"))) && (decide (PySem.W.subIn K (.ref C) (.type "BaseException") = some true) && (decide (PySem.W.typeIn K (.ref C) = some (.type "type")) &&
  (PySem.W.keepIn K (.ref C) && (decide (PySem.W.findIn K (.ref C) "__getattribute__" = some (some (.builtin "BaseException.__getattribute__"))) && (decide (PySem.W.findIn K (.ref C) "__getattr__" = some none) && (PySem.W.hasDictIn K C &&
  (decide (PySem.W.findIn K (.ref C) "__class__" = some (some (.builtin "object.__class__"))) && decide (PySem.W.mroIn K C (.type "object") = some true)))))))))
/-- what any own exception class needs of the built-in ones -/
def exG (K : PySem.W.Frag) : Bool := decide (PySem.W.specialIn K (.builtin "object.__class__") "__get__" = some (some (.builtin "getset_descriptor.__get__"))) && decide (PySem.W.takesIn K (.builtin "object.__class__") = some true)
structure ExK (K : PySem.W.Frag) (C : Addr) : Prop where
  ox : OexC K C
  xf : XfC K C
  ec : ExcC K C
theorem exK_of {K : PySem.W.Frag} {C : Addr} (g : exG K = true) (q : exB K C = true) : ExK K C := by
  simp only [exB, exG, Bool.and_eq_true, decide_eq_true_eq] at q g
  obtain ⟨a1, a2, a3, a4, a5, a6, a7, a8, a9, a10⟩ := q
  exact ⟨⟨exCls_ok a1, a2, a3, a4, a5⟩, ⟨a6, a7, a3, a8⟩, ⟨a6, a7, a3, a8, a9, g.1, g.2, a10⟩⟩
/-- its __init__ at fi, its fields' names free in the class -/
def exI (K : PySem.W.Frag) (C fi : Addr) (fs : List Str) : Bool := decide (PySem.W.findIn K (.ref C) "__init__" = some (some (.ref fi))) && (decide (PySem.W.typeIn K (.ref fi) = some (.type "function")) && fs.all fun f => decide (PySem.W.findIn K (.ref C) f = some none))
structure ExI (K : PySem.W.Frag) (C fi : Addr) (fs : List Str) : Prop where
  ini : PySem.W.findIn K (.ref C) "__init__" = some (some (.ref fi))
  ty : PySem.W.typeIn K (.ref fi) = some (.type "function")
  no : ∀ f ∈ fs, PySem.W.findIn K (.ref C) f = some none
theorem exI_of {K : PySem.W.Frag} {C fi : Addr} {fs : List Str} (q : exI K C fi fs = true) : ExI K C fi fs := by
  simp only [exI, Bool.and_eq_true, decide_eq_true_eq, List.all_eq_true] at q
  exact ⟨q.1, q.2.1, q.2.2⟩
/-- what an __init__ promises that stores its one parameter, its two -/
def spE1 (C : Addr) (f : Str) : Sp := fun vs H Q _ => ∃ (a : Addr) (v : V), vs = [.ref a, v] ∧ H a = some (exo a C none) ∧ ∀ dx, H dx = none → dx ≠ a → Q .non (upd (upd H dx (exd dx [(f, v)])) a (exo a C (some dx)))
def spE2 (C : Addr) (f g : Str) : Sp := fun vs H Q _ => ∃ (a : Addr) (v u : V), vs = [.ref a, v, u] ∧ H a = some (exo a C none) ∧ ∀ dx, H dx = none → dx ≠ a → Q .non (upd (upd (upd H dx (exd dx [(f, v)])) a (exo a C (some dx))) dx (exd dx [(g, u), (f, v)]))
end Own

set_option Elab.async false
set_option linter.all false
set_option maxRecDepth 100000
set_option maxHeartbeats 4000000
/-! == and != of values that are built alike, empty dicts and shared objects within. -/
namespace Own
open PySem PySem.Spec PyProof.Rows L2
def plainV : V → Bool
  | .flt _ => false
  | .byt _ => false
  | _ => true
inductive Alike (K : PySem.W.Frag) (H : Hp) : Nat → V → V → Prop
  | same {n : Nat} {v : V} : plainV v = true → Alike K H n v v
  | lst {n : Nat} {p q : Addr} {xs ys : List V} : SqL K H p xs → SqL K H q ys → xs.length = ys.length → (∀ (i : Nat) x y, xs[i]? = some x → ys[i]? = some y → Alike K H n x y) → Alike K H (n + 1) (.ref p) (.ref q)
  | tup {n : Nat} {p q : Addr} {xs ys : List V} : SqT K H p xs → SqT K H q ys → xs.length = ys.length → (∀ (i : Nat) x y, xs[i]? = some x → ys[i]? = some y → Alike K H n x y) → Alike K H (n + 1) (.ref p) (.ref q)
  | emp {n : Nat} {p q : Addr} : H p = some (.dK []) → H q = some (.dK []) → Alike K H (n + 1) (.ref p) (.ref q)
theorem emp_of {h : Heap} {P : Program} {w : World} {H : Hp} {a : Addr} (ok : HOk P w H h) (e : H a = some (.dK [])) : (a == sysModules) = false ∧ ∀ (P' : Program) (w' : World), h.DictOf (intKind P' w') a [] := by
  obtain ⟨_, hs, vs, kv, o, es, ep, e1, e2, e3, e4, e5⟩ := ok a _ e
  cases kv
  exact ⟨hs, fun P' w' => by
    have hes : es.toList = [] := by
      cases hl : es.toList with
      | nil => rfl
      | cons y ys =>
        rw [hl] at e5
        exact absurd e5.1 (by intro z; cases z)
    have he : es = #[] := by
      cases es
      simp at hes
      rw [hes]
    subst he
    exact ⟨o, #[], ep, e1, e2, e3, (fun _ z => by simp at z), .nil, List.nodup_nil⟩⟩
section
variable {X : Cx} {pins : List (Addr × Obj)} {σ : L2.St} {H : Hp} {s : Shared}
theorem Alike.run (I : Inv X pins σ H s) : ∀ (n : Nat) (A : Around), A.units + n < cLine → ∀ (x y : V) (v u : Value), Alike X.K H n x y → RelV x v → RelV y u → SeqAt.EqAt A s v u true := by
  intro n
  induction n with
  | zero =>
    intro A hu x y v u a rx ry
    cases a with
    | same hp =>
      cases x with
      | non => cases rx; cases ry; exact .same _
      | bl b => cases rx; cases ry; exact .same _
      | int i => obtain ⟨t, rfl⟩ := rx; obtain ⟨t', rfl⟩ := ry; simpa using SeqAt.EqAt.int_int (A := A) (s := s) i t i t'
      | str i => obtain ⟨t, rfl⟩ := rx; obtain ⟨t', rfl⟩ := ry; simpa using SeqAt.EqAt.str_str (A := A) (s := s) i t i t'
      | byt b => cases hp
      | flt b => cases hp
      | ref a => cases rx; cases ry; exact .same _
      | ty m => cases rx; cases ry; exact .same _
  | succ n ih =>
    intro A hu x y v u a rx ry
    have items : ∀ (xs ys : List V) (its its2 : List Value), Vals xs its → Vals ys its2 → xs.length = ys.length → (∀ (i : Nat) x y, xs[i]? = some x → ys[i]? = some y → Alike X.K H n x y) →
        its.toArray.size = its2.toArray.size ∧ ∀ j (h1 : j < its.toArray.size) (h2 : j < its2.toArray.size), SeqAt.EqAt A.in1 s its.toArray[j] its2.toArray[j] ((fun _ => true) j) := by
      intro xs ys its its2 r1 r2 hl hi
      have l1 := r1.length
      have l2 := r2.length
      refine ⟨by simp; omega, fun j h1 h2 => ?_⟩
      have j1 : j < xs.length := by simp at h1; omega
      have j2 : j < ys.length := by omega
      obtain ⟨w1, e1, g1⟩ := r1.get (List.getElem?_eq_getElem j1)
      obtain ⟨w2, e2, g2⟩ := r2.get (List.getElem?_eq_getElem j2)
      have z1 : its.toArray[j] = w1 := by
        rw [List.getElem?_eq_getElem (by simpa using h1)] at e1
        simpa using Option.some.inj e1
      have z2 : its2.toArray[j] = w2 := by
        rw [List.getElem?_eq_getElem (by simpa using h2)] at e2
        simpa using Option.some.inj e2
      rw [z1, z2]
      exact ih A.in1 (by show A.units + 1 + n < cLine; omega) _ _ _ _ (hi j _ _ (List.getElem?_eq_getElem j1) (List.getElem?_eq_getElem j2)) g1 g2
    cases a with
    | same hp =>
      cases x with
      | non => cases rx; cases ry; exact .same _
      | bl b => cases rx; cases ry; exact .same _
      | int i => obtain ⟨t, rfl⟩ := rx; obtain ⟨t', rfl⟩ := ry; simpa using SeqAt.EqAt.int_int (A := A) (s := s) i t i t'
      | str i => obtain ⟨t, rfl⟩ := rx; obtain ⟨t', rfl⟩ := ry; simpa using SeqAt.EqAt.str_str (A := A) (s := s) i t i t'
      | byt b => cases hp
      | flt b => cases hp
      | ref a => cases rx; cases ry; exact .same _
      | ty m => cases rx; cases ry; exact .same _
    | lst h1 h2 hl hi =>
      rename_i p q xs ys
      cases rx; cases ry
      by_cases e : p = q
      · subst e; exact .same _
      obtain ⟨its, r1, ⟨o1, n1, ho1, hc1, _, hd1⟩, _⟩ := I.list h1
      obtain ⟨its2, r2, ⟨o2, n2, ho2, hc2, _, hd2⟩, _⟩ := I.list h2
      obtain ⟨hz, he⟩ := items xs ys its its2 r1 r2 hl hi
      have z := SeqAt.RcAt.lists (A := A) (s := s) (l := p) (b := q) (items := its.toArray) (items2 := its2.toArray) (e := fun _ => true) ⟨o1, ho1, hc1, _, hd1⟩ ⟨o2, ho2, hc2, _, hd2⟩ hz (by omega) he
      have t : (List.range its.toArray.size).all (fun _ => true) = true := by simp
      rw [t] at z
      exact .of_refs e z
    | tup h1 h2 hl hi =>
      rename_i p q xs ys
      cases rx; cases ry
      by_cases e : p = q
      · subst e; exact .same _
      obtain ⟨its, r1, ⟨o1, ho1, hc1, n1, hd1⟩, _⟩ := I.tuple h1
      obtain ⟨its2, r2, ⟨o2, ho2, hc2, n2, hd2⟩, _⟩ := I.tuple h2
      obtain ⟨hz, he⟩ := items xs ys its its2 r1 r2 hl hi
      have z := SeqAt.RcAt.tuples (A := A) (s := s) (l := p) (b := q) (items := its.toArray) (items2 := its2.toArray) (e := fun _ => true) ⟨o1, ho1, hc1, _, hd1⟩ ⟨o2, ho2, hc2, _, hd2⟩ (by omega) he
      have t : ((List.range (min its.toArray.size its2.toArray.size)).all (fun _ => true) && its.toArray.size == its2.toArray.size) = true := by simp at hz ⊢; exact hz
      rw [t] at z
      exact .of_refs e z
    | emp h1 h2 =>
      rename_i p q
      cases rx; cases ry
      by_cases e : p = q
      · subst e; exact .same _
      obtain ⟨s1, d1⟩ := emp_of I.hok h1
      obtain ⟨s2, d2⟩ := emp_of I.hok h2
      intro P' w'
      have t : PySem.W.EqTree P' w' s (n + 1) (.ref p) (.ref q) (([] : List (Int × Value)).length == ([] : List (Int × Value)).length && ([] : List (Int × Value)).all fun k => (valueAt ([] : List (Int × Value)) k.1).isSome && (fun _ => true) k.1) :=
        .dicts (e := fun _ => true) e s1 s2 (d1 P' w') (d2 P' w') (fun k v y hm _ => by cases hm)
      exact t.at A hu
/-- xs == ys, xs != ys for two lists built alike -/
def rEqA (K : PySem.W.Frag) (r : Bool) : R2 := fun x y H Q => ∃ (n : Nat) (p q : Addr) (xs ys : List V), n ≤ 60 ∧ x = .ref p ∧ y = .ref q ∧ SqL K H p xs ∧ SqL K H q ys ∧ xs.length = ys.length ∧ (∀ (i : Nat) x y, xs[i]? = some x → ys[i]? = some y → Alike K H n x y) ∧ Q (.bl r) H
theorem op_neA (hu : X.A.units + 64 < cLine) : OpR X (compareOp .NotEq) (rEqA X.K false) := by
  intro pins s σ H x y v u Q I rx ry h
  obtain ⟨n, p, q, xs, ys, hn, rfl, rfl, h1, h2, hl, hi, k⟩ := h
  cases rx; cases ry
  obtain ⟨its, r1, ⟨o1, n1, ho1, hc1, _, hd1⟩, _⟩ := I.list h1
  obtain ⟨its2, r2, ⟨o2, n2, ho2, hc2, _, hd2⟩, _⟩ := I.list h2
  have l1 := r1.length
  have l2 := r2.length
  have hz : its.toArray.size = its2.toArray.size := by simp; omega
  have z := SeqAt.RcNeAt.lists (A := X.A) (s := s) (l := p) (b := q) (items := its.toArray) (items2 := its2.toArray) (e := fun _ => true) ⟨o1, ho1, hc1, _, hd1⟩ ⟨o2, ho2, hc2, _, hd2⟩ hz (by omega) (fun j h1 h2 => by
    have j1 : j < xs.length := by simp at h1; omega
    have j2 : j < ys.length := by omega
    obtain ⟨w1, e1, g1⟩ := r1.get (List.getElem?_eq_getElem j1)
    obtain ⟨w2, e2, g2⟩ := r2.get (List.getElem?_eq_getElem j2)
    have z1 : its.toArray[j] = w1 := by
      rw [List.getElem?_eq_getElem (by simpa using h1)] at e1
      simpa using Option.some.inj e1
    have z2 : its2.toArray[j] = w2 := by
      rw [List.getElem?_eq_getElem (by simpa using h2)] at e2
      simpa using Option.some.inj e2
    rw [z1, z2]
    exact Alike.run I n X.A.in1 (by show X.A.units + 1 + n < cLine; omega) _ _ _ _ (hi j _ _ (List.getElem?_eq_getElem j1) (List.getElem?_eq_getElem j2)) g1 g2)
  have t : (List.range its.toArray.size).all (fun _ => true) = true := by simp
  rw [t] at z
  exact PySem.EqBoolInt.of_rcne z ⟨.bl false, H, I, rfl, k⟩
end
end Own

set_option Elab.async false
set_option linter.all false
set_option maxRecDepth 100000
set_option maxHeartbeats 4000000
/-! Where the text's defs and classes stand; the tape that every law draws from. -/
namespace Own
open PySem PySem.Spec PyProof.Rows L2
/-- a def of the top -/
structure DfT (K : PySem.W.Frag) (mg : Str → Option Value) (x : Str) (st : Stmt) (ps : List Str) where
  a : Addr
  d : FuncData
  F : Fun K x x st a d
  g : mg x = some (.ref a)
  b : Binds K d ps []
/-- an own exception class with an __init__ -/
structure ClT (K : PySem.W.Frag) (mg : Str → Option Value) (x q : Str) (st : Stmt) (ps fs : List Str) where
  C : Addr
  f : Addr
  d : FuncData
  m : mg x = some (.ref C)
  e : ExK K C
  n : ExI K C f fs
  F : Fun K "__init__" q st f d
  b : Binds K d ps []
/-- one without -/
structure Cl0 (K : PySem.W.Frag) (mg : Str → Option Value) (x : Str) where
  C : Addr
  m : mg x = some (.ref C)
  e : ExK K C
  x : PySem.W.excIn K C [.type "ValueError", .type "Exception", .type "BaseException", .type "object"] "ValueError.__new__" = true
theorem call_lenL {X : Cx} : CallR X (.builtin "len") (fun xs H Q => ∃ p ys, xs = [V.ref p] ∧ SqL X.K H p ys ∧ Q (.int ys.length) H) := fun pins s σ H vs us Q I r ⟨p, ys, e, h, q⟩ => call_len_seq pins s σ H vs us Q I r ⟨p, ys, e, .inl h, q⟩
theorem call_lenT {X : Cx} : CallR X (.builtin "len") (fun xs H Q => ∃ p ys, xs = [V.ref p] ∧ SqT X.K H p ys ∧ Q (.int ys.length) H) := fun pins s σ H vs us Q I r ⟨p, ys, e, h, q⟩ => call_len_seq pins s σ H vs us Q I r ⟨p, ys, e, .inr h, q⟩
/-- a tape: the cell, how often it was drawn from, whether the cell is of common size, its number; n more draws may come -/
structure TapeOk (n : Nat) (c m f k : Int) : Prop where
  small : f = 0 ∨ (f = 1 ∧ 0 ≤ c ∧ c < 10 ^ 18)
  lo : 0 ≤ m
  hi : m + n ≤ 1000000000
  klo : 0 ≤ k
  khi : k ≤ 1000000
def Tape (H : Hp) (t : Addr) (n : Nat) : Prop := ∃ c m f k, H t = some (.lst [.int c, .int m, .int f, .int k]) ∧ TapeOk n c m f k
theorem Tape.mono {H : Hp} {t : Addr} {n m : Nat} (h : Tape H t n) (le : m ≤ n) : Tape H t m := by
  obtain ⟨c, j, f, k, e, o⟩ := h
  exact ⟨c, j, f, k, e, ⟨o.small, o.lo, by have := o.hi; omega, o.klo, o.khi⟩⟩
/-- all but t stays -/
def ExT (t : Addr) (H H' : Hp) : Prop := ∀ b o, b ≠ t → H b = some o → H' b = some o
theorem ExT.refl (t : Addr) (H : Hp) : ExT t H H := fun _ _ _ e => e
theorem ExT.trans {t : Addr} {H H1 H2 : Hp} (a : ExT t H H1) (b : ExT t H1 H2) : ExT t H H2 := fun c o n e => b c o n (a c o n e)
theorem Same.exT {t : Addr} {H H' : Hp} (a : Same H H') : ExT t H H' := fun c o _ e => a c o e
theorem same_new {H : Hp} {p : Addr} {o : HO} (h : H p = none) : Same H (upd H p o) := fun b x e => by
  rw [upd_ne (ne_of_none e h)]
  exact e
theorem scal_ii {a b : Int} : scal (.int a) (.int b) = true := rfl
theorem scal_ss {a b : Str} : scal (.str a) (.str b) = true := rfl
theorem scal_bb {a b : Bool} : scal (.bl a) (.bl b) = true := rfl
theorem scal_is {a : Int} {b : Str} : scal (.int a) (.str b) = true := rfl
theorem scal_si {a : Str} {b : Int} : scal (.str a) (.int b) = true := rfl
theorem scal_nn : scal .non .non = true := rfl
/-- a new list, tuple, dict -/
def NewL (xs : List V) (H : Hp) (Q : VK) : Prop := xs.length ≤ sizeLine ∧ ∀ p, H p = none → Q (.ref p) (upd H p (.lst xs))
def NewT (xs : List V) (H : Hp) (Q : VK) : Prop := xs.length ≤ sizeLine ∧ ∀ p, H p = none → Q (.ref p) (upd H p (.tup xs))
def NewD (H : Hp) (Q : VK) : Prop := ∀ p, H p = none → Q (.ref p) (upd H p (.dK []))
theorem tLst_eq {t : TA} : tLst t = fun σ H Q => t σ H fun xs H1 => NewL xs H1 Q := rfl
theorem tTup_eq {t : TA} : tTup t = fun σ H Q => t σ H fun xs H1 => NewT xs H1 Q := rfl
theorem tDNewK_eq : tDNewK = fun _ H Q => NewD H Q := rfl
theorem newL_go {xs : List V} {H : Hp} {Q : VK} (k : ∀ p H', H p = none → Same H H' → H' p = some (.lst xs) → Q (.ref p) H') (hz : xs.length ≤ 1000000 := by (simp only [List.length_cons, List.length_nil, List.length_append, List.length_map]; omega)) : NewL xs H Q := ⟨Nat.le_trans hz (by decide), fun p hp => k p _ hp (same_new hp) upd_same⟩
theorem newT_go {xs : List V} {H : Hp} {Q : VK} (k : ∀ p H', H p = none → Same H H' → H' p = some (.tup xs) → Q (.ref p) H') (hz : xs.length ≤ 1000000 := by (simp only [List.length_cons, List.length_nil, List.length_append, List.length_map]; omega)) : NewT xs H Q := ⟨Nat.le_trans hz (by decide), fun p hp => k p _ hp (same_new hp) upd_same⟩
theorem newD_go {H : Hp} {Q : VK} (k : ∀ p H', H p = none → Same H H' → H' p = some (.dK []) → Q (.ref p) H') : NewD H Q := fun p hp => k p _ hp (same_new hp) upd_same
theorem cat_go {l b : Addr} {xs zs : List V} {H : Hp} {Q : VK} (h1 : H l = some (.lst xs)) (h2 : H b = some (.lst zs)) (k : ∀ p H', H p = none → Same H H' → H' p = some (.lst (xs ++ zs)) → Q (.ref p) H')
    (hz : xs.length + zs.length ≤ 1000000 := by (simp only [List.length_cons, List.length_nil, List.length_append, List.length_map]; omega)) : rCat (.ref l) (.ref b) H Q :=
  ⟨l, b, xs, zs, rfl, rfl, h1, h2, Nat.le_trans hz (by decide), fun p hp => k p _ hp (same_new hp) upd_same⟩
def spDraw : Sp := fun vs H Q _ => ∃ (t : Addr) (n : Nat) (m : Int), vs = [.ref t, .int m] ∧ Tape H t (n + 1) ∧ 0 < m ∧ m.natAbs < 2 ^ 1000 ∧ ∀ x H', 0 ≤ x → x < m → Tape H' t n → ExT t H H' → Q (.int x) H'
def spTape (K : PySem.W.Frag) : Sp := fun vs H Q _ => ∃ (a : Addr) (ns : List Int) (k : Int), vs = [.ref a, .int k] ∧ SqL K H a (ns.map V.int) ∧ 0 ≤ k ∧ k ≤ 1000000 ∧ ∀ t H', H t = none → Tape H' t 1000000000 → Same H H' → Q (.ref t) H'
end Own

set_option Elab.async false
set_option linter.all false
set_option maxRecDepth 100000
set_option maxHeartbeats 4000000
/-! Steps for exceptions held as values; rows of rows. -/
namespace Own
open PySem PySem.Spec PyProof.Rows L2
theorem ExAt.same {H H' : Hp} {a D : Addr} {fs : List (Str × V)} (h : ExAt H a D fs) (s : Same H H') : ExAt H' a D fs := by
  rcases h with ⟨h, e⟩ | ⟨dd, h, e⟩
  · exact .inl ⟨s _ _ h, e⟩
  · exact .inr ⟨dd, s _ _ h, s _ _ e⟩
theorem mkE1_go {H : Hp} {C : Addr} {f : Str} {v : V} {Q : VK} {E : XK} (k : ∀ a H', H a = none → Same H H' → ExAt H' a C [(f, v)] → Q (.ref a) H') :
    [v].length ≤ 1000 ∧ ∀ a, H a = none → spE1 C f [.ref a, v] (upd H a (exo a C none)) (fun u H2 => u = .non ∧ Q (.ref a) H2) E := by
  refine ⟨by show 1 ≤ 1000; decide, fun a ha => ⟨a, v, rfl, upd_same, fun dx h1 h2 => ⟨rfl, k a _ ha (fun b o e => ?_) (.inr ⟨dx, upd_same, ?_⟩)⟩⟩⟩
  · have h3 := ne_of_none e ha
    rw [upd_ne h3]
    have h4 : b ≠ dx := fun z => by
      rw [z] at e
      rw [upd_ne h2, e] at h1
      cases h1
    rw [upd_ne h4, upd_ne h3]
    exact e
  · rw [upd_ne h2, upd_same]
theorem mkE2_go {H : Hp} {C : Addr} {f g : Str} {v u : V} {Q : VK} {E : XK} (k : ∀ a H', H a = none → Same H H' → ExAt H' a C [(g, u), (f, v)] → Q (.ref a) H') :
    [v, u].length ≤ 1000 ∧ ∀ a, H a = none → spE2 C f g [.ref a, v, u] (upd H a (exo a C none)) (fun z H2 => z = .non ∧ Q (.ref a) H2) E := by
  refine ⟨by show 2 ≤ 1000; decide, fun a ha => ⟨a, v, u, rfl, upd_same, fun dx h1 h2 => ⟨rfl, k a _ ha (fun b o e => ?_) (.inr ⟨dx, ?_, upd_same⟩)⟩⟩⟩
  · have h3 := ne_of_none e ha
    have h4 : b ≠ dx := fun z => by
      rw [z] at e
      rw [upd_ne h2, e] at h1
      cases h1
    rw [upd_ne h4, upd_ne h3, upd_ne h4, upd_ne h3]
    exact e
  · rw [upd_ne h2.symm, upd_same]
theorem mkE0_go {H : Hp} {C : Addr} {Q : VK} (k : ∀ a H', H a = none → Same H H' → ExAt H' a C [] → Q (.ref a) H') : ∀ a, H a = none → Q (.ref a) (upd H a (exo a C none)) :=
  fun a ha => k a _ ha (same_new ha) (.inl ⟨upd_same, rfl⟩)
theorem mkE1t {C : Addr} {f : Str} {te : TE} {σ : L2.St} {H : Hp} {Q : VK} (k : te σ H fun v H1 => ∀ a H', H1 a = none → Same H1 H' → ExAt H' a C [(f, v)] → Q (.ref a) H') (mono : ∀ (R R' : VK), (∀ v H1, R v H1 → R' v H1) → te σ H R → te σ H R') :
    tMkE C (spE1 C f) (tCons te tNil) σ H Q := mono _ _ (fun _ _ h => mkE1_go h) k
theorem mkE2t {C : Addr} {f g : Str} {te tu : TE} {σ : L2.St} {H : Hp} {Q : VK} (k : te σ H fun v H1 => tu σ H1 fun u H2 => ∀ a H', H2 a = none → Same H2 H' → ExAt H' a C [(g, u), (f, v)] → Q (.ref a) H')
    (mono : ∀ H (R R' : VK), (∀ v H1, R v H1 → R' v H1) → te σ H R → te σ H R') (mono2 : ∀ H (R R' : VK), (∀ v H1, R v H1 → R' v H1) → tu σ H R → tu σ H R') :
    tMkE C (spE2 C f g) (tCons te (tCons tu tNil)) σ H Q := mono _ _ _ (fun _ _ h => mono2 _ _ _ (fun _ _ h => mkE2_go h) h) k
theorem mkE1v {C : Addr} {f : Str} {i : Nat} {v : V} {σ : L2.St} {H : Hp} {Q : VK} (h : σ[i]? = some (some v)) (k : ∀ a H', H a = none → Same H H' → ExAt H' a C [(f, v)] → Q (.ref a) H') : tMkE C (spE1 C f) (tCons (tVar i) tNil) σ H Q := ⟨v, h, mkE1_go k⟩
theorem mkE2v {C : Addr} {f g : Str} {i j : Nat} {v u : V} {σ : L2.St} {H : Hp} {Q : VK} (h : σ[i]? = some (some v)) (h2 : σ[j]? = some (some u)) (k : ∀ a H', H a = none → Same H H' → ExAt H' a C [(g, u), (f, v)] → Q (.ref a) H') :
    tMkE C (spE2 C f g) (tCons (tVar i) (tCons (tVar j) tNil)) σ H Q := ⟨v, h, u, h2, mkE2_go k⟩
def MK1 (C : Addr) (f : Str) (v : V) (H : Hp) (Q : VK) : Prop := [v].length ≤ 1000 ∧ ∀ a, H a = none → spE1 C f [.ref a, v] (upd H a (exo a C none)) (fun u H2 => u = .non ∧ Q (.ref a) H2) fun _ _ _ => False
def MK2 (C : Addr) (f g : Str) (v u : V) (H : Hp) (Q : VK) : Prop := [v, u].length ≤ 1000 ∧ ∀ a, H a = none → spE2 C f g [.ref a, v, u] (upd H a (exo a C none)) (fun z H2 => z = .non ∧ Q (.ref a) H2) fun _ _ _ => False
theorem mkE1u {C : Addr} {f : Str} {te : TE} {σ : L2.St} {H : Hp} {Q : VK} (k : te σ H fun v H1 => MK1 C f v H1 Q) : tMkE C (spE1 C f) (tCons te tNil) σ H Q := k
theorem mkE2u {C : Addr} {f g : Str} {te tu : TE} {σ : L2.St} {H : Hp} {Q : VK} (k : te σ H fun v H1 => tu σ H1 fun u H2 => MK2 C f g v u H2 Q) : tMkE C (spE2 C f g) (tCons te (tCons tu tNil)) σ H Q := k
theorem mk1_go {C : Addr} {f : Str} {v : V} {H : Hp} {Q : VK} (k : ∀ a H', H a = none → Same H H' → ExAt H' a C [(f, v)] → Q (.ref a) H') : MK1 C f v H Q := mkE1_go k
theorem mk2_go {C : Addr} {f g : Str} {v u : V} {H : Hp} {Q : VK} (k : ∀ a H', H a = none → Same H H' → ExAt H' a C [(g, u), (f, v)] → Q (.ref a) H') : MK2 C f g v u H Q := mkE2_go k
theorem mkE0t {C : Addr} {σ : L2.St} {H : Hp} {Q : VK} (k : ∀ a H', H a = none → Same H H' → ExAt H' a C [] → Q (.ref a) H') : tMkE0 C σ H Q := mkE0_go k
/-- ("w", ("bind", a)) | (("call", w, {}, ()),) -/
def RowAt (H : Hp) (r : V) (w a : V) : Prop := ∃ r0 t, r = .ref r0 ∧ H r0 = some (.tup [w, .ref t]) ∧ H t = some (.tup [.str "bind", a])
def ScAt (H : Hp) (s : V) (w : V) : Prop := ∃ s0 m d u, s = .ref s0 ∧ H s0 = some (.tup [.ref m]) ∧ H m = some (.tup [.str "call", w, .ref d, .ref u]) ∧ H d = some (.dK []) ∧ H u = some (.tup [])
theorem RowAt.same {H H' : Hp} (e : Same H H') {r w a : V} (h : RowAt H r w a) : RowAt H' r w a := by
  obtain ⟨r0, t, h1, h2, h3⟩ := h
  exact ⟨r0, t, h1, e _ _ h2, e _ _ h3⟩
theorem ScAt.same {H H' : Hp} (e : Same H H') {s w : V} (h : ScAt H s w) : ScAt H' s w := by
  obtain ⟨s0, m, d, u, h1, h2, h3, h4, h5⟩ := h
  exact ⟨s0, m, d, u, h1, e _ _ h2, e _ _ h3, e _ _ h4, e _ _ h5⟩
theorem rCat_go {l b : Addr} {xs zs : List V} {H : Hp} {Q : VK} (h1 : H l = some (.lst xs)) (h2 : H b = some (.lst zs)) (hz : xs.length + zs.length ≤ 1000000) (q : ∀ p, H p = none → Q (.ref p) (upd H p (.lst (xs ++ zs)))) : rCat (.ref l) (.ref b) H Q :=
  ⟨l, b, xs, zs, rfl, rfl, h1, h2, Nat.le_trans hz (by decide), q⟩
def ExF (K : PySem.W.Frag) (f : Str) (x : V) (H1 : Hp) (Q : VK) : Prop := ∃ (a C dd : Addr) (fs : List (Str × V)) (v : V), x = .ref a ∧ H1 a = some (exo a C (some dd)) ∧ H1 dd = some (exd dd fs) ∧ XfC K C ∧ PySem.W.findIn K (.ref C) f = some none ∧ fs.lookup f = some v ∧ Q v H1
theorem tExf_eq {K : PySem.W.Frag} {f : Str} {te : TE} : tExf K f te = fun σ H Q => te σ H fun x H1 => ExF K f x H1 Q := rfl
theorem exf_go {K : PySem.W.Frag} {H : Hp} {a D : Addr} {fs : List (Str × V)} {f : Str} {v : V} {Q : VK} (h : ExAt H a D fs) (X : XfC K D) (no : PySem.W.findIn K (.ref D) f = some none) (l : fs.lookup f = some v) (q : Q v H) : ExF K f (.ref a) H Q := by
  rcases h with ⟨h, e⟩ | ⟨dd, h, e⟩
  · rw [e] at l
    cases l
  · exact ⟨a, D, dd, fs, v, rfl, h, e, X, no, l, q⟩
theorem look1 {f : Str} {v : V} {r : List (Str × V)} : ((f, v) :: r).lookup f = some v := by simp [List.lookup]
theorem look2 {f g : Str} {v u : V} {r : List (Str × V)} (h : (f == g) = false) : ((g, u) :: (f, v) :: r).lookup f = some v := by simp [List.lookup, h]
theorem isV_go {K : PySem.W.Frag} {H : Hp} {a D : Addr} {fs : List (Str × V)} {c : V} {cv : Value} {b : Bool} {Q : VK} (h : ExAt H a D fs) (X : ExcC K D) (hc : ∀ u, RelV c u → u = cv) (e : PySem.W.kitOne K (.ref D) cv = some b) (q : Q (.bl b) H) : rIsV K [.ref a, c] H Q :=
  ⟨a, D, fs, c, cv, b, rfl, h, X, hc, e, q⟩
/-- exceptions at these addresses, of these classes, with these fields -/
def Errs (H : Hp) : List Addr → List (Addr × List (Str × V)) → Prop := Paired fun a d => ExAt H a d.1 d.2
theorem Errs.same {H H' : Hp} (s : Same H H') : ∀ {as : List Addr} {ds : List (Addr × List (Str × V))}, Errs H as ds → Errs H' as ds
  | _, _, .nil => .nil
  | _, _, .cons a r => .cons (a.same s) (Errs.same s r)
theorem Errs.snoc {H : Hp} {a : Addr} {d : Addr × List (Str × V)} (x : ExAt H a d.1 d.2) : ∀ {as : List Addr} {ds : List (Addr × List (Str × V))}, Errs H as ds → Errs H (as ++ [a]) (ds ++ [d])
  | _, _, .nil => .cons x .nil
  | _, _, .cons y r => .cons y (Errs.snoc x r)
theorem Errs.append {H : Hp} : ∀ {as bs : List Addr} {ds es : List (Addr × List (Str × V))}, Errs H as ds → Errs H bs es → Errs H (as ++ bs) (ds ++ es)
  | _, _, _, _, .nil, s => s
  | _, _, _, _, .cons a r, s => .cons a (Errs.append r s)
theorem Errs.len {H : Hp} {as : List Addr} {ds : List (Addr × List (Str × V))} (h : Errs H as ds) : as.length = ds.length := Paired.length h
theorem Errs.get {H : Hp} : ∀ {as : List Addr} {ds : List (Addr × List (Str × V))} {i : Nat} {d : Addr × List (Str × V)}, Errs H as ds → ds[i]? = some d → ∃ a, as[i]? = some a ∧ ExAt H a d.1 d.2
  | _, _, _, _, .nil, e => by simp at e
  | _, _, 0, _, .cons a _, e => by simp at e; subst e; exact ⟨_, rfl, a⟩
  | _, _, i + 1, _, .cons _ r, e => by
    obtain ⟨b, h1, h2⟩ := Errs.get (i := i) r (by simpa using e)
    exact ⟨b, by simpa using h1, h2⟩
/-- lists at these addresses hold these rows -/
def Rows (H : Hp) : List Addr → List (List V) → Prop := Paired fun a vs => H a = some (.lst vs)
theorem Rows.same {H H' : Hp} (s : Same H H') : ∀ {as : List Addr} {ds : List (List V)}, Rows H as ds → Rows H' as ds
  | _, _, .nil => .nil
  | _, _, .cons a r => .cons (s _ _ a) (Rows.same s r)
theorem Rows.snoc {H : Hp} {a : Addr} {d : List V} (x : H a = some (.lst d)) : ∀ {as : List Addr} {ds : List (List V)}, Rows H as ds → Rows H (as ++ [a]) (ds ++ [d])
  | _, _, .nil => .cons x .nil
  | _, _, .cons y r => .cons y (Rows.snoc x r)
theorem Rows.append {H : Hp} : ∀ {as bs : List Addr} {ds es : List (List V)}, Rows H as ds → Rows H bs es → Rows H (as ++ bs) (ds ++ es)
  | _, _, _, _, .nil, s => s
  | _, _, _, _, .cons a r, s => .cons a (Rows.append r s)
theorem Rows.len {H : Hp} {as : List Addr} {ds : List (List V)} (h : Rows H as ds) : as.length = ds.length := Paired.length h
theorem Rows.get {H : Hp} : ∀ {as : List Addr} {ds : List (List V)} {i : Nat} {a : Addr}, Rows H as ds → as[i]? = some a → ∃ d, ds[i]? = some d ∧ H a = some (.lst d)
  | _, _, _, _, .nil, e => by simp at e
  | _, _, 0, _, .cons a _, e => by simp at e; subst e; exact ⟨_, rfl, a⟩
  | _, _, i + 1, _, .cons _ r, e => by
    obtain ⟨b, h1, h2⟩ := Rows.get (i := i) r (by simpa using e)
    exact ⟨b, by simpa using h1, h2⟩
/-- which own exception is of which class, told as one table -/
def kitTab (K : PySem.W.Frag) (Ds : List Addr) (Cs : List Value) (f : Nat → Nat → Bool) : Bool := (List.range Ds.length).all fun i => (List.range Cs.length).all fun j => PySem.W.kitOne K (.ref (Ds.getD i 0)) (Cs.getD j .none) == some (f i j)
theorem kitTab_of {K : PySem.W.Frag} {Ds : List Addr} {Cs : List Value} {f : Nat → Nat → Bool} (h : kitTab K Ds Cs f = true) {i j : Nat} {D : Addr} {c : Value} (hi : Ds[i]? = some D) (hj : Cs[j]? = some c) : PySem.W.kitOne K (.ref D) c = some (f i j) := by
  unfold kitTab at h
  rw [List.all_eq_true] at h
  have h1 := h i (List.mem_range.mpr (List.getElem?_eq_some_iff.mp hi).1)
  rw [List.all_eq_true] at h1
  have h2 := h1 j (List.mem_range.mpr (List.getElem?_eq_some_iff.mp hj).1)
  rw [beq_iff_eq] at h2
  rw [List.getD_eq_getElem?_getD, hi, List.getD_eq_getElem?_getD, hj] at h2
  exact h2
/-- [e for j in range(n)], e a value that changes nothing -/
theorem lcR_go {ta : TA} {j : Nat} {te : TE} {σ : L2.St} {H : Hp} {Q : VK} {n : Nat} (g : Nat → V) (ht : ∀ R : List V → Hp → Prop, R [.int (n : Int)] H → ta σ H R) (hn : n ≤ 100000) (hw : ∀ x, wipe ((wipe σ [j]).set j (some x)) [j] = wipe σ [j])
    (he : ∀ (i : Nat) H' (R : VK), i < n → R (g i) H' → te ((wipe σ [j]).set j (some (.int (i : Int)))) H' R) (q : ∀ D H', H D = none → Same H H' → H' D = some (.lst ((List.range n).map g)) → Q (.ref D) H') : tLc (iRng1 ta) (gName j) tYes te [j] σ H Q := by
  refine ht _ ⟨n, rfl, by omega, by omega, fun D hD => ?_⟩
  rw [Int.toNat_natCast]
  refine lc_range (lo := 0) (n := n) (fun i H' => H' = upd H D (.lst ((List.range i).map g))) rfl ?_ ?_
  · rintro i H' hi rfl
    rw [Int.zero_add]
    refine ⟨hw _, ?_⟩
    show te _ _ _
    refine he i _ _ hi ⟨(List.range i).map g, upd_same, ?_, ?_⟩
    · rw [List.length_map, List.length_range]
      exact Nat.lt_of_lt_of_le hi (Nat.le_trans hn (by decide))
    · rw [upd_upd, List.range_succ, List.map_append]
      rfl
  · rintro H' rfl
    exact q D _ hD (same_new hD) upd_same
/-- for j in range(n) -/
theorem forR_go {ta : TA} {j : Nat} {tb : TS} {D : Ends} {σ : L2.St} {H : Hp} {n : Nat} (ht : ∀ R : List V → Hp → Prop, R [.int (n : Int)] H → ta σ H R) (hn : n ≤ 100000) (Pv : Nat → L2.St → Hp → Prop) (h0 : Pv 0 σ H)
    (hs : ∀ (i : Nat) σ' H', i < n → Pv i σ' H' → tb { D with nx := Pv (i + 1), ct := Pv (i + 1), bk := D.nx } (σ'.set j (some (.int (i : Int)))) H') (hd : ∀ σ' H', Pv n σ' H' → D.nx σ' H') : tFor (iRng1 ta) (gName j) tb D σ H := by
  refine ht _ ⟨n, rfl, by omega, by omega, ?_⟩
  rw [Int.toNat_natCast]
  refine for_range (lo := 0) (n := n) Pv h0 (fun i σ' H' hi p => ?_) hd
  rw [Int.zero_add]
  exact hs i σ' H' hi p
theorem eqA_same {K : PySem.W.Frag} {p q : Addr} {xs : List V} {H : Hp} {r : Bool} {Q : VK} (h1 : H p = some (.lst xs)) (h2 : H q = some (.lst xs)) (hp : ∀ x ∈ xs, plainV x = true) (k : Q (.bl r) H) : rEqA K r (.ref p) (.ref q) H Q :=
  ⟨0, p, q, xs, xs, by decide, rfl, rfl, .inl (.inl h1), .inl (.inl h2), rfl, fun i x y e1 e2 => by
    rw [e1] at e2
    cases e2
    exact .same (hp x (List.mem_of_getElem? e1)), k⟩
theorem plain_bls {n : Nat} {f : Nat → Bool} : ∀ x ∈ (List.range n).map fun j => V.bl (f j), plainV x = true := by
  intro x hx
  obtain ⟨j, _, rfl⟩ := List.mem_map.mp hx
  rfl
theorem Tape.same {H H' : Hp} {t : Addr} {n : Nat} (h : Tape H t n) (s : Same H H') : Tape H' t n := by
  obtain ⟨c, j, f, k, e, o⟩ := h
  exact ⟨c, j, f, k, s _ _ e, o⟩
theorem Tape.ne {H : Hp} {t p : Addr} {n : Nat} (h : Tape H t n) (e : H p = none) : p ≠ t := by
  obtain ⟨c, j, f, k, e2, o⟩ := h
  exact (ne_of_none e2 e).symm
theorem atI_ex {α : Type} {l : List α} {x : Int} (h0 : 0 ≤ x) (h1 : x < l.length) : ∃ v, v ∈ l ∧ atI l x = some v := by
  obtain ⟨j, rfl⟩ : ∃ j : Nat, x = (j : Int) := ⟨x.toNat, by omega⟩
  have hj : j < l.length := by omega
  exact ⟨l[j], List.getElem_mem hj, atI_nat (List.getElem?_eq_getElem hj)⟩
theorem ixS_go {z : Str} {i : Int} {c : Nat} {H : Hp} {Q : VK} (hz : z.length ≤ 1000000) (e : atI z.cps.toList i = some c) (q : Q (.str ⟨#[c]⟩) H) : rIxS (.str z) (.int i) H Q := ⟨z, i, c, rfl, rfl, Nat.le_trans hz (by decide), e, q⟩
/-- rows built alike -/
def AlikeRows (K : PySem.W.Frag) (H : Hp) (n : Nat) : List (List V) → List (List V) → Prop := Paired fun a b => Paired (Alike K H n) a b
theorem paired_get {α β : Type} {R : α → β → Prop} : ∀ {l : List α} {m : List β} {i : Nat} {x : α} {y : β}, Paired R l m → l[i]? = some x → m[i]? = some y → R x y
  | _, _, _, _, _, .nil, e, _ => by simp at e
  | _, _, 0, _, _, .cons a _, e, f => by simp at e f; subst e; subst f; exact a
  | _, _, i + 1, _, _, .cons _ r, e, f => paired_get (i := i) r (by simpa using e) (by simpa using f)
theorem paired_app {α β : Type} {R : α → β → Prop} : ∀ {l l' : List α} {m m' : List β}, Paired R l m → Paired R l' m' → Paired R (l ++ l') (m ++ m')
  | _, _, _, _, .nil, s => s
  | _, _, _, _, .cons a r, s => .cons a (paired_app r s)
theorem alike_refl {K : PySem.W.Frag} {H : Hp} {n : Nat} : ∀ {l : List V}, (∀ x ∈ l, plainV x = true) → Paired (Alike K H n) l l
  | [], _ => .nil
  | x :: l, h => .cons (.same (h x (List.mem_cons_self ..))) (alike_refl fun y hy => h y (List.mem_cons_of_mem _ hy))
theorem alikeRows_refl {K : PySem.W.Frag} {H : Hp} {n : Nat} : ∀ {l : List (List V)}, (∀ r ∈ l, ∀ x ∈ r, plainV x = true) → AlikeRows K H n l l
  | [], _ => .nil
  | r :: l, h => .cons (alike_refl (h r (List.mem_cons_self ..))) (alikeRows_refl fun y hy => h y (List.mem_cons_of_mem _ hy))
theorem eqA_rows {K : PySem.W.Frag} {H : Hp} {n : Nat} {p q : Addr} {as bs : List Addr} {R R' : List (List V)} {r : Bool} {Q : VK} (hn : n ≤ 50) (h1 : H p = some (.lst (as.map V.ref))) (h2 : H q = some (.lst (bs.map V.ref))) (g1 : Rows H as R) (g2 : Rows H bs R') (a : AlikeRows K H n R R')
    (k : Q (.bl r) H) : rEqA K r (.ref p) (.ref q) H Q := by
  have l1 := g1.len
  have l2 := g2.len
  have l3 : R.length = R'.length := Paired.length a
  refine ⟨n + 1, p, q, _, _, by omega, rfl, rfl, .inl (.inl h1), .inl (.inl h2), by rw [List.length_map, List.length_map]; omega, fun i x y e1 e2 => ?_, k⟩
  rw [List.getElem?_map] at e1 e2
  obtain ⟨a1, ea, rfl⟩ := Option.map_eq_some_iff.mp e1
  obtain ⟨b1, eb, rfl⟩ := Option.map_eq_some_iff.mp e2
  obtain ⟨d1, f1, k1⟩ := g1.get ea
  obtain ⟨d2, f2, k2⟩ := g2.get eb
  have z := paired_get a f1 f2
  exact .lst (.inl (.inl k1)) (.inl (.inl k2)) (Paired.length z) fun j x y u v => paired_get z u v
theorem RowAt.alike {K : PySem.W.Frag} {H : Hp} {n : Nat} {r r' w a : V} (hw : plainV w = true) (ha : plainV a = true) (h1 : RowAt H r w a) (h2 : RowAt H r' w a) : Alike K H (n + 2) r r' := by
  obtain ⟨r0, t, rfl, e1, e2⟩ := h1
  obtain ⟨r1, t1, rfl, f1, f2⟩ := h2
  refine .tup (.inl (.inl e1)) (.inl (.inl f1)) rfl fun i x y u v => ?_
  have z : Paired (Alike K H (n + 1)) [w, V.ref t] [w, V.ref t1] := .cons (.same hw) (.cons (.tup (.inl (.inl e2)) (.inl (.inl f2)) rfl fun i x y u v => by
    rw [u] at v; cases v
    refine .same ?_
    have m := List.mem_of_getElem? u
    simp only [List.mem_cons, List.not_mem_nil, or_false] at m
    rcases m with rfl | rfl
    · rfl
    · exact ha) .nil)
  exact paired_get z u v
theorem ScAt.alike {K : PySem.W.Frag} {H : Hp} {n : Nat} {s s' w : V} (hw : plainV w = true) (h1 : ScAt H s w) (h2 : ScAt H s' w) : Alike K H (n + 3) s s' := by
  obtain ⟨s0, m, d, u, rfl, e1, e2, e3, e4⟩ := h1
  obtain ⟨s1, m1, d1, u1, rfl, f1, f2, f3, f4⟩ := h2
  refine .tup (.inl (.inl e1)) (.inl (.inl f1)) rfl fun i x y a b => ?_
  have z2 : Paired (Alike K H (n + 1)) [V.str "call", w, V.ref d, V.ref u] [V.str "call", w, V.ref d1, V.ref u1] :=
    .cons (.same rfl) (.cons (.same hw) (.cons (.emp e3 f3) (.cons (.tup (.inl (.inl e4)) (.inl (.inl f4)) rfl fun i x y a b => by simp at a) .nil)))
  have z : Paired (Alike K H (n + 2)) [V.ref m] [V.ref m1] := .cons (.tup (.inl (.inl e2)) (.inl (.inl f2)) rfl fun i x y a b => paired_get z2 a b) .nil
  exact paired_get z a b
theorem draw_go {t : Addr} {n : Nat} {m : Int} {H : Hp} {Q : VK} {E : XK} (ht : Tape H t (n + 1)) (m0 : 0 < m) (mb : m.natAbs < 2 ^ 1000) (k : ∀ x H', 0 ≤ x → x < m → Tape H' t n → ExT t H H' → Q (.int x) H') : spDraw [.ref t, .int m] H Q E := ⟨t, n, m, rfl, ht, m0, mb, k⟩
theorem disp1_go {i j : Nat} {x : Str} {v : V} {σ : L2.St} {H : Hp} {Q : VK} (hk : σ[i]? = some (some (.str x))) (hv : σ[j]? = some (some v)) (k : ∀ p H', H p = none → Same H H' → Q (.ref p) H') : tDisp [(tVar i, tVar j)] σ H Q := by
  intro p hp
  refine ⟨_, hk, _, hv, upd_same, [(Sum.inr x, v)], rfl, (by show 1 ≤ 15; decide), k p _ hp ?_⟩
  rw [upd_upd]
  exact same_new hp
theorem al1 {K : PySem.W.Frag} {H : Hp} {n : Nat} {x : V} (h : plainV x = true) : Paired (Alike K H n) [x] [x] := .cons (.same h) .nil
theorem al2 {K : PySem.W.Frag} {H : Hp} {n : Nat} {x y : V} (h : plainV x = true) (h2 : plainV y = true) : Paired (Alike K H n) [x, y] [x, y] := .cons (.same h) (.cons (.same h2) .nil)
theorem lst_cast {H : Hp} {p : Addr} {xs ys : List V} (h : H p = some (.lst xs)) (e : xs = ys) : H p = some (.lst ys) := by rw [h, e]
end Own

set_option Elab.async false
set_option linter.all false
set_option maxRecDepth 100000
set_option maxHeartbeats 4000000
/-! What the top has left, read by one look: a truth value over the written part, and the defs' function objects. -/
namespace Own
open PySem PySem.Spec PyProof.Rows L2
def obsM (chk : PySem.W.Frag → Bool) (fn : List He.FnD) (K : PySem.W.Frag) : He.Al := (chk K && fn.all fun d => (He.Fa.code d.at_ d.qual).ok K, fn.map fun d => He.fnObs K d.at_)
def hookM (chk : PySem.W.Frag → Bool) (fn : List He.FnD) : PySem.W.Hook where
  α := He.Al
  obs := fun s => obsM chk fn (He.frG s.heap.get? (List.range s.heap.objs.size))
  val := fun _ => He.valE fn
  says := fun _ h => ∃ K : PySem.W.Frag, K.In h ∧ obsM chk fn K = He.valE fn
  of := fun _ _ e => ⟨_, He.frG_in, e⟩
  keeps := fun _ _ _ ⟨K, hK, c⟩ k => ⟨K, PySem.W.Frag.In.keeps hK k, c⟩
def obM (chk : PySem.W.Frag → Bool) (fn : List He.FnD) (s : PySem.W.SharedT) : He.Al := obsM chk fn (He.frG (HandSHeadRun.getT s) (List.range s.n))
theorem obM_eq {chk : PySem.W.Frag → Bool} {fn : List He.FnD} (s : PySem.W.SharedT) : obM chk fn s = (hookM chk fn).obs s.abs := by
  have e : HandSHeadRun.getT s = s.abs.heap.get? := funext (HandSHeadRun.getT_eq s)
  have n : s.n = s.abs.heap.objs.size := (PySem.W.absHeap_size s.tree s.n s.life).symm
  show obsM chk fn (He.frG (HandSHeadRun.getT s) (List.range s.n)) = obsM chk fn (He.frG s.abs.heap.get? (List.range s.abs.heap.objs.size))
  rw [e, n]
section
variable {chk : PySem.W.Frag → Bool} {fn : List He.FnD} {K : PySem.W.Frag}
theorem saysM_chk (c : obsM chk fn K = He.valE fn) : chk K = true := (Bool.and_eq_true_iff.mp (show (chk K && fn.all fun d => (He.Fa.code d.at_ d.qual).ok K) = true from congrArg (fun z : He.Al => z.1) c)).1
/-- a def, as Fun wants it -/
theorem saysM_fun (c : obsM chk fn K = He.valE fn) (i : Nat) {d : He.FnD} (h : fn[i]? = some d) (kp : PySem.W.keepIn K (.ref (He.fAd K d.at_)) = true) :
    ∃ fd, ∃ (oc : Value) (od : Option Addr) (kV doc pm : Value) (an : Option Addr) (cdv ct : Value) (osl : Array (Option Value)), fd = PySem.W.fnOf d.name d.qual d.params d.body d.scope .none kV doc pm an cdv ct ∧ K.lookup (He.fAd K d.at_) = some ⟨oc, od, .func fd, osl⟩ ∧ PySem.W.codeIn K cdv d.qual = true ∧ PySem.W.keepIn K (.ref (He.fAd K d.at_)) = true := by
  have c2 := (Bool.and_eq_true_iff.mp (show (chk K && fn.all fun d => (He.Fa.code d.at_ d.qual).ok K) = true from congrArg (fun z : He.Al => z.1) c)).2
  have e : fn.map (fun d => He.fnObs K d.at_) = fn.map He.FnD.val := congrArg (fun z : He.Al => z.2) c
  have e2 : (fn.map fun d => He.fnObs K d.at_)[i]? = (fn.map He.FnD.val)[i]? := by rw [e]
  rw [List.getElem?_map, List.getElem?_map, h] at e2
  obtain ⟨oc, od, osl, kV, doc, pm, an, cdv, ct, l, cc⟩ := He.fn_ok (Option.some.inj e2) (List.all_eq_true.mp c2 d (List.mem_of_getElem? h))
  exact ⟨_, oc, od, kV, doc, pm, an, cdv, ct, osl, rfl, l, cc, kp⟩
end
/-- a def of the top by its name; a class's __init__ -/
def fnD (x : Str) (st : Stmt) : He.FnD := ⟨(x, none), x, x, defArgs st, defBody st, defScope st⟩
def inD (x qual : Str) (st : Stmt) : He.FnD := ⟨(x, some "__init__"), "__init__", qual, defArgs st, defBody st, defScope st⟩
theorem saysM_def {chk : PySem.W.Frag → Bool} {fn : List He.FnD} {K : PySem.W.Frag} (c : obsM chk fn K = He.valE fn) (i : Nat) {x : Str} {st : Stmt} (h : fn[i]? = some (fnD x st)) (kp : PySem.W.keepIn K (.ref (He.ga K x)) = true) : ∃ fd, Fun K x x st (He.ga K x) fd := by
  obtain ⟨fd, oc, od, kV, doc, pm, an, cdv, ct, osl, e, l, cc, k⟩ := saysM_fun c i h kp
  exact ⟨fd, ⟨oc, od, kV, doc, pm, an, cdv, ct, osl, e, l, cc⟩, k⟩
theorem saysM_ini {chk : PySem.W.Frag → Bool} {fn : List He.FnD} {K : PySem.W.Frag} (c : obsM chk fn K = He.valE fn) (i : Nat) {x qual : Str} {st : Stmt} (h : fn[i]? = some (inD x qual st)) (kp : PySem.W.keepIn K (.ref (He.ma K (He.ga K x) "__init__")) = true) :
    ∃ fd, Fun K "__init__" qual st (He.ma K (He.ga K x) "__init__") fd := by
  obtain ⟨fd, oc, od, kV, doc, pm, an, cdv, ct, osl, e, l, cc, k⟩ := saysM_fun c i h kp
  exact ⟨fd, ⟨oc, od, kV, doc, pm, an, cdv, ct, osl, e, l, cc⟩, k⟩
/-- the global x stands at its own address -/
def gloB (K : PySem.W.Frag) (x : Str) : Bool := decide (PySem.W.nsIn K mainGlobals x = some (some (.ref (He.ga K x))))
def freeB (K : PySem.W.Frag) (x : Str) : Bool := decide (PySem.W.nsIn K mainGlobals x = some none)
def ciB (K : PySem.W.Frag) (p : Str × List Str) : Bool := gloB K p.1 && (exB K (He.ga K p.1) && (exI K (He.ga K p.1) (He.ma K (He.ga K p.1) "__init__") p.2 && PySem.W.keepIn K (.ref (He.ma K (He.ga K p.1) "__init__"))))
def c0B (K : PySem.W.Frag) (x : Str) : Bool := gloB K x && (exB K (He.ga K x) && PySem.W.excIn K (He.ga K x) [.type "ValueError", .type "Exception", .type "BaseException", .type "object"] "ValueError.__new__")
def dfB (K : PySem.W.Frag) (x : Str) : Bool := gloB K x && PySem.W.keepIn K (.ref (He.ga K x))
theorem all_at {α : Type} {l : List α} {p : α → Bool} (h : l.all p = true) (i : Nat) {x : α} (e : l[i]? = some x) : p x = true := List.all_eq_true.mp h x (List.mem_of_getElem? e)
theorem and4 {a b c d : Bool} (h : (a && (b && (c && d))) = true) : a = true ∧ b = true ∧ c = true ∧ d = true := by
  simp only [Bool.and_eq_true] at h
  exact h
theorem and3 {a b c : Bool} (h : (a && (b && c)) = true) : a = true ∧ b = true ∧ c = true := by
  simp only [Bool.and_eq_true] at h
  exact h
theorem and2 {a b : Bool} (h : (a && b) = true) : a = true ∧ b = true := by
  simp only [Bool.and_eq_true] at h
  exact h
theorem glo_mg {K : PySem.W.Frag} {h : Heap} {mg : Str → Option Value} {x : Str} (X : K.In h) (G : h.Ns mainGlobals mg) (c : gloB K x = true) : mg x = some (.ref (He.ga K x)) := PySem.W.mg_of X G (of_decide_eq_true c)
theorem free_mg {K : PySem.W.Frag} {h : Heap} {mg : Str → Option Value} {x : Str} (X : K.In h) (G : h.Ns mainGlobals mg) (c : freeB K x = true) : mg x = none := PySem.W.mg_none_of X G (of_decide_eq_true c)
theorem saysM_all {chk : PySem.W.Frag → Bool} {fn : List He.FnD} {K : PySem.W.Frag} (c : obsM chk fn K = He.valE fn) : (fn.all fun d => (He.Fa.code d.at_ d.qual).ok K) = true := (Bool.and_eq_true_iff.mp (show (chk K && fn.all fun d => (He.Fa.code d.at_ d.qual).ok K) = true from congrArg (fun z : He.Al => z.1) c)).2
theorem obsM_join {c1 c2 : PySem.W.Frag → Bool} {f1 f2 : List He.FnD} {K : PySem.W.Frag} (a : obsM c1 f1 K = He.valE f1) (b : obsM c2 f2 K = He.valE f2) : obsM (fun K => c1 K && c2 K) (f1 ++ f2) K = He.valE (f1 ++ f2) := by
  have a1 := saysM_chk a
  have a2 := saysM_all a
  have a3 : f1.map (fun d => He.fnObs K d.at_) = f1.map He.FnD.val := congrArg (fun z : He.Al => z.2) a
  have b1 := saysM_chk b
  have b2 := saysM_all b
  have b3 : f2.map (fun d => He.fnObs K d.at_) = f2.map He.FnD.val := congrArg (fun z : He.Al => z.2) b
  refine Prod.ext ?_ ?_
  · show ((c1 K && c2 K) && (f1 ++ f2).all fun d => (He.Fa.code d.at_ d.qual).ok K) = true
    rw [List.all_append, a1, b1, a2, b2]
    rfl
  · show (f1 ++ f2).map (fun d => He.fnObs K d.at_) = (f1 ++ f2).map He.FnD.val
    rw [List.map_append, List.map_append, a3, b3]
/-- the run, looked at twice -/
theorem RJ {r : PySem.W.OpenRow} {q : Program} {c1 c2 : PySem.W.Frag → Bool} {f1 f2 : List He.FnD} {M : Nat} {loose : List Str} {w : World} (h1 : HandSHeadRun.RunEq r q (hookM c1 f1) (obM c1 f1) M loose w) (h2 : HandSHeadRun.RunEq r q (hookM c2 f2) (obM c2 f2) M loose w) : HandSHeadRun.RunEq r q (hookM (fun K => c1 K && c2 K) (f1 ++ f2)) (obM (fun K => c1 K && c2 K) (f1 ++ f2)) M loose w := by
  intro os
  have a := h1 os
  have b := h2 os
  revert a b
  generalize HandSHeadRun.endF _ _ _ _ _ = x
  intro a b
  cases x with
  | none => cases a
  | some s =>
    have a1 := Option.some.inj a
    have b1 := Option.some.inj b
    show some _ = some _
    exact congrArg some (Prod.ext (congrArg (fun z => z.1) a1) (Prod.ext (congrArg (fun z => z.2.1) a1) (obsM_join (congrArg (fun z => z.2.2) a1) (congrArg (fun z => z.2.2) b1))))
end Own

set_option Elab.async false
set_option linter.all false
set_option maxRecDepth 100000
set_option maxHeartbeats 4000000
/-! Words: their signs, slices, lists of texts. -/
namespace Own
open PySem PySem.Spec PyProof.Rows L2
def ltr (c : Nat) : Bool := decide (97 ≤ c) && decide (c ≤ 122)
def dgt (c : Nat) : Bool := decide (48 ≤ c) && decide (c ≤ 57)
def sgn (c : Nat) : Bool := ltr c || dgt c
def keptS : List Str := ["name", "flag", "slot", "func", "open", "own", "look", "bind", "call", "keep", "take", "shift", "run", "drop", "apart", "when", "held", "fail", "guard", "else", "after", "end", "with", "of", "on", "off"]
/-- a word; one that begins with a letter; an identifier -/
def isWord (x : Str) : Bool := decide (1 ≤ (TL.tl x).length) && decide ((TL.tl x).length ≤ 12) && (TL.tl x).all sgn
def headLtr (x : Str) : Bool := match TL.tl x with
  | [] => false
  | c :: _ => ltr c
def isIdent (x : Str) : Bool := isWord x && headLtr x && !keptS.contains x
def Spell (x : Str) : Prop := isWord x = true ∧ headLtr x = true
theorem word_len {x : Str} (h : isWord x = true) : 1 ≤ x.length ∧ x.length ≤ 12 := by
  simp only [isWord, Bool.and_eq_true, decide_eq_true_eq] at h
  rw [TL.len_tl]
  exact h.1
theorem word_all {x : Str} (h : isWord x = true) : (TL.tl x).all sgn = true := by
  simp only [isWord, Bool.and_eq_true, decide_eq_true_eq] at h
  exact h.2
theorem word_of {x : Str} (h1 : 1 ≤ (TL.tl x).length) (h2 : (TL.tl x).length ≤ 12) (h : (TL.tl x).all sgn = true) : isWord x = true := by
  simp only [isWord, Bool.and_eq_true, decide_eq_true_eq]
  exact ⟨⟨h1, h2⟩, h⟩
def signsS : Str := "abcdefghijklmnopqrstuvwxyz0123456789"
theorem signs_all : ∀ j < 36, (TL.tl signsS)[j]? = some (if j < 26 then 97 + j else 48 + (j - 26)) := by decide +kernel
theorem sgn_of_ltr {c : Nat} (h : ltr c = true) : sgn c = true := by simp [sgn, h]
theorem signs_at {x : Int} (h0 : 0 ≤ x) (h1 : x < 36) : ∃ c, atI (TL.tl signsS) x = some c ∧ sgn c = true ∧ (x < 26 → ltr c = true) := by
  obtain ⟨j, rfl⟩ : ∃ j : Nat, x = (j : Int) := ⟨x.toNat, by omega⟩
  have hj : j < 36 := by omega
  have e := signs_all j hj
  by_cases h : j < 26
  · rw [if_pos h] at e
    have l : ltr (97 + j) = true := by simp [ltr]; omega
    exact ⟨_, atI_nat e, sgn_of_ltr l, fun _ => l⟩
  · rw [if_neg h] at e
    refine ⟨_, atI_nat e, ?_, fun z => by omega⟩
    have : dgt (48 + (j - 26)) = true := by simp [dgt]; omega
    simp [sgn, this]
theorem tl_one (c : Nat) : TL.tl (⟨#[c]⟩ : Str) = [c] := rfl
theorem len_one (c : Nat) : (⟨#[c]⟩ : Str).length = 1 := rfl
theorem spell_one {c : Nat} (h : ltr c = true) : Spell ⟨#[c]⟩ := by
  refine ⟨word_of (by show 1 ≤ 1; decide) (by show 1 ≤ 12; decide) ?_, h⟩
  rw [tl_one]
  simp [sgn_of_ltr h]
theorem headLtr_app {x y : Str} (h : headLtr x = true) : headLtr (x ++ y) = true := by
  unfold headLtr at h ⊢
  rw [TL.tl_append]
  cases e : TL.tl x with
  | nil => rw [e] at h; cases h
  | cons c l => rw [e] at h; exact h
theorem spell_snoc {x : Str} {c : Nat} (h : Spell x) (hl : x.length ≤ 11) (hc : sgn c = true) : Spell (x ++ ⟨#[c]⟩) := by
  have l1 := word_len h.1
  refine ⟨word_of ?_ ?_ ?_, headLtr_app h.2⟩
  · rw [TL.tl_append, List.length_append, ← TL.len_tl]
    omega
  · rw [TL.tl_append, List.length_append, ← TL.len_tl, tl_one]
    show x.length + 1 ≤ 12
    omega
  · rw [TL.tl_append, List.all_append, word_all h.1, tl_one]
    simp [hc]
theorem len_app (x y : Str) : (x ++ y).length = x.length + y.length := by rw [TL.len_tl, TL.tl_append, List.length_append, ← TL.len_tl, ← TL.len_tl]
theorem kept_spell : ∀ z ∈ keptS, isWord z = true ∧ headLtr z = true ∧ z.length ≤ 5 := by decide +kernel
/-- x[:j] + c + x[j+1:] -/
theorem tl_cut_to (z : Str) (j : Nat) : TL.tl (cutS z none (some (j : Int))) = (TL.tl z).take j := by
  show ((z.cps.toList.drop (HT.sIx z.length 0 none)).take (HT.sIx z.length z.length (some (j : Int)) - HT.sIx z.length 0 none)) = _
  rw [HT.sIx_none, HT.sIx_nat, List.drop_zero, Nat.sub_zero]
  have e : z.length = (TL.tl z).length := TL.len_tl z
  by_cases h : j ≤ z.length
  · rw [Nat.min_eq_left h]
  · rw [Nat.min_eq_right (by omega), List.take_of_length_le (by show z.cps.toList.length ≤ _; rw [e]; exact Nat.le_refl _), List.take_of_length_le (by omega)]
theorem tl_cut_from (z : Str) (j : Nat) : TL.tl (cutS z (some (j : Int)) none) = (TL.tl z).drop j := by
  show ((z.cps.toList.drop (HT.sIx z.length 0 (some (j : Int)))).take (HT.sIx z.length z.length none - HT.sIx z.length 0 (some (j : Int)))) = _
  rw [HT.sIx_none, HT.sIx_nat]
  have e : z.length = (TL.tl z).length := TL.len_tl z
  by_cases h : j ≤ z.length
  · rw [Nat.min_eq_left h, List.take_of_length_le]
    rw [List.length_drop]
    show (TL.tl z).length - j ≤ _
    omega
  · rw [Nat.min_eq_right (by omega)]
    have h1 : (TL.tl z).drop j = [] := List.drop_eq_nil_of_le (by omega)
    rw [h1]
    simp
theorem spell_put {x : Str} {c j : Nat} (h : Spell x) (hj : j < x.length) (hc : ltr c = true) : Spell (cutS x none (some (j : Int)) ++ ⟨#[c]⟩ ++ cutS x (some ((j : Int) + 1)) none) := by
  have l1 := word_len h.1
  have el : x.length = (TL.tl x).length := TL.len_tl x
  have e : TL.tl (cutS x none (some (j : Int)) ++ ⟨#[c]⟩ ++ cutS x (some ((j : Int) + 1)) none) = (TL.tl x).take j ++ [c] ++ (TL.tl x).drop (j + 1) := by
    rw [TL.tl_append, TL.tl_append, tl_cut_to, tl_one]
    have e2 : ((j : Int) + 1) = ((j + 1 : Nat) : Int) := by omega
    rw [e2, tl_cut_from]
  have all := word_all h.1
  rw [List.all_eq_true] at all
  refine ⟨word_of ?_ ?_ ?_, ?_⟩
  · rw [e, List.length_append, List.length_append]
    show 1 ≤ _ + 1 + _
    omega
  · rw [e, List.length_append, List.length_append, List.length_take, List.length_drop]
    show _ + 1 + _ ≤ 12
    omega
  · rw [e, List.all_append, List.all_append, Bool.and_eq_true, Bool.and_eq_true]
    exact ⟨⟨List.all_eq_true.mpr fun y hy => all y (List.mem_of_mem_take hy), by simp [sgn_of_ltr hc]⟩, List.all_eq_true.mpr fun y hy => all y (List.mem_of_mem_drop hy)⟩
  · unfold headLtr
    rw [e]
    cases j with
    | zero => exact hc
    | succ j =>
      have hd := h.2
      unfold headLtr at hd
      cases e3 : TL.tl x with
      | nil => rw [e3] at hd; cases hd
      | cons d l => rw [e3] at hd; exact hd
/-! ### lists of texts -/
theorem inV_strs {x : Str} : ∀ {l : List Str}, inV (.str x) (l.map V.str) = l.contains x
  | [] => rfl
  | y :: l => by
    have ih := inV_strs (x := x) (l := l)
    unfold inV at ih ⊢
    rw [List.map_cons, List.any_cons, ih, List.contains_cons]
    show (y == x || _) = (x == y || _)
    by_cases h : x = y
    · subst h; simp
    · have h2 : ¬ y = x := fun z => h z.symm
      have a : (x == y) = false := by simpa using h
      have b : (y == x) = false := by simpa using h2
      rw [a, b]
theorem flat_strs : ∀ {l : List Str}, (l.map V.str).all flatV = true
  | [] => rfl
  | _ :: l => by rw [List.map_cons, List.all_cons, flat_strs] <;> rfl
theorem inS_go {K : PySem.W.Frag} {neg : Bool} {x : Str} {p : Addr} {l : List Str} {H : Hp} {Q : VK} (h : SqL K H p (l.map V.str)) (q : Q (.bl (if neg then !l.contains x else l.contains x)) H) : rIn K neg (.str x) (.ref p) H Q :=
  ⟨p, _, rfl, .inl h, rfl, flat_strs, by rw [inV_strs]; exact q⟩
theorem strOk_of {x : Str} (h : ∀ c ∈ TL.tl x, c < 0x110000) : PyData.strOk x = true := by
  unfold PyData.strOk
  rw [← Array.all_toList, List.all_eq_true]
  intro c hc
  exact decide_eq_true (h c hc)
theorem word_ok {x : Str} (h : isWord x = true) : PyData.strOk x = true := by
  refine strOk_of fun c hc => ?_
  have a := word_all h
  rw [List.all_eq_true] at a
  have b := a c hc
  simp only [sgn, ltr, dgt, Bool.or_eq_true, Bool.and_eq_true, decide_eq_true_eq] at b
  omega
theorem strs_shaped (l : List Str) (h : ∀ x ∈ l, PyData.strOk x = true) : SeqAt.shaped (.list (l.map PyData.str)) = true := by
  have a : ∀ l : List Str, (∀ x ∈ l, PyData.strOk x = true) → PyData.canLayAll0 (l.map PyData.str) = true := by
    intro l
    induction l with
    | nil => intro _; rfl
    | cons x l ih =>
      intro h
      simp only [List.map_cons, PyData.canLayAll0, PyData.canLay0, ih fun y hy => h y (List.mem_cons_of_mem _ hy), h x (List.mem_cons_self ..), Bool.and_self]
  have b : ∀ l : List Str, PyData.depthAll (l.map PyData.str) ≤ 1 := by
    intro l
    induction l with
    | nil => simp [PyData.depthAll]
    | cons x l ih => simp only [List.map_cons, PyData.depthAll, PyData.depth]; omega
  show (PyData.canLay0 (.list (l.map PyData.str)) && decide (PyData.depth (.list (l.map PyData.str)) ≤ 64)) = true
  rw [Bool.and_eq_true]
  refine ⟨by simp only [PyData.canLay0]; exact a l h, decide_eq_true ?_⟩
  simp only [PyData.depth]
  have := b l
  omega
theorem dp_strs {K : PySem.W.Frag} {H : Hp} : ∀ (l : List Str), DpAll K H (l.map V.str) (l.map PyData.str)
  | [] => .nil
  | x :: l => .cons (.str x) (dp_strs l)
/-- used != [] -/
theorem neNil_go {K : PySem.W.Frag} {p e : Addr} {l : List Str} {H : Hp} {Q : VK} (h : SqL K H p (l.map V.str)) (he : SqL K H e []) (ho : ∀ x ∈ l, PyData.strOk x = true) (q : Q (.bl (!l.isEmpty)) H) : rNeD K (.ref p) (.ref e) H Q := by
  refine ⟨.list (l.map .str), .list [], .lst h (dp_strs l), .lst he .nil, strs_shaped l ho, strs_shaped [] (by simp), ?_⟩
  have z : PyData.eqv (.list (l.map PyData.str)) (.list []) = l.isEmpty := by
    cases l with
    | nil => simp [PyData.eqv, PyData.eqvAll]
    | cons x l => simp [PyData.eqv, PyData.eqvAll]
  rw [z]
  exact q
theorem newS_go {ys : List Str} {H : Hp} {Q : VK} (k : ∀ p H', H p = none → Same H H' → H' p = some (.lst (ys.map V.str)) → Q (.ref p) H') : rNewStrs ys H Q := fun p hp => k p _ hp (same_new hp) upd_same
theorem cut_go {t u : TS} {D : Ends} {σ : L2.St} {H : Hp} (Mid : L2.St → Hp → Prop) (h : t { D with nx := Mid } σ H) (k : ∀ σ' H', Mid σ' H' → u D σ' H') : Evl.tCut t u D σ H := ⟨Mid, h, k⟩
theorem ExT.same {t : Addr} {H H1 H2 : Hp} (a : ExT t H H1) (s : Same H1 H2) : ExT t H H2 := a.trans (Same.exT s)
theorem atI_map {α β : Type} {f : α → β} {l : List α} {x : Int} {v : α} (h : atI l x = some v) : atI (l.map f) x = some (f v) := by
  unfold atI at h ⊢
  rw [List.length_map]
  cases e : ixN l.length x with
  | none => rw [e] at h; cases h
  | some j =>
    rw [e] at h
    have h' : l[j]? = some v := h
    show (l.map f)[j]? = some (f v)
    rw [List.getElem?_map, h']; rfl
end Own

set_option Elab.async false
set_option linter.all false
set_option maxRecDepth 100000
set_option maxHeartbeats 4000000
/-! Rules within a comprehension: their relation may not name the block. -/
namespace Own
open PySem PySem.Spec PyProof.Rows L2
section
variable {X : Cx} {s : Shared} {H : Hp} {scope : Scope} {cenv : Env} {fp : List Addr}
theorem ixB_list : IxR (X.blk s H scope cenv fp) (rIxL X.K) := ix_list
theorem ixB_tup : IxR (X.blk s H scope cenv fp) (rIxT X.K) := ix_tup
theorem ixB_seq : IxR (X.blk s H scope cenv fp) (rIx X.K) := ix_seq
theorem opB_in : OpR (X.blk s H scope cenv fp) (compareOp .In) (rIn X.K false) := op_in_seq
theorem opB_notIn : OpR (X.blk s H scope cenv fp) (compareOp .NotIn) (rIn X.K true) := op_notIn_seq
end
end Own

set_option Elab.async false
set_option linter.all false
set_option maxRecDepth 100000
set_option maxHeartbeats 4000000
/-! Trees as data: tuples within tuples, whatever else the heap does. -/
namespace Own
open PySem PySem.Spec PyProof.Rows L2
mutual
def Pl : PyData → Bool
  | .list _ => false
  | .dict _ => false
  | .tuple ds => PlAll ds
  | _ => true
def PlAll : List PyData → Bool
  | [] => true
  | d :: ds => Pl d && PlAll ds
end
def Tu (H H' : Hp) : Prop := ∀ a xs, Rd H a (.tup xs) → Rd H' a (.tup xs)
theorem Tu.refl (H : Hp) : Tu H H := fun _ _ h => h
theorem Tu.trans {H H1 H2 : Hp} (a : Tu H H1) (b : Tu H1 H2) : Tu H H2 := fun p xs h => b p xs (a p xs h)
theorem Same.tu {H H' : Hp} (s : Same H H') : Tu H H' := fun a xs h => by
  rcases h with h | ⟨o, h⟩
  · exact .inl (s _ _ h)
  · exact .inr ⟨o, s _ _ h⟩
theorem ExT.tu {t : Addr} {n : Nat} {H H' : Hp} (v : ExT t H H') (ht : Tape H t n) : Tu H H' := fun a xs h => by
  obtain ⟨c, m, f, k, e, _⟩ := ht
  have hne : a ≠ t := by
    rintro rfl
    rcases h with h | ⟨o, h⟩ <;> (rw [e] at h; cases h)
  rcases h with h | ⟨o, h⟩
  · exact .inl (v _ _ hne h)
  · exact .inr ⟨o, v _ _ hne h⟩
theorem SqT.tu {K : PySem.W.Frag} {H H' : Hp} {a : Addr} {xs : List V} (t : Tu H H') (h : SqT K H a xs) : SqT K H' a xs := by
  rcases h with h | h
  · exact .inl (t _ _ h)
  · exact .inr h
theorem Dp.keep {K : PySem.W.Frag} {H H' : Hp} (t : Tu H H') {v : V} {d : PyData} (h : Dp K H v d) : Pl d = true → Dp K H' v d :=
  Dp.rec (motive_1 := fun v d _ => Pl d = true → Dp K H' v d) (motive_2 := fun vs ds _ => PlAll ds = true → DpAll K H' vs ds)
    (fun _ => .non) (fun b _ => .bl b) (fun i _ => .int i) (fun x _ => .str x) (fun _ _ _ h => by simp [Pl] at h) (fun hs _ ih h => .tup (SqT.tu t hs) (ih (by simpa [Pl] using h)))
    (fun _ => .nil) (fun _ _ i1 i2 h => by
      simp only [PlAll, Bool.and_eq_true] at h
      exact .cons (i1 h.1) (i2 h.2)) h
theorem DpAll.keep {K : PySem.W.Frag} {H H' : Hp} (t : Tu H H') : ∀ {vs : List V} {ds : List PyData}, DpAll K H vs ds → PlAll ds = true → DpAll K H' vs ds
  | _, _, .nil, _ => .nil
  | _, _, .cons a b, h => by
    simp only [PlAll, Bool.and_eq_true] at h
    exact .cons (Dp.keep t a h.1) (DpAll.keep t b h.2)
theorem Dp.tupD {K : PySem.W.Frag} {H : Hp} {v : V} {ds : List PyData} (h : Dp K H v (.tuple ds)) : ∃ a xs, v = .ref a ∧ SqT K H a xs ∧ DpAll K H xs ds := by
  cases h with
  | tup a b => exact ⟨_, _, rfl, a, b⟩
theorem Dp.strD {K : PySem.W.Frag} {H : Hp} {v : V} {x : Str} (h : Dp K H v (.str x)) : v = .str x := by
  cases h
  rfl
theorem DpAll.len {K : PySem.W.Frag} {H : Hp} : ∀ {vs : List V} {ds : List PyData}, DpAll K H vs ds → vs.length = ds.length
  | _, _, .nil => rfl
  | _, _, .cons _ b => by rw [List.length_cons, List.length_cons, DpAll.len b]
theorem DpAll.at {K : PySem.W.Frag} {H : Hp} : ∀ {vs : List V} {ds : List PyData} {i : Nat} {d : PyData}, DpAll K H vs ds → ds[i]? = some d → ∃ v, vs[i]? = some v ∧ Dp K H v d
  | _, _, _, _, .nil, h => by simp at h
  | v :: _, _, 0, _, .cons a _, h => by
    have e := Option.some.inj h
    subst e
    exact ⟨v, rfl, a⟩
  | _ :: _, _, i + 1, _, .cons _ b, h => DpAll.at (i := i) b h
theorem DpAll.app {K : PySem.W.Frag} {H : Hp} : ∀ {vs ws : List V} {ds es : List PyData}, DpAll K H vs ds → DpAll K H ws es → DpAll K H (vs ++ ws) (ds ++ es)
  | _, _, _, _, .nil, h => h
  | _, _, _, _, .cons a b, h => .cons a (DpAll.app b h)
theorem ixD_go {K : PySem.W.Frag} {H : Hp} {v : V} {ds : List PyData} {d : PyData} {j : Nat} {i : Int} {Q : VK} (h : Dp K H v (.tuple ds)) (hd : ds[j]? = some d) (hi : i = (j : Int)) (q : ∀ z, Dp K H z d → Q z H) : rIxT K v (.int i) H Q := by
  obtain ⟨a, xs, rfl, hs, hx⟩ := Dp.tupD h
  obtain ⟨z, hz, dz⟩ := DpAll.at hx hd
  subst hi
  exact ⟨a, xs, _, z, rfl, rfl, hs, atI_nat hz, q z dz⟩
/-- a new tuple, as data -/
theorem newTD_go {K : PySem.W.Frag} {H : Hp} {xs : List V} {ds : List PyData} {Q : VK} (h : DpAll K H xs ds) (hp : PlAll ds = true) (hl : ds.length ≤ 1000000) (q : ∀ p H', H p = none → Same H H' → Dp K H' (.ref p) (.tuple ds) → Q (.ref p) H') : NewT xs H Q :=
  newT_go (fun p H' n s r => q p H' n s (.tup (.inl (.inl r)) (DpAll.keep (Same.tu s) h hp))) (by rw [DpAll.len h]; exact hl)
/-- for x in xs, a list that does not change -/
theorem forL_go {K : PySem.W.Frag} {tl : TE} {j : Nat} {tb : TS} {D : Ends} {σ : L2.St} {H : Hp} {a : Addr} {xs : List V} (Pv : Nat → L2.St → Hp → Prop) (ht : ∀ Q : VK, Q (.ref a) H → tl σ H Q) (hl : ∀ i σ H, i ≤ xs.length → Pv i σ H → SqL K H a xs) (h0 : Pv 0 σ H)
    (hs : ∀ (i : Nat) (x : V) σ' H', xs[i]? = some x → Pv i σ' H' → tb { D with nx := Pv (i + 1), ct := Pv (i + 1), bk := D.nx } (σ'.set j (some x)) H') (hd : ∀ σ' H', Pv xs.length σ' H' → D.nx σ' H') : tFor (iList K tl) (gName j) tb D σ H := by
  refine ht _ ⟨a, rfl, ⟨xs, hl 0 _ _ (Nat.zero_le _) h0⟩, ?_⟩
  exact for_list Pv h0 hl (fun i x σ' H' hx p => hs i x σ' H' hx p) hd
theorem ExT.toSame {D : Addr} {H H' : Hp} (h : H D = none) (v : ExT D H H') : Same H H' := fun b o e => v b o (by rintro rfl; rw [h] at e; cases e) e
theorem exT_upd {D : Addr} {H H' : Hp} {o : HO} (v : ExT D H H') : ExT D H (upd H' D o) := fun b u hb e => by rw [upd_ne hb]; exact v b u hb e
theorem wipe_set {σ : L2.St} {j : Nat} {x : V} : wipe ((wipe σ [j]).set j (some x)) [j] = wipe σ [j] := by
  show ((σ.set j none).set j (some x)).set j none = σ.set j none
  rw [List.set_set, List.set_set]
theorem sq_same {K : PySem.W.Frag} {H H' : Hp} {a : Addr} {xs : List V} (s : Same H H') (h : SqL K H a xs) : SqL K H' a xs := by
  rcases h with (h | ⟨o, h⟩) | h
  · exact .inl (.inl (s _ _ h))
  · exact .inl (.inr ⟨o, s _ _ h⟩)
  · exact .inr h
/-- [e for x in xs if c] over a list, c and e changing nothing -/
theorem lcP_go {α : Type} {K : PySem.W.Frag} {tl : TE} {j : Nat} {tt : TT} {te : TE} {σ : L2.St} {H : Hp} {Q : VK} {a : Addr} {xs : List V} (l : List α) (b : α → Bool) (g : α → V) (ht : ∀ Q : VK, Q (.ref a) H → tl σ H Q) (ha : SqL K H a xs) (hlen : xs.length = l.length) (hz : l.length ≤ 100000)
    (htt : ∀ (i : Nat) x z H' (R : Bool → Hp → Prop), xs[i]? = some x → l[i]? = some z → Same H H' → R (b z) H' → tt ((wipe σ [j]).set j (some x)) H' R)
    (hte : ∀ (i : Nat) x z H' (R : VK), xs[i]? = some x → l[i]? = some z → b z = true → Same H H' → R (g z) H' → te ((wipe σ [j]).set j (some x)) H' R)
    (q : ∀ D H', H D = none → Same H H' → H' D = some (.lst ((l.filter b).map g)) → Q (.ref D) H') : tLc (iList K tl) (gName j) tt te [j] σ H Q := by
  refine ht _ ⟨a, rfl, ⟨xs, ha⟩, fun D hD => ?_⟩
  refine lc_list (fun i H' => H' D = some (.lst (((l.take i).filter b).map g)) ∧ ExT D H H') ⟨upd_same, exT_upd (ExT.refl D H)⟩ (fun i H' _ p => sq_same (ExT.toSame hD p.2) ha) ?_ ?_
  · rintro i x H' hx ⟨p1, p2⟩
    have hi : i < l.length := by rw [← hlen]; exact (List.getElem?_eq_some_iff.mp hx).1
    obtain ⟨z, hzz⟩ : ∃ z, l[i]? = some z := ⟨l[i], List.getElem?_eq_getElem hi⟩
    have e : l.take (i + 1) = l.take i ++ [z] := by rw [List.take_add_one, hzz]; rfl
    refine ⟨wipe_set, htt i x z H' _ hx hzz (ExT.toSame hD p2) ?_⟩
    cases hb : b z with
    | true =>
      refine hte i x z H' _ hx hzz hb (ExT.toSame hD p2) ⟨_, p1, ?_, ?_, exT_upd p2⟩
      · rw [List.length_map]
        refine Nat.lt_of_le_of_lt (Nat.le_trans (List.length_filter_le _ _) (List.length_take_le _ _)) (Nat.lt_of_lt_of_le hi (Nat.le_trans hz (by decide)))
      · rw [e, List.filter_append, List.map_append]
        simp only [List.filter_cons, hb, if_true, List.filter_nil, List.map_cons, List.map_nil]
        exact upd_same
    | false =>
      refine ⟨?_, p2⟩
      rw [e, List.filter_append]
      simp only [List.filter_cons, hb, List.filter_nil]
      rw [p1]
      simp
  · rintro H' ⟨p1, p2⟩
    rw [hlen, List.take_length] at p1
    exact q D H' hD (ExT.toSame hD p2) p1
theorem inT_go {K : PySem.W.Frag} {neg : Bool} {x : Str} {p : Addr} {l : List Str} {H : Hp} {Q : VK} (h : SqT K H p (l.map V.str)) (q : Q (.bl (if neg then !l.contains x else l.contains x)) H) : rIn K neg (.str x) (.ref p) H Q :=
  ⟨p, _, rfl, .inr h, rfl, flat_strs, by rw [inV_strs]; exact q⟩
/-- the heads: kind and identifier -/
def encH (h : Str × Str) : PyData := .tuple [.str h.1, .str h.2]
def Hds (K : PySem.W.Frag) (H : Hp) (a : Addr) (hs : List (Str × Str)) : Prop := ∃ vs, SqL K H a vs ∧ DpAll K H vs (hs.map encH)
theorem pl_heads : ∀ hs : List (Str × Str), PlAll (hs.map encH) = true
  | [] => rfl
  | h :: hs => by
    simp only [List.map_cons, PlAll, pl_heads hs, Bool.and_true]
    rfl
theorem Hds.same {K : PySem.W.Frag} {H H' : Hp} {a : Addr} {hs : List (Str × Str)} (s : Same H H') (h : Hds K H a hs) : Hds K H' a hs := by
  obtain ⟨vs, h1, h2⟩ := h
  exact ⟨vs, sq_same s h1, DpAll.keep (Same.tu s) h2 (pl_heads hs)⟩
def LcP (Inv : Addr → Nat → List V → Hp → Prop) (D : Addr) (i : Nat) (H' : Hp) : Prop := ∃ acc, H' D = some (.lst acc) ∧ acc.length ≤ i ∧ Inv D i acc H'
/-- [e for x in xs if c] over a list, c and e changing the heap -/
theorem lcI_go {K : PySem.W.Frag} {tl : TE} {j : Nat} {tt : TT} {te : TE} {σ : L2.St} {H : Hp} {Q : VK} {a : Addr} {xs : List V} (Inv : Addr → Nat → List V → Hp → Prop) (ht : ∀ Q : VK, Q (.ref a) H → tl σ H Q) (ha : SqL K H a xs)
    (hl : ∀ D i acc H', i ≤ xs.length → Inv D i acc H' → H D = none → SqL K H' a xs) (h0 : ∀ D H', H D = none → Same H H' → H' D = some (.lst []) → Inv D 0 [] H')
    (hs : ∀ D i x acc H', xs[i]? = some x → H D = none → H' D = some (.lst acc) → acc.length ≤ i → Inv D i acc H' → tt ((wipe σ [j]).set j (some x)) H' fun b H3 => if b = true then te ((wipe σ [j]).set j (some x)) H3 fun y H4 => ∃ acc', H4 D = some (.lst acc') ∧ acc'.length < sizeLine ∧ LcP Inv D (i + 1) (upd H4 D (.lst (acc' ++ [y]))) else LcP Inv D (i + 1) H3)
    (q : ∀ D H' acc, H D = none → H' D = some (.lst acc) → acc.length ≤ xs.length → Inv D xs.length acc H' → Q (.ref D) H') : tLc (iList K tl) (gName j) tt te [j] σ H Q := by
  refine ht _ ⟨a, rfl, ⟨xs, ha⟩, fun D hD => ?_⟩
  refine lc_list (xs := xs) (fun i H' => LcP Inv D i H') ⟨[], upd_same, Nat.le_refl _, h0 D _ hD (same_new hD) upd_same⟩ (fun i H' hi p => ?_) ?_ ?_
  · obtain ⟨acc, _, _, p⟩ := p
    exact hl D i acc H' hi p hD
  · rintro i x H' hx ⟨acc, p1, p2, p3⟩
    exact ⟨wipe_set, hs D i x acc H' hx hD p1 p2 p3⟩
  · rintro H' ⟨acc, p1, p2, p3⟩
    exact q D H' acc hD p1 p2 p3
/-- all but two -/
def ExT2 (t D : Addr) (H H' : Hp) : Prop := ∀ (b : Addr) (o : HO), b ≠ t → b ≠ D → H b = some o → H' b = some o
theorem ExT2.toExT {t D : Addr} {H H' : Hp} (h : H D = none) (v : ExT2 t D H H') : ExT t H H' := fun b o hb e => v b o hb (by rintro rfl; rw [h] at e; cases e) e
theorem sq_ext {K : PySem.W.Frag} {t : Addr} {H H' : Hp} {a : Addr} {xs : List V} (hat : a ≠ t) (v : ExT t H H') (h : SqL K H a xs) : SqL K H' a xs := by
  rcases h with (h | ⟨o, h⟩) | h
  · exact .inl (.inl (v _ _ hat h))
  · exact .inl (.inr ⟨o, v _ _ hat h⟩)
  · exact .inr h
theorem Hds.ext {K : PySem.W.Frag} {t : Addr} {n : Nat} {H H' : Hp} {a : Addr} {hs : List (Str × Str)} (hat : a ≠ t) (ht : Tape H t n) (v : ExT t H H') (h : Hds K H a hs) : Hds K H' a hs := by
  obtain ⟨vs, h1, h2⟩ := h
  exact ⟨vs, sq_ext hat v h1, DpAll.keep (v.tu ht) h2 (pl_heads hs)⟩
theorem dp_strs2 {K : PySem.W.Frag} {H : Hp} : ∀ (l : List Str), DpAll K H (l.map V.str) (l.map PyData.str)
  | [] => .nil
  | x :: l => .cons (.str x) (dp_strs2 l)
/-- a comprehension over a list that is made anew -/
theorem lcC_go {K : PySem.W.Frag} {tl : TE} {g : TG} {tt : TT} {te : TE} {vs : List Nat} {σ : L2.St} {H : Hp} {Q : VK} (C : Addr → Hp → Prop) (ht : ∀ R : VK, (∀ a H1, C a H1 → R (.ref a) H1) → tl σ H R) (k : ∀ a H1, C a H1 → tLc (iList K fun _ H R => R (.ref a) H) g tt te vs σ H1 Q) : tLc (iList K tl) g tt te vs σ H Q :=
  ht _ fun a H1 c => k a H1 c
theorem cutV_to (xs : List V) (j : Nat) : cutV xs none (some (j : Int)) = xs.take j := by
  unfold cutV
  rw [show HT.sIx xs.length 0 none = 0 from rfl, List.drop_zero, Nat.sub_zero]
  have e : HT.sIx xs.length xs.length (some (j : Int)) = min j xs.length := by
    unfold HT.sIx
    simp
    try omega
  rw [e]
  rcases Nat.le_total j xs.length with h | h
  · rw [Nat.min_eq_left h]
  · rw [Nat.min_eq_right h, List.take_length, List.take_of_length_le h]
end Own

set_option Elab.async false
set_option linter.all false
set_option maxRecDepth 100000
set_option maxHeartbeats 4000000
/-! Dict displays of two spread dicts. -/
namespace Own
open PySem PySem.Spec PyProof.Rows L2
section
variable {prog : Program} {w : World} {A : Around} {E : Value → Shared → Prop} {s : Shared}
theorem put_raw {d : Addr} {kvs : List (Key × Value)} {k : Key} {u v : Value} {Q : Unit → Shared → Prop} (ku : (mixKind prog w).is k u = true) (md : s.heap.DictOf (mixKind prog w) d kvs) (room : kvs.length ≤ sizeLine)
    (next : ∀ h', h'.DictOf (mixKind prog w) d (stored kvs k v) → Heap.SameBut d s.heap h' → Q () { s with heap := h' }) : wpAny (model prog w) A (dictPut d ((mixKind prog w).hash k) u v) Q E s := by
  obtain ⟨od, ents, vn, getd, exd, dat, keysd, prs, nodup⟩ := md
  have small : ents.size ≤ sizeLine := by
    have l1 := prs.length
    have l2 : ents.toList.length = ents.size := by simp
    omega
  unfold dictPut
  refine wpAny_bind (wpAny_dictFind_of ku getd dat keysd ?_)
  have same : (ents.findIdx? fun e => (mixKind prog w).is k e.key) = kvs.findIdx? fun kv => decide (kv.1 = k) := by
    rw [← prs.findIdx k]
    obtain ⟨l⟩ := ents
    simp
  cases at_ : ents.findIdx? fun e => (mixKind prog w).is k e.key with
  | some i =>
    have has : (kvs.any fun kv => decide (kv.1 = k)) = true := any_of_findIdx_some (same ▸ at_)
    have pr2 : Pairs (mixKind prog w) (ents.modify i fun e => { e with val := v }).toList (stored kvs k v) := by
      rw [stored, if_pos has]
      have hl : (ents.toList.findIdx? fun e => (mixKind prog w).is k e.key) = some i := by
        rw [← at_]
        obtain ⟨l⟩ := ents
        simp
      have z := prs.modify nodup hl v
      obtain ⟨l⟩ := ents
      simpa using z
    have nd2 : ((stored kvs k v).map (·.1)).Nodup := by
      rw [stored, if_pos has, keys_map_store]
      exact nodup
    exact wpAny_updateDict getd dat (next _ ⟨_, _, vn, Heap.get?_update_self _ getd (Obj.isFreed_of_dict (Obj.data_mapDict dat _)), exd.mapDict _, Obj.data_mapDict dat _, keysd.modify _ _, pr2, nd2⟩ (Heap.SameBut.update ..))
  | none =>
    have off : k ∉ kvs.map (·.1) := not_mem_of_findIdx_none (same ▸ at_)
    have hasnt : ¬ (kvs.any fun kv => decide (kv.1 = k)) = true := by
      intro c
      obtain ⟨kv, m, e⟩ := List.any_eq_true.mp c
      exact off (List.mem_map.mpr ⟨kv, m, of_decide_eq_true e⟩)
    have pr2 : Pairs (mixKind prog w) (ents.push ⟨(mixKind prog w).hash k, u, v⟩).toList (stored kvs k v) := by
      rw [stored, if_neg hasnt]
      have z := prs.append ku ((mixKind prog w).hash k) v
      obtain ⟨l⟩ := ents
      simpa using z
    have nd2 : ((stored kvs k v).map (·.1)).Nodup := by
      rw [stored, if_neg hasnt, List.map_append, List.nodup_append]
      refine ⟨nodup, by simp, fun x hx y hy => ?_⟩
      have ey : y = k := by simpa using hy
      subst ey
      exact fun q => off (q ▸ hx)
    exact wpAny_updateDictKeys (hz := small) getd dat (next _ ⟨_, _, vn + 1, Heap.get?_update_self _ getd (Obj.isFreed_of_dict (Obj.data_mapDictKeys dat _)), exd.mapDictKeys _, Obj.data_mapDictKeys dat _, keysd.push ku _, pr2, nd2⟩ (Heap.SameBut.update ..))
theorem noRef {k : Key} {a : Addr} : (mixKind prog w).is k (.ref a) = false := by
  cases k <;> rfl
theorem merge_raw {d a : Addr} {kvs more : List (Key × Value)} {Q : Unit → Shared → Prop} (apart : d ≠ a) (plain : (a == sysModules) = false) (md : s.heap.DictOf (mixKind prog w) d kvs) (ma : s.heap.DictOf (mixKind prog w) a more) (room : kvs.length + more.length ≤ sizeLine)
    (next : ∀ h', h'.DictOf (mixKind prog w) d (merged kvs more) → Heap.SameBut d s.heap h' → Q () { s with heap := h' }) : wpAny (model prog w) A (mergeMapping d (.ref a) false) Q E s := by
  obtain ⟨od, entd, vd, getd, exd, datd, keysd, prd, ndd⟩ := id md
  obtain ⟨oa, enta, va, geta, exa, data, keysa, pra, nda⟩ := id ma
  have cnt : more.length = enta.size := by
    rw [← pra.length]
    simp
  unfold mergeMapping
  refine wpAny_bind (m := isInstance (.ref a) (.type "dict")) (wpAny_isInstance ma.typeIs isSubtype_dict_dict ?_)
  simp only [if_true]
  refine wpAny_bind (wpAny_specialOf ma.typeIs F.slot_dict_iter.lookup ?_)
  refine wpAny_bind (wpAny_pure ?_)
  simp only [beq_self_eq_true]
  rw [if_neg (by rw [plain]; exact Bool.false_ne_true)]
  refine wpAny_bind (wpAny_dictEntries getd datd ?_)
  split
  refine wpAny_bind (wpAny_dictEntries geta data ?_)
  refine wpAny_bind ?_
  rw [← Array.forIn_toList]
  refine wpAny_forIn_list _ (fun rest _ s' => s = s' ∧ ∀ e ∈ rest, e ∈ enta.toList) _ ?_ ?_ _ _ ⟨rfl, fun e h => h⟩
  · rintro e rest _ s' ⟨rfl, sub⟩
    obtain ⟨k, ek, _⟩ := keysa e (by simpa using sub e (by simp))
    cases hk : e.key with
    | ref b =>
      rw [hk, noRef] at ek
      cases ek
    | _ => exact wpAny_pure ⟨rfl, fun e' he => sub e' (by simp [he])⟩
  rintro _ s' ⟨rfl, _⟩
  all_goals
    refine wpAny_bind (wpAny_dictEntries geta data ?_)
    refine wpAny_bind (wpAny_dictEpoch geta data ?_)
    refine wpAny_bind ?_
    refine wpAny_forIn_list _ (fun rest _ t => ∃ h' j, t = { s with heap := h' } ∧ rest = (List.range enta.size).drop j ∧ j ≤ enta.size ∧ h'.DictOf (mixKind prog w) d (merged kvs (more.take j)) ∧ h'.get? a = some oa ∧ Heap.SameBut d s.heap h') _ ?_ ?_ _ _ ⟨s.heap, 0, rfl, by simp, Nat.zero_le _, by simpa [merged] using md, geta, Heap.SameBut.refl _ _⟩
    · rintro x rest b t ⟨h', j, rfl, eq, le, md', ga', sb⟩
      have lt : j < enta.size := by
        rcases Nat.lt_or_ge j enta.size with h | h
        · exact h
        · rw [List.drop_of_length_le (by simpa using h)] at eq
          cases eq
      have eq2 : (List.range enta.size).drop j = j :: (List.range enta.size).drop (j + 1) := by
        rw [List.drop_eq_getElem_cons (by simpa using lt)]
        simp
      rw [eq2] at eq
      injection eq with e1 e2
      subst e1
      refine wpAny_bind (wpAny_dictEntries ga' data ?_)
      rw [Array.getElem?_eq_getElem lt]
      obtain ⟨⟨k, v⟩, hkv⟩ : ∃ kv, more[x]? = some kv := ⟨more[x]'(by rw [cnt]; exact lt), List.getElem?_eq_getElem _⟩
      obtain ⟨hkey, hval⟩ := pra.get? (e := enta[x]) (by simp [lt]) hkv
      obtain ⟨k', hkey', hhash⟩ := keysa enta[x] (Array.getElem_mem lt)
      have ekk : k' = k := (mixKind prog w).inj _ _ _ hkey' hkey
      subst ekk
      have small : (merged kvs (more.take x)).length ≤ sizeLine := by
        have e1 := merged_length_le kvs (more.take x)
        have e2 : (more.take x).length ≤ more.length := by rw [List.length_take]; omega
        omega
      refine wpAny_bind (wpAny_holding ?_)
      simp only [Bool.false_eq_true, if_false]
      rw [hhash, hval]
      refine put_raw hkey md' small fun h2 md2 sb2 => ?_
      have ga2 : h2.get? a = some oa := (sb2.2 a (Ne.symm apart)).trans ga'
      refine wpAny_bind (wpAny_dictEpoch ga2 data ?_)
      rw [if_neg (by simp)]
      exact wpAny_pure ⟨h2, x + 1, rfl, e2, lt, by rw [merged_take_succ kvs more x (k', v) hkv]; exact md2, ga2, sb.trans sb2⟩
    · rintro b t ⟨h', j, rfl, eq, le, md', ga', sb⟩
      have full : j = enta.size := by
        rcases Nat.lt_or_ge j enta.size with h | h
        · have z : ((List.range enta.size).drop j).length = 0 := by rw [← eq]; rfl
          rw [List.length_drop, List.length_range] at z
          omega
        · exact Nat.le_antisymm le h
      rw [full, ← cnt, List.take_length] at md'
      exact wpAny_pure (next h' md' sb)
end

section
variable {X : Cx}
/-- {**a, **b}, keys ints or texts -/
def tSpr2 (ta tb : TE) : TE := fun σ H Q => ∀ p, H p = none → ta σ (upd H p (.dK [])) fun x H1 => ∃ a k1, x = .ref a ∧ a ≠ p ∧ H1 a = some (.dK k1) ∧ H1 p = some (.dK []) ∧
  tb σ (upd H1 p (.dK k1)) fun y H2 => ∃ b k2, y = .ref b ∧ b ≠ p ∧ H2 b = some (.dK k2) ∧ H2 p = some (.dK k1) ∧ k1.length + k2.length ≤ sizeLine ∧ Q (.ref p) (upd H2 p (.dK (mergeK k1 k2)))
theorem merge_step {pins : List (Addr × Obj)} {σ : L2.St} {H : Hp} {s : Shared} {p a : Addr} {k1 k2 : List (Key × V)} {A : Around} {E : Value → Shared → Prop} {Q : Unit → Shared → Prop} (I : Inv X pins σ H s) (hp : H p = some (.dK k1)) (ha : H a = some (.dK k2)) (hne : a ≠ p) (room : k1.length + k2.length ≤ sizeLine)
    (next : ∀ s', Inv X pins σ (upd H p (.dK (mergeK k1 k2))) s' → Q () s') : wpAny (model X.prog X.w) A (mergeMapping p (.ref a) false) Q E s := by
  obtain ⟨z1, m1, v1, r1, d1⟩ := dk_of I.hok hp
  obtain ⟨z2, m2, v2, r2, d2⟩ := dk_of I.hok ha
  have l1 : k1.length = v1.length := Paired.length r1
  have l2 : k2.length = v2.length := Paired.length r2
  refine merge_raw (Ne.symm hne) m2 d1 d2 (by omega) fun h' dd sb => next _ ?_
  have he : ∃ q, h'.get? p = some q := let ⟨q, _, _, hq, _⟩ := dd; ⟨q, hq⟩
  have hl : (mergeK k1 k2).length ≤ sizeLine := Nat.le_trans (length_mergeK k2 k1) room
  exact d_write I (by rw [hp]; exact True.intro) sb he (dk_new hl m1 (KV.merge r2 r1) dd)
theorem mergeK_nil {H : Hp} {h : Heap} {P : Program} {w : World} {a : Addr} {kvs : List (Key × V)} (ok : HOk P w H h) (e : H a = some (.dK kvs)) : mergeK [] kvs = kvs := by
  obtain ⟨z2, m2, vs, r, d⟩ := dk_of ok e
  have nd : (kvs.map (·.1)).Nodup := by
    obtain ⟨o, es, ep, h1, h2, h3, h4, h5, h6⟩ := d
    have : kvs.map (·.1) = vs.map (·.1) := by
      clear h5 h6 e z2
      induction r with
      | nil => rfl
      | cons h t ih => simp only [List.map_cons]; rw [ih, h.1]
    rw [this]
    exact h6
  have gen : ∀ (more acc : List (Key × V)), ((acc ++ more).map (·.1)).Nodup → mergeK acc more = acc ++ more := by
    intro more
    induction more with
    | nil => intro acc _; simp [mergeK]
    | cons kv rest ih =>
      intro acc hn
      have fresh : ¬ (acc.any fun x => decide (x.1 = kv.1)) = true := by
        intro c
        obtain ⟨x, hx, he⟩ := List.any_eq_true.mp c
        rw [List.map_append, List.map_cons, List.nodup_append] at hn
        exact hn.2.2 x.1 (List.mem_map.mpr ⟨x, hx, rfl⟩) kv.1 (by simp) (of_decide_eq_true he)
      have e1 : mergeK acc (kv :: rest) = mergeK (acc ++ [(kv.1, kv.2)]) rest := by
        simp only [mergeK, List.foldl_cons, putK, if_neg fresh]
      rw [e1, ih _ (by simpa using hn)]
      simp
  exact (gen kvs [] (by simpa using nd)).trans (by simp)
theorem pe_spr2 {e1 e2 : Expr} {pos : Pos} {ta tb : TE} (h1 : PE X e1 ta) (h2 : PE X e2 tb) : PE X (.Dict [none, none] [e1, e2] pos) (tSpr2 ta tb) := by
  refine ⟨fun pins s σ H Q I h => ?_⟩
  have hn : H s.heap.objs.size = none := I.hok.fresh (Nat.le_refl _)
  have I1 := I.laid (a := s.heap.objs.size) (o := .dK []) (t' := s.toks) (fun _ _ q => Heap.get?_push_of_some _ q) (Nat.le_refl _) (dk_empty s.heap I.big)
  show wpAny _ _ (standAt pos >>= fun _ => dictDisplay [(none, do let x ← eval e1 X.env; standAt pos; pure x), (none, do let x ← eval e2 X.env; standAt pos; pure x)]) _ _ _
  refine wpAny_bind (wpAny_standAt ?_)
  unfold dictDisplay
  simp only [List.forIn_cons, List.forIn_nil, List.isEmpty_nil, if_true, pure_bind, bind_assoc]
  refine wpAny_bind (wpAny_alloc ?_)
  refine wpAny_bind (wpAny_holding (wpAny_bind (thn (h1.run pins _ σ _ _ I1 (h _ hn)) fun v s2 ⟨x, H1, I2, rx, a, k1, ex, ne1, ha, hp, q⟩ => ?_)))
  subst ex
  cases rx
  refine wpAny_bind (wpAny_standAt (wpAny_pure ?_))
  have z1 := (dk_of I2.hok ha).1
  refine wpAny_bind (wpAny_onRaise (wpAny_tryCatch (wpAny_onRaise (wpAny_holding (merge_step I2 hp ha ne1 (by simpa using z1) fun s3 I3 => ?_)))))
  rw [mergeK_nil I2.hok ha] at I3
  refine wpAny_bind (wpAny_holding (wpAny_bind (thn (h2.run pins _ σ _ _ I3 q) fun v s4 ⟨y, H2, I4, ry, b, k2, ey, ne2, hb, hp2, room, q2⟩ => ?_)))
  subst ey
  cases ry
  refine wpAny_bind (wpAny_standAt (wpAny_pure ?_))
  refine wpAny_bind (wpAny_onRaise (wpAny_tryCatch (wpAny_onRaise (wpAny_holding (merge_step I4 hp2 hb ne2 room fun s5 I5 => ?_)))))
  exact wpAny_pure ⟨.ref _, _, I5, rfl, q2⟩
end
end Own

set_option Elab.async false
set_option linter.all false
set_option maxRecDepth 100000
set_option maxHeartbeats 4000000
/-! Operators of an own class, its instances on the left or on the right. -/
namespace Own
open PySem PySem.Spec PyProof.Rows L2
section
variable {prog : Program} {w : World} {A : Around} {E : Value → Shared → Prop} {s : Shared} {K : PySem.W.Frag} {x C f : Addr} {ox : Obj} {od : Option Obj}
theorem type_ref {M : Model} {h : Heap} {a : Addr} {o : Obj} (g : h.get? a = some o) : PySem.W.Looks M h (typeOf (.ref a)) o.cls := (PySem.W.Looks.ld g).andThen .now
/-- what an operator's def hands back: anything but NotImplemented -/
def Told (Q : Value → Shared → Prop) (v : Value) (t : Shared) : Prop := v ≠ .notImplemented ∧ Q v t
theorem try_own {M : Model} {name : Str} {b : Value} {Q : Value → Shared → Prop} (X : K.In s.heap) (J : PySem.W.InstAt s.heap x ox C od) (at_ : PySem.W.findIn K (.ref C) name = some (some (.ref f))) (fn : PySem.W.isFn K (.ref f) = true)
    (go : wpAny M A (call (.ref f) [.ref x, b]) (Told Q) E s) : wpAny M A (tryMethod (.ref x) name b) (fun r t => ∃ v, r = some v ∧ Q v t) E s := by
  unfold tryMethod
  refine wpAny_bind (PySem.W.special_fn X J at_ (beq_iff_eq.mp fn) (thn go fun v t h => ?_))
  obtain ⟨ne, q⟩ := h
  cases v <;> first | exact absurd rfl ne | exact wpAny_pure ⟨_, rfl, q⟩
/-- the class at C has defs for the operator and for its reflection -/
structure OpC (K : PySem.W.Frag) (C : Addr) (nm : String) (f g : Addr) : Prop where
  first : PySem.W.selfFirst K C = true
  own : PySem.W.findIn K (.ref C) (PySem.dunder nm) = some (some (.ref f))
  ofn : PySem.W.isFn K (.ref f) = true
  ref : PySem.W.findIn K (.ref C) (dunderR nm) = some (some (.ref g))
  rfn : PySem.W.isFn K (.ref g) = true
/-- x op b, x an instance, b of a built-in type -/
theorem bin_left {op : Operator} {sym nm T : String} {g : Addr} {b : Value} {fo ro : Option Value} {Q : Value → Shared → Prop} (hop : op.info = (sym, nm)) (X : K.In s.heap) (J : PySem.W.InstAt s.heap x ox C od) (o : OpC K C nm f g) (tb : PySem.W.Looks (model prog w) s.heap (typeOf b) (.type T))
    (t1 : PySem.W.findIn K (.type T) (PySem.dunder nm) = some fo) (t2 : PySem.W.findIn K (.type T) (dunderR nm) = some ro) (apart : PySem.W.subIn K (.type T) (.ref C) = some false)
    (go : wpAny (model prog w) A (call (.ref f) [.ref x, b]) (Told Q) E s) : wpAny (model prog w) A (binaryOp op (.ref x) b) Q E s := by
  obtain ⟨cd, rest, hcd, hm⟩ := PySem.W.ksp_first o.first
  have done := try_own X J o.own o.ofn go
  obtain ⟨hh, gg, dd, tt, os⟩ := s
  have f1 : PySem.W.Looks (model prog w) hh (typeOf (.ref x)) (.ref C) := J.type
  have f2 : PySem.W.Looks (model prog w) hh (typeOf b) (.type T) := tb
  have f3 : PySem.W.Looks (model prog w) hh (fillsNumberSlot (.ref C) nm) true := PySem.W.fills_K X hcd hm o.own
  have f4 := PySem.W.ksp_fillsT (M := model prog w) X t1 t2
  have f5 := PySem.W.looks_subIn (M := model prog w) X apart
  have f6 : PySem.W.Looks (model prog w) hh (numberSlotInPython (.ref C) nm) true := PySem.W.ksp_inPy X o.own o.ref (.inr ⟨g, rfl⟩)
  have f7 : PySem.W.Looks (model prog w) hh (numberSlotInPython (.type T) nm) false := PySem.W.Looks.of_pure rfl
  have f8 := PySem.W.looks_findIn (M := model prog w) X t2
  generalize ((fo.isSome && !isSeqSlot fo) || (ro.isSome && !isSeqSlot ro)) = rb at f4
  have ne : (Value.ref C == Value.type T) = false := Bool.eq_false_iff.mpr fun q => by cases beq_iff_eq.mp q
  simp only [binaryOp, hop]
  refine wpAny_holding (wpAny_bind ?_)
  unfold binaryOp1
  refine wpAny_bind (f1.at (wpAny_bind (f2.at (wpAny_bind (f3.at ?_)))))
  simp only [ne, Bool.false_eq_true, if_false]
  cases rb
  all_goals
    ksp_lk
    refine thn done fun r t h => ?_
    obtain ⟨v, rfl, q⟩ := h
    ksp_lk
    exact q
/-- a op x, x an instance, a of a built-in type whose own def declines -/
theorem bin_right {op : Operator} {sym nm T : String} {g : Addr} {a : Value} {ro : Option Value} {id : String} {Q : Value → Shared → Prop} (hop : op.info = (sym, nm)) (X : K.In s.heap) (J : PySem.W.InstAt s.heap x ox C od) (o : OpC K C nm f g) (ta : PySem.W.Looks (model prog w) s.heap (typeOf a) (.type T))
    (t1 : PySem.W.findIn K (.type T) (PySem.dunder nm) = some (some (.builtin id))) (t2 : PySem.W.findIn K (.type T) (dunderR nm) = some ro) (num : isSeqSlot (some (.builtin id)) = false) (apart : PySem.W.subIn K (.ref C) (.type T) = some false)
    (no : wpAny (model prog w) A (tryMethod a (PySem.dunder nm) (.ref x)) (fun r t => r = none ∧ t = s) E s)
    (go : wpAny (model prog w) A (call (.ref g) [.ref x, a]) (Told Q) E s) : wpAny (model prog w) A (binaryOp op a (.ref x)) Q E s := by
  obtain ⟨cd, rest, hcd, hm⟩ := PySem.W.ksp_first o.first
  have done := try_own X J o.ref o.rfn go
  obtain ⟨hh, gg, dd, tt, os⟩ := s
  have f1 : PySem.W.Looks (model prog w) hh (typeOf (.ref x)) (.ref C) := J.type
  have f2 : PySem.W.Looks (model prog w) hh (typeOf a) (.type T) := ta
  have f3 : PySem.W.Looks (model prog w) hh (fillsNumberSlot (.ref C) nm) true := PySem.W.fills_K X hcd hm o.own
  have f4 := PySem.W.ksp_fillsT (M := model prog w) X t1 t2
  have e4 : (((some (Value.builtin id)).isSome && !isSeqSlot (some (.builtin id))) || (ro.isSome && !isSeqSlot ro)) = true := by rw [num]; rfl
  rw [e4] at f4
  have f5 := PySem.W.looks_subIn (M := model prog w) X apart
  have f7 : PySem.W.Looks (model prog w) hh (numberSlotInPython (.type T) nm) false := PySem.W.Looks.of_pure rfl
  have ne : (Value.type T == Value.ref C) = false := Bool.eq_false_iff.mpr fun q => by cases beq_iff_eq.mp q
  simp only [binaryOp, hop]
  refine wpAny_holding (wpAny_bind ?_)
  unfold binaryOp1
  refine wpAny_bind (f2.at (wpAny_bind (f1.at (wpAny_bind (f4.at ?_)))))
  simp only [ne, Bool.false_eq_true, if_false]
  ksp_lk
  refine thn no fun r t h => ?_
  obtain ⟨rfl, rfl⟩ := h
  ksp_lk
  refine thn done fun r t h => ?_
  obtain ⟨v, rfl, q⟩ := h
  ksp_lk
  exact q
theorem dict_declines {a : Addr} (ta : s.TypeIs (.ref a) "dict") (X : K.In s.heap) (J : PySem.W.InstAt s.heap x ox C od) (apart : PySem.W.subIn K (.ref C) (.type "dict") = some false) :
    wpAny (model prog w) A (tryMethod (.ref a) (PySem.dunder "or") (.ref x)) (fun r t => r = none ∧ t = s) E s := by
  unfold tryMethod
  refine wpAny_bind (wpAny_callSpecial?_slot ta F.slot_dict_or (GQ.call_here F.slot_dict_or ta F.entry_dict_or (F.args_dict_or_2 _ _) ?_))
  unfold Builtin.«dict.__or__»
  refine wpAny_bind ?_
  unfold Builtin.Dict.dictSlotArgs
  refine wpAny_bind (wpAny_notOrdered_dict ta ?_)
  refine wpAny_bind (m := slotArgs _ _ _) (wpAny_pure ?_)
  refine wpAny_pure ?_
  have f1 : PySem.W.Looks (model prog w) s.heap (typeOf (.ref x)) (.ref C) := J.type
  have f5 := PySem.W.looks_subIn (M := model prog w) X apart
  refine wpAny_bind (m := (isInstance (.ref a) (.type "dict") <&&> isInstance (.ref x) (.type "dict"))) ?_
  refine wpAny_bind (m := isInstance (.ref a) (.type "dict")) (wpAny_isInstance ta isSubtype_dict_dict ?_)
  show wpAny _ _ (isInstance (.ref x) (.type "dict")) _ _ _
  unfold isInstance
  refine wpAny_bind (f1.here (f5.here ?_))
  refine wpAny_bind (wpAny_rule (wpAny_pure ?_))
  exact wpAny_pure ⟨rfl, rfl⟩
end
section
variable {X : Cx} {pins : List (Addr × Obj)} {σ : L2.St} {H : Hp} {s : Shared}
theorem ins_at {x C dx : Addr} {fs : List (Str × V)} (I : Inv X pins σ H s) (h : H x = some (.ins C dx fs)) : ∃ ox od, PySem.W.InstAt s.heap x ox C od := by
  obtain ⟨mA, O, _⟩ := ins_get I.hok h
  obtain ⟨od, J, _⟩ := O.look
  exact ⟨_, _, J⟩
theorem told_of {Q : VK} {z : V} {v : Value} {t : Shared} (r : RelV z v) (h : EP X pins σ Q v t) : Told (EP X pins σ Q) v t := by
  refine ⟨?_, h⟩
  rintro rfl
  cases z with
  | int i => obtain ⟨u, e⟩ := (show ∃ u, Value.notImplemented = Value.int i u from r); cases e
  | str i => obtain ⟨u, e⟩ := (show ∃ u, Value.notImplemented = Value.str i u from r); cases e
  | byt i => obtain ⟨u, e⟩ := (show ∃ u, Value.notImplemented = Value.bytes i u from r); cases e
  | flt i => obtain ⟨u, e⟩ := (show ∃ u, Value.notImplemented = Value.float i u from r); cases e
  | _ => cases r
variable {CX : CXT} {k : Nat} {C f g : Addr} {spF spG : Sp} {E : XK}
/-- a | b: two instances of the class; one and a dict, on either side -/
def rOr (C : Addr) (spF spG : Sp) (E : XK) : R2 := fun x y H Q => (∃ a b dx fs dy gs, x = .ref a ∧ y = .ref b ∧ H a = some (.ins C dx fs) ∧ H b = some (.ins C dy gs) ∧ spF [x, y] H Q E) ∨
  (∃ a b dx fs kvs, x = .ref a ∧ y = .ref b ∧ H a = some (.ins C dx fs) ∧ H b = some (.dK kvs) ∧ spF [x, y] H Q E) ∨ (∃ a b kvs dx fs, x = .ref a ∧ y = .ref b ∧ H a = some (.dK kvs) ∧ H b = some (.ins C dx fs) ∧ spG [y, x] H Q E)
theorem call_told {h : Addr} {sp : Sp} {vs : List V} {us : List Value} {Q : VK} (F : FnR X.prog X.w X.K X.mg X.base CX k h sp) (hr : Room k X.A) (hx : Passes CX X E) (I : Inv X pins σ H s) (r : Vals vs us) (q : sp vs H Q E) :
    wpAny (model X.prog X.w) X.A (call (.ref h) us) (Told (EP X pins σ Q)) X.xe s := by
  refine thn (wpAny_call (run_fnR F hr hx I r q)) fun v t z => ?_
  obtain ⟨z', H', I', rz, qz⟩ := z
  exact told_of rz ⟨z', H', I', rz, qz⟩
/-- what of the text the operator asks -/
structure OrK (K : PySem.W.Frag) (C f g : Addr) : Prop where
  op : OpC K C "or" f g
  t1 : PySem.W.findIn K (.type "dict") (PySem.dunder "or") = some (some (.builtin "dict.__or__"))
  t2 : ∃ ro, PySem.W.findIn K (.type "dict") (dunderR "or") = some ro
  ap : PySem.W.subIn K (.type "dict") (.ref C) = some false
  pa : PySem.W.subIn K (.ref C) (.type "dict") = some false
theorem op_or (o : OrK X.K C f g) (F : FnR X.prog X.w X.K X.mg X.base CX k f spF) (G : FnR X.prog X.w X.K X.mg X.base CX k g spG) (hr : Room k X.A) (hx : Passes CX X E) : OpR X (binaryOp .BitOr) (rOr C spF spG E) := by
  intro pins s σ H x y v u Q I rx ry h
  obtain ⟨ro, t2⟩ := o.t2
  rcases h with ⟨a, b, dx, fs, dy, gs, rfl, rfl, ha, hb, q⟩ | ⟨a, b, dx, fs, kvs, rfl, rfl, ha, hb, q⟩ | ⟨a, b, kvs, dx, fs, rfl, rfl, ha, hb, q⟩
  · cases rx; cases ry
    obtain ⟨ox, od, J⟩ := ins_at I ha
    obtain ⟨oy, oe, J'⟩ := ins_at I hb
    obtain ⟨m, hF⟩ := I.fr
    refine PySem.W.binop_K (op := .BitOr) hF I.ok.mod.kin J J'.type o.op.first o.op.own o.op.ofn ?_
    refine thn (wpAny_call (run_fnR (us := [.ref a, .ref b]) (vs := [.ref a, .ref b]) F hr hx I (.cons rfl (.cons rfl .nil)) q)) fun v t z => ?_
    obtain ⟨z', H', I', rz, qz⟩ := z
    exact SlX.cmpback rz ⟨z', H', I', rz, qz⟩
  · cases rx; cases ry
    obtain ⟨ox, od, J⟩ := ins_at I ha
    obtain ⟨_, _, vs, _, md⟩ := dk_of I.hok hb
    obtain ⟨ob, es, ep, hg, ex, _⟩ := id md
    have tb : PySem.W.Looks (model X.prog X.w) s.heap (typeOf (.ref b)) (.type "dict") := by
      have z := type_ref (M := model X.prog X.w) hg
      rw [ex.1] at z
      exact z
    exact bin_left (op := .BitOr) (nm := "or") rfl I.kIn J o.op tb o.t1 t2 o.ap (call_told (vs := [.ref a, .ref b]) F hr hx I (.cons rfl (.cons rfl .nil)) q)
  · cases rx; cases ry
    obtain ⟨ox, od, J⟩ := ins_at I hb
    obtain ⟨_, _, vs, _, md⟩ := dk_of I.hok ha
    obtain ⟨ob, es, ep, hg, ex, _⟩ := id md
    have ta : PySem.W.Looks (model X.prog X.w) s.heap (typeOf (.ref a)) (.type "dict") := by
      have z := type_ref (M := model X.prog X.w) hg
      rw [ex.1] at z
      exact z
    exact bin_right (op := .BitOr) (nm := "or") rfl I.kIn J o.op ta o.t1 t2 rfl o.pa (dict_declines md.typeIs I.kIn J o.pa) (call_told (vs := [.ref b, .ref a]) G hr hx I (.cons rfl (.cons rfl .nil)) q)
end
end Own

set_option Elab.async false
set_option linter.all false
set_option maxRecDepth 100000
set_option maxHeartbeats 4000000
/-! Tables with text keys: what a look-up tells, the sorted table; walks over dicts. -/
namespace Own
open PySem PySem.Spec PyProof.Rows L2
/-! ### order of texts -/
theorem le_trans_cps : ∀ {a b c : List Nat}, ltCps b a = false → ltCps c b = false → ltCps c a = false
  | [], [], [], _, _ => rfl
  | [], [], _ :: _, _, _ => rfl
  | [], _ :: _, [], _, h => by simp [ltCps] at h
  | [], _ :: _, _ :: _, _, _ => rfl
  | _ :: _, [], _, h, _ => by simp [ltCps] at h
  | _ :: _, _ :: _, [], _, h => by simp [ltCps] at h
  | x :: a, y :: b, z :: c, h1, h2 => by
    simp only [ltCps, Bool.or_eq_false_iff, Bool.and_eq_false_iff, decide_eq_false_iff_not, beq_eq_false_iff_ne] at h1 h2 ⊢
    refine ⟨by omega, ?_⟩
    by_cases e : z = x
    · right
      have e1 : y = x := by omega
      have e2 : z = y := by omega
      exact le_trans_cps (h1.2.elim (fun n => absurd e1 n) id) (h2.2.elim (fun n => absurd e2 n) id)
    · exact .inl e
theorem le_anti_cps : ∀ {a b : List Nat}, ltCps b a = false → ltCps a b = false → a = b
  | [], [], _, _ => rfl
  | [], _ :: _, _, h => by simp [ltCps] at h
  | _ :: _, [], h, _ => by simp [ltCps] at h
  | x :: a, y :: b, h1, h2 => by
    simp only [ltCps, Bool.or_eq_false_iff, Bool.and_eq_false_iff, decide_eq_false_iff_not, beq_eq_false_iff_ne] at h1 h2
    have e : x = y := by omega
    subst e
    rw [le_anti_cps (h1.2.elim (fun n => absurd rfl n) id) (h2.2.elim (fun n => absurd rfl n) id)]
theorem str_ext {x y : Str} (h : x.cps.toList = y.cps.toList) : x = y := by
  obtain ⟨a⟩ := x
  obtain ⟨b⟩ := y
  exact congrArg Str.mk (Array.toList_inj.mp h)
theorem rising_all : ∀ {l : List Str} {p : Str}, risingS p l = true → ∀ x ∈ l, ltCps x.cps.toList p.cps.toList = false
  | y :: l, p, h, x, hx => by
    simp only [risingS, Bool.and_eq_true, Bool.not_eq_true'] at h
    rcases List.mem_cons.mp hx with rfl | hx
    · exact h.1
    · exact le_trans_cps h.1 (rising_all h.2 x hx)
theorem rising_sorted : ∀ {l : List Str} {p : Str}, risingS p l = true → sortedS l = true
  | [], _, _ => rfl
  | y :: l, p, h => by
    simp only [risingS, Bool.and_eq_true] at h
    exact h.2
/-- two sorted rows of the same texts are one -/
theorem sorted_one : ∀ {ys zs : List Str}, sortedS ys = true → sortedS zs = true → ys.Perm zs → ys = zs
  | [], zs, _, _, h => (List.nil_perm.mp h).symm
  | y :: ys, [], _, _, h => by simpa using h.length_eq
  | y :: ys, z :: zs, h1, h2, h => by
    have hyz : y = z := by
      have my : y ∈ z :: zs := h.subset (by simp)
      have mz : z ∈ y :: ys := h.symm.subset (by simp)
      rcases List.mem_cons.mp my with e | my
      · exact e
      · rcases List.mem_cons.mp mz with e | mz
        · exact e.symm
        · exact str_ext (le_anti_cps (rising_all h1 z mz) (rising_all h2 y my))
    subst hyz
    rw [sorted_one (rising_sorted (p := y) h1) (rising_sorted (p := y) h2) (List.Perm.cons_inv h)]
/-! ### tables -/
abbrev Tbl : Type := List (Key × V)
def valOk : V → Bool
  | .int i => decide (i.natAbs < 10 ^ 1000)
  | .str x => decide (x.length ≤ 1000)
  | _ => false
def keyId : Key → Bool
  | .inr x => isIdent x
  | _ => false
/-- keys are identifiers, each once; values can be bound -/
structure TOk (t : Tbl) : Prop where
  nd : (t.map (·.1)).Nodup
  id : ∀ p ∈ t, keyId p.1 = true
  ok : ∀ p ∈ t, valOk p.2 = true
def txt : Key → Str
  | .inr x => x
  | _ => ⟨#[]⟩
def names (t : Tbl) : List Str := t.map fun p => txt p.1
theorem keyId_txt {k : Key} (h : keyId k = true) : k = .inr (txt k) := by
  cases k with
  | inl i => cases h
  | inr x => rfl
theorem TOk.keys {t : Tbl} (h : TOk t) : t.map (·.1) = (names t).map Sum.inr := by
  unfold names
  rw [List.map_map]
  exact List.map_congr_left fun p hp => keyId_txt (h.id p hp)
theorem TOk.names_nd {t : Tbl} (h : TOk t) : (names t).Nodup := by
  have z := h.nd
  rw [h.keys, List.Nodup, List.pairwise_map] at z
  exact z.imp fun h e => h (by rw [e])
theorem valV_mem {t : Tbl} {k : Key} {v : V} (h : valV t k = some v) : (k, v) ∈ t := by
  unfold valV at h
  obtain ⟨p, hp, e⟩ := Option.map_eq_some_iff.mp h
  have e0 := List.find?_some hp
  have e1 : p.1 = k := by simpa using e0
  have e2 := List.mem_of_find?_eq_some hp
  subst e1 e
  exact e2
theorem mem_valV : ∀ {t : Tbl} {k : Key} {v : V}, (t.map (·.1)).Nodup → (k, v) ∈ t → valV t k = some v
  | p :: t, k, v, nd, h => by
    rw [List.map_cons, List.nodup_cons] at nd
    rcases List.mem_cons.mp h with rfl | h
    · exact valV_pos rfl
    · rw [valV_neg fun e => nd.1 (by rw [e]; exact List.mem_map.mpr ⟨(k, v), h, rfl⟩)]
      exact mem_valV nd.2 h
theorem valV_key {t : Tbl} {k : Key} : (valV t k).isSome = true ↔ k ∈ t.map (·.1) := by
  rw [← valV_any k t, List.any_eq_true]
  constructor
  · rintro ⟨p, hp, e⟩
    exact List.mem_map.mpr ⟨p, hp, of_decide_eq_true e⟩
  · intro h
    obtain ⟨p, hp, e⟩ := List.mem_map.mp h
    exact ⟨p, hp, decide_eq_true e⟩
/-- the same look-ups -/
def Eqv (a b : Tbl) : Prop := ∀ k, valV a k = valV b k
theorem Eqv.symm {a b : Tbl} (h : Eqv a b) : Eqv b a := fun k => (h k).symm
theorem Eqv.trans {a b c : Tbl} (h : Eqv a b) (g : Eqv b c) : Eqv a c := fun k => (h k).trans (g k)
theorem names_mem {t : Tbl} (h : TOk t) {x : Str} : x ∈ names t ↔ (valV t (.inr x)).isSome = true := by
  rw [valV_key, h.keys]
  constructor
  · intro m; exact List.mem_map.mpr ⟨x, m, rfl⟩
  · intro m
    obtain ⟨y, hy, e⟩ := List.mem_map.mp m
    cases e
    exact hy
theorem perm_of_nd {α : Type} [DecidableEq α] : ∀ {l m : List α}, l.Nodup → m.Nodup → (∀ x, x ∈ l ↔ x ∈ m) → l.Perm m
  | [], m, _, _, h => by
    have : m = [] := List.eq_nil_iff_forall_not_mem.mpr fun x hx => by simpa using (h x).mpr hx
    rw [this]
  | a :: l, m, hl, hm, h => by
    have ha : a ∈ m := (h a).mp (by simp)
    have hl' := List.nodup_cons.mp hl
    refine (List.Perm.cons a (perm_of_nd hl'.2 (hm.erase a) fun x => ?_)).trans (List.perm_cons_erase ha).symm
    rw [List.Nodup.mem_erase_iff hm]
    constructor
    · intro hx
      exact ⟨fun e => hl'.1 (e ▸ hx), (h x).mp (by simp [hx])⟩
    · rintro ⟨ne, hx⟩
      rcases List.mem_cons.mp ((h x).mpr hx) with e | hx
      · exact absurd e ne
      · exact hx
theorem names_perm {a b : Tbl} (ha : TOk a) (hb : TOk b) (e : Eqv a b) : (names a).Perm (names b) :=
  perm_of_nd ha.names_nd hb.names_nd fun x => by rw [names_mem ha, names_mem hb, e]
/-- the table with its names in the order of ys -/
def byN (t : Tbl) (ys : List Str) : Tbl := ys.map fun y => (Sum.inr y, (valV t (.inr y)).getD .non)
/-- s is t, sorted -/
structure Srt (t s : Tbl) : Prop where
  ex : ∃ ys, ys.Perm (names t) ∧ sortedS ys = true ∧ s = byN t ys
theorem byN_keys (t : Tbl) (ys : List Str) : (byN t ys).map (·.1) = ys.map Sum.inr := by
  unfold byN
  rw [List.map_map]
  rfl
theorem byN_nd {t : Tbl} {ys : List Str} (h : ys.Nodup) : ((byN t ys).map (·.1)).Nodup := by
  rw [byN_keys, List.Nodup, List.pairwise_map]
  exact h.imp fun h e => h (by cases e; rfl)
theorem Srt.eqv {t s : Tbl} (h : TOk t) (q : Srt t s) : Eqv s t := by
  obtain ⟨ys, hp, _, rfl⟩ := q
  have nd : ys.Nodup := hp.symm.nodup h.names_nd
  intro k
  cases e : valV t k with
  | some v =>
    have hk := valV_key.mp (show (valV t k).isSome = true by rw [e]; rfl)
    rw [h.keys] at hk
    obtain ⟨x, hx, rfl⟩ := List.mem_map.mp hk
    refine mem_valV (byN_nd nd) (List.mem_map.mpr ⟨x, hp.symm.subset hx, by rw [e]; rfl⟩)
  | none =>
    cases e2 : valV (byN t ys) k with
    | none => rfl
    | some v =>
      have hk := valV_key.mp (show (valV (byN t ys) k).isSome = true by rw [e2]; rfl)
      rw [byN_keys] at hk
      obtain ⟨x, hx, rfl⟩ := List.mem_map.mp hk
      have := (names_mem h).mp (hp.subset hx)
      rw [e] at this
      cases this
theorem Srt.tok {t s : Tbl} (h : TOk t) (q : Srt t s) : TOk s := by
  have ev := q.eqv h
  obtain ⟨ys, hp, _, rfl⟩ := q
  have nd : ys.Nodup := hp.symm.nodup h.names_nd
  have mem : ∀ p ∈ byN t ys, p ∈ t := fun p hp => by
    have z := mem_valV (byN_nd nd) (show (p.1, p.2) ∈ byN t ys from hp)
    rw [ev] at z
    exact valV_mem z
  exact ⟨byN_nd nd, fun p hp => h.id p (mem p hp), fun p hp => h.ok p (mem p hp)⟩
theorem Srt.len {t s : Tbl} (q : Srt t s) : s.length = t.length := by
  obtain ⟨ys, hp, _, rfl⟩ := q
  unfold byN
  rw [List.length_map, hp.length_eq]
  unfold names
  rw [List.length_map]
theorem byN_congr {a b : Tbl} (e : Eqv a b) (ys : List Str) : byN a ys = byN b ys := List.map_congr_left fun y _ => by rw [e]
/-- tables of the same look-ups sort to one -/
theorem Srt.one {a b s t : Tbl} (ha : TOk a) (hb : TOk b) (e : Eqv a b) (p : Srt a s) (q : Srt b t) : s = t := by
  obtain ⟨ys, y1, y2, rfl⟩ := p
  obtain ⟨zs, z1, z2, rfl⟩ := q
  have hyz : ys = zs := sorted_one y2 z2 (y1.trans ((names_perm ha hb e).trans z1.symm))
  subst hyz
  exact byN_congr e ys
theorem TOk.nil : TOk [] := ⟨List.nodup_nil, fun _ h => absurd h (by simp), fun _ h => absurd h (by simp)⟩
theorem putK_keys {t : Tbl} {k : Key} {v : V} : ∀ j, j ∈ (putK t k v).map (·.1) ↔ (j = k ∨ j ∈ t.map (·.1)) := by
  intro j
  rw [← valV_key, valV_put]
  by_cases e : j = k
  · simp [e]
  · rw [if_neg e, valV_key]
    simp [e]
theorem putK_mem {t : Tbl} {k : Key} {v : V} {p : Key × V} (h : p ∈ putK t k v) : p = (k, v) ∨ p ∈ t := by
  unfold putK at h
  split at h
  · obtain ⟨q, hq, e⟩ := List.mem_map.mp h
    split at e
    · rename_i c
      subst e c
      exact .inl rfl
    · subst e
      exact .inr hq
  · rcases List.mem_append.mp h with h | h
    · exact .inr h
    · simp at h
      exact .inl h
theorem putK_nd {t : Tbl} {k : Key} {v : V} (h : (t.map (·.1)).Nodup) : ((putK t k v).map (·.1)).Nodup := by
  cases e : valV t k with
  | none => exact nd_putK v h e
  | some w =>
    have c : (t.any fun kv => decide (kv.1 = k)) = true := by rw [valV_any, e]; rfl
    unfold putK
    rw [if_pos c, List.map_map]
    have : ((fun x => x.1) ∘ fun (kv : Key × V) => if kv.1 = k then (kv.1, v) else kv) = fun kv => kv.1 := by
      funext kv
      show (if kv.1 = k then (kv.1, v) else kv).1 = kv.1
      split <;> rfl
    rw [this]
    exact h
theorem TOk.put {t : Tbl} {x : Str} {v : V} (h : TOk t) (hx : isIdent x = true) (hv : valOk v = true) : TOk (putK t (.inr x) v) :=
  ⟨putK_nd h.nd, fun p hp => (putK_mem hp).elim (fun e => by rw [e]; exact hx) fun m => h.id p m, fun p hp => (putK_mem hp).elim (fun e => by rw [e]; exact hv) fun m => h.ok p m⟩
theorem mergeK_tok : ∀ {b a : Tbl}, TOk a → (∀ p ∈ b, keyId p.1 = true) → (∀ p ∈ b, valOk p.2 = true) → TOk (mergeK a b)
  | [], a, ha, _, _ => ha
  | p :: b, a, ha, hi, ho => by
    have e := keyId_txt (hi p (by simp))
    have hk : isIdent (txt p.1) = true := by
      have z := hi p (by simp)
      rw [e] at z
      exact z
    have h1 : TOk (putK a p.1 p.2) := by
      rw [e]
      exact ha.put hk (ho p (by simp))
    exact mergeK_tok (b := b) h1 (fun q hq => hi q (by simp [hq])) fun q hq => ho q (by simp [hq])
theorem valV_merge : ∀ {b a : Tbl} {k : Key}, (b.map (·.1)).Nodup → valV (mergeK a b) k = (valV b k).or (valV a k)
  | [], a, k, _ => by simp [mergeK, valV_nil]
  | p :: b, a, k, nd => by
    rw [List.map_cons, List.nodup_cons] at nd
    show valV (mergeK (putK a p.1 p.2) b) k = _
    rw [valV_merge nd.2, valV_put]
    by_cases e : p.1 = k
    · rw [valV_pos e, if_pos e.symm]
      have : valV b k = none := by
        cases q : valV b k with
        | none => rfl
        | some w => exact absurd (valV_key.mp (show (valV b k).isSome = true by rw [q]; rfl)) (e ▸ nd.1)
      rw [this]
      rfl
    · rw [valV_neg e, if_neg fun z => e z.symm]
theorem merge_eqv {a a' b b' : Tbl} (hb : TOk b) (hb' : TOk b') (e : Eqv a a') (f : Eqv b b') : Eqv (mergeK a b) (mergeK a' b') := fun k => by
  rw [valV_merge hb.nd, valV_merge hb'.nd, e, f]
theorem merge_nil {a : Tbl} : mergeK a [] = a := rfl
theorem nil_merge {a : Tbl} (h : TOk a) : Eqv (mergeK [] a) a := fun k => by rw [valV_merge h.nd, valV_nil, Option.or_none]
theorem merge_self {a : Tbl} (h : TOk a) : Eqv (mergeK a a) a := fun k => by rw [valV_merge h.nd]; cases valV a k <;> rfl
theorem merge_assoc {a b c : Tbl} (hb : TOk b) (hc : TOk c) : Eqv (mergeK a (mergeK b c)) (mergeK (mergeK a b) c) := fun k => by
  rw [valV_merge (mergeK_tok hb hc.id hc.ok).nd, valV_merge hc.nd, valV_merge hc.nd, valV_merge hb.nd]
  cases valV c k <;> rfl
theorem merge_tok {a b : Tbl} (ha : TOk a) (hb : TOk b) : TOk (mergeK a b) := mergeK_tok ha hb.id hb.ok
theorem len_eqv {a b : Tbl} (ha : TOk a) (hb : TOk b) (e : Eqv a b) : a.length = b.length := by
  have z := (names_perm ha hb e).length_eq
  unfold names at z
  rw [List.length_map, List.length_map] at z
  exact z
end Own

set_option Elab.async false
set_option linter.all false
set_option maxRecDepth 100000
set_option maxHeartbeats 4000000
/-! Own classes of the text; walks over dicts; the state that the later laws draw from. -/
namespace Own
open PySem PySem.Spec PyProof.Rows L2
/-- an own class -/
structure CnT (K : PySem.W.Frag) (mg : Str → Option Value) (x : Str) where
  C : Addr
  m : mg x = some (.ref C)
  c : Cls K C
  mks : PySem.W.makesIn K C = true
  kp : PySem.W.keepIn K (.ref C) = true
  ca : PySem.W.findIn K (.ref C) "__class__" = some (some (.builtin "object.__class__"))
  cn : PySem.W.specialIn K (.builtin "object.__class__") "__get__" = some (some (.builtin "getset_descriptor.__get__"))
  ct : PySem.W.takesIn K (.builtin "object.__class__") = some true
  cm : PySem.W.mroIn K C (.type "object") = some true
theorem CnT.ins {K : PySem.W.Frag} {mg : Str → Option Value} {x : Str} (T : CnT K mg x) {H : Hp} {a dx : Addr} {fs : List (Str × V)} (e : H a = some (.ins T.C dx fs)) : TyX K H (.ref a) (.ref T.C) := .base (.ins e T.c T.ca T.cn T.ct T.cm)
/-- a method of it without defaults -/
structure MtT (K : PySem.W.Frag) (C : Addr) (m q : Str) (st : Stmt) (ps : List Str) where
  a : Addr
  d : FuncData
  F : Fun K m q st a d
  at_ : PySem.W.findIn K (.ref C) m = some (some (.ref a))
  fn : PySem.W.isFn K (.ref a) = true
  b : Binds K d ps []
/-- one with defaults -/
structure MtD (K : PySem.W.Frag) (C : Addr) (m q : Str) (st : Stmt) (ps : List Str) (dvs : List V) where
  a : Addr
  d : FuncData
  F : FunD K m q (defArgs st) (defBody st) (defScope st) dvs [] a d
  at_ : PySem.W.findIn K (.ref C) m = some (some (.ref a))
  fn : PySem.W.isFn K (.ref a) = true
  b : Binds K d ps []
  ds : List Value
  hv : Vals dvs ds
  bd : Binds K d ps ds
theorem FunD.okN {P : Program} {w : World} {K : PySem.W.Frag} {mg : Str → Option Value} {base : Heap} {x qual : Str} {params : Arguments} {body : List Stmt} {scope : Scope} {dvs : List V} {kws : List (Str × V)} {f : Addr} {fd : FuncData} {N ps : List Str} {k : Nat} {sp : Sp} (F : FunD K x qual params body scope dvs kws f fd) (S : FnScope N ps scope) (len : ∀ vs H Q E, sp vs H Q E → vs.length = ps.length)
    (hbody : ∀ (cdv : Value) (A : Around) (outer : List Env) (s : Shared) (H : Hp) (vs : List V) (Q : VK) (E : XK), Room k (A.deeper (envOfC qual scope s.heap.objs.size f cdv)) → sp vs H Q E →
      ∃ t, PSs (cxOf CX0 P w K mg base N qual scope f cdv A outer s H E).nox body t ∧ t { nx := fun _ H' => Q .non H', rt := Q } (start N vs) H) : FnOk P w K mg base CX0 (k + 1) f fd ps sp :=
  F.ok S len fun cdv A outer s H vs Q E hr h => let ⟨t, d, q⟩ := hbody cdv A outer s H vs Q E hr h; ⟨t, d.nox, q⟩
theorem fun_of {K : PySem.W.Frag} {x qual : Str} {st : Stmt} {f : Addr} {fd : FuncData} (F : FunD K x qual (defArgs st) (defBody st) (defScope st) [] [] f fd) : Fun K x qual st f fd := by
  obtain ⟨oc, od, dV, kV, doc, pm, an, cdv, ct, osl, e, lk, hcd, hD, _⟩ := F.ex
  rcases hD with ⟨_, rfl⟩ | ⟨n, _⟩
  · exact ⟨⟨oc, od, kV, doc, pm, an, cdv, ct, osl, e, lk, hcd⟩, F.kp⟩
  · exact absurd rfl n
theorem okR {P : Program} {w : World} {K : PySem.W.Frag} {mg : Str → Option Value} {base : Heap} {CX : CXT} {k : Nat} {f : Addr} {fd : FuncData} {ps : List Str} {sp : Sp} (F : FnOk P w K mg base CX k f fd ps sp) (b : Binds K fd ps []) : FnR P w K mg base CX k f sp :=
  (FnOk.raw F b .nil).imp fun vs H Q E h => by rw [List.append_nil]; exact h
theorem okRD {P : Program} {w : World} {K : PySem.W.Frag} {mg : Str → Option Value} {base : Heap} {CX : CXT} {k : Nat} {f : Addr} {fd : FuncData} {ps : List Str} {sp : Sp} {dvs : List V} {ds : List Value} (F : FnOk P w K mg base CX k f fd ps sp) (b : Binds K fd ps ds) (h : Vals dvs ds) : FnR P w K mg base CX k f (fun vs H Q E => sp (vs ++ dvs) H Q E) := FnOk.raw F b h
/-- a statement that is not reached -/
def tDead : TS := fun _ _ _ => False
theorem ps_dead {X : Cx} {st : Stmt} : PS X st tDead := ⟨fun _ _ _ _ _ _ h => h.elim⟩
/-! ### walks -/
theorem for_keys {d : Addr} {o : Obj} {kvs : List (Key × V)} {g : TG} {tb : TS} {D : Ends} {σ : L2.St} {H : Hp} (Pv : Nat → L2.St → Hp → Prop) (h0 : Pv 0 σ H) (hl : ∀ i σ H, i ≤ kvs.length → Pv i σ H → H d = some (.frz o (.dK kvs)))
    (hs : ∀ i k v σ H, kvs[i]? = some (k, v) → Pv i σ H → g (kV k) σ H fun σ2 H2 => tb { D with nx := Pv (i + 1), ct := Pv (i + 1), bk := D.nx } σ2 H2) (hd : ∀ σ H, Pv kvs.length σ H → D.nx σ H) :
    ∃ W : Nat → Nat → L2.St → Hp → Prop, (∃ m, W 0 m σ H) ∧ ∀ i m σ H, W i m σ H →
      ((Itk d o kvs).stop i H ∧ D.nx σ H) ∨ ((Itk d o kvs).go i H ∧ ∃ N : L2.St → Hp → Prop, (∀ σ' H', N σ' H' → ∃ m', m' < m ∧ W (i + 1) m' σ' H') ∧ ∀ x H', (Itk d o kvs).yld i H x H' → g x σ H' fun σ2 H2 => tb { D with nx := N, ct := N, bk := D.nx } σ2 H2) := by
  refine ⟨fun j n τ G => n = kvs.length - j ∧ j ≤ kvs.length ∧ Pv j τ G, ⟨kvs.length, rfl, Nat.zero_le _, h0⟩, ?_⟩
  rintro j n τ G ⟨rfl, le, p⟩
  have lock := hl j τ G le p
  rcases Nat.lt_or_ge j kvs.length with lt | ge
  · refine .inr ⟨⟨lock, lt⟩, Pv (j + 1), fun σ' H' p' => ⟨kvs.length - (j + 1), by omega, rfl, lt, p'⟩, ?_⟩
    rintro x H' ⟨rfl, k, v, e, rfl⟩
    exact hs j k v τ _ e p
  · obtain rfl : j = kvs.length := Nat.le_antisymm le ge
    exact .inl ⟨⟨lock, Nat.le_refl _⟩, hd τ G p⟩
theorem for_items {d : Addr} {o : Obj} {kvs : List (Key × V)} {g : TG} {tb : TS} {D : Ends} {σ : L2.St} {H : Hp} (Pv : Nat → L2.St → Hp → Prop) (h0 : Pv 0 σ H) (hl : ∀ i σ H, i ≤ kvs.length → Pv i σ H → H d = some (.frz o (.dK kvs)))
    (hs : ∀ i k v σ H T, kvs[i]? = some (k, v) → Pv i σ H → H T = none → g (.ref T) σ (upd H T (.tup [kV k, v])) fun σ2 H2 => tb { D with nx := Pv (i + 1), ct := Pv (i + 1), bk := D.nx } σ2 H2) (hd : ∀ σ H, Pv kvs.length σ H → D.nx σ H) :
    ∃ W : Nat → Nat → L2.St → Hp → Prop, (∃ m, W 0 m σ H) ∧ ∀ i m σ H, W i m σ H →
      ((Iti d o kvs).stop i H ∧ D.nx σ H) ∨ ((Iti d o kvs).go i H ∧ ∃ N : L2.St → Hp → Prop, (∀ σ' H', N σ' H' → ∃ m', m' < m ∧ W (i + 1) m' σ' H') ∧ ∀ x H', (Iti d o kvs).yld i H x H' → g x σ H' fun σ2 H2 => tb { D with nx := N, ct := N, bk := D.nx } σ2 H2) := by
  refine ⟨fun j n τ G => n = kvs.length - j ∧ j ≤ kvs.length ∧ Pv j τ G, ⟨kvs.length, rfl, Nat.zero_le _, h0⟩, ?_⟩
  rintro j n τ G ⟨rfl, le, p⟩
  have lock := hl j τ G le p
  rcases Nat.lt_or_ge j kvs.length with lt | ge
  · refine .inr ⟨⟨lock, lt⟩, Pv (j + 1), fun σ' H' p' => ⟨kvs.length - (j + 1), by omega, rfl, lt, p'⟩, ?_⟩
    rintro x H' ⟨T, k, v, e, rfl, nT, rfl⟩
    exact hs j k v τ _ T e p nT
  · obtain rfl : j = kvs.length := Nat.le_antisymm le ge
    exact .inl ⟨⟨lock, Nat.le_refl _⟩, hd τ G p⟩
/-- for k in d, the dict locked meanwhile -/
theorem forK_go {td : TE} {j : Nat} {tb : TS} {D : Ends} {σ : L2.St} {H : Hp} {d : Addr} {kvs : List (Key × V)} (hd : H d = some (.dK kvs)) (ht : ∀ H' (Q : VK), Q (.ref d) H' → td σ H' Q) (Pv : Obj → Nat → L2.St → Hp → Prop)
    (h0 : ∀ o, Pv o 0 σ (upd H d (.frz o (.dK kvs))))
    (hs : ∀ o (i : Nat) k v σ' H', kvs[i]? = some (k, v) → H' d = some (.frz o (.dK kvs)) → Pv o i σ' H' → tb { D with nx := fun σ' H' => H' d = some (.frz o (.dK kvs)) ∧ Pv o (i + 1) σ' H', ct := fun σ' H' => H' d = some (.frz o (.dK kvs)) ∧ Pv o (i + 1) σ' H', rt := fun v H' => H' d = some (.frz o (.dK kvs)) ∧ D.rt v (upd H' d (.dK kvs)), bk := fun σ' H' => H' d = some (.frz o (.dK kvs)) ∧ D.nx σ' (upd H' d (.dK kvs)) } (σ'.set j (some (kV k))) H')
    (hx : ∀ o σ' H', H' d = some (.frz o (.dK kvs)) → Pv o kvs.length σ' H' → D.nx σ' (upd H' d (.dK kvs))) : tLock (tFor (iKeys td) (gName j) tb) D σ H := by
  refine ⟨d, _, hd, True.intro, fun o => ?_⟩
  refine ht _ _ ⟨d, o, rfl, .inl ⟨kvs, upd_same, ?_⟩⟩
  refine for_keys (fun i σ' H' => H' d = some (.frz o (.dK kvs)) ∧ Pv o i σ' H') ⟨upd_same, h0 o⟩ (fun i σ' H' _ p => p.1) (fun i k v σ' H' e p => ?_) fun σ' H' p => ⟨p.1, hx o σ' H' p.1 p.2⟩
  exact hs o i k v σ' H' e p.1 p.2
/-- {k: v for x in xs}, xs a list that stays -/
theorem dcL_go {K : PySem.W.Frag} {tl : TE} {j : Nat} {tk tv : TE} {σ : L2.St} {H : Hp} {Q : VK} {a : Addr} {ys : List Str} (f : Str → V) (ht : ∀ Q : VK, Q (.ref a) H → tl σ H Q) (ha : SqL K H a (ys.map V.str)) (nd : ys.Nodup) (hz : ys.length ≤ 100000)
    (hk : ∀ (y : Str) H' (R : VK), y ∈ ys → Same H H' → R (.str y) H' → tk ((wipe σ [j]).set j (some (.str y))) H' R)
    (hv : ∀ (y : Str) H' (R : VK), y ∈ ys → Same H H' → R (f y) H' → tv ((wipe σ [j]).set j (some (.str y))) H' R)
    (q : ∀ D H', H D = none → Same H H' → H' D = some (.dK (ys.map fun y => (Sum.inr y, f y))) → Q (.ref D) H') : tDc (iList K tl) (gName j) tYes tk tv [j] σ H Q := by
  refine ht _ ⟨a, rfl, ⟨_, ha⟩, fun D hD => ?_⟩
  let Pv : Nat → Hp → Prop := fun i H' => H' D = some (.dK ((ys.take i).map fun y => (Sum.inr y, f y))) ∧ ExT D H H'
  refine ⟨fun i m H' => m = ys.length - i ∧ i ≤ ys.length ∧ Pv i H', ⟨ys.length, rfl, Nat.zero_le _, upd_same, exT_upd (ExT.refl D H)⟩, ?_⟩
  rintro i m H' ⟨rfl, le, p1, p2⟩
  have sH := ExT.toSame hD p2
  have sq := sq_same sH ha
  rcases Nat.lt_or_ge i ys.length with lt | ge
  · have ey : ys[i]? = some ys[i] := List.getElem?_eq_getElem lt
    have mem : ys[i] ∈ ys := List.getElem_mem lt
    refine .inr ⟨⟨_, _, sq, by rw [List.getElem?_map, ey]; rfl⟩, Pv (i + 1), fun H2 p' => ⟨ys.length - (i + 1), by omega, rfl, lt, p'⟩, ?_⟩
    rintro x H2 ⟨rfl, hx⟩
    have ex := hx _ sq
    rw [List.getElem?_map, ey] at ex
    have ex2 : V.str ys[i] = x := Option.some.inj ex
    subst ex2
    refine ⟨wipe_set, ?_⟩
    show tk _ _ _
    refine hk _ _ _ mem sH (hv _ _ _ mem sH ?_)
    refine ⟨_, Sum.inr ys[i], rfl, p1, ?_, ?_, exT_upd p2⟩
    · rw [List.length_map]
      exact Nat.lt_of_le_of_lt (List.length_take_le _ _) (Nat.lt_of_lt_of_le lt (Nat.le_trans hz (by decide)))
    · rw [upd_same]
      have no : valV ((ys.take i).map fun y => ((Sum.inr y : Key), f y)) (Sum.inr ys[i]) = none := by
        cases e : valV ((ys.take i).map fun y => ((Sum.inr y : Key), f y)) (Sum.inr ys[i]) with
        | none => rfl
        | some w =>
          have k := valV_key.mp (show (valV ((ys.take i).map fun y => ((Sum.inr y : Key), f y)) (Sum.inr ys[i])).isSome = true by rw [e]; rfl)
          rw [List.map_map] at k
          obtain ⟨z, hz, ez⟩ := List.mem_map.mp k
          have ez2 : z = ys[i] := by simpa using ez
          subst ez2
          have nd2 : (ys.take i ++ ys.drop i).Nodup := by rw [List.take_append_drop]; exact nd
          have := (List.nodup_append.mp nd2).2.2 ys[i] hz ys[i] (List.mem_iff_getElem?.mpr ⟨0, by rw [List.getElem?_drop]; exact ey⟩)
          exact absurd rfl this
      rw [putK_new _ no, List.take_add_one, ey, List.map_append]
      rfl
  · obtain rfl : i = ys.length := Nat.le_antisymm le ge
    rw [List.take_length] at p1
    exact .inl ⟨⟨_, sq, by simp⟩, q D H' hD sH p1⟩
/-! ### the state -/
structure StA (gs : List Int) (sd : Int) : Prop where
  few : gs.length ≤ 63
  lo : 0 ≤ sd
  hi : sd < 2147483647
def Stt (H : Hp) (t g : Addr) : Prop := g ≠ t ∧ ∃ (gs : List Int) (c n sd : Int), H t = some (.lst [.ref g, .int c, .int n, .int sd]) ∧ H g = some (.lst (gs.map V.int)) ∧ StA gs sd
/-- all but t and g stays -/
def ExS (t g : Addr) (H H' : Hp) : Prop := ∀ b o, b ≠ t → b ≠ g → H b = some o → H' b = some o
theorem ExS.refl (t g : Addr) (H : Hp) : ExS t g H H := fun _ _ _ _ e => e
theorem ExS.trans {t g : Addr} {H H1 H2 : Hp} (a : ExS t g H H1) (b : ExS t g H1 H2) : ExS t g H H2 := fun c o n m e => b c o n m (a c o n m e)
theorem Same.exS {t g : Addr} {H H' : Hp} (a : Same H H') : ExS t g H H' := fun c o _ _ e => a c o e
theorem ExS.same {t g : Addr} {H H1 H2 : Hp} (a : ExS t g H H1) (s : Same H1 H2) : ExS t g H H2 := a.trans (Same.exS s)
theorem Stt.same {H H' : Hp} {t g : Addr} (h : Stt H t g) (s : Same H H') : Stt H' t g := by
  obtain ⟨n, gs, c, m, sd, e1, e2, o⟩ := h
  exact ⟨n, gs, c, m, sd, s _ _ e1, s _ _ e2, o⟩
theorem Stt.ne {H : Hp} {t g p : Addr} (h : Stt H t g) (e : H p = none) : p ≠ t ∧ p ≠ g := by
  obtain ⟨n, gs, c, m, sd, e1, e2, o⟩ := h
  exact ⟨(ne_of_none e1 e).symm, (ne_of_none e2 e).symm⟩
def spState (K : PySem.W.Frag) : Sp := fun vs H Q _ => ∃ (a : Addr) (ns : List Int), vs = [.ref a] ∧ SqL K H a (ns.map V.int) ∧ ns.length ≤ 63 ∧ ∀ t g H', H t = none → H g = none → Stt H' t g → Same H H' → Q (.ref t) H'
def spDrawS : Sp := fun vs H Q _ => ∃ (t g : Addr) (m : Int), vs = [.ref t, .int m] ∧ Stt H t g ∧ 0 < m ∧ m.natAbs < 2 ^ 1000 ∧ ∀ x H', 0 ≤ x → x < m → Stt H' t g → ExS t g H H' → Q (.int x) H'
theorem drS_go {t g : Addr} {m : Int} {H : Hp} {Q : VK} {E : XK} (ht : Stt H t g) (m0 : 0 < m) (mb : m.natAbs < 2 ^ 1000) (k : ∀ x H', 0 ≤ x → x < m → Stt H' t g → ExS t g H H' → Q (.int x) H') : spDrawS [.ref t, .int m] H Q E := ⟨t, g, m, rfl, ht, m0, mb, k⟩
theorem ints_shaped (l : List Int) : SeqAt.shaped (.list (l.map PyData.int)) = true := by
  have a : ∀ l : List Int, PyData.canLayAll0 (l.map PyData.int) = true := by
    intro l
    induction l with
    | nil => simp [PyData.canLayAll0]
    | cons x l ih => simp only [List.map_cons, PyData.canLayAll0, PyData.canLay0, ih, Bool.and_self]
  have b : ∀ l : List Int, PyData.depthAll (l.map PyData.int) ≤ 1 := by
    intro l
    induction l with
    | nil => simp [PyData.depthAll]
    | cons x l ih => simp only [List.map_cons, PyData.depthAll, PyData.depth]; omega
  show (PyData.canLay0 (.list (l.map PyData.int)) && decide (PyData.depth (.list (l.map PyData.int)) ≤ 64)) = true
  rw [Bool.and_eq_true]
  refine ⟨by simp only [PyData.canLay0]; exact a l, decide_eq_true ?_⟩
  simp only [PyData.depth]
  have := b l
  omega
theorem dp_ints {K : PySem.W.Frag} {H : Hp} : ∀ (l : List Int), DpAll K H (l.map V.int) (l.map PyData.int)
  | [] => .nil
  | x :: l => .cons (.int x) (dp_ints l)
theorem neNilI_go {K : PySem.W.Frag} {p e : Addr} {l : List Int} {H : Hp} {Q : VK} (h : SqL K H p (l.map V.int)) (he : SqL K H e []) (q : Q (.bl (!l.isEmpty)) H) : rNeD K (.ref p) (.ref e) H Q := by
  refine ⟨.list (l.map .int), .list [], .lst h (dp_ints l), .lst he .nil, ints_shaped l, ints_shaped [], ?_⟩
  have z : PyData.eqv (.list (l.map PyData.int)) (.list []) = l.isEmpty := by
    cases l with
    | nil => simp [PyData.eqv, PyData.eqvAll]
    | cons x l => simp [PyData.eqv, PyData.eqvAll]
  rw [z]
  exact q
end Own

set_option Elab.async false
set_option linter.all false
set_option maxRecDepth 100000
set_option maxHeartbeats 4000000
/-! Names and values, as the program checks them and as the laws draw them. -/
namespace Own
open PySem PySem.Spec PyProof.Rows L2
def lettersS : Str := "abcdefghijklmnopqrstuvwxyz"
def digitsS : Str := "0123456789"
def keptW : List Str := ["name", "flag", "slot", "func", "open", "own", "look", "bind", "call", "keep", "take", "shift", "run", "drop", "apart", "when", "held", "fail", "guard", "else", "after", "end", "with", "of", "on", "off"]
def limitI : Int := (10 ^ 50) ^ 10
theorem letters_l : lettersS.cps.toList = List.range' 97 26 := by decide +kernel
theorem digits_l : digitsS.cps.toList = List.range' 48 10 := by decide +kernel
theorem in_letters {c : Nat} : decide (c ∈ lettersS.cps.toList) = ltr c := by
  rw [letters_l]
  unfold ltr
  rw [← Bool.decide_and]
  congr 1
  rw [List.mem_range'_1]
  exact propext ⟨fun h => by omega, fun h => by omega⟩
theorem in_digits {c : Nat} : decide (c ∈ digitsS.cps.toList) = dgt c := by
  rw [digits_l]
  unfold dgt
  rw [← Bool.decide_and]
  congr 1
  rw [List.mem_range'_1]
  exact propext ⟨fun h => by omega, fun h => by omega⟩
theorem keptW_eq : keptW = keptS := rfl
theorem mem_letters {c : Nat} (h : ltr c = true) : c ∈ lettersS.cps.toList := by
  rw [← in_letters] at h
  exact of_decide_eq_true h
end Own
namespace Own
open PySem PySem.Spec PyProof.Rows L2
theorem same_none {H H' : Hp} {p : Addr} (s : Same H H') (n : H' p = none) : H p = none := by
  cases e : H p with
  | none => rfl
  | some o =>
    rw [s _ _ e] at n
    cases n
end Own

set_option Elab.async false
set_option linter.all false
set_option maxRecDepth 100000
set_option maxHeartbeats 4000000
/-! Names of numbers behind a stem; comprehensions over a range, draws within. -/
namespace Own
open PySem PySem.Spec PyProof.Rows L2
/-- a number's digits, behind a stem -/
def numS (i : Nat) : Str := Str.ofString (toString ((i : Nat) : Int))
theorem num_fact : ∀ i < 91, 1 ≤ (TL.tl (numS i)).length ∧ (TL.tl (numS i)).length ≤ 2 ∧ (TL.tl (numS i)).all dgt = true := by decide +kernel
theorem num_inj : ∀ i < 91, ∀ j < 91, TL.tl (numS i) = TL.tl (numS j) → i = j := by decide +kernel
theorem kept_ltr : ∀ z ∈ keptS, (TL.tl z).all ltr = true := by decide +kernel
theorem tl_ext {x y : Str} (h : TL.tl x = TL.tl y) : x = y := by
  obtain ⟨a⟩ := x
  obtain ⟨b⟩ := y
  exact congrArg Str.mk (Array.toList_inj.mp h)
theorem pig : ∀ {l m : List Str}, l.Nodup → (∀ x ∈ l, x ∈ m) → l.length ≤ m.length
  | [], m, _, _ => Nat.zero_le _
  | a :: l, m, hn, hs => by
    have ha := hs a (by simp)
    have hn' := List.nodup_cons.mp hn
    have := pig (l := l) (m := m.erase a) hn'.2 fun x hx => by
      refine (List.mem_erase_of_ne ?_).mpr (hs x (by simp [hx]))
      rintro rfl
      exact hn'.1 hx
    rw [List.length_erase_of_mem ha] at this
    have := List.length_pos_of_mem ha
    rw [List.length_cons]
    omega
def stemS (x : Str) (i : Nat) : Str := cutS x none (some 9) ++ numS i
theorem tl_stem (x : Str) (i : Nat) : TL.tl (stemS x i) = (TL.tl x).take 9 ++ TL.tl (numS i) := by
  unfold stemS
  rw [TL.tl_append]
  exact congrArg (· ++ _) (tl_cut_to x 9)
theorem stem_ident {x : Str} {i : Nat} (h : Spell x) (hi : i < 91) : isIdent (stemS x i) = true := by
  obtain ⟨n1, n2, n3⟩ := num_fact i hi
  have e := tl_stem x i
  have w := word_len h.1
  have wa := word_all h.1
  have hl : ((TL.tl x).take 9).length ≤ 9 := by rw [List.length_take]; omega
  have h1 : isWord (stemS x i) = true := word_of (by rw [e, List.length_append]; omega) (by rw [e, List.length_append]; omega) (by
    rw [e, List.all_append, Bool.and_eq_true]
    refine ⟨List.all_eq_true.mpr fun c hc => List.all_eq_true.mp wa c (List.mem_of_mem_take hc), List.all_eq_true.mpr fun c hc => ?_⟩
    have := List.all_eq_true.mp n3 c hc
    simp [sgn, this])
  have h2 : headLtr (stemS x i) = true := by
    have hh := h.2
    unfold headLtr at hh ⊢
    rw [e]
    cases ex : TL.tl x with
    | nil => rw [ex] at hh; cases hh
    | cons c cs => rw [ex] at hh; exact hh
  have h3 : keptS.contains (stemS x i) = false := by
    refine Bool.eq_false_iff.mpr fun c => ?_
    have hm := List.contains_iff_mem.mp c
    have ka := kept_ltr _ hm
    rw [e, List.all_append, Bool.and_eq_true] at ka
    cases en : TL.tl (numS i) with
    | nil => rw [en] at n1; simp at n1
    | cons c cs =>
      rw [en] at n3 ka
      have a := List.all_eq_true.mp n3 c (by simp)
      have b := List.all_eq_true.mp ka.2 c (by simp)
      simp [dgt, ltr] at a b
      omega
  unfold isIdent
  rw [h1, h2, h3]
  rfl
theorem stem_inj {x : Str} {i j : Nat} (hi : i < 91) (hj : j < 91) (e : stemS x i = stemS x j) : i = j := by
  have := congrArg TL.tl e
  rw [tl_stem, tl_stem] at this
  exact num_inj i hi j hj (List.append_cancel_left this)
theorem tyL {K : PySem.W.Frag} {H : Hp} {l : Addr} {xs : List V} (h : H l = some (.lst xs)) : tyV K "list" (.ref l) H := .inl ⟨rfl, xs, .inl (.inl h)⟩
/-- for j in range(e), e drawn -/
theorem forC_go {ta : TA} {j : Nat} {tb : TS} {D : Ends} {σ : L2.St} {H : Hp} {Cond : Nat → Hp → Prop} (ht : ∀ R : List V → Hp → Prop, (∀ n H1, Cond n H1 → R [.int (n : Int)] H1) → ta σ H R) (hn : ∀ n H1, Cond n H1 → n ≤ 100000) (Pv : Nat → Nat → L2.St → Hp → Prop) (h0 : ∀ n H1, Cond n H1 → Pv n 0 σ H1)
    (hs : ∀ (n i : Nat) σ' H', i < n → Pv n i σ' H' → tb { D with nx := Pv n (i + 1), ct := Pv n (i + 1), bk := D.nx } (σ'.set j (some (.int (i : Int)))) H') (hd : ∀ n σ' H', Pv n n σ' H' → D.nx σ' H') : tFor (iRng1 ta) (gName j) tb D σ H := by
  refine ht _ fun n H1 c => ⟨n, rfl, by have := hn n H1 c; omega, by have := hn n H1 c; omega, ?_⟩
  rw [Int.toNat_natCast]
  refine for_range (lo := 0) (n := n) (Pv n) (h0 n H1 c) (fun i σ' H' hi p => ?_) (hd n)
  rw [Int.zero_add]
  exact hs n i σ' H' hi p

def lkeptL : List Str := ["name", "flag", "slot", "func", "open", "own", "look", "bind", "of", "call", "keep", "take", "shift", "run", "with", "drop", "apart", "when", "held", "else", "guard", "after", "fail", "end", "on", "off"]
theorem lkept_has (x : Str) : lkeptL.contains x = keptS.contains x := by
  have p : lkeptL.Perm keptS := List.isPerm_iff.mp (by decide +kernel)
  rw [Bool.eq_iff_iff, List.contains_iff_mem, List.contains_iff_mem]
  exact p.mem_iff
theorem lkept_split : Txt.split (("name flag slot func open own look bind of call keep take shift run with drop apart when" : Str) ++ (" held else guard after fail end on off" : Str)) " " = lkeptL := by decide +kernel
theorem signs_cat : lettersS ++ digitsS = signsS := by decide +kernel
theorem letters_at {x : Int} (h0 : 0 ≤ x) (h1 : x < 26) : ∃ c, atI lettersS.cps.toList x = some c ∧ ltr c = true := by
  obtain ⟨j, rfl⟩ : ∃ j : Nat, x = (j : Int) := ⟨x.toNat, by omega⟩
  refine ⟨97 + j, atI_nat ?_, by simp [ltr]; omega⟩
  rw [letters_l, List.getElem?_range' (by omega)]
  simp
/-- some stem of twenty is not taken -/
theorem stem_new {x : Str} {us : List Str} (few : us.length ≤ 19) : ∃ i < 20, us.contains (stemS x (10 + i)) = false := by
  refine Classical.byContradiction fun no => ?_
  have all : ∀ i < 20, us.contains (stemS x (10 + i)) = true := fun i hi => by
    cases e : us.contains (stemS x (10 + i)) with
    | true => rfl
    | false => exact absurd ⟨i, hi, e⟩ no
  have z := pig (l := (List.range 20).map fun i => stemS x (10 + i)) (m := us) (by
    rw [List.Nodup, List.pairwise_map]
    refine List.Pairwise.imp_of_mem (fun {a b} ha hb hne => fun e => hne ?_) List.nodup_range
    have := stem_inj (x := x) (i := 10 + a) (j := 10 + b) (by have := List.mem_range.mp ha; omega) (by have := List.mem_range.mp hb; omega) e
    omega) (by
    intro y hy
    obtain ⟨i, hi, rfl⟩ := List.mem_map.mp hy
    exact List.contains_iff_mem.mp (all i (List.mem_range.mp hi)))
  rw [List.length_map, List.length_range] at z
  omega
def LcR (Inv : Nat → Addr → Nat → List V → Hp → Prop) (n : Nat) (D : Addr) (i : Nat) (H' : Hp) : Prop := ∃ acc, H' D = some (.lst acc) ∧ acc.length ≤ i ∧ Inv n D i acc H'
/-- [e for j in range(k)], k drawn, e drawing -/
theorem lcRI_go {ta : TA} {j : Nat} {te : TE} {σ : L2.St} {H : Hp} {Q : VK} {Cond : Nat → Hp → Prop} (Inv : Nat → Addr → Nat → List V → Hp → Prop) (ht : ∀ R : List V → Hp → Prop, (∀ n H1, Cond n H1 → R [.int (n : Int)] H1) → ta σ H R) (hn : ∀ n H1, Cond n H1 → n ≤ 100000)
    (h0 : ∀ n H1 D H', Cond n H1 → H1 D = none → Same H1 H' → H' D = some (.lst []) → Inv n D 0 [] H')
    (hs : ∀ n D i acc H', i < n → n ≤ 100000 → H' D = some (.lst acc) → acc.length ≤ i → Inv n D i acc H' → te ((wipe σ [j]).set j (some (.int (i : Int)))) H' fun y H4 => ∃ acc', H4 D = some (.lst acc') ∧ acc'.length < sizeLine ∧ LcR Inv n D (i + 1) (upd H4 D (.lst (acc' ++ [y]))))
    (q : ∀ n D H' acc, H' D = some (.lst acc) → acc.length ≤ n → Inv n D n acc H' → Q (.ref D) H') : tLc (iRng1 ta) (gName j) tYes te [j] σ H Q := by
  refine ht _ fun n H1 c => ?_
  have big := hn n H1 c
  refine ⟨n, rfl, by omega, by omega, fun D hD => ?_⟩
  rw [Int.toNat_natCast]
  refine lc_range (lo := 0) (n := n) (fun i H' => LcR Inv n D i H') ⟨[], upd_same, Nat.le_refl _, h0 n H1 D _ c hD (same_new hD) upd_same⟩ ?_ ?_
  · rintro i H' hi ⟨acc, e, l, p⟩
    rw [Int.zero_add]
    exact ⟨wipe_set, hs n D i acc H' hi big e l p⟩
  · rintro H' ⟨acc, e, l, p⟩
    exact q n D H' acc e l p
end Own
namespace Own
open PySem PySem.Spec PyProof.Rows L2
theorem exS_none {t g D : Addr} {H H1 : Hp} (ht : Stt H1 t g) (v : ExS t g H H1) (n : H1 D = none) : H D = none := by
  obtain ⟨d1, d2⟩ := ht.ne n
  cases e : H D with
  | none => rfl
  | some o =>
    rw [v D o d1 d2 e] at n
    cases n
theorem Stt.upd {H : Hp} {t g D : Addr} {o : HO} (h : Stt H t g) (h1 : D ≠ t) (h2 : D ≠ g) : Stt (L2.upd H D o) t g := by
  obtain ⟨gt, gs, c, k, sd, e1, e2, ok⟩ := h
  exact ⟨gt, gs, c, k, sd, by rw [upd_ne h1.symm]; exact e1, by rw [upd_ne h2.symm]; exact e2, ok⟩
theorem ExS.upd {H H' : Hp} {t g D : Addr} {o : HO} (v : ExS t g H H') (n : H D = none) : ExS t g H (L2.upd H' D o) := fun b u h1 h2 e => by
  rw [upd_ne (by rintro rfl; rw [n] at e; cases e)]
  exact v b u h1 h2 e
theorem joined_ones {xs : List Str} (h : ∀ x ∈ xs, x.length = 1) : (Txt.join (Str.ofString "") xs).length = xs.length := by
  rw [TL.join_eq, TL.len_tl, TL.tl_join]
  have z : TL.tl (Str.ofString "") = [] := rfl
  rw [z]
  induction xs with
  | nil => rfl
  | cons x xs ih =>
    have ix := ih fun y hy => h y (List.mem_cons_of_mem _ hy)
    have lx : (TL.tl x).length = 1 := by rw [← TL.len_tl]; exact h x (by simp)
    cases xs with
    | nil => exact lx
    | cons y ys =>
      rw [List.map_cons, List.map_cons, TL.joinL, List.nil_append, List.length_append, lx, ← List.map_cons, ix]
      simp only [List.length_cons]
      omega
theorem sum_ones {xs : List Str} (h : ∀ x ∈ xs, x.length = 1) : (xs.map (fun x => x.length)).sum = xs.length := by
  induction xs with
  | nil => rfl
  | cons x xs ih =>
    rw [List.map_cons, List.sum_cons, h x (by simp), ih fun y hy => h y (List.mem_cons_of_mem _ hy), List.length_cons]
    omega
theorem valOk_int {i : Int} (h : i.natAbs < 10 ^ 31) : valOk (.int i) = true := decide_eq_true (Nat.lt_of_lt_of_le h (by decide +kernel))
end Own

set_option Elab.async false
set_option linter.all false
set_option maxRecDepth 100000
set_option maxHeartbeats 4000000
/-! Environments: objects with a table. -/
namespace Own
open PySem PySem.Spec PyProof.Rows L2
theorem isi_go {K : PySem.W.Frag} {x c : V} {t u : Value} {b : Bool} {H : Hp} {Q : VK} (k : ClsV c u) (ty : TyX K H x t) (e : PySem.W.kitOne K t u = some b) (q : Q (.bl b) H) : rIsi K [x, c] H Q := ⟨x, c, t, u, b, rfl, k, ty, e, q⟩
theorem kit_same {K : PySem.W.Frag} {t : Value} : PySem.W.kitOne K t t = some true := by
  unfold PySem.W.kitOne
  rw [if_pos (by simp)]
/-- [e for c in a text], e changing nothing -/
theorem lcStr_go {tl : TE} {j : Nat} {te : TE} {σ : L2.St} {H : Hp} {Q : VK} {x : Str} (f : Nat → V) (ht : ∀ Q : VK, Q (.str x) H → tl σ H Q) (hz : x.length ≤ 100000)
    (he : ∀ (c : Nat) H' (R : VK), R (f c) H' → te ((wipe σ [j]).set j (some (.str ⟨#[c]⟩))) H' R) (q : ∀ D H', H D = none → Same H H' → H' D = some (.lst ((TL.tl x).map f)) → Q (.ref D) H') : tLc (iStr tl) (gName j) tYes te [j] σ H Q := by
  refine ht _ ⟨x, rfl, fun D hD => ?_⟩
  have sz : x.cps.size = (TL.tl x).length := by show x.cps.size = x.cps.toList.length; simp
  refine ⟨fun i m H' => m = x.cps.size - i ∧ i ≤ x.cps.size ∧ H' = upd H D (.lst (((TL.tl x).take i).map f)), ⟨x.cps.size, rfl, Nat.zero_le _, rfl⟩, ?_⟩
  rintro i m H' ⟨rfl, le, rfl⟩
  rcases Nat.lt_or_ge i x.cps.size with lt | ge
  · refine .inr ⟨lt, fun H2 => H2 = upd H D (.lst (((TL.tl x).take (i + 1)).map f)), fun H2 e => ⟨x.cps.size - (i + 1), by omega, rfl, lt, e⟩, ?_⟩
    rintro v H2 ⟨rfl, c, hc, rfl⟩
    refine ⟨wipe_set, ?_⟩
    show te _ _ _
    refine he c _ _ ⟨_, upd_same, ?_, ?_⟩
    · rw [List.length_map]
      refine Nat.lt_of_le_of_lt (List.length_take_le _ _) (Nat.lt_of_lt_of_le lt (Nat.le_trans (show x.cps.size ≤ 100000 from hz) (by decide)))
    · rw [upd_upd]
      have e : (TL.tl x)[i]? = some c := by
        show x.cps.toList[i]? = some c
        rw [Array.getElem?_toList]
        exact hc
      rw [List.take_add_one, e, List.map_append]
      rfl
  · refine .inl ⟨ge, ?_⟩
    have e : i = (TL.tl x).length := by omega
    rw [e, List.take_length]
    exact q D _ hD (same_new hD) upd_same
theorem all_bl (l : List Nat) (f : Nat → Bool) : ∃ bs : List Bool, (l.map fun c => V.bl (f c)) = bs.map V.bl ∧ bs.all id = l.all f := by
  refine ⟨l.map f, by rw [List.map_map]; rfl, ?_⟩
  rw [List.all_map]
  rfl
/-- the object at x is an environment with this table -/
def EnvAt (C : Addr) (H : Hp) (x : Addr) (t : Tbl) : Prop := ∃ dx d, H x = some (.ins C dx [("table", .ref d)]) ∧ H d = some (.dK t)
theorem EnvAt.same {C : Addr} {H H' : Hp} {x : Addr} {t : Tbl} (h : EnvAt C H x t) (s : Same H H') : EnvAt C H' x t := by
  obtain ⟨dx, d, h1, h2⟩ := h
  exact ⟨dx, d, s _ _ h1, s _ _ h2⟩
theorem EnvAt.exS {C t g : Addr} {H H' : Hp} {x : Addr} {kvs : Tbl} (h : EnvAt C H x kvs) (ht : Stt H t g) (v : ExS t g H H') : EnvAt C H' x kvs := by
  obtain ⟨dx, d, h1, h2⟩ := h
  obtain ⟨_, gs, c, m, sd, e1, e2, _⟩ := ht
  have ne : ∀ a o, H a = some o → (∀ xs, o ≠ .lst xs) → a ≠ t ∧ a ≠ g := fun a o e no => ⟨by rintro rfl; rw [e1] at e; exact no _ (Option.some.inj e).symm, by rintro rfl; rw [e2] at e; exact no _ (Option.some.inj e).symm⟩
  obtain ⟨a1, a2⟩ := ne x _ h1 (fun _ z => by cases z)
  obtain ⟨b1, b2⟩ := ne d _ h2 (fun _ z => by cases z)
  exact ⟨dx, d, v _ _ a1 a2 h1, v _ _ b1 b2 h2⟩
theorem dk_exS {t g : Addr} {H H' : Hp} {d : Addr} {kvs : Tbl} (h : H d = some (.dK kvs)) (ht : Stt H t g) (v : ExS t g H H') : H' d = some (.dK kvs) := by
  obtain ⟨_, gs, c, m, sd, e1, e2, _⟩ := ht
  exact v _ _ (by rintro rfl; rw [e1] at h; cases h) (by rintro rfl; rw [e2] at h; cases h) h
/-- for k, v in d.items(), the dict locked meanwhile, each pair a new tuple -/
theorem forI_go {K : PySem.W.Frag} {td : TE} {i1 i2 n : Nat} {tb : TS} {D : Ends} {σ : L2.St} {H : Hp} {d : Addr} {kvs : Tbl} (hd : H d = some (.dK kvs)) (hn : n = 2) (ht : ∀ H' (Q : VK), Q (.ref d) H' → td σ H' Q) (Pv : Obj → Nat → L2.St → Hp → Prop)
    (h0 : ∀ o, Pv o 0 σ (upd H d (.frz o (.dK kvs))))
    (hs : ∀ o (i : Nat) k v σ' H' H2, kvs[i]? = some (k, v) → H' d = some (.frz o (.dK kvs)) → Pv o i σ' H' → Same H' H2 → tb { D with nx := fun σ' H' => H' d = some (.frz o (.dK kvs)) ∧ Pv o (i + 1) σ' H', ct := fun σ' H' => H' d = some (.frz o (.dK kvs)) ∧ Pv o (i + 1) σ' H', rt := fun v H' => H' d = some (.frz o (.dK kvs)) ∧ D.rt v (upd H' d (.dK kvs)), bk := fun σ' H' => H' d = some (.frz o (.dK kvs)) ∧ D.nx σ' (upd H' d (.dK kvs)) } ((σ'.set i1 (some (kV k))).set i2 (some v)) H2)
    (hx : ∀ o σ' H', H' d = some (.frz o (.dK kvs)) → Pv o kvs.length σ' H' → D.nx σ' (upd H' d (.dK kvs))) : tLock (tFor (iItems td) (gTup K n (gCons (gName i1) (gCons (gName i2) gNil))) tb) D σ H := by
  refine ⟨d, _, hd, True.intro, fun o => ?_⟩
  refine ht _ _ ⟨d, o, kvs, rfl, upd_same, ?_⟩
  refine for_items (fun i σ' H' => H' d = some (.frz o (.dK kvs)) ∧ Pv o i σ' H') ⟨upd_same, h0 o⟩ (fun i σ' H' _ p => p.1) (fun i k v σ' H' T e p nT => ?_) fun σ' H' p => ⟨p.1, hx o σ' H' p.1 p.2⟩
  refine ⟨T, _, rfl, .inl (.inl upd_same), hn.symm, kV k, _, rfl, ?_⟩
  exact ⟨v, _, rfl, rfl, hs o i k v σ' H' _ e p.1 p.2 (same_new nT)⟩
/-- unlocked, the dict stands as before -/
theorem unlock_same {H H' : Hp} {d : Addr} {o : Obj} {u : HO} (h : H d = some u) (s : Same (upd H d (.frz o u)) H') : Same H (upd H' d u) := fun b w e => by
  by_cases q : b = d
  · subst q
    rw [h] at e
    rw [upd_same]
    exact e
  · rw [upd_ne q]
    exact s b w (by rw [upd_ne q]; exact e)
end Own
namespace Own
open PySem PySem.Spec PyProof.Rows L2
theorem fld_go {K : PySem.W.Frag} {ta : TE} {f : Str} {σ : L2.St} {H : Hp} {Q : VK} {a C dx : Addr} {fs : List (Str × V)} {v : V} (ht : ∀ Q : VK, Q (.ref a) H → ta σ H Q) (h : H a = some (.ins C dx fs)) (c : Cls K C) (n : NoAttr K C f) (l : fs.lookup f = some v) (q : Q v H) : tFld K ta f σ H Q :=
  ht _ ⟨a, C, dx, fs, v, rfl, h, c, n, l, q⟩
theorem limit_pos : (0 : Int) < limitI := by decide +kernel
theorem limit_bits : limitI.natAbs < 2 ^ 1700 := by decide +kernel
theorem limit_sq : limitI * limitI = 10 ^ 1000 := by decide +kernel
theorem limit_ok {i : Int} (h : i.natAbs < 10 ^ 1000) : decide ((if i < 0 then -i else i) / limitI < limitI) = true := by
  refine decide_eq_true (Int.ediv_lt_of_lt_mul limit_pos ?_)
  rw [limit_sq]
  have e : (if i < 0 then -i else i) = (i.natAbs : Int) := by split <;> omega
  rw [e]
  have z : ((10 ^ 1000 : Nat) : Int) = (10 : Int) ^ 1000 := by rw [Int.natCast_pow]; rfl
  rw [← z]
  exact Int.ofNat_lt.mpr h
end Own
namespace Own
open PySem PySem.Spec PyProof.Rows L2
theorem dcC_go {K : PySem.W.Frag} {tl : TE} {g : TG} {tt : TT} {tk tv : TE} {vs : List Nat} {σ : L2.St} {H : Hp} {Q : VK} (C : Addr → Hp → Prop) (ht : ∀ R : VK, (∀ a H1, C a H1 → R (.ref a) H1) → tl σ H R) (k : ∀ a H1, C a H1 → tDc (iList K fun _ H R => R (.ref a) H) g tt tk tv vs σ H1 Q) : tDc (iList K tl) g tt tk tv vs σ H Q :=
  ht _ fun a H1 c => k a H1 c
end Own
namespace Own
open PySem PySem.Spec PyProof.Rows L2
section
variable {X : Cx}
/-- xs == ys for two lists built alike -/
theorem op_eqA (hu : X.A.units + 64 < cLine) : OpR X (compareOp .Eq) (rEqA X.K true) := by
  intro pins s σ H x y v u Q I rx ry h
  obtain ⟨n, p, q, xs, ys, few, rfl, rfl, hp, hq, same, item, k⟩ := h
  cases rx; cases ry
  obtain ⟨vs, rv, ⟨ov, nv, gv, cv, _, dv⟩, _⟩ := I.list hp
  obtain ⟨us, ru, ⟨ou, nu, gu, cu, _, du⟩, _⟩ := I.list hq
  have lv := rv.length
  have lu := ru.length
  have size : vs.toArray.size = us.toArray.size := by simp; omega
  have cmp := SeqAt.RcAt.lists (A := X.A) (s := s) (l := p) (b := q) (items := vs.toArray) (items2 := us.toArray) (e := fun _ => true) ⟨ov, gv, cv, _, dv⟩ ⟨ou, gu, cu, _, du⟩ size (by omega) (by
    intro j b1 b2
    have j1 : j < xs.length := by simp at b1; omega
    have j2 : j < ys.length := by omega
    obtain ⟨w1, e1, g1⟩ := rv.get (List.getElem?_eq_getElem j1)
    obtain ⟨w2, e2, g2⟩ := ru.get (List.getElem?_eq_getElem j2)
    have z1 : vs.toArray[j] = w1 := by
      rw [List.getElem?_eq_getElem (by simpa using b1)] at e1
      simpa using Option.some.inj e1
    have z2 : us.toArray[j] = w2 := by
      rw [List.getElem?_eq_getElem (by simpa using b2)] at e2
      simpa using Option.some.inj e2
    rw [z1, z2]
    exact Alike.run I n X.A.in1 (by show X.A.units + 1 + n < cLine; omega) _ _ _ _ (item j _ _ (List.getElem?_eq_getElem j1) (List.getElem?_eq_getElem j2)) g1 g2)
  have t : (List.range vs.toArray.size).all (fun _ => true) = true := by simp
  rw [t] at cmp
  exact cmp _ _ _ _ ⟨.bl true, H, I, rfl, k⟩
end
end Own

set_option Elab.async false
set_option linter.all false
set_option maxRecDepth 100000
set_option maxHeartbeats 4000000
/-! What the top has left, by one look: a truth value over the written part, and the defs as they stand, with defaults. -/
namespace Own
open PySem PySem.Spec PyProof.Rows L2
def obsN (chk : PySem.W.Frag → Bool) (fn : List He.DefD) (K : PySem.W.Frag) : He.AlD := (chk K && fn.all fun d => d.ok K, fn.map fun d => He.fnW K d.at_)
def hookN (chk : PySem.W.Frag → Bool) (fn : List He.DefD) : PySem.W.Hook where
  α := He.AlD
  obs := fun s => obsN chk fn (He.frG s.heap.get? (List.range s.heap.objs.size))
  val := fun _ => He.valD fn
  says := fun _ h => ∃ K : PySem.W.Frag, K.In h ∧ obsN chk fn K = He.valD fn
  of := fun _ _ e => ⟨_, He.frG_in, e⟩
  keeps := fun _ _ _ ⟨K, hK, c⟩ k => ⟨K, PySem.W.Frag.In.keeps hK k, c⟩
def obN (chk : PySem.W.Frag → Bool) (fn : List He.DefD) (s : PySem.W.SharedT) : He.AlD := obsN chk fn (He.frG (HandSHeadRun.getT s) (List.range s.n))
theorem obN_eq {chk : PySem.W.Frag → Bool} {fn : List He.DefD} (s : PySem.W.SharedT) : obN chk fn s = (hookN chk fn).obs s.abs := by
  have look : HandSHeadRun.getT s = s.abs.heap.get? := funext (HandSHeadRun.getT_eq s)
  have size : s.n = s.abs.heap.objs.size := (PySem.W.absHeap_size s.tree s.n s.life).symm
  show obsN chk fn (He.frG (HandSHeadRun.getT s) (List.range s.n)) = obsN chk fn (He.frG s.abs.heap.get? (List.range s.abs.heap.objs.size))
  rw [look, size]
section
variable {chk : PySem.W.Frag → Bool} {fn : List He.DefD} {K : PySem.W.Frag}
theorem saysN_both (c : obsN chk fn K = He.valD fn) : chk K = true ∧ (fn.all fun d => d.ok K) = true := Bool.and_eq_true_iff.mp (show (chk K && fn.all fun d => d.ok K) = true from congrArg (fun z : He.AlD => z.1) c)
theorem saysN_def (c : obsN chk fn K = He.valD fn) (i : Nat) {d : He.DefD} (h : fn[i]? = some d) : ∃ fd, FunD K d.name d.qual d.params d.body d.scope (d.dvs K) (d.kws K) (He.fAd K d.at_) fd := by
  have rows : fn.map (fun d => He.fnW K d.at_) = fn.map He.DefD.val := congrArg (fun z : He.AlD => z.2) c
  have row : (fn.map fun d => He.fnW K d.at_)[i]? = (fn.map He.DefD.val)[i]? := by rw [rows]
  rw [List.getElem?_map, List.getElem?_map, h] at row
  exact He.DefD.funD (Option.some.inj row) (List.all_eq_true.mp (saysN_both c).2 d (List.mem_of_getElem? h))
theorem obsN_join {c1 c2 : PySem.W.Frag → Bool} {f1 f2 : List He.DefD} (a : obsN c1 f1 K = He.valD f1) (b : obsN c2 f2 K = He.valD f2) : obsN (fun K => c1 K && c2 K) (f1 ++ f2) K = He.valD (f1 ++ f2) := by
  obtain ⟨a1, a2⟩ := saysN_both a
  obtain ⟨b1, b2⟩ := saysN_both b
  have a3 : f1.map (fun d => He.fnW K d.at_) = f1.map He.DefD.val := congrArg (fun z : He.AlD => z.2) a
  have b3 : f2.map (fun d => He.fnW K d.at_) = f2.map He.DefD.val := congrArg (fun z : He.AlD => z.2) b
  refine Prod.ext ?_ ?_
  · show ((c1 K && c2 K) && (f1 ++ f2).all fun d => d.ok K) = true
    rw [List.all_append, a1, b1, a2, b2]
    rfl
  · show (f1 ++ f2).map (fun d => He.fnW K d.at_) = (f1 ++ f2).map He.DefD.val
    rw [List.map_append, List.map_append, a3, b3]
end
/-- the run, looked at twice -/
theorem RJN {r : PySem.W.OpenRow} {q : Program} {c1 c2 : PySem.W.Frag → Bool} {f1 f2 : List He.DefD} {M : Nat} {loose : List Str} {w : World} (h1 : HandSHeadRun.RunEq r q (hookN c1 f1) (obN c1 f1) M loose w) (h2 : HandSHeadRun.RunEq r q (hookN c2 f2) (obN c2 f2) M loose w) :
    HandSHeadRun.RunEq r q (hookN (fun K => c1 K && c2 K) (f1 ++ f2)) (obN (fun K => c1 K && c2 K) (f1 ++ f2)) M loose w := by
  intro os
  have a := h1 os
  have b := h2 os
  revert a b
  generalize HandSHeadRun.endF _ _ _ _ _ = x
  intro a b
  cases x with
  | none => cases a
  | some s =>
    have a1 := Option.some.inj a
    have b1 := Option.some.inj b
    exact congrArg some (Prod.ext (congrArg (fun z => z.1) a1) (Prod.ext (congrArg (fun z => z.2.1) a1) (obsN_join (congrArg (fun z => z.2.2) a1) (congrArg (fun z => z.2.2) b1))))
/-- what an own class must have, as one truth value -/
def clsB (K : PySem.W.Frag) (x : Str) : Bool := (He.Fa.glo x).ok K && ((He.Fa.cls x).ok K && ((He.Fa.mkr x).ok K && (decide (PySem.W.findIn K (.ref (He.ga K x)) "__class__" = some (some (.builtin "object.__class__"))) &&
  (decide (PySem.W.specialIn K (.builtin "object.__class__") "__get__" = some (some (.builtin "getset_descriptor.__get__"))) && (decide (PySem.W.takesIn K (.builtin "object.__class__") = some true) && decide (PySem.W.mroIn K (He.ga K x) (.type "object") = some true))))))
theorem cls_mk {K : PySem.W.Frag} {h : Heap} {mg : Str → Option Value} {x : Str} (X : K.In h) (G : h.Ns mainGlobals mg) (c : clsB K x = true) : ∃ T : CnT K mg x, T.C = He.ga K x := by
  simp only [clsB, He.Fa.ok, He.eqO, Bool.and_eq_true, decide_eq_true_eq] at c
  obtain ⟨g, ⟨p1, p2, p3, p4⟩, ⟨m1, m2, m3, m4⟩, k1, k2, k3, k4⟩ := c
  exact ⟨⟨He.ga K x, PySem.W.mg_of X G g, ⟨p1, p2, p3, p4⟩, m1, m4, k1, k2, k3, k4⟩, rfl⟩
def cnT {K : PySem.W.Frag} {h : Heap} {mg : Str → Option Value} {x : Str} (X : K.In h) (G : h.Ns mainGlobals mg) (c : clsB K x = true) : CnT K mg x := by
  simp only [clsB, He.Fa.ok, He.eqO, Bool.and_eq_true, decide_eq_true_eq] at c
  exact ⟨He.ga K x, PySem.W.mg_of X G c.1, ⟨c.2.1.1, c.2.1.2.1, c.2.1.2.2.1, c.2.1.2.2.2⟩, c.2.2.1.1, c.2.2.1.2.2.2, c.2.2.2.1, c.2.2.2.2.1, c.2.2.2.2.2.1, c.2.2.2.2.2.2⟩
theorem meth_of {K : PySem.W.Frag} {x m : Str} (c : (He.Fa.meth x m).ok K = true) : PySem.W.findIn K (.ref (He.ga K x)) m = some (some (.ref (He.ma K (He.ga K x) m))) ∧ PySem.W.isFn K (.ref (He.ma K (He.ga K x) m)) = true := by
  simp only [He.Fa.ok, He.eqO, Bool.and_eq_true, decide_eq_true_eq] at c
  exact ⟨c.1, c.2.1⟩
def orB (K : PySem.W.Frag) (x : Str) : Bool := PySem.W.selfFirst K (He.ga K x) && (decide (PySem.W.findIn K (.ref (He.ga K x)) (PySem.dunder "or") = some (some (.ref (He.ma K (He.ga K x) "__or__")))) && (PySem.W.isFn K (.ref (He.ma K (He.ga K x) "__or__")) &&
  (decide (PySem.W.findIn K (.ref (He.ga K x)) (dunderR "or") = some (some (.ref (He.ma K (He.ga K x) "__ror__")))) && (PySem.W.isFn K (.ref (He.ma K (He.ga K x) "__ror__")) && (decide (PySem.W.findIn K (.type "dict") (PySem.dunder "or") = some (some (.builtin "dict.__or__"))) &&
  ((PySem.W.findIn K (.type "dict") (dunderR "or")).isSome && (decide (PySem.W.subIn K (.type "dict") (.ref (He.ga K x)) = some false) && decide (PySem.W.subIn K (.ref (He.ga K x)) (.type "dict") = some false))))))))
theorem or_of {K : PySem.W.Frag} {x : Str} (c : orB K x = true) : OrK K (He.ga K x) (He.ma K (He.ga K x) "__or__") (He.ma K (He.ga K x) "__ror__") := by
  simp only [orB, Bool.and_eq_true, decide_eq_true_eq] at c
  obtain ⟨a, b, d, e, f, g, i, j, k⟩ := c
  exact ⟨⟨a, b, d, e, f⟩, g, Option.isSome_iff_exists.mp i, j, k⟩
theorem and_at {a b : Bool} (h : (a && b) = true) : a = true ∧ b = true := Bool.and_eq_true_iff.mp h
theorem all_get {α : Type} {l : List α} {p : α → Bool} (h : l.all p = true) (i : Nat) {x : α} (e : l[i]? = some x) : p x = true := List.all_eq_true.mp h x (List.mem_of_getElem? e)
/-- a def of the top, a method, as the look reads them -/
def dfD (x : Str) (st : Stmt) : He.DefD := { at_ := (x, none), name := x, qual := x, params := defArgs st, body := defBody st, scope := defScope st }
def mtD (c m qual : Str) (st : Stmt) (dfl : List He.Dv) : He.DefD := { at_ := (c, some m), name := m, qual := qual, params := defArgs st, body := defBody st, scope := defScope st, dfl := dfl }
end Own

set_option Elab.async false
set_option linter.all false
set_option maxRecDepth 100000
set_option maxHeartbeats 4000000
/-! == and != by an own __eq__; an operator without a reflection; comprehensions over the pairs of a dict. -/
namespace Own
open PySem PySem.Spec PyProof.Rows L2
/-- the class has an own __eq__ at f, and object's __ne__ -/
structure EqC (K : PySem.W.Frag) (C f : Addr) : Prop where
  eq : PySem.W.findIn K (.ref C) "__eq__" = some (some (.ref f))
  fn : PySem.W.isFn K (.ref f) = true
  ne : PySem.W.findIn K (.ref C) "__ne__" = some (some (.builtin "object.__ne__"))
  ob : PySem.W.subIn K (.ref C) (.type "object") = some true
  dc : PySem.W.subIn K (.type "dict") (.ref C) = some false
section
variable {prog : Program} {w : World} {A : Around} {E : Value → Shared → Prop} {s : Shared} {K : PySem.W.Frag} {x C f : Addr} {ox : Obj} {od : Option Obj}
/-- what the call of __ne__ finds first -/
theorem ne_bound {b : Value} {Q : Option Value → Shared → Prop} (X : K.In s.heap) (J : PySem.W.InstAt s.heap x ox C od) (e : EqC K C f) (go : wpAny (model prog w) A (call (.builtin "object.__ne__") [.ref x, b]) (fun v => Q (some v)) E s) :
    wpAny (model prog w) A (callSpecialIfBound? (.ref x) "__ne__" [b]) Q E s := by
  have bnd := F.cmp_object.ne.bind (.ref x)
  simp only [callSpecialIfBound?, bindSpecialIfBound?]
  refine wpAny_holding (wpAny_bind (wpAny_bind (wpAny_bind (J.type.here ((PySem.W.looks_findIn X e.ne).here ?_)))))
  simp only [bnd]
  refine wpAny_bind (wpAny_askSetting (wpAny_ite ?_))
  have last : wpAny (model prog w) A (call (.builtin "object.__ne__") ([.ref x] ++ [b]) >>= fun v => pure (some v)) Q E s := wpAny_bind (thn go fun v t h => wpAny_pure h)
  split
  · exact wpAny_bind (wpAny_pure (wpAny_pure last))
  · exact wpAny_tryCatch (wpAny_bind (wpAny_pure (wpAny_pure last)))
/-- a bool comes back -/
def BackB (Q : Bool → Shared → Prop) (v : Value) (t : Shared) : Prop := ∃ r, v = .bool r ∧ Q r t
theorem ne_own {b : Value} {tb : Value} {Q : Value → Shared → Prop} (hu : A.units + 2 < cLine) (X : K.In s.heap) (J : PySem.W.InstAt s.heap x ox C od) (e : EqC K C f) (ty : PySem.W.Looks (model prog w) s.heap (typeOf b) tb) (nf : PySem.W.notFirst K C tb = true)
    (go : wpAny (model prog w) A.in1 (call (.ref f) [.ref x, b]) (BackB fun r t => Q (.bool (!r)) t) E s) : wpAny (model prog w) A (richCompare .NotEq (.ref x) b) Q E s := by
  have hu0 : A.units < cLine := by omega
  have hu1 : A.in1.units < cLine := by show A.units + 1 < cLine; omega
  have core : wpAny (model prog w) A (tryCompare (.ref x) "__ne__" b) (fun r t => ∃ v, r = some v ∧ Q v t) E s := by
    unfold tryCompare
    refine wpAny_bind (ne_bound X J e (wpAny_call ?_))
    refine codeAny_call_builtin F.cmp_object.ne.plain F.cmpEntry_ne ?_
    have sub := PySem.W.looks_subIn (M := model prog w) X e.ob
    have chk : ∀ (E' : Value → Shared → Prop) (R : Unit → Shared → Prop), R () s → wpAny (model prog w) A.in1 (checkBuiltinCall "object.__ne__" ⟨[.ref x, b], []⟩) R E' s := by
      intro E' R r
      simp only [checkBuiltinCall, F.cmpKind_ne, F.cmpSplit_ne]
      refine wpAny_bind ?_
      unfold isInstance
      refine wpAny_bind (J.type.here (sub.here ?_))
      have ha := F.cmpArgs_ne (.ref x) b
      simp only [Bool.not_true, Bool.false_eq_true, if_false]
      cases hsig : Manifest.signature? "object.__ne__" with
      | none => exact wpAny_pure r
      | some sig =>
        simp only [argsOk, hsig] at ha
        have h2 : Bind.checkArgs "object.__ne__" sig ⟨[.ref x, b], []⟩ = pure () := ha
        show wpAny _ _ (Bind.checkArgs "object.__ne__" sig ⟨[.ref x, b], []⟩) _ _ _
        rw [h2]
        exact wpAny_pure r
    refine chk _ _ ?_
    unfold Builtin.«object.__ne__»
    refine wpAny_bind (m := slotArgs _ _ _) (wpAny_pure ?_)
    refine wpAny_bind (wpAny_cRoomFor hu1 ?_)
    refine wpAny_bind (PySem.W.ifBound_K X J e.eq e.fn (thn go fun v t h => ?_))
    obtain ⟨r, rfl, q⟩ := h
    refine wpAny_bind (wpAny_truthy_bool ?_)
    exact wpAny_pure (wpAny_pure ⟨_, rfl, q⟩)
  unfold richCompare
  simp only [oneThing_ref]
  refine wpAny_holding (wpAny_bind (wpAny_cRoomFor hu0 ?_))
  refine wpAny_bind (J.type.here (wpAny_bind (ty.here ?_)))
  have fin : ∀ {k : Option Value → Sem Value}, (∀ v, k (some v) = pure v) → wpAny (model prog w) A (tryCompare (.ref x) "__ne__" b >>= k) Q E s := fun hk => wpAny_bind (thn core fun r t h => by
    obtain ⟨v, rfl, q⟩ := h
    rw [hk]
    exact wpAny_pure q)
  split
  · rename_i q
    have no : PySem.W.subIn K tb (.ref C) = some false := by
      rcases Bool.or_eq_true_iff.mp nf with z | z
      · rw [beq_iff_eq.mp z] at q
        simp at q
      · exact beq_iff_eq.mp z
    refine wpAny_bind ((PySem.W.looks_subIn X no).here ?_)
    simp only [Bool.false_eq_true, if_false]
    exact fin fun v => rfl
  · refine wpAny_bind (wpAny_pure ?_)
    simp only [Bool.false_eq_true, if_false]
    exact fin fun v => rfl
end
section
variable {prog : Program} {w : World} {A : Around} {E : Value → Shared → Prop} {s : Shared} {K : PySem.W.Frag} {x C f : Addr} {ox : Obj} {od : Option Obj}
/-- the class has a def for the operator, none for its reflection -/
structure OpC1 (K : PySem.W.Frag) (C : Addr) (nm : String) (f : Addr) : Prop where
  first : PySem.W.selfFirst K C = true
  own : PySem.W.findIn K (.ref C) (PySem.dunder nm) = some (some (.ref f))
  ofn : PySem.W.isFn K (.ref f) = true
  ref : PySem.W.findIn K (.ref C) (dunderR nm) = some none
theorem bin_left1 {op : Operator} {sym nm T : String} {b : Value} {fo ro : Option Value} {Q : Value → Shared → Prop} (hop : op.info = (sym, nm)) (X : K.In s.heap) (J : PySem.W.InstAt s.heap x ox C od) (o : OpC1 K C nm f) (tb : PySem.W.Looks (model prog w) s.heap (typeOf b) (.type T))
    (t1 : PySem.W.findIn K (.type T) (PySem.dunder nm) = some fo) (t2 : PySem.W.findIn K (.type T) (dunderR nm) = some ro) (apart : PySem.W.subIn K (.type T) (.ref C) = some false)
    (go : wpAny (model prog w) A (call (.ref f) [.ref x, b]) (Told Q) E s) : wpAny (model prog w) A (binaryOp op (.ref x) b) Q E s := by
  obtain ⟨cd, rest, hcd, hm⟩ := PySem.W.ksp_first o.first
  have done := try_own X J o.own o.ofn go
  obtain ⟨hh, gg, dd, tt, os⟩ := s
  have f1 : PySem.W.Looks (model prog w) hh (typeOf (.ref x)) (.ref C) := J.type
  have f2 : PySem.W.Looks (model prog w) hh (typeOf b) (.type T) := tb
  have f3 : PySem.W.Looks (model prog w) hh (fillsNumberSlot (.ref C) nm) true := PySem.W.fills_K X hcd hm o.own
  have f4 := PySem.W.ksp_fillsT (M := model prog w) X t1 t2
  have f5 := PySem.W.looks_subIn (M := model prog w) X apart
  have f6 : PySem.W.Looks (model prog w) hh (numberSlotInPython (.ref C) nm) true := PySem.W.ksp_inPy X o.own o.ref (.inl rfl)
  have f7 : PySem.W.Looks (model prog w) hh (numberSlotInPython (.type T) nm) false := PySem.W.Looks.of_pure rfl
  have f8 := PySem.W.looks_findIn (M := model prog w) X t2
  generalize ((fo.isSome && !isSeqSlot fo) || (ro.isSome && !isSeqSlot ro)) = rb at f4
  have ne : (Value.ref C == Value.type T) = false := Bool.eq_false_iff.mpr fun q => by cases beq_iff_eq.mp q
  simp only [binaryOp, hop]
  refine wpAny_holding (wpAny_bind ?_)
  unfold binaryOp1
  refine wpAny_bind (f1.at (wpAny_bind (f2.at (wpAny_bind (f3.at ?_)))))
  simp only [ne, Bool.false_eq_true, if_false]
  cases rb
  all_goals
    ksp_lk
    refine thn done fun r t h => ?_
    obtain ⟨v, rfl, q⟩ := h
    ksp_lk
    exact q
end
/-- what of the text x - row asks -/
structure SubK (K : PySem.W.Frag) (C f : Addr) : Prop where
  op : OpC1 K C "sub" f
  l1 : ∃ fo, PySem.W.findIn K (.type "list") (PySem.dunder "sub") = some fo
  l2 : ∃ ro, PySem.W.findIn K (.type "list") (dunderR "sub") = some ro
  l3 : PySem.W.subIn K (.type "list") (.ref C) = some false
  t1 : ∃ fo, PySem.W.findIn K (.type "tuple") (PySem.dunder "sub") = some fo
  t2 : ∃ ro, PySem.W.findIn K (.type "tuple") (dunderR "sub") = some ro
  t3 : PySem.W.subIn K (.type "tuple") (.ref C) = some false
section
variable {X : Cx} {CX : CXT} {k : Nat} {C f : Addr} {sp : Sp} {E : XK}
/-- x - row, the row a list or a tuple -/
def rSubO (C : Addr) (sp : Sp) (E : XK) : R2 := fun x y H Q => ∃ a dx fs b, x = .ref a ∧ y = .ref b ∧ H a = some (.ins C dx fs) ∧ ((∃ ys, H b = some (.lst ys)) ∨ ∃ ys, H b = some (.tup ys)) ∧ sp [x, y] H Q E
theorem op_subO (o : SubK X.K C f) (F : FnR X.prog X.w X.K X.mg X.base CX k f sp) (hr : Room k X.A) (hx : Passes CX X E) : OpR X (binaryOp .Sub) (rSubO C sp E) := by
  intro pins s σ H x y v u Q I rx ry h
  obtain ⟨a, dx, fs, b, rfl, rfl, ha, hb, q⟩ := h
  cases rx; cases ry
  obtain ⟨ox, od, J⟩ := ins_at I ha
  have go := call_told (vs := [.ref a, .ref b]) F hr hx I (.cons rfl (.cons rfl .nil)) q
  rcases hb with ⟨ys, hb⟩ | ⟨ys, hb⟩
  · obtain ⟨its, r, ⟨ob, nb, gb, cb, _, db⟩, _⟩ := I.list (.inl (.inl hb))
    have tb : PySem.W.Looks (model X.prog X.w) s.heap (typeOf (.ref b)) (.type "list") := by
      have z := type_ref (M := model X.prog X.w) gb
      rw [cb] at z
      exact z
    obtain ⟨fo, e1⟩ := o.l1
    obtain ⟨ro, e2⟩ := o.l2
    exact bin_left1 (op := .Sub) (nm := "sub") rfl I.kIn J o.op tb e1 e2 o.l3 go
  · obtain ⟨its, r, ⟨ob, gb, cb, nb, db⟩, _⟩ := I.tuple (.inl (.inl hb))
    have tb : PySem.W.Looks (model X.prog X.w) s.heap (typeOf (.ref b)) (.type "tuple") := by
      have z := type_ref (M := model X.prog X.w) gb
      rw [cb] at z
      exact z
    obtain ⟨fo, e1⟩ := o.t1
    obtain ⟨ro, e2⟩ := o.t2
    exact bin_left1 (op := .Sub) (nm := "sub") rfl I.kIn J o.op tb e1 e2 o.t3 go
/-- x == y, x != y: x an instance of the class, y one too or a dict -/
def rEqO (C : Addr) (sp : Sp) (E : XK) (neg : Bool) : R2 := fun x y H Q => ∃ a dx fs b, x = .ref a ∧ y = .ref b ∧ H a = some (.ins C dx fs) ∧ ((∃ dy gs, H b = some (.ins C dy gs)) ∨ ∃ kvs, H b = some (.dK kvs)) ∧
  sp [x, y] H (fun v H' => ∃ r, v = .bl r ∧ Q (.bl (if neg then !r else r)) H') E
theorem type_right {pins : List (Addr × Obj)} {σ : L2.St} {H : Hp} {s : Shared} {b : Addr} (I : Inv X pins σ H s) (e : EqC X.K C f) (hb : (∃ dy gs, H b = some (.ins C dy gs)) ∨ ∃ kvs, H b = some (.dK kvs)) :
    ∃ tb, PySem.W.Looks (model X.prog X.w) s.heap (typeOf (.ref b)) tb ∧ PySem.W.notFirst X.K C tb = true := by
  rcases hb with ⟨dy, gs, hb⟩ | ⟨kvs, hb⟩
  · obtain ⟨oy, oe, J'⟩ := ins_at I hb
    exact ⟨_, J'.type, by simp [PySem.W.notFirst]⟩
  · obtain ⟨_, _, vs, _, md⟩ := dk_of I.hok hb
    obtain ⟨ob, es, ep, hg, ex, _⟩ := id md
    have z := type_ref (M := model X.prog X.w) hg
    rw [ex.1] at z
    exact ⟨_, z, by simp [PySem.W.notFirst, e.dc]⟩
theorem op_eqO (e : EqC X.K C f) (F : FnR X.prog X.w X.K X.mg X.base CX k f sp) (hr : Room k X.A) (hx : Passes CX X E) : OpR X (compareOp .Eq) (rEqO C sp E false) := by
  intro pins s σ H x y v u Q I rx ry h
  obtain ⟨a, dx, fs, b, rfl, rfl, ha, hb, q⟩ := h
  cases rx; cases ry
  obtain ⟨ox, od, J⟩ := ins_at I ha
  obtain ⟨tb, ty, nf⟩ := type_right I e hb
  obtain ⟨m, hF⟩ := I.fr
  show wpAny _ _ (richCompare .Eq (.ref a) (.ref b)) _ _ _
  refine PySem.W.cmp_K (op := .Eq) (tb := tb) hr.units0 hF I.ok.mod.kin J ty nf e.eq e.fn ?_
  refine thn (wpAny_call (run_fnR (us := [.ref a, .ref b]) (vs := [.ref a, .ref b]) F hr hx I (.cons rfl (.cons rfl .nil)) q)) fun v t z => ?_
  obtain ⟨z', H', I', rz, r, ez, qz⟩ := z
  subst ez
  cases rz
  exact ⟨.bl r, H', I', rfl, qz⟩
theorem op_neO (e : EqC X.K C f) (F : FnR X.prog X.w X.K X.mg X.base CX k f sp) (hr : Room (k + 1) X.A) (hx : Passes CX X E) : OpR X (compareOp .NotEq) (rEqO C sp E true) := by
  intro pins s σ H x y v u Q I rx ry h
  obtain ⟨a, dx, fs, b, rfl, rfl, ha, hb, q⟩ := h
  cases rx; cases ry
  obtain ⟨ox, od, J⟩ := ins_at I ha
  obtain ⟨tb, ty, nf⟩ := type_right I e hb
  show wpAny _ _ (richCompare .NotEq (.ref a) (.ref b)) _ _ _
  have hu := hr.units
  refine ne_own (by omega) I.kIn J e ty nf ?_
  refine thn (wpAny_call (codeAny_mono (F X.A.in1 X.stack s H [.ref a, .ref b] [.ref a, .ref b] (fun v H' => ∃ r, v = .bl r ∧ Q (.bl (!r)) H') E hr.in1 I.env0.in1 (.cons rfl (.cons rfl .nil)) q) (R' := fun r s' => match r with | .ok (.ret v) => EP X pins σ (fun v H' => ∃ r, v = .bl r ∧ Q (.bl (!r)) H') v s' | .ok _ => False | .error e => X.xe e s') fun r s' hq => ?_)) fun v t z => ?_
  · cases r with
    | error er => exact hx pins σ H s er s' I hq
    | ok fl =>
      cases fl with
      | ret u => exact I.after hq
      | next => exact False.elim hq
      | brk => exact False.elim hq
      | cont => exact False.elim hq
  · obtain ⟨z', H', I', rz, r, ez, qz⟩ := z
    subst ez
    cases rz
    exact ⟨r, rfl, .bl (!r), H', I', rfl, qz⟩
/-- x in e, e an instance with an own __contains__ -/
structure InC (K : PySem.W.Frag) (C f : Addr) : Prop where
  at_ : PySem.W.findIn K (.ref C) "__contains__" = some (some (.ref f))
  fn : PySem.W.isFn K (.ref f) = true
def rInO (C : Addr) (sp : Sp) (E : XK) : R2 := fun x y H Q => ∃ a dx fs, y = .ref a ∧ H a = some (.ins C dx fs) ∧ sp [y, x] H (fun v H' => ∃ r, v = .bl r ∧ Q (.bl r) H') E
theorem op_inO (e : InC X.K C f) (F : FnR X.prog X.w X.K X.mg X.base CX k f sp) (hr : Room k X.A) (hx : Passes CX X E) : OpR X (compareOp .In) (rInO C sp E) := by
  intro pins s σ H x y v u Q I rx ry h
  obtain ⟨a, dx, fs, rfl, ha, q⟩ := h
  cases ry
  obtain ⟨ox, od, J⟩ := ins_at I ha
  obtain ⟨m, hF⟩ := I.fr
  refine PySem.W.in_K hF I.ok.mod.kin J e.at_ e.fn ?_
  refine thn (wpAny_call (run_fnR (us := [.ref a, v]) (vs := [.ref a, x]) F hr hx I (.cons rfl (.cons rx .nil)) q)) fun w t z => ?_
  obtain ⟨z', H', I', rz, r, ez, qz⟩ := z
  subst ez
  cases rz
  exact wpAny_truthy_bool ⟨.bl r, H', I', rfl, qz⟩
/-- e[i], e an instance with an own __getitem__ -/
structure GetC (K : PySem.W.Frag) (C f : Addr) : Prop where
  at_ : PySem.W.findIn K (.ref C) "__getitem__" = some (some (.ref f))
  fn : PySem.W.isFn K (.ref f) = true
  fi : PySem.W.fnIn K f = true
def tIxO (C : Addr) (sp : Sp) (E : XK) (ta tb : TE) : TE := fun σ H Q => ta σ H fun x H1 => tb σ H1 fun y H2 => ∃ a dx fs, x = .ref a ∧ H2 a = some (.ins C dx fs) ∧ sp [x, y] H2 Q E
theorem pe_ixO {a b : Expr} {ta tb : TE} {pos : Pos} (e : GetC X.K C f) (F : FnR X.prog X.w X.K X.mg X.base CX k f sp) (hr : Room (k + 1) X.A) (hx : Passes CX X E) (ha : PE X a ta) (hb : PE X b tb) (hs : ∀ o i, subscripted b true o i = runValue (.builtin "lifetime.subscript" ⟨[o, i], []⟩)) :
    PE X (.Subscript a b pos) (tIxO C sp E ta tb) := by
  refine ⟨fun pins s σ H Q I h => ?_⟩
  refine Subscript_ (binT ha hb I h fun v u s2 x y H2 I2 rx ry q => ?_)
  obtain ⟨c, dx, fs, rfl, hc, q⟩ := q
  cases rx
  obtain ⟨ox, od, J⟩ := ins_at I2 hc
  obtain ⟨m, hF⟩ := I2.fr
  refine PySem.W.sub_K hF I2.ok.mod.kin J e.at_ e.fi e.fn ?_ (hs _ _)
  refine wpAny_call (codeAny_mono (F X.A.in1 X.stack s2 H2 [.ref c, u] [.ref c, y] Q E hr.in1 I2.env0.in1 (.cons rfl (.cons ry .nil)) q) fun r s' hq => ?_)
  cases r with
  | error er => exact hx pins σ H2 s2 er s' I2 hq
  | ok fl =>
    cases fl with
    | ret u => exact I2.after hq
    | next => exact False.elim hq
    | brk => exact False.elim hq
    | cont => exact False.elim hq
end
end Own

set_option Elab.async false
set_option linter.all false
set_option maxRecDepth 100000
set_option maxHeartbeats 4000000
/-! Comprehensions over the pairs of a dict. -/
namespace Own
open PySem PySem.Spec PyProof.Rows L2
def slots2 (σ : L2.St) (i j : Nat) (k : Key) (v : V) : L2.St := ((wipe σ [i, j]).set i (some (kV k))).set j (some v)
theorem wipe2 {σ : L2.St} {i j : Nat} {k : Key} {v : V} (h : i ≠ j) : wipe (slots2 σ i j k v) [i, j] = wipe σ [i, j] := by
  show (((((σ.set j none).set i none).set i (some (kV k))).set j (some v)).set j none).set i none = (σ.set j none).set i none
  refine List.ext_getElem? fun m => ?_
  simp only [List.getElem?_set, List.length_set]
  by_cases a : i = m
  · subst a
    by_cases b : j = i
    · exact absurd b.symm h
    · simp [b]
  · by_cases b : j = m
    · subst b
      simp [a]
    · simp [a, b]
/-- {k: v for k, v in d.items() if b} -/
theorem dcI_go {K : PySem.W.Frag} {td : TE} {i j n : Nat} {tt : TT} {tk tv : TE} {σ : L2.St} {H : Hp} {Q : VK} {d : Addr} {kvs : Tbl} (b : Key × V → Bool) (hd : H d = some (.dK kvs)) (nd : (kvs.map (·.1)).Nodup) (hz : kvs.length ≤ 100000) (hn : n = 2) (hij : i ≠ j) (ht : ∀ o (Q : VK), Q (.ref d) (upd H d (.frz o (.dK kvs))) → td σ (upd H d (.frz o (.dK kvs))) Q)
    (htt : ∀ o k v H' (R : Bool → Hp → Prop), (k, v) ∈ kvs → Same (upd H d (.frz o (.dK kvs))) H' → R (b (k, v)) H' → tt (slots2 σ i j k v) H' R)
    (hk : ∀ o k v H' (R : VK), (k, v) ∈ kvs → Same (upd H d (.frz o (.dK kvs))) H' → R (kV k) H' → tk (slots2 σ i j k v) H' R)
    (hv : ∀ o k v H' (R : VK), (k, v) ∈ kvs → Same (upd H d (.frz o (.dK kvs))) H' → R v H' → tv (slots2 σ i j k v) H' R)
    (q : ∀ D H', H D = none → Same H H' → H' D = some (.dK (kvs.filter b)) → Q (.ref D) H') : tLockE (tDc (iItems td) (gTup K n (gCons (gName i) (gCons (gName j) gNil))) tt tk tv [i, j]) σ H Q := by
  refine ⟨d, _, hd, True.intro, fun o => ?_⟩
  refine ht _ _ ⟨d, o, kvs, rfl, upd_same, fun D hD => ?_⟩
  have hDd : D ≠ d := by
    rintro rfl
    rw [upd_same] at hD
    cases hD
  have hDn : H D = none := by rw [upd_ne hDd] at hD; exact hD
  let Pv : Nat → Hp → Prop := fun m H' => H' D = some (.dK ((kvs.take m).filter b)) ∧ ExT D (upd H d (.frz o (.dK kvs))) H'
  refine ⟨fun m r H' => r = kvs.length - m ∧ m ≤ kvs.length ∧ Pv m H', ⟨kvs.length, rfl, Nat.zero_le _, upd_same, exT_upd (ExT.refl D _)⟩, ?_⟩
  rintro m r H' ⟨rfl, le, p1, p2⟩
  have sH := ExT.toSame hD p2
  have lk : H' d = some (.frz o (.dK kvs)) := sH _ _ upd_same
  rcases Nat.lt_or_ge m kvs.length with lt | ge
  · refine .inr ⟨⟨lk, lt⟩, Pv (m + 1), fun H2 p' => ⟨kvs.length - (m + 1), by omega, rfl, lt, p'⟩, ?_⟩
    rintro x H2 ⟨T, k, v, e, rfl, nT, rfl⟩
    have mem := List.mem_of_getElem? e
    have sT : Same H' (upd H' T (.tup [kV k, v])) := same_new nT
    have hTD : T ≠ D := by
      rintro rfl
      rw [p1] at nT
      cases nT
    refine ⟨T, _, rfl, .inl (.inl upd_same), hn.symm, kV k, _, rfl, v, _, rfl, rfl, wipe2 hij, ?_⟩
    show tt (slots2 σ i j k v) _ _
    have et : kvs.take (m + 1) = kvs.take m ++ [(k, v)] := by rw [List.take_add_one, e]; rfl
    refine htt o k v _ _ mem (sH.trans sT) ?_
    cases hb : b (k, v) with
    | false =>
      refine ⟨?_, (show ExT D _ _ from p2.same sT)⟩
      rw [et, List.filter_append, List.filter_cons, hb, upd_ne hTD.symm]
      simpa using p1
    | true =>
      refine hk o k v _ _ mem (sH.trans sT) (hv o k v _ _ mem (sH.trans sT) ⟨_, k, rfl, by rw [upd_ne hTD.symm]; exact p1, ?_, ?_, exT_upd (p2.same sT)⟩)
      · have l1 := List.length_filter_le b (kvs.take m)
        have l2 := List.length_take_le m kvs
        exact Nat.lt_of_le_of_lt (show ((kvs.take m).filter b).length ≤ m by omega) (Nat.lt_of_lt_of_le lt (Nat.le_trans hz (by decide)))
      · have no : valV ((kvs.take m).filter b) k = none := by
          cases e2 : valV ((kvs.take m).filter b) k with
          | none => rfl
          | some w =>
            have c := valV_key.mp (show (valV ((kvs.take m).filter b) k).isSome = true by rw [e2]; rfl)
            obtain ⟨z, hz2, ez⟩ := List.mem_map.mp c
            have hz3 := (List.mem_filter.mp hz2).1
            have nd2 : ((kvs.take m).map (·.1) ++ (kvs.drop m).map (·.1)).Nodup := by rw [← List.map_append, List.take_append_drop]; exact nd
            have inD : k ∈ (kvs.drop m).map (·.1) := List.mem_map.mpr ⟨(k, v), List.mem_iff_getElem?.mpr ⟨0, by rw [List.getElem?_drop]; exact e⟩, rfl⟩
            exact absurd rfl ((List.nodup_append.mp nd2).2.2 k (List.mem_map.mpr ⟨z, hz3, ez⟩) k inD)
        rw [upd_same, putK_new _ no, et, List.filter_append, List.filter_cons, hb]
        rfl
  · obtain rfl : m = kvs.length := Nat.le_antisymm le ge
    rw [List.take_length] at p1
    refine .inl ⟨⟨lk, Nat.le_refl _⟩, lk, ?_⟩
    refine q D _ hDn (unlock_same hd sH) ?_
    rw [upd_ne hDd]
    exact p1
/-- [e for k, v in d.items()], e making objects -/
theorem lcItems_go {K : PySem.W.Frag} {td : TE} {i j n : Nat} {te : TE} {σ : L2.St} {H : Hp} {Q : VK} {d : Addr} {kvs : Tbl} (f : Key × V → V) (hd : H d = some (.dK kvs)) (hz : kvs.length ≤ 100000) (hn : n = 2) (hij : i ≠ j) (ht : ∀ o (Q : VK), Q (.ref d) (upd H d (.frz o (.dK kvs))) → td σ (upd H d (.frz o (.dK kvs))) Q)
    (he : ∀ o k v H' (R : VK), (k, v) ∈ kvs → Same (upd H d (.frz o (.dK kvs))) H' → (∀ H'', Same H' H'' → R (f (k, v)) H'') → te (slots2 σ i j k v) H' R)
    (q : ∀ D H', H D = none → Same H H' → H' D = some (.lst (kvs.map f)) → Q (.ref D) H') : tLockE (tLc (iItems td) (gTup K n (gCons (gName i) (gCons (gName j) gNil))) tYes te [i, j]) σ H Q := by
  refine ⟨d, _, hd, True.intro, fun o => ?_⟩
  refine ht _ _ ⟨d, o, kvs, rfl, upd_same, fun D hD => ?_⟩
  have hDd : D ≠ d := by
    rintro rfl
    rw [upd_same] at hD
    cases hD
  have hDn : H D = none := by rw [upd_ne hDd] at hD; exact hD
  let Pv : Nat → Hp → Prop := fun m H' => H' D = some (.lst ((kvs.take m).map f)) ∧ ExT D (upd H d (.frz o (.dK kvs))) H'
  refine ⟨fun m r H' => r = kvs.length - m ∧ m ≤ kvs.length ∧ Pv m H', ⟨kvs.length, rfl, Nat.zero_le _, upd_same, exT_upd (ExT.refl D _)⟩, ?_⟩
  rintro m r H' ⟨rfl, le, p1, p2⟩
  have sH := ExT.toSame hD p2
  have lk : H' d = some (.frz o (.dK kvs)) := sH _ _ upd_same
  rcases Nat.lt_or_ge m kvs.length with lt | ge
  · refine .inr ⟨⟨lk, lt⟩, Pv (m + 1), fun H2 p' => ⟨kvs.length - (m + 1), by omega, rfl, lt, p'⟩, ?_⟩
    rintro x H2 ⟨T, k, v, e, rfl, nT, rfl⟩
    have mem := List.mem_of_getElem? e
    have sT : Same H' (upd H' T (.tup [kV k, v])) := same_new nT
    have hTD : T ≠ D := by
      rintro rfl
      rw [p1] at nT
      cases nT
    refine ⟨T, _, rfl, .inl (.inl upd_same), hn.symm, kV k, _, rfl, v, _, rfl, rfl, wipe2 hij, ?_⟩
    show te (slots2 σ i j k v) _ _
    refine he o k v _ _ mem (sH.trans sT) fun H3 s3 => ?_
    refine ⟨_, s3 _ _ (by rw [upd_ne hTD.symm]; exact p1), ?_, ?_, exT_upd ((p2.same sT).same s3)⟩
    · rw [List.length_map]
      exact Nat.lt_of_le_of_lt (List.length_take_le _ _) (Nat.lt_of_lt_of_le lt (Nat.le_trans hz (by decide)))
    · rw [upd_same, List.take_add_one, e, List.map_append]
      rfl
  · obtain rfl : m = kvs.length := Nat.le_antisymm le ge
    rw [List.take_length] at p1
    refine .inl ⟨⟨lk, Nat.le_refl _⟩, lk, ?_⟩
    refine q D _ hDn (unlock_same hd sH) ?_
    rw [upd_ne hDd]
    exact p1
end Own

set_option Elab.async false
set_option linter.all false
set_option maxRecDepth 100000
set_option maxHeartbeats 4000000
/-! == of tables, whatever it gives; parts of tables. -/
namespace Own
open PySem PySem.Spec PyProof.Rows L2
def hitB (kb : Tbl) : Tbl → Bool
  | [] => true
  | p :: r => match valV kb p.1 with
    | none => false
    | some y => eqV p.2 y && hitB kb r
def eqT (a b : Tbl) : Bool := a.length == b.length && hitB b a
theorem valOk_flat {v : V} (h : valOk v = true) : flatV v = true := by cases v <;> first | rfl | cases h
theorem hits_tab {A : Around} {s : Shared} {P : Program} {w : World} {kb : Tbl} {vb : List (Key × Value)} (rb : KV kb vb) (ob : ∀ p ∈ kb, valOk p.2 = true) : ∀ {ka : Tbl} {va : List (Key × Value)}, KV ka va → (∀ p ∈ ka, valOk p.2 = true) → PySem.W.KeqHits A s vb va (hitB kb ka)
  | _, _, .nil, _ => .nil
  | (k, v) :: ka, (k', u) :: va, .cons h t, ok => by
    obtain ⟨ek, rv⟩ := h
    have ek' : k = k' := ek
    subst ek'
    have rel := rb.val k
    have rest := hits_tab (A := A) (s := s) (P := P) (w := w) rb ob t fun p hp => ok p (by simp [hp])
    show PySem.W.KeqHits A s vb ((k, u) :: va) (match valV kb k with | none => false | some y => eqV v y && hitB kb ka)
    cases e : valV kb k with
    | none =>
      rw [e] at rel
      exact .miss (RelO.none_of rel)
    | some y =>
      rw [e] at rel
      obtain ⟨uy, hy, ry⟩ := RelO.some_of rel
      exact .hit hy (eqAt_V rv ry (valOk_flat (ok (k, v) (by simp))) (valOk_flat (ob _ (valV_mem e)))) rest
section
variable {X : Cx}
def rEqDB : R2 := fun x y H Q => ∃ a b ka kb, x = .ref a ∧ y = .ref b ∧ H a = some (.dK ka) ∧ H b = some (.dK kb) ∧ TOk ka ∧ TOk kb ∧ Q (.bl (eqT ka kb)) H
theorem op_eqDB (hu : X.A.units < cLine) : OpR X (compareOp .Eq) rEqDB := by
  intro pins s σ H x y v u Q I rx ry h
  obtain ⟨a, b, ka, kb, rfl, rfl, ha, hb, ta, tb, q⟩ := h
  cases rx; cases ry
  obtain ⟨_, ya, va, ra, da⟩ := dk_of I.hok ha
  obtain ⟨_, yb, vb, rb, db⟩ := dk_of I.hok hb
  refine PySem.W.keq_eq (knd := mixKind X.prog X.w) (r := hitB kb ka) ya yb da db hu (fun _ => hits_tab (P := X.prog) (w := X.w) rb tb.ok ra ta.ok) ⟨.bl (eqT ka kb), H, I, ?_, q⟩
  have l1 : ka.length = va.length := Paired.length ra
  have l2 : kb.length = vb.length := Paired.length rb
  show Value.bool (va.length == vb.length && hitB kb ka) = Value.bool (eqT ka kb)
  unfold eqT
  rw [l1, l2]
end
theorem eqV_iff {v w : V} (hv : valOk v = true) (hw : valOk w = true) : eqV v w = true ↔ v = w := by
  cases v with
  | int i => cases w with
    | int j => simp [eqV]
    | str y => simp [eqV]
    | _ => cases hw
  | str x => cases w with
    | int j => simp [eqV]
    | str y => simp [eqV]
    | _ => cases hw
  | _ => cases hv
theorem hitB_iff {kb : Tbl} (ob : ∀ p ∈ kb, valOk p.2 = true) : ∀ {ka : Tbl}, (∀ p ∈ ka, valOk p.2 = true) → (hitB kb ka = true ↔ ∀ p ∈ ka, valV kb p.1 = some p.2)
  | [], _ => by simp [hitB]
  | p :: ka, ok => by
    have ih := hitB_iff ob (ka := ka) fun q hq => ok q (by simp [hq])
    show (match valV kb p.1 with | none => false | some y => eqV p.2 y && hitB kb ka) = true ↔ _
    cases e : valV kb p.1 with
    | none =>
      constructor
      · intro z; cases z
      · intro z
        have := z p (by simp)
        rw [e] at this
        cases this
    | some y =>
      have oy := ob _ (valV_mem e)
      show (eqV p.2 y && hitB kb ka) = true ↔ _
      rw [Bool.and_eq_true, eqV_iff (ok p (by simp)) oy, ih]
      constructor
      · rintro ⟨rfl, z⟩ q hq
        rcases List.mem_cons.mp hq with rfl | hq
        · exact e
        · exact z q hq
      · intro z
        have h1 := z p (by simp)
        rw [e] at h1
        exact ⟨(Option.some.inj h1).symm, fun q hq => z q (by simp [hq])⟩
theorem eqT_iff {a b : Tbl} (ha : TOk a) (hb : TOk b) : eqT a b = true ↔ Eqv a b := by
  unfold eqT
  rw [Bool.and_eq_true, beq_iff_eq, hitB_iff hb.ok ha.ok]
  constructor
  · rintro ⟨hl, h⟩ k
    cases e : valV a k with
    | some v => exact (h (k, v) (valV_mem e)).symm
    | none =>
      cases e2 : valV b k with
      | none => rfl
      | some w =>
        have kb := valV_key.mp (show (valV b k).isSome = true by rw [e2]; rfl)
        rw [hb.keys] at kb
        obtain ⟨x, hx, rfl⟩ := List.mem_map.mp kb
        have nx : x ∉ names a := fun m => by
          have := (names_mem ha).mp m
          rw [e] at this
          cases this
        have sub : ∀ y ∈ x :: names a, y ∈ names b := fun y hy => by
          rcases List.mem_cons.mp hy with rfl | hy
          · exact hx
          · have := (names_mem ha).mp hy
            cases e3 : valV a (.inr y) with
            | none => rw [e3] at this; cases this
            | some v =>
              have := h (.inr y, v) (valV_mem e3)
              exact (names_mem hb).mpr (by show (valV b (.inr y)).isSome = true; rw [show valV b (Sum.inr y) = some v from this]; rfl)
        have z := pig (List.nodup_cons.mpr ⟨nx, ha.names_nd⟩) sub
        unfold names at z
        rw [List.length_cons, List.length_map, List.length_map] at z
        omega
  · intro e
    exact ⟨len_eqv ha hb e, fun p hp => by rw [← e]; exact mem_valV ha.nd hp⟩
theorem eqT_congr {a a' b b' : Tbl} (ha : TOk a) (ha' : TOk a') (hb : TOk b) (hb' : TOk b') (e : Eqv a a') (f : Eqv b b') : eqT a b = eqT a' b' := by
  rw [Bool.eq_iff_iff, eqT_iff ha hb, eqT_iff ha' hb']
  exact ⟨fun h => e.symm.trans (h.trans f), fun h => e.trans (h.trans f.symm)⟩
/-- every binding of a is one of b -/
def winB (a b : Tbl) : Bool := a.all fun p => decide (valV b p.1 = some p.2)
theorem winB_congr {a a' b b' : Tbl} (ha : TOk a) (ha' : TOk a') (e : Eqv a a') (f : Eqv b b') : winB a b = winB a' b' := by
  have one : ∀ {a a' b b' : Tbl}, TOk a → TOk a' → Eqv a a' → Eqv b b' → winB a b = true → winB a' b' = true := fun ha ha' e f h => by
    unfold winB at h ⊢
    rw [List.all_eq_true] at h ⊢
    intro p hp
    have m := mem_valV ha'.nd (show (p.1, p.2) ∈ _ from hp)
    rw [← e] at m
    have z := h _ (valV_mem m)
    rw [decide_eq_true_eq] at z ⊢
    rw [← f]
    exact z
  rw [Bool.eq_iff_iff]
  exact ⟨one ha ha' e f, one ha' ha e.symm f.symm⟩
theorem TOk.filter {t : Tbl} (h : TOk t) (b : Key × V → Bool) : TOk (t.filter b) :=
  ⟨h.nd.sublist (List.Sublist.map _ List.filter_sublist), fun p hp => h.id p (List.mem_filter.mp hp).1, fun p hp => h.ok p (List.mem_filter.mp hp).1⟩
theorem valV_filter {t : Tbl} (h : TOk t) (b : Str → Bool) (x : Str) : valV (t.filter fun p => b (txt p.1)) (.inr x) = if b x then valV t (.inr x) else none := by
  cases e : valV (t.filter fun p => b (txt p.1)) (.inr x) with
  | some v =>
    have m := List.mem_filter.mp (valV_mem e)
    have hb : b x = true := m.2
    rw [if_pos hb, mem_valV h.nd m.1]
  | none =>
    split
    · rename_i hb
      cases e2 : valV t (.inr x) with
      | none => rfl
      | some v =>
        have m : ((.inr x, v) : Key × V) ∈ t.filter fun p => b (txt p.1) := List.mem_filter.mpr ⟨valV_mem e2, hb⟩
        have z := mem_valV (h.filter _).nd m
        rw [e] at z
        cases z
    · rfl
theorem filter_eqv {t s : Tbl} (h : TOk t) (g : TOk s) (b : Str → Bool) (e : Eqv t s) : Eqv (t.filter fun p => b (txt p.1)) (s.filter fun p => b (txt p.1)) := fun k => by
  cases k with
  | inl i =>
    have no : ∀ (u : Tbl), TOk u → valV u (Sum.inl i : Key) = none := fun u hu => by
      cases e : valV u (Sum.inl i : Key) with
      | none => rfl
      | some v => have := hu.id _ (valV_mem e); cases this
    rw [no _ (h.filter _), no _ (g.filter _)]
  | inr x => rw [valV_filter h, valV_filter g, e]
end Own

set_option Elab.async false
set_option linter.all false
set_option maxRecDepth 100000
set_option maxHeartbeats 4000000
/-! Walks over a list or a tuple; keys of a dict, filtered; not in by an own __contains__; what the end looks at for these. -/
namespace Own
open PySem PySem.Spec PyProof.Rows L2
section
variable {X : Cx} {CX : CXT} {k : Nat} {C f : Addr} {sp : Sp} {E : XK}
theorem pi_or {tg l : Expr} {t1 t2 : TI} (h1 : PI X tg l t1) (h2 : PI X tg l t2) : PI X tg l (fun σ H R => t1 σ H R ∨ t2 σ H R) :=
  ⟨fun pins s σ H R I h => h.elim (h1.run pins s σ H R I) (h2.run pins s σ H R I)⟩
def rNotInO (C : Addr) (sp : Sp) (E : XK) : R2 := fun x y H Q => ∃ a dx fs, y = .ref a ∧ H a = some (.ins C dx fs) ∧ sp [y, x] H (fun v H' => ∃ r, v = .bl r ∧ Q (.bl (!r)) H') E
theorem op_notInO (e : InC X.K C f) (F : FnR X.prog X.w X.K X.mg X.base CX k f sp) (hr : Room k X.A) (hx : Passes CX X E) : OpR X (compareOp .NotIn) (rNotInO C sp E) := by
  intro pins s σ H x y v u Q I rx ry h
  obtain ⟨a, dx, fs, rfl, ha, q⟩ := h
  cases ry
  obtain ⟨ox, od, J⟩ := ins_at I ha
  obtain ⟨m, hF⟩ := I.fr
  refine PySem.W.notIn_K hF I.ok.mod.kin J e.at_ e.fn ?_
  refine thn (wpAny_call (run_fnR (us := [.ref a, v]) (vs := [.ref a, x]) F hr hx I (.cons rfl (.cons rx .nil)) q)) fun w t z => ?_
  obtain ⟨z', H', I', rz, r, ez, qz⟩ := z
  subst ez
  cases rz
  exact wpAny_truthy_bool ⟨.bl (!r), H', I', rfl, qz⟩
end
section
variable {X : Cx} {s : Shared} {H : Hp} {scope : Scope} {cenv : Env} {fp : List Addr}
theorem pgB_tup {es : List Expr} {k n : Nat} {t : TGs} {pos : Pos} (hc : X.calm = true) (h : PGs (X.blk s H scope cenv fp) es t)
    (hn : (assignEach es (X.blk s H scope cenv fp).env).length = n := by rfl) (hst : (assignEach es (X.blk s H scope cenv fp).env).findIdx? (·.1) = none := by rfl) : PG (X.blk s H scope cenv fp) (.Tuple es k pos) (gTup X.K n t) := pg_tup hc h hn hst
theorem peB_fld {e : Expr} {ta : TE} {f : Str} {pos : Pos} (he : PE (X.blk s H scope cenv fp) e ta) (hb : attributeBase e f (X.blk s H scope cenv fp).env (eval e (X.blk s H scope cenv fp).env) = eval e (X.blk s H scope cenv fp).env) : PE (X.blk s H scope cenv fp) (.Attribute e f pos) (tFld X.K ta f) := pe_fld he hb
theorem callB_isi : CallR (X.blk s H scope cenv fp) (.builtin "isinstance") (rIsi X.K) := call_isi
end
/-- a pure comprehension over whatever gives the items of xs in order -/
theorem lcY_go {α : Type} {J : It} {xs : List V} {G : Hp → Prop} (w : Walk J xs.length G (YAt xs)) {j : Nat} {tt : TT} {te : TE} {σ : L2.St} {H : Hp} {Q : VK} (l : List α) (b : α → Bool) (g : α → V) (hG : ∀ D H', H D = none → ExT D H H' → G H') (hlen : xs.length = l.length) (hz : l.length ≤ 100000)
    (htt : ∀ (i : Nat) x z H' (R : Bool → Hp → Prop), xs[i]? = some x → l[i]? = some z → Same H H' → R (b z) H' → tt ((wipe σ [j]).set j (some x)) H' R)
    (hte : ∀ (i : Nat) x z H' (R : VK), xs[i]? = some x → l[i]? = some z → b z = true → Same H H' → R (g z) H' → te ((wipe σ [j]).set j (some x)) H' R)
    (q : ∀ D H', H D = none → Same H H' → H' D = some (.lst ((l.filter b).map g)) → Q (.ref D) H') : tLc (fun _ H R => R J H) (gName j) tt te [j] σ H Q := by
  refine fun D hD => ?_
  refine lc_it w (fun i H' => H' D = some (.lst (((l.take i).filter b).map g)) ∧ ExT D H H') ⟨upd_same, exT_upd (ExT.refl D H)⟩ (fun i H' _ p => hG D H' hD p.2) ?_ ?_
  · rintro i x H' H2 hi ⟨p1, p2⟩ ⟨rfl, hx⟩
    obtain ⟨z, hzz⟩ : ∃ z, l[i]? = some z := ⟨l[i]'(by omega), List.getElem?_eq_getElem (by omega)⟩
    have e : l.take (i + 1) = l.take i ++ [z] := by rw [List.take_add_one, hzz]; rfl
    refine ⟨wipe_set, htt i x z H2 _ hx hzz (ExT.toSame hD p2) ?_⟩
    cases hb : b z with
    | true =>
      refine hte i x z H2 _ hx hzz hb (ExT.toSame hD p2) ⟨_, p1, ?_, ?_, exT_upd p2⟩
      · rw [List.length_map]
        exact Nat.lt_of_le_of_lt (Nat.le_trans (List.length_filter_le _ _) (List.length_take_le _ _)) (Nat.lt_of_lt_of_le (show i < l.length by omega) (Nat.le_trans hz (by decide)))
      · rw [e, List.filter_append, List.map_append]
        simp only [List.filter_cons, hb, if_true, List.filter_nil, List.map_cons, List.map_nil]
        exact upd_same
    | false =>
      refine ⟨?_, p2⟩
      rw [e, List.filter_append]
      simp only [List.filter_cons, hb, List.filter_nil]
      rw [p1]
      simp
  · rintro H' ⟨p1, p2⟩
    rw [hlen, List.take_length] at p1
    exact q D H' hD (ExT.toSame hD p2) p1
theorem sqT_same {K : PySem.W.Frag} {H H' : Hp} {a : Addr} {xs : List V} (s : Same H H') (h : SqT K H a xs) : SqT K H' a xs := SqT.tu (Same.tu s) h
/-- .. over a list or a tuple -/
theorem lcLT_go {α : Type} {K : PySem.W.Frag} {t1 t2 : TE} {j : Nat} {tt : TT} {te : TE} {σ : L2.St} {H : Hp} {Q : VK} {a : Addr} {xs : List V} (l : List α) (b : α → Bool) (g : α → V) (ht1 : ∀ Q : VK, Q (.ref a) H → t1 σ H Q) (ht2 : ∀ Q : VK, Q (.ref a) H → t2 σ H Q) (ha : SqL K H a xs ∨ SqT K H a xs) (hlen : xs.length = l.length) (hz : l.length ≤ 100000)
    (htt : ∀ (i : Nat) x z H' (R : Bool → Hp → Prop), xs[i]? = some x → l[i]? = some z → Same H H' → R (b z) H' → tt ((wipe σ [j]).set j (some x)) H' R)
    (hte : ∀ (i : Nat) x z H' (R : VK), xs[i]? = some x → l[i]? = some z → b z = true → Same H H' → R (g z) H' → te ((wipe σ [j]).set j (some x)) H' R)
    (q : ∀ D H', H D = none → Same H H' → H' D = some (.lst ((l.filter b).map g)) → Q (.ref D) H') : tLc (fun σ H R => iList K t1 σ H R ∨ iTup K t2 σ H R) (gName j) tt te [j] σ H Q := by
  rcases ha with ha | ha
  · exact .inl (ht1 _ ⟨a, rfl, ⟨xs, ha⟩, lcY_go walk_list l b g (fun D H' hD v => sq_same (ExT.toSame hD v) ha) hlen hz htt hte q⟩)
  · exact .inr (ht2 _ ⟨a, rfl, ⟨xs, ha⟩, lcY_go walk_tup l b g (fun D H' hD v => sqT_same (ExT.toSame hD v) ha) hlen hz htt hte q⟩)
/-- [e for k in d if b], pure -/
theorem lcKeys_go {td : TE} {j : Nat} {tt : TT} {te : TE} {σ : L2.St} {H : Hp} {Q : VK} {d : Addr} {kvs : Tbl} (b : Key × V → Bool) (g : Key × V → V) (hd : H d = some (.dK kvs)) (hz : kvs.length ≤ 100000) (ht : ∀ o (Q : VK), Q (.ref d) (upd H d (.frz o (.dK kvs))) → td σ (upd H d (.frz o (.dK kvs))) Q)
    (htt : ∀ o k v H' (R : Bool → Hp → Prop), (k, v) ∈ kvs → Same (upd H d (.frz o (.dK kvs))) H' → R (b (k, v)) H' → tt ((wipe σ [j]).set j (some (kV k))) H' R)
    (hte : ∀ o k v H' (R : VK), (k, v) ∈ kvs → Same (upd H d (.frz o (.dK kvs))) H' → R (g (k, v)) H' → te ((wipe σ [j]).set j (some (kV k))) H' R)
    (q : ∀ D H', H D = none → Same H H' → H' D = some (.lst ((kvs.filter b).map g)) → Q (.ref D) H') : tLockE (tLc (iKeys td) (gName j) tt te [j]) σ H Q := by
  refine ⟨d, _, hd, True.intro, fun o => ?_⟩
  refine ht _ _ ⟨d, o, rfl, .inl ⟨kvs, upd_same, ?_⟩⟩
  refine fun D hD => ?_
  have hDd : D ≠ d := by
    rintro rfl
    rw [upd_same] at hD
    cases hD
  have hDn : H D = none := by rw [upd_ne hDd] at hD; exact hD
  let Pv : Nat → Hp → Prop := fun m H' => H' D = some (.lst (((kvs.take m).filter b).map g)) ∧ ExT D (upd H d (.frz o (.dK kvs))) H'
  refine ⟨fun m r H' => r = kvs.length - m ∧ m ≤ kvs.length ∧ Pv m H', ⟨kvs.length, rfl, Nat.zero_le _, upd_same, exT_upd (ExT.refl D _)⟩, ?_⟩
  rintro m r H' ⟨rfl, le, p1, p2⟩
  have sH := ExT.toSame hD p2
  have lk : H' d = some (.frz o (.dK kvs)) := sH _ _ upd_same
  rcases Nat.lt_or_ge m kvs.length with lt | ge
  · refine .inr ⟨⟨lk, lt⟩, Pv (m + 1), fun H2 p' => ⟨kvs.length - (m + 1), by omega, rfl, lt, p'⟩, ?_⟩
    rintro x H2 ⟨rfl, k, v, e, rfl⟩
    have mem := List.mem_of_getElem? e
    refine ⟨wipe_set, htt o k v H2 _ mem sH ?_⟩
    have et : kvs.take (m + 1) = kvs.take m ++ [(k, v)] := by rw [List.take_add_one, e]; rfl
    cases hb : b (k, v) with
    | false =>
      refine ⟨?_, (show ExT D _ _ from p2)⟩
      rw [et, List.filter_append, List.filter_cons, hb]
      simpa using p1
    | true =>
      refine hte o k v H2 _ mem sH ⟨_, p1, ?_, ?_, exT_upd p2⟩
      · rw [List.length_map]
        exact Nat.lt_of_le_of_lt (Nat.le_trans (List.length_filter_le _ _) (List.length_take_le _ _)) (Nat.lt_of_lt_of_le lt (Nat.le_trans hz (by decide)))
      · rw [upd_same, et, List.filter_append, List.filter_cons, hb, List.map_append]
        rfl
  · obtain rfl : m = kvs.length := Nat.le_antisymm le ge
    rw [List.take_length] at p1
    refine .inl ⟨⟨lk, Nat.le_refl _⟩, lk, ?_⟩
    refine q D _ hDn (unlock_same hd sH) ?_
    rw [upd_ne hDd]
    exact p1
/-! what the end looks at -/
def eqB (K : PySem.W.Frag) (x : Str) : Bool := decide (PySem.W.findIn K (.ref (He.ga K x)) "__eq__" = some (some (.ref (He.ma K (He.ga K x) "__eq__")))) && (PySem.W.isFn K (.ref (He.ma K (He.ga K x) "__eq__")) &&
  (decide (PySem.W.findIn K (.ref (He.ga K x)) "__ne__" = some (some (.builtin "object.__ne__"))) && (decide (PySem.W.subIn K (.ref (He.ga K x)) (.type "object") = some true) && decide (PySem.W.subIn K (.type "dict") (.ref (He.ga K x)) = some false))))
theorem eq_of {K : PySem.W.Frag} {x : Str} (c : eqB K x = true) : EqC K (He.ga K x) (He.ma K (He.ga K x) "__eq__") := by
  simp only [eqB, Bool.and_eq_true, decide_eq_true_eq] at c
  obtain ⟨a, b, d, e, f⟩ := c
  exact ⟨a, b, d, e, f⟩
def inB (K : PySem.W.Frag) (x : Str) : Bool := decide (PySem.W.findIn K (.ref (He.ga K x)) "__contains__" = some (some (.ref (He.ma K (He.ga K x) "__contains__")))) && PySem.W.isFn K (.ref (He.ma K (He.ga K x) "__contains__"))
theorem in_of {K : PySem.W.Frag} {x : Str} (c : inB K x = true) : InC K (He.ga K x) (He.ma K (He.ga K x) "__contains__") := by
  simp only [inB, Bool.and_eq_true, decide_eq_true_eq] at c
  exact ⟨c.1, c.2⟩
def getB (K : PySem.W.Frag) (x : Str) : Bool := decide (PySem.W.findIn K (.ref (He.ga K x)) "__getitem__" = some (some (.ref (He.ma K (He.ga K x) "__getitem__")))) && (PySem.W.isFn K (.ref (He.ma K (He.ga K x) "__getitem__")) && PySem.W.fnIn K (He.ma K (He.ga K x) "__getitem__"))
theorem get_of {K : PySem.W.Frag} {x : Str} (c : getB K x = true) : GetC K (He.ga K x) (He.ma K (He.ga K x) "__getitem__") := by
  simp only [getB, Bool.and_eq_true, decide_eq_true_eq] at c
  exact ⟨c.1, c.2.1, c.2.2⟩
def subB (K : PySem.W.Frag) (x : Str) : Bool := PySem.W.selfFirst K (He.ga K x) && (decide (PySem.W.findIn K (.ref (He.ga K x)) (PySem.dunder "sub") = some (some (.ref (He.ma K (He.ga K x) "__sub__")))) && (PySem.W.isFn K (.ref (He.ma K (He.ga K x) "__sub__")) &&
  (decide (PySem.W.findIn K (.ref (He.ga K x)) (dunderR "sub") = some none) && ((PySem.W.findIn K (.type "list") (PySem.dunder "sub")).isSome && ((PySem.W.findIn K (.type "list") (dunderR "sub")).isSome && (decide (PySem.W.subIn K (.type "list") (.ref (He.ga K x)) = some false) &&
  ((PySem.W.findIn K (.type "tuple") (PySem.dunder "sub")).isSome && ((PySem.W.findIn K (.type "tuple") (dunderR "sub")).isSome && decide (PySem.W.subIn K (.type "tuple") (.ref (He.ga K x)) = some false)))))))))
theorem sub_of {K : PySem.W.Frag} {x : Str} (c : subB K x = true) : SubK K (He.ga K x) (He.ma K (He.ga K x) "__sub__") := by
  simp only [subB, Bool.and_eq_true, decide_eq_true_eq] at c
  obtain ⟨a, b, d, e, f, g, i, j, k, l⟩ := c
  exact ⟨⟨a, b, d, e⟩, Option.isSome_iff_exists.mp f, Option.isSome_iff_exists.mp g, i, Option.isSome_iff_exists.mp j, Option.isSome_iff_exists.mp k, l⟩
end Own

set_option Elab.async false
set_option linter.all false
set_option maxRecDepth 100000
set_option maxHeartbeats 4000000
namespace Own
open PySem PySem.Spec PyProof.Rows L2
theorem pmap {α β : Type} {R S : α → β → Prop} : ∀ {l : List α} {m : List β}, Paired R l m → (∀ x y, x ∈ l → R x y → S x y) → Paired S l m
  | _, _, .nil, _ => .nil
  | _, _, .cons a r, h => .cons (h _ _ (by simp) a) (pmap r fun x y m e => h x y (by simp [m]) e)
theorem al_tup {K : PySem.W.Frag} {H : Hp} {a b : Addr} {k v : V} (ha : H a = some (.tup [k, v])) (hb : H b = some (.tup [k, v])) (hk : plainV k = true) (hv : plainV v = true) : Alike K H 1 (.ref a) (.ref b) :=
  .tup (.inl (.inl ha)) (.inl (.inl hb)) rfl fun i x y e1 e2 => paired_get (al2 hk hv) e1 e2
theorem valOk_plain {v : V} (h : valOk v = true) : plainV v = true := by
  cases v <;> first | rfl | cases h
theorem eqNil_go {K : PySem.W.Frag} {p e : Addr} {l : List Str} {H : Hp} {Q : VK} (h : SqL K H p (l.map V.str)) (he : SqL K H e []) (ho : ∀ x ∈ l, PyData.strOk x = true) (q : Q (.bl l.isEmpty) H) : rEqD K (.ref p) (.ref e) H Q := by
  refine ⟨.list (l.map .str), .list [], .lst h (dp_strs l), .lst he .nil, strs_shaped l ho, strs_shaped [] (by simp), ?_⟩
  have z : PyData.eqv (.list (l.map PyData.str)) (.list []) = l.isEmpty := by
    cases l with
    | nil => simp [PyData.eqv, PyData.eqvAll]
    | cons x l => simp [PyData.eqv, PyData.eqvAll]
  rw [z]
  exact q
theorem ident_ok {x : Str} (h : isIdent x = true) : PyData.strOk x = true := word_ok (by unfold isIdent at h; simp only [Bool.and_eq_true] at h; exact h.1.1)
theorem kV_txt {t : Tbl} (ht : TOk t) {k : Key} {v : V} (m : (k, v) ∈ t) : kV k = V.str (txt k) := by
  have e := keyId_txt (ht.id _ m)
  dsimp only at e
  rw [e]
  rfl
/-- a table filled name by name -/
theorem new_key {kvs : Tbl} {us : List Str} {i : Nat} {y : Str} (hk : kvs.map (·.1) = (us.take i).map Sum.inr) (nd : us.Nodup) (hy : us[i]? = some y) : valV kvs (.inr y) = none := by
  have hi : i < us.length := (List.getElem?_eq_some_iff.mp hy).1
  cases ev : valV kvs (.inr y) with
  | none => rfl
  | some w =>
    have c := valV_key.mp (show (valV kvs (.inr y)).isSome = true by rw [ev]; rfl)
    rw [hk] at c
    obtain ⟨z, hz, ez⟩ := List.mem_map.mp c
    cases ez
    exact absurd (List.getElem?_eq_some_iff.mp hy).2 (fun e => by
      obtain ⟨j, hj, ej⟩ := List.mem_iff_getElem.mp hz
      rw [List.getElem_take] at ej
      have hj' : j < i := by
        have := List.length_take_le i us
        omega
      have := (List.getElem_inj (h₀ := by omega) (h₁ := hi) nd).mp (ej.trans e.symm)
      omega)
/-- two lists of the same texts are told equal -/
theorem strs_go {K : PySem.W.Frag} {r : Bool} {p q : Addr} {l : List Str} {H : Hp} {Q : VK} (h1 : H p = some (.lst (l.map V.str))) (h2 : H q = some (.lst (l.map V.str))) (k : Q (.bl r) H) : rEqA K r (.ref p) (.ref q) H Q := by
  refine ⟨1, p, q, _, _, by decide, rfl, rfl, .inl (.inl h1), .inl (.inl h2), rfl, fun i x y e1 e2 => ?_, k⟩
  rw [e1] at e2
  cases e2
  rw [List.getElem?_map] at e1
  obtain ⟨z, ez, rfl⟩ := Option.map_eq_some_iff.mp e1
  exact .same rfl
section
variable {X : Cx} {s : Shared} {H : Hp} {scope : Scope} {cenv : Env} {fp : List Addr}
theorem callB_lenL : CallR (X.blk s H scope cenv fp) (.builtin "len") (fun xs H Q => ∃ p ys, xs = [V.ref p] ∧ SqL X.K H p ys ∧ Q (.int ys.length) H) := call_lenL
theorem callB_lenT : CallR (X.blk s H scope cenv fp) (.builtin "len") (fun xs H Q => ∃ p ys, xs = [V.ref p] ∧ SqT X.K H p ys ∧ Q (.int ys.length) H) := call_lenT
theorem opB_eqD (hu : X.A.units + 64 < cLine) : OpR (X.blk s H scope cenv fp) (compareOp .Eq) (rEqD X.K) := op_eqD hu
theorem opB_neD (hu : X.A.units + 64 < cLine) : OpR (X.blk s H scope cenv fp) (compareOp .NotEq) (rNeD X.K) := op_neD hu
end
end Own

set_option Elab.async false
set_option linter.all false
set_option maxRecDepth 100000
set_option maxHeartbeats 4000000
/-! Exceptions that leave a def: made with their fields, raised, taken by a try. -/
namespace Own
open PySem PySem.Spec PyProof.Rows L2
section
variable {X : Cx} {CX : CXT} {k : Nat} {C fI : Addr} {e : Expr} {es : List Expr} {ta : TA} {p pos : Pos} {sp : Sp}
theorem pmkN {x : Str} {fd : FuncData} {ps : List Str} (T : OexC X.K C)
    (iC : PySem.W.findIn X.K (.ref C) "__init__" = some (some (.ref fI)))
    (tI : PySem.W.typeIn X.K (.ref fI) = some (.type "function"))
    (F1 : FnOk X.prog X.w X.K X.mg X.base CX k fI fd ps sp) (hr : Room (k + 1) X.A) (hb : Binds X.K fd ps []) (hx : Passes CX X E0) (hm : X.mg x = some (.ref C)) (hg : Gl X x) (ha : PA X (e :: es) ta)
    (hdb : (x == ("__debug__" : Str)) = false := by decide)
    (he : starEach (e :: es) X.env = (false, eval e X.env) :: starEach es X.env := by rfl)
    (hpl : (backTo pos (starEach es X.env)).any (·.1) = false := by rfl) : L2N.PMk X (.Call (.Name x p) (e :: es) [] pos) (tMkO C sp [] ta) := by
  intro pins s σ H Q I h
  obtain ⟨nm, q, N, bs, bm, sn, sub, ab, col, dd, k0, k1, k2, k3, k5, hC, hbm⟩ := T.cls
  refine wpAny_Call_Name_kw (ld_glob I hg hm ?_ hdb)
  refine PySem.W.callWith_K (h₀ := X.base) I.ok.mod.kin T.kC ?_ he hpl
  refine thn (ha.run pos pins s σ H _ I h) fun us s1 hh => ?_
  obtain ⟨vs, H1, I1, r1, hz, q1⟩ := hh
  refine ⟨I1.kIn, ?_⟩
  show wpAny _ _ (call (.ref C) us) _ _ _
  obtain ⟨hp, g, dr, tk, os⟩ := s1
  generalize hA : hp.objs.size + 1 = a
  have hsz : hp.objs.size ≤ a := by omega
  have hq := q1 a (I1.hok.fresh hsz)
  have kk : ∀ b o, hp.get? b = some o → ((hp.push (PySem.W.kdv_tup us)).push (PySem.HandSPX.excO C hp.objs.size)).get? b = some o :=
    fun b o z => Heap.get?_push_of_some _ (Heap.get?_push_of_some _ z)
  have hget : ((hp.push (PySem.W.kdv_tup us)).push (PySem.HandSPX.excO C hp.objs.size)).get? a = some (PySem.HandSPX.excO C hp.objs.size) := by
    rw [← hA]
    heap_get
  have I2 := I1.laid (t' := tk) (a := a) (o := exo a C none) kk hsz (exo_ok hget)
  have r2 : Vals (V.ref a :: (vs ++ [])) (Value.ref a :: (us ++ [])) := .cons rfl (by simpa using r1)
  have hl : (Value.ref a :: us ++ []).length = ps.length := by
    have z := r2.length
    rw [F1.len _ _ _ _ hq] at z
    exact z.symm
  have hus : us.length ≤ sizeLine := by
    have z := Paired.length r1
    rw [sizeLine_eq]
    omega
  subst hA
  refine wpAny_call (PySem.HandSPX.call_own F.excBase_ValueError (fun Y => PySem.HandSPX.refsVE_contains Y bm hbm) (I1.kIn _ _ hC) (PySem.W.looks_findIn I1.kIn iC) (fun self => PySem.W.bind_fn I1.kIn self tI) hus ?_)
  have bd := hb _ (Value.ref (hp.objs.size + 1) :: us) I2.kIn hl
  refine codeAny_mono (F1.run _ X.stack _ _ _ _ _ _ E0 (hr.make C us []) (I2.env0.make C us []) bd r2 hq) fun r s' hq' => ?_
  cases r with
  | error er => exact hx pins σ _ _ er s' I2 hq'
  | ok fl =>
    cases fl with
    | ret u =>
      obtain ⟨v, H2, os2, bare2, un2, hok2, rv, ev, d, fs, ea, ed, hd1, q2⟩ := hq'
      subst ev
      obtain ⟨h2, g2, d2, t2, os'⟩ := s'
      obtain ⟨t0, G, J, kG, ge, hoe, na⟩ := mk_end0 (d2 := d2) (t2 := t2) I1 hsz kk un2 hok2 os2 bare2 ea ed hd1
      have zn : L2N.Zn (.ref C) (some d) ({ cls := .ref C, dict := some d, data := .fields #[.ref t0, .none, .none, .none, .bool false, .none] } : Obj) := ⟨rfl, rfl, fun ws hw => by cases hw; rfl⟩
      exact ⟨rv, hp.objs.size + 1, _, _, ⟨G, g2, d2, t2, os'⟩, _, .ref C, some d, rfl, J, kG, ge, hoe, zn, rfl, rfl, na, rfl, bare2, raises_own T.exC T.tyC, q2⟩
    | next => exact hq'.elim
    | brk => exact hq'.elim
    | cont => exact hq'.elim
/-- C(v), C(v, u): what is left to say when the fields are known -/
def RZ1 (C : Addr) (f : Str) (v : V) (H : Hp) (Q : XK) : Prop := [v].length ≤ 1000 ∧ ∀ a, H a = none → spE1 C f [.ref a, v] (upd H a (exo a C none))
  (fun z H2 => z = .non ∧ ∃ (d : Addr) (fs : List (Str × V)), H2 a = some (exo a C (some d)) ∧ H2 d = some (exd d fs) ∧ H d = none ∧ Q (.ref C) (some d) (upd (del H2 a) d (.xd fs))) (fun _ _ _ => False)
def RZ2 (C : Addr) (f g : Str) (v u : V) (H : Hp) (Q : XK) : Prop := [v, u].length ≤ 1000 ∧ ∀ a, H a = none → spE2 C f g [.ref a, v, u] (upd H a (exo a C none))
  (fun z H2 => z = .non ∧ ∃ (d : Addr) (fs : List (Str × V)), H2 a = some (exo a C (some d)) ∧ H2 d = some (exd d fs) ∧ H d = none ∧ Q (.ref C) (some d) (upd (del H2 a) d (.xd fs))) (fun _ _ _ => False)
theorem rz1_eq {C : Addr} {f : Str} {te : TE} : tMkO C (spE1 C f) [] (tCons te tNil) = fun σ H Q => te σ H fun v H1 => RZ1 C f v H1 Q := rfl
theorem rz2_eq {C : Addr} {f g : Str} {te tu : TE} : tMkO C (spE2 C f g) [] (tCons te (tCons tu tNil)) = fun σ H Q => te σ H fun v H1 => tu σ H1 fun u H2 => RZ2 C f g v u H2 Q := rfl
theorem del_upd {H : Hp} {a d : Addr} {o1 o2 o3 o4 : HO} (na : H a = none) (hd : d ≠ a) : upd (del (upd (upd (upd H a o1) d o2) a o3) a) d o4 = upd H d o4 := by
  funext b
  by_cases h : b = d
  · rw [h, upd_same, upd_same]
  · rw [upd_ne h, upd_ne h]
    by_cases g : b = a
    · rw [g, del_same, na]
    · rw [del_ne g, upd_ne g, upd_ne h, upd_ne g]
theorem del_upd2 {H : Hp} {a d : Addr} {o1 o2 o3 o4 o5 : HO} (na : H a = none) (hd : d ≠ a) : upd (del (upd (upd (upd (upd H a o1) d o2) a o3) d o5) a) d o4 = upd H d o4 := by
  funext b
  by_cases h : b = d
  · rw [h, upd_same, upd_same]
  · rw [upd_ne h, upd_ne h]
    by_cases g : b = a
    · rw [g, del_same, na]
    · rw [del_ne g, upd_ne h, upd_ne g, upd_ne h, upd_ne g]
theorem rz1_go {C : Addr} {f : Str} {v : V} {H : Hp} {Q : XK} (q : ∀ d, H d = none → Q (.ref C) (some d) (upd H d (.xd [(f, v)]))) : RZ1 C f v H Q :=
  ⟨by show 1 ≤ 1000; decide, fun a na => ⟨a, v, rfl, upd_same, fun dx nd hne => by
    have nd' : H dx = none := by rw [upd_ne hne] at nd; exact nd
    exact ⟨rfl, dx, _, upd_same, by rw [upd_ne hne, upd_same], nd', by rw [del_upd na hne]; exact q dx nd'⟩⟩⟩
theorem rz2_go {C : Addr} {f g : Str} {v u : V} {H : Hp} {Q : XK} (q : ∀ d, H d = none → Q (.ref C) (some d) (upd H d (.xd [(g, u), (f, v)]))) : RZ2 C f g v u H Q :=
  ⟨by show 2 ≤ 1000; decide, fun a na => ⟨a, v, u, rfl, upd_same, fun dx nd hne => by
    have nd' : H dx = none := by rw [upd_ne hne] at nd; exact nd
    exact ⟨rfl, dx, _, by rw [upd_ne hne.symm, upd_same], upd_same, nd', by rw [del_upd2 na hne]; exact q dx nd'⟩⟩⟩
end
/-- what a raising def of ours wishes of its own X -/
theorem takesN {X : Cx} {E : XK} {E₁ : Value → Shared → Prop} (hs : X.stack = X.env :: X.outer) (hf : X.env.frame = some X.env.locals) (hex : X.ex = [])
    (hx : X.xe = fun e s' => wpAny (model X.prog X.w) X.A (leaving X.env e) (fun _ s'' => L2N.CX X.prog X.w X.outer X.H_0 X.s_0 E e s'') E₁ s') : L2N.Takes X (fun cls d _ H => E cls d H) := L2N.takes_of hs hf hex hx
theorem passN {X : Cx} : Passes (L2N.CX X.prog X.w) X E0 := fun _ _ _ _ _ _ _ h => by
  obtain ⟨_, _, _, _, _, _, _, _, _, _, _, _, z⟩ := h
  exact z.elim
theorem takesN0 {X : Cx} : L2N.Takes X (fun _ _ _ _ => False) := fun _ _ x => by
  obtain ⟨_, _, _, _, _, _, _, _, _, _, _, _, _, _, _, _, z⟩ := x
  exact z.elim
/-- a def that may raise keeps its promise -/
theorem okX {P : Program} {w : World} {K : PySem.W.Frag} {mg : Str → Option Value} {base : Heap} {x qual : Str} {st : Stmt} {f : Addr} {fd : FuncData} {N ps : List Str} {k : Nat} {sp : Sp} (F : Fun K x qual st f fd) (S : FnScope N ps (defScope st)) (len : ∀ vs H Q E, sp vs H Q E → vs.length = ps.length)
    (body : ∀ (cdv : Value) (A : Around) (outer : List Env) (s : Shared) (H : Hp) (vs : List V) (Q : VK) (E : XK), Room k (A.deeper (envOfC qual (defScope st) s.heap.objs.size f cdv)) → sp vs H Q E →
      ∃ t, PSs (cxOf (L2N.CX P w) P w K mg base N qual (defScope st) f cdv A outer s H E) (defBody st) t ∧ t { nx := fun _ H' => Q .non H', rt := Q } (start N vs) H) : FnOk P w K mg base (L2N.CX P w) (k + 1) f fd ps sp := by
  obtain ⟨oc, od, kV, doc, pm, an, cdv, ct, osl, rfl, lk, hcd⟩ := F.ex
  refine fn_of lk hcd S len fun A outer s H vs Q E hr hsp => ?_
  exact body cdv A outer s H vs Q E hr hsp
end Own

set_option Elab.async false
set_option linter.all false
set_option maxRecDepth 100000
set_option maxHeartbeats 4000000
/-! A try around an own e[i]; isinstance, fields and == in an except suite. -/
namespace Own
open PySem PySem.Spec PyProof.Rows L2
section
variable {X : Cx} {CX : CXT} {k : Nat} {C f : Addr} {sp : Sp} {E : L2.St → XK}
def tIxS (C : Addr) (sp : Sp) (E : L2.St → XK) (ta tb : TE) : TE := fun σ H Q => ta σ H fun x H1 => tb σ H1 fun y H2 => ∃ a dx fs, x = .ref a ∧ H2 a = some (.ins C dx fs) ∧ sp [x, y] H2 Q (E σ)
theorem pe_ixS {a b : Expr} {ta tb : TE} {pos : Pos} (e : GetC X.K C f) (F : FnR X.prog X.w X.K X.mg X.base CX k f sp) (hr : Room (k + 1) X.A) (hx : ∀ σ, PassesAt CX X σ (E σ)) (ha : PE X a ta) (hb : PE X b tb) (hs : ∀ o i, subscripted b true o i = runValue (.builtin "lifetime.subscript" ⟨[o, i], []⟩)) :
    PE X (.Subscript a b pos) (tIxS C sp E ta tb) := by
  refine ⟨fun pins s σ H Q I h => Subscript_ (binT ha hb I h fun v u s2 x y H2 I2 rx ry q => ?_)⟩
  obtain ⟨c, dx, fs, rfl, hc, q⟩ := q
  cases rx
  obtain ⟨ox, od, J⟩ := ins_at I2 hc
  obtain ⟨m, hF⟩ := I2.fr
  refine PySem.W.sub_K hF I2.ok.mod.kin J e.at_ e.fi e.fn (wpAny_call (codeAny_mono (F X.A.in1 X.stack s2 H2 [.ref c, u] [.ref c, y] Q (E σ) hr.in1 I2.env0.in1 (.cons rfl (.cons ry .nil)) q) fun r s' hq => ?_)) (hs _ _)
  cases r with
  | error er => exact hx σ pins H2 s2 er s' I2 hq
  | ok fl => cases fl with
    | ret u => exact I2.after hq
    | next => exact False.elim hq
    | brk => exact False.elim hq
    | cont => exact False.elim hq
/-- one of two ways to see an operator -/
theorem op_alt {op : Value → Value → Sem Value} {r1 r2 : R2} (h1 : OpR X op r1) (h2 : OpR X op r2) : OpR X op (fun x y H Q => r1 x y H Q ∨ r2 x y H Q) :=
  fun pins s σ H x y v u Q I rx ry h => h.elim (h1 pins s σ H x y v u Q I rx ry) (h2 pins s σ H x y v u Q I rx ry)
end
/-- isinstance(e, c), e the exception that the suite holds, with its dict -/
def rIsX (K : PySem.W.Frag) (a : Addr) (cls : Value) (d : Option Addr) : List V → Hp → VK → Prop := fun xs H Q => ∃ (D dd : Addr) (fs : List (Str × V)) (c : V) (cv : Value) (b : Bool), xs = [.ref a, c] ∧ cls = .ref D ∧ d = some dd ∧ H dd = some (.xd fs) ∧ ExcC K D ∧ (∀ u, RelV c u → u = cv) ∧ PySem.W.kitOne K (.ref D) cv = some b ∧ Q (.bl b) H
section
variable {X : Cx} {a : Addr} {oe : Obj} {cls : Value} {d : Option Addr} {pn : List (Addr × Obj)}
theorem call_isX (hz : L2N.Zn cls d oe) (hf : ∃ vs, oe.data = .fields vs) : CallR (X.suite a ((a, oe) :: pn)) (.builtin "isinstance") (rIsX X.K a cls d) := by
  intro pins s σ H xs us Q I r h
  obtain ⟨D, dd, fs, c, cv, b, rfl, rfl, rfl, hd, C, hcv, e, q⟩ := h
  cases r with
  | cons rx rr =>
    cases rr with
    | cons rt rr =>
      cases rr
      cases rx
      have ec := hcv _ rt
      subst ec
      have cl : (PySem.W.clsIn X.K D).isSome = true := by
        obtain ⟨cd, hc, _⟩ := PySem.W.any_some C.hd
        rw [hc]; rfl
      obtain ⟨ha, _⟩ := I.pin (a, oe) (List.mem_append_left _ List.mem_cons_self)
      obtain ⟨vs, hv⟩ := hf
      obtain ⟨mA, hns, _⟩ := (show ObjOk X.prog X.w H s.heap dd (.xd fs) from I.hok dd _ hd)
      obtain ⟨od, hod, _⟩ := lookIn_ns hns
      have J : PySem.W.InstAt s.heap a oe D (some od) := ⟨ha, hz.1, by unfold PySem.W.notCls; rw [hv] <;> rfl, by rw [hz.2.1]; exact hod⟩
      exact PySem.W.kia_one (PySem.W.kitx_exc cl C.hg C.hk C.hs C.ha C.hn C.ht C.hm) I.kIn J e (fun z => nomatch z) fun tk => ⟨.bl b, H, I.kept (t' := tk) fun _ _ z => z, rfl, q⟩
/-- e.f, e the exception that the suite holds -/
def tXfN (K : PySem.W.Frag) (a : Addr) (cls : Value) (d : Option Addr) (f : Str) (te : TE) : TE := fun σ H Q => te σ H fun x H1 => x = .ref a ∧ ∃ (C dd : Addr) (fs : List (Str × V)) (v : V), cls = .ref C ∧ XfC K C ∧ PySem.W.findIn K (.ref C) f = some none ∧ d = some dd ∧ H1 dd = some (.xd fs) ∧ fs.lookup f = some v ∧ Q v H1
theorem pe_xfN {e : Expr} {te : TE} {pos : Pos} {n : Str} (hz : L2N.Zn cls d oe) (hf : ∃ vs, oe.data = .fields vs) (he : PE (X.suite a ((a, oe) :: pn)) e te)
    (hb : attributeBase e n X.env (eval e X.env) = eval e X.env := by rfl) : PE (X.suite a ((a, oe) :: pn)) (.Attribute e n pos) (tXfN X.K a cls d n te) := by
  refine ⟨fun pins s σ H Q I h => attr_of hb (thn (he.run pins s σ H _ I h) fun u s1 hh => ?_)⟩
  obtain ⟨x, H1, I1, rx, rfl, C, dd, fs, v, rfl, T, hno, rfl, ea, l, q⟩ := hh
  cases rx
  obtain ⟨ha, _⟩ := I1.pin (a, oe) (List.mem_append_left _ List.mem_cons_self)
  obtain ⟨vs, hd⟩ := hf
  obtain ⟨mA, hns, hr⟩ := (show ObjOk X.prog X.w H1 s1.heap dd (.xd fs) from I1.hok dd _ ea)
  obtain ⟨od, ho, hl⟩ := lookIn_ns hns
  have rel := hr n
  rw [l] at rel
  obtain ⟨w, hw, rw'⟩ := RelO.some_of rel
  have J : PySem.W.InstAt s1.heap a oe C (some od) := ⟨ha, hz.1, by unfold PySem.W.notCls; rw [hd] <;> rfl, by rw [hz.2.1]; exact ho⟩
  exact HandSPX.exc_get I1.kIn J T.ga T.gg T.exC (PySem.W.findObj_own T.hdC hno rfl (by rw [hl, hw])) (handed_of rw') ⟨v, H1, I1.tok _, rw', q⟩
theorem hotN (hz : L2N.Zn cls d oe) (hf : ∃ vs, oe.data = .fields vs) : L2H.HotC (X.suite a ((a, oe) :: pn)) := by
  obtain ⟨vs, hd⟩ := hf
  exact ⟨(a, oe), ⟨rfl, vs, hd, hz.2.2 vs hd⟩, List.mem_cons_self⟩
end
section
variable {X : Cx} {CX : CXT} {k : Nat} {C f : Addr} {fd : FuncData} {ps : List Str} {sp : Sp}
/-- == by an own __eq__ while an exception is handled -/
theorem opH_eqO (hc : L2H.HotC X) (e : EqC X.K C f) (F : L2H.FnH X.prog X.w X.K X.mg X.base CX k f fd ps sp) (hb : Binds X.K fd ps []) (hr : L2H.RoomH k X.A) (hu : X.A.units < cLine) (hx : ∀ σ, PassesAt CX X σ E0) : OpR X (compareOp .Eq) (rEqO C sp E0 false) := by
  intro pins s σ H x y v u Q I rx ry h
  obtain ⟨a, dx, fs, b, rfl, rfl, ha, hy, q⟩ := h
  cases rx; cases ry
  obtain ⟨ox, od, J⟩ := ins_at I ha
  obtain ⟨tb, ty, nf⟩ := type_right I e hy
  obtain ⟨m, hF⟩ := I.fr
  show wpAny _ _ (richCompare .Eq (.ref a) (.ref b)) _ _ _
  refine PySem.W.cmp_K (op := .Eq) (tb := tb) hu hF I.ok.mod.kin J ty nf e.eq e.fn ?_
  refine thn (L2H.run_fnH (us := [.ref a, .ref b]) (vs := [.ref a, .ref b]) (E := fun _ => E0) F hr hc hb (hx σ) I (.cons rfl (.cons rfl .nil)) q) fun v t z => ?_
  obtain ⟨z', H', I', rz, r, ez, qz⟩ := z
  subst ez
  cases rz
  exact ⟨.bl r, H', I', rfl, qz⟩
end
/-- a def in such a place -/
theorem okH {P : Program} {w : World} {K : PySem.W.Frag} {mg : Str → Option Value} {base : Heap} {x qual : Str} {st : Stmt} {f : Addr} {fd : FuncData} {N ps : List Str} {k : Nat} {sp : Sp} (F : Fun K x qual st f fd) (S : FnScope N ps (defScope st)) (len : ∀ vs H Q E, sp vs H Q E → vs.length = ps.length)
    (body : ∀ (cdv : Value) (A : Around) (outer : List Env) (s : Shared) (H : Hp) (vs : List V) (Q : VK) (E : XK) (p : Addr × Obj), L2H.Hot1 A p → L2H.RoomH k (A.deeper (envOfC qual (defScope st) s.heap.objs.size f cdv)) → sp vs H Q E →
      ∃ t, PSs (L2H.cxH (L2N.CX P w) P w K mg base N qual (defScope st) f cdv A outer s H E p) (defBody st) t ∧ t { nx := fun _ H' => Q .non H', rt := Q } (start N vs) H) : L2H.FnH P w K mg base (L2N.CX P w) (k + 1) f fd ps sp := by
  obtain ⟨oc, od, kV, doc, pm, an, cdv, ct, osl, rfl, lk, hcd⟩ := F.ex
  refine L2H.fn_ofH lk hcd S len fun A outer s H vs Q E p hp hr hsp => ?_
  exact body cdv A outer s H vs Q E p hp hr hsp
theorem passAtN {X : Cx} {σ : L2.St} : PassesAt (L2N.CX X.prog X.w) X σ E0 := fun _ _ _ _ _ _ h => by
  obtain ⟨_, _, _, _, _, _, _, _, _, _, _, _, z⟩ := h
  exact z.elim
theorem opX_eqD {X : Cx} {a : Addr} {pn : List (Addr × Obj)} (hu : X.A.units + 64 < cLine) : OpR (X.suite a pn) (compareOp .Eq) (rEqD X.K) := op_eqD (X := X.suite a pn) hu
theorem opX_neD {X : Cx} {a : Addr} {pn : List (Addr × Obj)} (hu : X.A.units + 64 < cLine) : OpR (X.suite a pn) (compareOp .NotEq) (rNeD X.K) := op_neD (X := X.suite a pn) hu
end Own

set_option Elab.async false
set_option linter.all false
set_option maxRecDepth 100000
set_option maxHeartbeats 4000000
/-! len(x), bool(x), str(x) by own methods. -/
namespace Own
open PySem PySem.Spec PyProof.Rows L2
structure LenC (K : PySem.W.Frag) (C f : Addr) : Prop where
  at_ : PySem.W.findIn K (.ref C) "__len__" = some (some (.ref f))
  fn : PySem.W.isFn K (.ref f) = true
  nb : PySem.W.findIn K (.ref C) "__bool__" = some none
def lenB (K : PySem.W.Frag) (x : Str) : Bool := decide (PySem.W.findIn K (.ref (He.ga K x)) "__len__" = some (some (.ref (He.ma K (He.ga K x) "__len__")))) && (PySem.W.isFn K (.ref (He.ma K (He.ga K x) "__len__")) && decide (PySem.W.findIn K (.ref (He.ga K x)) "__bool__" = some none))
theorem len_of {K : PySem.W.Frag} {x : Str} (c : lenB K x = true) : LenC K (He.ga K x) (He.ma K (He.ga K x) "__len__") := by
  simp only [lenB, Bool.and_eq_true, decide_eq_true_eq] at c
  exact ⟨c.1, c.2.1, c.2.2⟩
structure StrC (K : PySem.W.Frag) (C f : Addr) : Prop where
  at_ : PySem.W.findIn K (.ref C) "__str__" = some (some (.ref f))
  fn : PySem.W.isFn K (.ref f) = true
def strB (K : PySem.W.Frag) (x : Str) : Bool := decide (PySem.W.findIn K (.ref (He.ga K x)) "__str__" = some (some (.ref (He.ma K (He.ga K x) "__str__")))) && PySem.W.isFn K (.ref (He.ma K (He.ga K x) "__str__"))
theorem str_of {K : PySem.W.Frag} {x : Str} (c : strB K x = true) : StrC K (He.ga K x) (He.ma K (He.ga K x) "__str__") := by
  simp only [strB, Bool.and_eq_true, decide_eq_true_eq] at c
  exact ⟨c.1, c.2⟩
section
variable {prog : Program} {w : World} {A : Around} {E : Value → Shared → Prop} {s : Shared} {K : PySem.W.Frag} {x C f : Addr} {ox : Obj} {od : Option Obj}
def CountBack (Q : Int → Shared → Prop) (v : Value) (t : Shared) : Prop := ∃ n u, v = .int n u ∧ (0 ≤ n ∧ n < 2 ^ 63) ∧ ∀ tk, Q n { t with toks := tk }
/-- the body of len over an own instance -/
theorem len_body {Q : Int → Shared → Prop} (X : K.In s.heap) (J : PySem.W.InstAt s.heap x ox C od) (c : LenC K C f) (go : wpAny (model prog w) A (call (.ref f) [.ref x]) (CountBack Q) E s) :
    wpAny (model prog w) A (Builtin.«len» ⟨[.ref x], []⟩) (fun fin s' => ∃ n u, fin = .done (.ret (.int n u)) ∧ Q n s') E s := by
  unfold Builtin.«len»
  refine wpAny_bind (m := oneArg "len" _) (wpAny_pure ?_)
  refine wpAny_bind (m := callSpecial? (.ref x) (Str.ofString "__len__")) (PySem.W.special_fn X J c.at_ (beq_iff_eq.mp c.fn) (thn go fun r s' hr => ?_))
  obtain ⟨n, u, rfl, ⟨h0, h1⟩, hq⟩ := hr
  refine wpAny_bind (wpAny_holding (wpAny_pure (wpAny_bind (wpAny_letGo ?_))))
  show wpAny _ _ (if n < 0 then _ else _) _ _ _
  rw [if_neg (by omega)]
  show wpAny _ _ (if n ≥ 2 ^ 63 then _ else _) _ _ _
  rw [if_neg (by omega)]
  exact wpAny_bind (wpAny_mkInt (wpAny_pure ⟨n, _, rfl, hq _⟩))
theorem truthy_len {Q : Bool → Shared → Prop} (X : K.In s.heap) (J : PySem.W.InstAt s.heap x ox C od) (c : LenC K C f) (go : wpAny (model prog w) A.in1 (call (.ref f) [.ref x]) (CountBack fun n => Q (n != 0)) E s) :
    wpAny (model prog w) A (truthy (.ref x)) Q E s := by
  have key : wpAny (model prog w) A (runValue (.builtin "len" ⟨[.ref x], []⟩)) (fun r s' => ∃ n u, r = .int n u ∧ Q (n != 0) s') E s := by
    refine wpAny_runValue (codeAny_builtin entry_len ?_)
    rw [Around.under_plainId plain_len _]
    exact thn (len_body X J c go) fun fin s' h' => by obtain ⟨n, u, rfl, hq⟩ := h'; exact ⟨n, u, rfl, hq⟩
  unfold truthy
  refine wpAny_bind (m := callSpecial? (.ref x) (Str.ofString "__bool__")) (wpAny_bind (wpAny_bind (J.type.here ((PySem.W.looks_findIn X c.nb).here (wpAny_pure ?_)))))
  refine wpAny_bind (wpAny_bind (J.type.here ((PySem.W.looks_findIn X c.at_).here ?_)))
  refine wpAny_bind (thn key fun r s' h' => ?_)
  obtain ⟨n, u, rfl, hq⟩ := h'
  exact wpAny_pure hq
theorem bool_new (x : Value) : MeetsIn prog w (Builtin.«bool.__new__» ⟨[.type "bool", x], []⟩) (fun A R s => wpAny (model prog w) A.in1 (truthy x) (fun b s' => R (.ok (.ret (.bool b))) s') (fun e s' => R (.error e) s') s) := by
  intro A R s h
  obtain ⟨hp, g, d, tk, os⟩ := s
  have f1 := F.conv_sub_bool
  repeat (any_goals (first | assumption | (with_reducible refine thn h fun b s' hb => ?_) | wp_step))
  all_goals first | exact hb | skip
theorem call_bool_any {x : Value} {Q : Value → Shared → Prop} (h : wpAny (model prog w) A.in1.in1 (truthy x) (fun b s' => Q (.bool b) s') E s) : wpAny (model prog w) A (call (.type "bool") [x]) Q E s :=
  callType_newIn F.called_bool F.newNe_bool (F.typeCall_bool_1 x) (F.newCall_bool_1 x) (fun obj => F.args_object_init_2 obj x) F.entry_bool_new (bool_new x) (thn h fun b s' q => ⟨rfl, q⟩)
end
section
variable {X : Cx} {CX : CXT} {k : Nat} {C f : Addr} {sp : Sp} {E : XK}
def rLenO (C : Addr) (sp : Sp) (E : XK) : List V → Hp → VK → Prop := fun xs H Q => ∃ a dx fs, xs = [V.ref a] ∧ H a = some (.ins C dx fs) ∧ sp [.ref a] H (fun v H' => ∃ n : Nat, v = .int n ∧ n ≤ 1000000 ∧ Q (.int n) H') E
theorem call_lenO (c : LenC X.K C f) (F : FnR X.prog X.w X.K X.mg X.base CX k f sp) (hr : Room (k + 1) X.A) (hx : Passes CX X E) : CallR X (.builtin "len") (rLenO C sp E) := by
  intro pins s σ H xs us Q I r h
  obtain ⟨a, dx, fs, rfl, ha, q⟩ := h
  obtain rfl := Vals.ref1 r
  obtain ⟨ox, od, J⟩ := ins_at I ha
  obtain ⟨m, hF⟩ := I.fr
  refine PySem.W.len_K hF I.ok.mod.kin J c.at_ c.fn (wpAny_call (codeAny_mono (F X.A.in1 X.stack s H [.ref a] [.ref a] _ E hr.in1 I.env0.in1 (.cons rfl .nil) q) fun r s' hq => ?_))
  cases r with
  | error er => exact hx pins σ H s er s' I hq
  | ok fl => cases fl with
    | ret u =>
      obtain ⟨z', H', I', rz, n, ez, hn, qz⟩ := I.after hq
      subst ez
      obtain ⟨t, rfl⟩ := rz
      exact ⟨⟨by omega, by omega⟩, .int n, H', I'.tok _, ⟨_, rfl⟩, qz⟩
    | next => exact False.elim hq
    | brk => exact False.elim hq
    | cont => exact False.elim hq
def rBoolO (C : Addr) (sp : Sp) (E : XK) : List V → Hp → VK → Prop := fun xs H Q => ∃ a dx fs, xs = [V.ref a] ∧ H a = some (.ins C dx fs) ∧ sp [.ref a] H (fun v H' => ∃ n : Nat, v = .int n ∧ n ≤ 1000000 ∧ Q (.bl (decide (n ≠ 0))) H') E
theorem call_boolO (c : LenC X.K C f) (F : FnR X.prog X.w X.K X.mg X.base CX k f sp) (hr : Room (k + 3) X.A) (hx : Passes CX X E) : CallR X (.type "bool") (rBoolO C sp E) := by
  intro pins s σ H xs us Q I r h
  obtain ⟨a, dx, fs, rfl, ha, q⟩ := h
  obtain rfl := Vals.ref1 r
  obtain ⟨ox, od, J⟩ := ins_at I ha
  refine call_bool_any (truthy_len I.kIn J c (wpAny_call (codeAny_mono (F X.A.in1.in1.in1 X.stack s H [.ref a] [.ref a] _ E hr.in1.in1.in1 I.env0.in1.in1.in1 (.cons rfl .nil) q) fun r s' hq => ?_)))
  cases r with
  | error er => exact hx pins σ H s er s' I hq
  | ok fl => cases fl with
    | ret u =>
      obtain ⟨z', H', I', rz, n, ez, hn, qz⟩ := I.after hq
      subst ez
      obtain ⟨t, rfl⟩ := rz
      refine ⟨_, _, rfl, ⟨by omega, by omega⟩, fun tk => ⟨.bl (decide (n ≠ 0)), H', I'.tok _, ?_, qz⟩⟩
      show Value.bool ((n : Int) != 0) = Value.bool (decide (n ≠ 0))
      congr 1
      cases n <;> simp <;> omega
    | next => exact False.elim hq
    | brk => exact False.elim hq
    | cont => exact False.elim hq
def rStrO (C : Addr) (sp : Sp) (E : XK) : List V → Hp → VK → Prop := fun xs H Q => ∃ a dx fs, xs = [V.ref a] ∧ H a = some (.ins C dx fs) ∧ sp [.ref a] H (fun v H' => ∃ y : Str, v = .str y ∧ Q (.str y) H') E
theorem call_strO (c : StrC X.K C f) (F : FnR X.prog X.w X.K X.mg X.base CX k f sp) (hr : Room (k + 2) X.A) (hx : Passes CX X E) : CallR X (.type "str") (rStrO C sp E) := by
  intro pins s σ H xs us Q I r h
  obtain ⟨a, dx, fs, rfl, ha, q⟩ := h
  obtain rfl := Vals.ref1 r
  obtain ⟨ox, od, J⟩ := ins_at I ha
  have un := hr.in1.in1.un
  refine PySem.W.kso_call (by omega) I.kIn J c.at_ c.fn (wpAny_call (codeAny_mono (F X.A.in1.in1 X.stack s H [.ref a] [.ref a] _ E hr.in1.in1 I.env0.in1.in1 (.cons rfl .nil) q) fun r s' hq => ?_))
  cases r with
  | error er => exact hx pins σ H s er s' I hq
  | ok fl => cases fl with
    | ret u =>
      obtain ⟨z', H', I', rz, y, ez, qz⟩ := I.after hq
      subst ez
      obtain ⟨t, rfl⟩ := rz
      exact ⟨.str y, H', I', ⟨t, rfl⟩, qz⟩
    | next => exact False.elim hq
    | brk => exact False.elim hq
    | cont => exact False.elim hq
end
theorem call_alt {X : Cx} {f : Value} {r1 r2 : List V → Hp → VK → Prop} (h1 : CallR X f r1) (h2 : CallR X f r2) : CallR X f (fun xs H Q => r1 xs H Q ∨ r2 xs H Q) :=
  fun pins s σ H xs us Q I r h => h.elim (h1 pins s σ H xs us Q I r) (h2 pins s σ H xs us Q I r)
/-- [(y, f y) for y in ys] -/
theorem lcPairs_go {K : PySem.W.Frag} {tl : TE} {j : Nat} {te : TE} {σ : L2.St} {H : Hp} {Q : VK} {a : Addr} {ys : List Str} (f : Str → V) (ht : ∀ Q : VK, Q (.ref a) H → tl σ H Q) (ha : SqL K H a (ys.map V.str)) (hz : ys.length ≤ 100000)
    (hte : ∀ y H' (R : VK), y ∈ ys → Same H H' → (∀ T H2, H' T = none → Same H' H2 → H2 T = some (.tup [.str y, f y]) → R (.ref T) H2) → te ((wipe σ [j]).set j (some (.str y))) H' R)
    (q : ∀ D H' ts, H D = none → Same H H' → H' D = some (.lst (ts.map V.ref)) → Paired (fun (t : Addr) (y : Str) => H' t = some (.tup [.str y, f y])) ts ys → Q (.ref D) H') : tLc (iList K tl) (gName j) tYes te [j] σ H Q := by
  refine lcI_go (K := K) (fun D i acc H' => ∃ us : List Addr, acc = us.map V.ref ∧ Paired (fun (t : Addr) (y : Str) => H' t = some (.tup [.str y, f y])) us (ys.take i) ∧ ExT D H H' ∧ ∀ t ∈ us, t ≠ D) ht ha (fun D i acc H' hi p hD => by obtain ⟨us, _, _, v, _⟩ := p; exact sq_same (ExT.toSame hD v) ha) (fun D H' hD s r => ⟨[], rfl, .nil, Same.exT s, by simp⟩) (fun D i v acc H' hxi hD hacc hla p => ?_) (fun D H9 acc hD hacc hla p => ?_)
  · obtain ⟨us, rfl, pu, vv, nu⟩ := p
    rw [List.getElem?_map] at hxi
    obtain ⟨y, hy, rfl⟩ := Option.map_eq_some_iff.mp hxi
    have hi : i < ys.length := (List.getElem?_eq_some_iff.mp hy).1
    refine hte y H' _ (List.mem_of_getElem? hy) (ExT.toSame hD vv) fun T H4 nT sT rT => ?_
    have hT : T ≠ D := by
      rintro rfl
      rw [hacc] at nT
      cases nT
    refine ⟨_, sT _ _ hacc, ?_, _, upd_same, ?_, us ++ [T], by rw [List.map_append]; rfl, ?_, exT_upd (vv.same sT), ?_⟩
    · rw [List.length_map] at hla ⊢
      exact Nat.lt_of_le_of_lt hla (Nat.lt_of_lt_of_le hi (Nat.le_trans hz (by decide)))
    · rw [List.length_append]
      exact Nat.succ_le_succ hla
    · rw [List.take_add_one, hy]
      refine paired_app (pmap pu fun t y m e => ?_) (.cons ?_ .nil)
      · rw [upd_ne (nu t m)]
        exact sT _ _ e
      · rw [upd_ne hT]
        exact rT
    · intro t mt
      rcases List.mem_append.mp mt with m | m
      · exact nu t m
      · have : t = T := by simpa using m
        rw [this]
        exact hT
  · obtain ⟨us, rfl, pu, vv, nu⟩ := p
    rw [List.length_map, List.take_length] at pu
    exact q D H9 us hD (ExT.toSame hD vv) hacc pu
/-- the rows of a sorted table, told equal to pairs made of it -/
theorem rowsV_go {K : PySem.W.Frag} {H : Hp} {l1 l2 : Addr} {ts us : List Addr} {X : Tbl} {f : Str → V} {ys : List Str} {r : Bool} {Q : VK} (h1 : H l1 = some (.lst (ts.map V.ref))) (p1 : Paired (fun (t : Addr) (q : Key × V) => H t = some (.tup [kV q.1, q.2])) ts (byN X ys)) (h2 : H l2 = some (.lst (us.map V.ref))) (p2 : Paired (fun (t : Addr) (y : Str) => H t = some (.tup [.str y, f y])) us ys)
    (hv : ∀ y ∈ ys, valV X (.inr y) = some (f y) ∧ plainV (f y) = true) (q : Q (.bl r) H) : rEqA K r (.ref l1) (.ref l2) H Q := by
  have lt : ts.length = ys.length := by
    have z := Paired.length p1
    unfold byN at z
    rw [List.length_map] at z
    exact z
  have lu : us.length = ys.length := Paired.length p2
  refine ⟨1, l1, l2, _, _, by decide, rfl, rfl, .inl (.inl h1), .inl (.inl h2), by rw [List.length_map, List.length_map]; omega, fun i a b e1 e2 => ?_, q⟩
  rw [List.getElem?_map] at e1 e2
  obtain ⟨ta, ea, rfl⟩ := Option.map_eq_some_iff.mp e1
  obtain ⟨tb, eb, rfl⟩ := Option.map_eq_some_iff.mp e2
  have hi : i < ys.length := by
    have := (List.getElem?_eq_some_iff.mp ea).1
    omega
  have ey : ys[i]? = some ys[i] := List.getElem?_eq_getElem hi
  obtain ⟨e3, ov⟩ := hv _ (List.getElem_mem hi)
  have q1 := paired_get p1 ea (show (byN X ys)[i]? = some (Sum.inr ys[i], f ys[i]) by unfold byN; rw [List.getElem?_map, ey]; show some (Sum.inr ys[i], (valV X (Sum.inr ys[i])).getD .non) = _; rw [e3]; rfl)
  have q2 := paired_get p2 eb ey
  exact al_tup q1 q2 rfl ov
theorem forLC_go {K : PySem.W.Frag} {tl : TE} {j : Nat} {tb : TS} {D : Ends} {σ : L2.St} {H : Hp} (C : Addr → Hp → Prop) (ht : ∀ R : VK, (∀ a H1, C a H1 → R (.ref a) H1) → tl σ H R) (k : ∀ a H1, C a H1 → tFor (iList K fun _ H R => R (.ref a) H) (gName j) tb D σ H1) : tFor (iList K tl) (gName j) tb D σ H := ht _ fun a H1 c => k a H1 c
theorem dispC_go {x : Str} {v : V} {σ : L2.St} {H : Hp} {Q : VK} (k : ∀ p H', H p = none → Same H H' → H' p = some (.dK [(Sum.inr x, v)]) → Q (.ref p) H') : tDisp [(tC (.str x), tC v)] σ H Q := by
  intro p np
  refine ⟨upd_same, [(Sum.inr x, v)], rfl, by simp, k p _ np (fun b o e => ?_) upd_same⟩
  have hb : b ≠ p := by rintro rfl; rw [np] at e; cases e
  rw [upd_ne hb, upd_ne hb]
  exact e
end Own

set_option Elab.async false
set_option linter.all false
set_option maxRecDepth 100000
set_option maxHeartbeats 4000000
/-! A lambda handed to a def beside one more name; a def whose code object is known; the end with tables. -/
namespace Own
open PySem PySem.Spec PyProof.Rows L2
theorem flying_mono {B h : Heap} {l : List Env} {e : Addr} {Z Z' : Obj → Prop} (m : ∀ o, Z o → Z' o) (f : HandSPX.FlyingZ B l e Z h) : HandSPX.FlyingZ B l e Z' h := by
  obtain ⟨a, b, c, oe, vs, T, oT, ts, h1, h2, r⟩ := f
  exact ⟨a, b, c, oe, vs, T, oT, ts, h1, m _ h2, r⟩
theorem cx_of {P : Program} {w : World} {outer : List Env} {H : Hp} {s : Shared} {E : XK} {u : Value} {s' : Shared} (c : L2N.CX P w outer H s E u s') : L2.CX P w outer H s E u s' := by
  obtain ⟨a, B, H', cls, d, e, fl, r⟩ := c
  exact ⟨a, B, H', cls, d, e, flying_mono (fun _ z => L2N.Zn.zc z) fl, r⟩
theorem fnL {P : Program} {w : World} {K : PySem.W.Frag} {mg : Str → Option Value} {base : Heap} {k : Nat} {f : Addr} {fd : FuncData} {ps : List Str} {sp : Sp} (F : FnOk P w K mg base (L2N.CX P w) k f fd ps sp) : FnOk P w K mg base (L2.CX P w) k f fd ps sp :=
  ⟨F.len, fun A outer s H args us vs Q E hr e0 hb r hsp => codeAny_mono (F.run A outer s H args us vs Q E hr e0 hb r hsp) fun r s' h => by
    cases r with
    | error e => exact cx_of h
    | ok fl => cases fl <;> exact h⟩
/-- a def whose code object is at c -/
theorem okC {P : Program} {w : World} {K : PySem.W.Frag} {mg : Str → Option Value} {base : Heap} {x qual : Str} {st : Stmt} {f c : Addr} {fd : FuncData} {N ps : List Str} {k : Nat} {sp : Sp} (F : Fun K x qual st f fd) (S : FnScope N ps (defScope st)) (hc : fd.code = .ref c) (len : ∀ vs H Q E, sp vs H Q E → vs.length = ps.length)
    (body : ∀ (A : Around) (outer : List Env) (s : Shared) (H : Hp) (vs : List V) (Q : VK) (E : XK), Room k (A.deeper (envOfC qual (defScope st) s.heap.objs.size f (.ref c))) → sp vs H Q E →
      ∃ t, PSs (cxOf CX0 P w K mg base N qual (defScope st) f (.ref c) A outer s H E).nox (defBody st) t ∧ t { nx := fun _ H' => Q .non H', rt := Q } (start N vs) H) : FnOk P w K mg base CX0 (k + 1) f fd ps sp := by
  obtain ⟨oc, od, kV, doc, pm, an, cdv, ct, osl, rfl, lk, hcd⟩ := F.ex
  obtain rfl : cdv = .ref c := hc
  refine fn_of lk hcd S len fun A outer s H vs Q E hr hsp => ?_
  obtain ⟨t, h, q⟩ := body A outer s H vs Q E hr hsp
  exact ⟨t, h.nox, q⟩
theorem code_of {K : PySem.W.Frag} {x qual : Str} {st : Stmt} {p : Str × Option Str} {fd : FuncData} (F : Fun K x qual st (He.fAd K p) fd) : fd.code = .ref (He.codeOf K p) := by
  obtain ⟨oc, od, kV, doc, pm, an, cdv, ct, osl, rfl, lk, hcd⟩ := F.ex
  obtain ⟨c, e⟩ := He.codeIn_ref hcd
  have e2 := He.codeOf_eq lk (show _ = Value.ref c from e)
  rw [e2]
  exact e
section
variable {X : Cx} {pins : List (Addr × Obj)} {σ : L2.St} {H : Hp} {s : Shared}
/-- a name read where the state is known to stay -/
theorem ld_var {E : Value → Shared → Prop} {i : Nat} {x : Str} {pos : Pos} {v : V} (I : Inv X pins σ H s) (hN : X.N[i]? = some x) (hv : Vis X.env.scope x) (e : σ[i]? = some (some v)) (hd : (x == ("__debug__" : Str)) = false := by decide) (hcd : (x == ("__classdict__" : Str)) = false := by decide) :
    ∃ u, RelV v u ∧ ∀ Q : Value → Shared → Prop, Q u s → wpAny (model X.prog X.w) X.A (eval (.Name x pos) X.env) Q E s := by
  obtain ⟨m, hn, hl⟩ := I.loc
  obtain ⟨u, r, l⟩ := hl i x v hN e hv
  refine ⟨u, r, fun Q fin => ?_⟩
  rcases l with ⟨hk, hm⟩ | ⟨hk, c, hc, hcell⟩
  · exact wpAny_Name (wpAny_loadName_local I.ok.kind hk hn hm fin) hd
  · rcases hk with hk | hk
    · exact wpAny_Name (wpAny_loadName_cell I.ok.kind hk hc hcell fin) hd
    · exact wpAny_Name (wpAny_loadName_free I.ok.kind hk hc hcell fin hcd) hd
end
/-- a parameter that holds a lambda, called; what leaves it may be told with the slots of the frame -/
theorem pe_actS {X : Cx} {pins : List (Addr × Obj)} {σ : L2.St} {H : Hp} {s : Shared} {CXg : CXT} {Eg : XK} {Ng : List Str} {qg : Str} {sg : Scope} {g f c' : Addr} {cdg pm ctv : Value} {params : Arguments} {body : Expr} {scope : Scope} {k i : Nat} {a : Str} {pn : List (Addr × Obj)} {xe : Value → Shared → Prop} {Ew : L2.St → XK} {tb : XK → TE} {p1 p2 : Pos}
    (I : Inv X pins σ H s) (L : LamX.LamS X.env.scope scope) (hf : s.heap.get? f = some (PySem.W.kla_obj "<lambda>" (X.env.qual ++ "<lambda>") params body scope (cloFrom X.env.cells scope.names []) pm c' ctv)) (hfn : H f = none) (hfr : f ∉ frs X.stack)
    (hbind : ∀ (q : Str) (cl : List (Str × Addr)) (pm cv ctv : Value), bindArgs (PySem.W.kla_fn "<lambda>" q params body scope cl pm cv ctv) ⟨[], []⟩ = pure [])
    (hx : ∀ σ, PassesAt (L2.CX X.prog X.w) ((cxOf CXg X.prog X.w X.K X.mg X.base Ng qg sg g cdg X.A X.stack s H Eg).tr pn xe) σ (Ew σ)) (hr : Room (k + 1) (X.A.deeper (envOfC qg sg s.heap.objs.size g cdg)))
    (hbody : ∀ (A : Around) (outer : List Env) (s : Shared) (H : Hp) (E : XK), Room k (A.deeper (LamX.lamEnv X scope s.heap.objs.size f c')) → PE (LamX.lamCx X A outer s H E scope f c') body (tb E))
    (hN : Ng[i]? = some a) (hv : Vis sg a) (hd : (a == ("__debug__" : Str)) = false) (hcd : (a == ("__classdict__" : Str)) = false) :
    PE ((cxOf CXg X.prog X.w X.K X.mg X.base Ng qg sg g cdg X.A X.stack s H Eg).tr pn xe) (.Call (.Name a p1) [] [] p2)
      (fun σZ HZ Q => σZ[i]? = some (some (.ref f)) ∧ HZ c' = some (LamX.CodeO c' (X.env.qual ++ "<lambda>")) ∧ tb (Ew σZ) σ HZ Q) := by
  refine ⟨fun pinsZ sZ σZ HZ Q J ⟨hs, hc, ht⟩ => ?_⟩
  obtain ⟨u, ru, ld⟩ := ld_var (E := xe) (pos := p1) J hN hv hs hd hcd
  obtain rfl : u = Value.ref f := ru
  refine wpAny_Call_Name_kw (ld _ ?_)
  have here := J.base.keep f _ hf hfn hfr (fun z => nomatch (show f ∈ ([] : List Addr) from z))
  obtain ⟨⟨oc, vs, t, o1, o2, o3⟩, _, _⟩ := J.hok c' _ hc
  have run : codeAny (model X.prog X.w) (X.A.deeper (envOfC qg sg s.heap.objs.size g cdg)) (.call (.ref f) ⟨[], []⟩) (CR (L2.CX X.prog X.w) (envOfC qg sg s.heap.objs.size g cdg :: X.stack) X.prog X.w HZ sZ Q (Ew σZ)) sZ := by
    refine PySem.W.kla_callFunE hr.depth here rfl L.co L.gen rfl ⟨c', oc, vs, t, rfl, o1, o2, o3⟩ ?_
    rw [hbind]
    refine wpAny_pure (wpAny_newFunctionEnv (fun y hy => (L.own y hy).2) (fun y hy => absurd hy (by simp)) (fun h1 ns sb => ⟨J.nolimit.fresh _ sb, ?_⟩) L.kind)
    have stay : ∀ b o, sZ.heap.get? b = some o → h1.get? b = some o := fun b o e => sb.extBut b o (Nat.ne_of_lt (Heap.lt_size e)) (Heap.get?_push_of_some _ e)
    refine PySem.W.kla_codeExpr (wpAny_mono ((hbody _ _ sZ HZ (Ew σZ) (hr.deeper _)).run [] _ _ HZ Q (LamX.lam_start2 (tk := sZ.toks + ([] : List (Str × Value)).length) I L J.env0 hr.hd J.base ns stay) ht) (fun v s' z => ?_) fun e s' z => z)
    obtain ⟨w', H', J', rv, q⟩ := z
    exact ⟨w', H', J'.os, J'.bare, J'.base, J'.hok, rv, q⟩
  refine PySem.W.callWith_F0 ⟨_, _, _, _, here⟩ (wpAny_call (codeAny_mono run fun r s' z => ?_))
  cases r with
  | error e => exact hx σZ pinsZ HZ sZ e s' J z
  | ok fl => cases fl with
    | ret u => exact J.after z
    | next => exact False.elim z
    | brk => exact False.elim z
    | cont => exact False.elim z
/-- what the def does with the lambda at its first parameter and the value at its second -/
def Gives2 (X : Cx) (Ng : List Str) (x : Str) (sg : Scope) (g : Addr) (bg : List Stmt) (a : Str) (k : Nat) (q : Str) (TT : (XK → Hp → VK → Prop) → V → Hp → VK → Prop) : Prop :=
  ∀ (cdg : Value) (f c' : Addr) (s : Shared) (H : Hp) (v : V) (Q : VK) (tl : XK → Hp → VK → Prop),
    (∀ (W : WX) (pn : List (Addr × Obj)) (xe : Value → Shared → Prop) (p1 p2 : Pos), L2.Takes ((cxOf CX0 X.prog X.w X.K X.mg X.base Ng x sg g cdg X.A X.stack s H C8.E0).tr pn xe) W →
      PE ((cxOf CX0 X.prog X.w X.K X.mg X.base Ng x sg g cdg X.A X.stack s H C8.E0).tr pn xe) (.Call (.Name a p1) [] [] p2) (fun σZ HZ Q => σZ[0]? = some (some (.ref f)) ∧ HZ c' = some (LamX.CodeO c' q) ∧ tl (WE W σZ) HZ Q)) →
    H c' = some (LamX.CodeO c' q) → Room k (X.A.deeper (envOfC x sg s.heap.objs.size g cdg)) → TT tl v H Q →
    ∃ t, PSs (cxOf CX0 X.prog X.w X.K X.mg X.base Ng x sg g cdg X.A X.stack s H C8.E0).nox bg t ∧ t { nx := fun _ H' => Q .non H', rt := Q } (L2.start Ng [.ref f, v]) H
def tLam2 (T : List (Addr × Str)) (j : Nat) (TT : (XK → Hp → VK → Prop) → V → Hp → VK → Prop) (t : XK → TE) : TE := fun σ H Q => LamX.Tabs T H ∧ ∃ v, σ[j]? = some (some v) ∧ ∀ H1, LamX.ExtN H H1 → LamX.Tabs T H1 → TT (fun E H' Q' => t E σ H' Q') v H1 Q
/-- x(lambda: body, y) -/
theorem pe_lam2 {X : Cx} {T : List (Addr × Str)} {TT : (XK → Hp → VK → Prop) → V → Hp → VK → Prop} {x a b y : Str} {g c P : Addr} {k j : Nat} {st : Stmt} {fd : FuncData} {Ng : List Str}
    {params : Arguments} {body : Expr} {scope : Scope} {t : XK → TE} {p lpos py pos : Pos} (hg : Gl X x) (hm : X.mg x = some (.ref g)) (F : Fun X.K x x st g fd) (hb : L2.Binds X.K fd [a, b] []) (Sg : FnScope Ng [a, b] (defScope st)) (hNg : Ng[0]? = some a) (hva : Vis (defScope st) a)
    (hG : Gives2 X Ng x (defScope st) g (defBody st) a (k + 1) (X.env.qual ++ "<lambda>") TT) (hN : X.N[j]? = some y) (hv : Vis X.env.scope y)
    (TB : LamX.TabB X.base X.mg c P) (hcode : X.env.code = .ref c) (hmT : (P, X.env.qual ++ "<lambda>") ∈ T) (hu : ∀ p ∈ T, p.1 = P → p.2 = X.env.qual ++ "<lambda>") (hr : Room (k + 2) X.A) (L : LamX.LamS X.env.scope scope) (hdef : defaultsOf params X.env = ([], []))
    (hbind : ∀ (q : Str) (cl : List (Str × Addr)) (pm cv ctv : Value), bindArgs (PySem.W.kla_fn "<lambda>" q params body scope cl pm cv ctv) ⟨[], []⟩ = pure [])
    (hbody : ∀ (A : Around) (outer : List Env) (s : Shared) (H : Hp) (E : XK) (f c' : Addr), Room k (A.deeper (LamX.lamEnv X scope s.heap.objs.size f c')) → PE (LamX.lamCx X A outer s H E scope f c') body (t E))
    (hdb : (x == ("__debug__" : Str)) = false := by decide) (hd : (a == ("__debug__" : Str)) = false := by decide) (hcd : (a == ("__classdict__" : Str)) = false := by decide) (hyd : (y == ("__debug__" : Str)) = false := by decide) (hycd : (y == ("__classdict__" : Str)) = false := by decide) :
    PE X (.Call (.Name x p) [.Lambda params body scope lpos, .Name y py] [] pos) (tLam2 T j TT t) := by
  refine ⟨fun pins s σ H Q I h => ?_⟩
  obtain ⟨hT, v, hy, h⟩ := h
  obtain ⟨oc, od, kV, doc, pm, an, cdv, ct, osl, rfl, lk, hcg⟩ := F.ex
  refine wpAny_Call_Name_kw (ld_glob I hg hm ?_ hdb)
  refine PySem.W.callWith_K (h₀ := X.base) I.ok.mod.kin F.kp ?_ (by rfl) (by rfl)
  show wpAny _ _ (spliced ((false, eval (.Lambda params body scope lpos) X.env) :: (false, eval (.Name y py) X.env) :: backTo pos (starEach [] X.env))) _ _ s
  refine Calls.spliced_cons (LamX.lam_make2 I TB hcode hmT hu hT hdef (L.has I.ok) fun f c' pm' ctv H1 s' I1 eN T1 hf hfn hfr hco => ?_)
  obtain ⟨u, ru, ld⟩ := ld_var (E := X.xe) (pos := py) I1 hN hv hy hyd hycd
  refine Calls.spliced_cons (ld _ ?_)
  refine Calls.spliced_nil ⟨I1.kIn, ?_⟩
  have rc : codeAny (model X.prog X.w) X.A (.call (.ref g) ⟨[.ref f, u], []⟩) (CR CX0 X.stack X.prog X.w H1 s' Q C8.E0) s' := by
    refine LamX.run_ofS (N := Ng) (ps := [a, b]) (us := [.ref f, u]) (vs := [.ref f, v]) lk hcg Sg hr I1.env0 (hb s' [.ref f, u] I1.kIn rfl) (.cons rfl (.cons ru .nil)) rfl fun hr' => ?_
    obtain ⟨t', ht', hq'⟩ := hG cdv f c' s' H1 v Q (fun E H' Q' => t E σ H' Q') (fun W pn xe p1 p2 tk => pe_actS (i := 0) (tb := t) I1 L hf hfn hfr hbind (fun σ => L2.passAt tk σ) hr' (fun A outer s H E hr2 => hbody A outer s H E f c' hr2) hNg hva hd hcd) hco hr' (h H1 eN T1)
    exact ⟨t', ht'.nox, hq'⟩
  refine wpAny_call (codeAny_mono rc fun r s2 hq => ?_)
  cases r with
  | error e => exact (show False from hq).elim
  | ok fl =>
    cases fl with
    | ret u => exact I1.after hq
    | next => exact False.elim hq
    | brk => exact False.elim hq
    | cont => exact False.elim hq
/-! ### the end with tables -/
def obsY (chk : PySem.W.Frag → Bool) (fn : List He.DefD) (tf : List He.Defn) (g : Addr → Option Obj) (as : List Addr) : He.AlD := ((obsN chk fn (He.frT g as)).1 && He.tabsB g tf (He.frT g as), (obsN chk fn (He.frT g as)).2)
/-- the defs' tables: empty, not told by K -/
def TabsY (tf : List He.Defn) (K : PySem.W.Frag) (h : Heap) : Prop := ∀ p ∈ tf, PySem.W.codeHdIn K (He.cT K p).1 (He.cT K p).2 = true ∧ K.lookup (He.cT K p).2 = none ∧ h.get? (He.cT K p).2 = some { cls := .none, data := .fields #[] }
theorem saysY {chk : PySem.W.Frag → Bool} {fn : List He.DefD} {tf : List He.Defn} {h : Heap} {as : List Addr} (e : obsY chk fn tf h.get? as = He.valD fn) : obsN chk fn (He.frT h.get? as) = He.valD fn ∧ TabsY tf (He.frT h.get? as) h := by
  have e1 : ((obsN chk fn (He.frT h.get? as)).1 && He.tabsB h.get? tf (He.frT h.get? as)) = true := congrArg (fun z : He.AlD => z.1) e
  have e2 : (obsY chk fn tf h.get? as).2 = (He.valD fn).2 := congrArg (fun z : He.AlD => z.2) e
  obtain ⟨h1, h2⟩ := He.ba e1
  refine ⟨Prod.ext h1 e2, fun p hp => ?_⟩
  obtain ⟨h3, h4⟩ := He.ba (List.all_eq_true.mp h2 p hp)
  refine ⟨h3, ?_⟩
  cases q : h.get? (He.cT (He.frT h.get? as) p).2 with
  | none =>
    rw [q] at h4
    cases h4
  | some o =>
    rw [q] at h4
    exact ⟨He.frT_none q h4, by rw [He.emptyTab_eq h4]⟩
def hookY (chk : PySem.W.Frag → Bool) (fn : List He.DefD) (tf : List He.Defn) : PySem.W.Hook where
  α := He.AlD
  obs := fun s => obsY chk fn tf s.heap.get? (List.range s.heap.objs.size)
  val := fun _ => He.valD fn
  says := fun _ h => ∃ K : PySem.W.Frag, K.In h ∧ obsN chk fn K = He.valD fn ∧ TabsY tf K h
  of := fun _ _ e => ⟨_, He.frT_in, saysY e⟩
  keeps := fun _ _ _ ⟨K, hK, c, t⟩ k => ⟨K, PySem.W.Frag.In.keeps hK k, c, fun p hp => ⟨(t p hp).1, (t p hp).2.1, k _ _ (t p hp).2.2⟩⟩
def obY (chk : PySem.W.Frag → Bool) (fn : List He.DefD) (tf : List He.Defn) (s : PySem.W.SharedT) : He.AlD := obsY chk fn tf (HandSHeadRun.getT s) (List.range s.n)
theorem obY_eq {chk : PySem.W.Frag → Bool} {fn : List He.DefD} {tf : List He.Defn} (s : PySem.W.SharedT) : obY chk fn tf s = (hookY chk fn tf).obs s.abs := by
  have look : HandSHeadRun.getT s = s.abs.heap.get? := funext (HandSHeadRun.getT_eq s)
  have size : s.n = s.abs.heap.objs.size := (PySem.W.absHeap_size s.tree s.n s.life).symm
  show obsY chk fn tf (HandSHeadRun.getT s) (List.range s.n) = obsY chk fn tf s.abs.heap.get? (List.range s.abs.heap.objs.size)
  rw [look, size]
/-- the law's promise with its own table -/
theorem lawAtY {l : PySem.W.OpenLaw} {w : World} {K : PySem.W.Frag} {CX : CXT} {k n : Nat} {x : Str} {mg : Str → Option Value} {fa : Addr} {h : Heap} {fd : FuncData} {sp : Sp} (KX : K.In h) {tf : List He.Defn} (t : TabsY tf K h)
    (hb : ∀ (s : Shared) (u : Value), BindsTo s fd ⟨[u], []⟩ [(x, u)])
    (hs : ∀ (H : Hp) (a : Addr) (ns : List Int), ns.length ≤ n → (∀ p ∈ tf, H (He.cT K p).2 = some (.tbl #[])) → SqL K H a (ns.map V.int) → sp [.ref a] H (fun v _ => v = .bl true) fun _ _ _ => False)
    (hF : ∀ base : Heap, K.In base → base.Ns mainGlobals mg → (∀ p ∈ tf, LamX.TabB base mg (He.cT K p).1 (He.cT K p).2) → FnOk l.prog w K mg base CX k fa fd [x] sp) : LamX.LawAtS l w K CX k n x mg fa h := by
  have at_ : ∀ {c : Addr × Addr}, c ∈ tf.map (He.cT K) → ∃ p ∈ tf, He.cT K p = c := fun hc => List.mem_map.mp hc
  refine ⟨fd, tf.map (He.cT K), sp, fun c hc => ?_, fun c hc => ?_, fun c hc => ?_, hb, fun H a ns hl _ hT hS => hs H a ns hl (fun p hp => hT _ (List.mem_map.mpr ⟨p, hp, rfl⟩)) hS, fun base k1 k2 k3 => hF base k1 k2 fun p hp => k3 _ (List.mem_map.mpr ⟨p, hp, rfl⟩)⟩
  · obtain ⟨p, hp, rfl⟩ := at_ hc
    exact (t p hp).2.2
  · obtain ⟨p, hp, rfl⟩ := at_ hc
    exact (t p hp).2.1
  · obtain ⟨p, hp, rfl⟩ := at_ hc
    exact PySem.W.codeHd_of_K KX (t p hp).1
end Own

set_option Elab.async false
set_option linter.all false
set_option maxRecDepth 100000
set_option maxHeartbeats 4000000
/-! | of an own instance with a value of a built-in type, on either side. -/
namespace Own
open PySem PySem.Spec PyProof.Rows L2
section
variable {prog : Program} {w : World} {A : Around} {E : Value → Shared → Prop} {s : Shared} {K : PySem.W.Frag} {x C f : Addr} {ox : Obj} {od : Option Obj}
theorem int_declines {i : Int} {t : Tok} (g : s.heap.get? x = some ox) (pl : ox.data = .plain) : wpAny (model prog w) A (tryMethod (.int i t) (PySem.dunder "or") (.ref x)) (fun r t' => r = none ∧ t' = s) E s := by
  unfold tryMethod
  refine wpAny_bind (wpAny_callSpecial?_slot (typeIs_int s i t) F.slot_int_or (GQ.call_here F.slot_int_or (typeIs_int s i t) F.entry_int_or (F.args_int_or_2 _ _) ?_))
  unfold Builtin.«int.__or__» Builtin.Int.intBinary
  refine wpAny_bind (m := slotArgs _ _ _) (wpAny_pure ?_)
  refine wpAny_bind (m := Builtin.Int.intOfSelf _) (wpAny_bind (m := asInt? _) (wpAny_pure (wpAny_pure ?_)))
  refine wpAny_bind (m := asInt? (.ref x)) (wpAny_bind (wpAny_load g ?_))
  rw [pl]
  refine wpAny_pure ?_
  refine wpAny_bind (wpAny_rule (wpAny_pure ?_))
  exact wpAny_pure ⟨rfl, rfl⟩
theorem bool_declines {b : Bool} (g : s.heap.get? x = some ox) (pl : ox.data = .plain) : wpAny (model prog w) A (tryMethod (.bool b) (PySem.dunder "or") (.ref x)) (fun r t' => r = none ∧ t' = s) E s := by
  unfold tryMethod
  refine wpAny_bind (wpAny_callSpecial?_slot (typeIs_bool' s b) F.slot_bool_or (GQ.call_here F.slot_bool_or (typeIs_bool' s b) F.entry_bool_or (F.args_bool_or_2 _ _) ?_))
  unfold Builtin.«bool.__or__»
  refine wpAny_bind (m := slotArgs _ _ _) (wpAny_pure ?_)
  refine wpAny_bind (m := asInt? (.ref x)) (wpAny_bind (wpAny_load g ?_))
  rw [pl]
  refine wpAny_pure ?_
  refine wpAny_bind (wpAny_rule (wpAny_pure ?_))
  exact wpAny_pure ⟨rfl, rfl⟩
/-- a op x, a of a built-in type without such an operator -/
theorem bin_right0 {op : Operator} {sym nm T : String} {g : Addr} {a : Value} {Q : Value → Shared → Prop} (hop : op.info = (sym, nm)) (X : K.In s.heap) (J : PySem.W.InstAt s.heap x ox C od) (o : OpC K C nm f g) (ta : PySem.W.Looks (model prog w) s.heap (typeOf a) (.type T))
    (t1 : PySem.W.findIn K (.type T) (PySem.dunder nm) = some none) (t2 : PySem.W.findIn K (.type T) (dunderR nm) = some none)
    (go : wpAny (model prog w) A (call (.ref g) [.ref x, a]) (Told Q) E s) : wpAny (model prog w) A (binaryOp op a (.ref x)) Q E s := by
  obtain ⟨cd, rest, hcd, hm⟩ := PySem.W.ksp_first o.first
  have done := try_own X J o.ref o.rfn go
  obtain ⟨hh, gg, dd, tt, os⟩ := s
  have f1 : PySem.W.Looks (model prog w) hh (typeOf (.ref x)) (.ref C) := J.type
  have f2 : PySem.W.Looks (model prog w) hh (typeOf a) (.type T) := ta
  have f3 : PySem.W.Looks (model prog w) hh (fillsNumberSlot (.ref C) nm) true := PySem.W.fills_K X hcd hm o.own
  have f4 : PySem.W.Looks (model prog w) hh (fillsNumberSlot (.type T) nm) false := PySem.W.ksp_fillsT (M := model prog w) X t1 t2
  have ne : (Value.type T == Value.ref C) = false := Bool.eq_false_iff.mpr fun q => by cases beq_iff_eq.mp q
  simp only [binaryOp, hop]
  refine wpAny_holding (wpAny_bind ?_)
  unfold binaryOp1
  refine wpAny_bind (f2.at (wpAny_bind (f1.at (wpAny_bind (f4.at ?_)))))
  simp only [ne, Bool.false_eq_true, if_false]
  ksp_lk
  refine thn done fun r t h => ?_
  obtain ⟨v, rfl, q⟩ := h
  ksp_lk
  exact q
end
/-- what the text says of a built-in type's | -/
structure OrT (K : PySem.W.Frag) (C : Addr) (T : String) (fo ro : Option Value) : Prop where
  t1 : PySem.W.findIn K (.type T) (PySem.dunder "or") = some fo
  t2 : PySem.W.findIn K (.type T) (dunderR "or") = some ro
  ap : PySem.W.subIn K (.type T) (.ref C) = some false
  pa : PySem.W.subIn K (.ref C) (.type T) = some false
def ortB (K : PySem.W.Frag) (x : Str) (T : String) (fo ro : Option Value) : Bool := decide (PySem.W.findIn K (.type T) (PySem.dunder "or") = some fo) && (decide (PySem.W.findIn K (.type T) (dunderR "or") = some ro) && (decide (PySem.W.subIn K (.type T) (.ref (He.ga K x)) = some false) && decide (PySem.W.subIn K (.ref (He.ga K x)) (.type T) = some false)))
theorem ort_of {K : PySem.W.Frag} {x : Str} {T : String} {fo ro : Option Value} (c : ortB K x T fo ro = true) : OrT K (He.ga K x) T fo ro := by
  unfold ortB at c
  obtain ⟨a, c⟩ := He.ba c
  obtain ⟨b, c⟩ := He.ba c
  obtain ⟨d, e⟩ := He.ba c
  exact ⟨of_decide_eq_true a, of_decide_eq_true b, of_decide_eq_true d, of_decide_eq_true e⟩
/-- a value of a built-in type that declines | with an instance -/
inductive Odd (K : PySem.W.Frag) (C : Addr) (H : Hp) : V → Prop where
  | int {i : Int} (o : OrT K C "int" (some (.builtin "int.__or__")) (some (.builtin "int.__ror__"))) : Odd K C H (.int i)
  | bl {b : Bool} (o : OrT K C "bool" (some (.builtin "bool.__or__")) (some (.builtin "bool.__ror__"))) : Odd K C H (.bl b)
  | no {v : V} {T : String} (o : OrT K C T none none) (ty : TyX K H v (.type T)) : Odd K C H v
section
variable {X : Cx} {pins : List (Addr × Obj)} {σ : L2.St} {H : Hp} {s : Shared} {CX : CXT} {k : Nat} {C f g : Addr} {spF spG : Sp} {E : XK}
theorem Odd.ty {K : PySem.W.Frag} {v : V} (o : Odd K C H v) : ∃ T fo ro, OrT K C T fo ro ∧ TyX K H v (.type T) := by
  cases o with
  | int o => exact ⟨_, _, _, o, .base (.int _)⟩
  | bl o => exact ⟨_, _, _, o, .base (.bl _)⟩
  | no o ty => exact ⟨_, _, _, o, ty⟩
def rOrL (K : PySem.W.Frag) (C : Addr) (spF : Sp) (E : XK) : R2 := fun x y H Q => ∃ a dx fs, x = .ref a ∧ H a = some (.ins C dx fs) ∧ Odd K C H y ∧ spF [x, y] H Q E
def rOrG (K : PySem.W.Frag) (C : Addr) (spG : Sp) (E : XK) : R2 := fun x y H Q => ∃ b dx fs, y = .ref b ∧ H b = some (.ins C dx fs) ∧ Odd K C H x ∧ spG [y, x] H Q E
theorem op_orL (o : OrK X.K C f g) (F : FnR X.prog X.w X.K X.mg X.base CX k f spF) (hr : Room k X.A) (hx : Passes CX X E) : OpR X (binaryOp .BitOr) (rOrL X.K C spF E) := by
  intro pins s σ H x y v u Q I rx ry h
  obtain ⟨a, dx, fs, rfl, ha, od, q⟩ := h
  cases rx
  obtain ⟨ox, ob, J⟩ := ins_at I ha
  obtain ⟨T, fo, ro, t, ty⟩ := od.ty
  obtain ⟨P0, kt, hp, _⟩ := kit_of I ry ty
  exact bin_left (op := .BitOr) (nm := "or") rfl I.kIn J o.op (kt.ty _ _ I.kIn hp) t.t1 t.t2 t.ap (call_told (vs := [.ref a, y]) F hr hx I (.cons rfl (.cons ry .nil)) q)
theorem op_orG (o : OrK X.K C f g) (G : FnR X.prog X.w X.K X.mg X.base CX k g spG) (hr : Room k X.A) (hx : Passes CX X E) : OpR X (binaryOp .BitOr) (rOrG X.K C spG E) := by
  intro pins s σ H x y v u Q I rx ry h
  obtain ⟨b, dx, fs, rfl, hb, od, q⟩ := h
  cases ry
  obtain ⟨mA, O, _⟩ := ins_get I.hok hb
  obtain ⟨ob, J, _⟩ := O.look
  have go := call_told (vs := [.ref b, x]) G hr hx I (.cons rfl (.cons rx .nil)) q
  cases od with
  | int t =>
    obtain ⟨tk, rfl⟩ := (show ∃ t, v = Value.int _ t from rx)
    obtain ⟨P0, kt, hp, _⟩ := kit_of I rx (.base (.int _))
    exact bin_right (op := .BitOr) (nm := "or") rfl I.kIn J o.op (kt.ty _ _ I.kIn hp) t.t1 t.t2 rfl t.pa (int_declines J.at_ rfl) go
  | bl t =>
    obtain rfl : v = Value.bool _ := rx
    obtain ⟨P0, kt, hp, _⟩ := kit_of I (x := .bl _) rfl (.base (.bl _))
    exact bin_right (op := .BitOr) (nm := "or") rfl I.kIn J o.op (kt.ty _ _ I.kIn hp) t.t1 t.t2 rfl t.pa (bool_declines J.at_ rfl) go
  | no t ty =>
    obtain ⟨P0, kt, hp, _⟩ := kit_of I rx ty
    exact bin_right0 (op := .BitOr) (nm := "or") rfl I.kIn J o.op (kt.ty _ _ I.kIn hp) t.t1 t.t2 go
end
end Own

set_option Elab.async false
set_option linter.all false
set_option maxRecDepth 100000
set_option maxHeartbeats 4000000
/-! Properties of an own class: their getters as defs of the text. -/
namespace Own
open PySem PySem.Spec PyProof.Rows L2
/-- a def of the text that stands at f, under no name -/
structure FunG (K : PySem.W.Frag) (x qual : Str) (st : Stmt) (f : Addr) (fd : FuncData) : Prop where
  ex : ∃ (oc : Value) (od : Option Addr) (kV doc pm : Value) (an : Option Addr) (cdv ct : Value) (osl : Array (Option Value)),
    fd = PySem.W.fnOf x qual (defArgs st) (defBody st) (defScope st) .none kV doc pm an cdv ct ∧ K.lookup f = some ⟨oc, od, .func fd, osl⟩ ∧ PySem.W.codeIn K cdv qual = true
/-- a property m of the class at C -/
structure PrT (K : PySem.W.Frag) (C : Addr) (m q : Str) (st : Stmt) where
  p : Addr
  a : Addr
  d : FuncData
  F : FunG K m q st a d
  pr : PropOf K C m p a
  b : Binds K d ["self"] []
theorem okG {P : Program} {w : World} {K : PySem.W.Frag} {mg : Str → Option Value} {base : Heap} {x qual : Str} {st : Stmt} {f : Addr} {fd : FuncData} {N ps : List Str} {k : Nat} {sp : Sp} (F : FunG K x qual st f fd) (S : FnScope N ps (defScope st)) (len : ∀ vs H Q E, sp vs H Q E → vs.length = ps.length)
    (body : ∀ (cdv : Value) (A : Around) (outer : List Env) (s : Shared) (H : Hp) (vs : List V) (Q : VK) (E : XK), Room k (A.deeper (envOfC qual (defScope st) s.heap.objs.size f cdv)) → sp vs H Q E →
      ∃ t, PSs (cxOf CX0 P w K mg base N qual (defScope st) f cdv A outer s H E).nox (defBody st) t ∧ t { nx := fun _ H' => Q .non H', rt := Q } (start N vs) H) : FnOk P w K mg base CX0 (k + 1) f fd ps sp := by
  obtain ⟨oc, od, kV, doc, pm, an, cdv, ct, osl, rfl, lk, hcd⟩ := F.ex
  refine fn_of lk hcd S len fun A outer s H vs Q E hr hsp => ?_
  obtain ⟨t, h, q⟩ := body cdv A outer s H vs Q E hr hsp
  exact ⟨t, h.nox, q⟩
theorem FunG.binds {K : PySem.W.Frag} {x qual : Str} {st : Stmt} {f : Addr} {fd : FuncData} {ps : List Str} (F : FunG K x qual st f fd)
    (h : ∀ (kV doc pm : Value) (an : Option Addr) (cdv ct : Value) (us : List Value), us.length = ps.length → bindArgs (PySem.W.fnOf x qual (defArgs st) (defBody st) (defScope st) .none kV doc pm an cdv ct) ⟨us, []⟩ = pure (ps.zip us)) : Binds K fd ps [] := by
  obtain ⟨oc, od, kV, doc, pm, an, cdv, ct, osl, rfl, lk, hcd⟩ := F.ex
  exact .all (h kV doc pm an cdv ct)
/-! ### the look -/
/-- where the getter of the property m stands -/
def prA (K : PySem.W.Frag) (C : Addr) (m : Str) : Addr := match PySem.W.recIn K (He.ma K C m) "property" with
  | some (.ref g :: _) => g
  | _ => 0
def fnWA (K : PySem.W.Frag) (a : Addr) : He.FnW := match K.lookup a with
  | some ⟨_, _, .func fd, _⟩ => some (fd.name, fd.qualname, fd.params, fd.body, fd.scope, fd.globals, fd.closure, fd.builtins)
  | _ => none
/-- class, property, qualified name, the def -/
structure PrD where
  c : Str
  m : Str
  qual : Str
  st : Stmt
def PrD.val (d : PrD) : He.FnW := some (d.m, d.qual, defArgs d.st, .stmts (defBody d.st), defScope d.st, mainGlobals, [], builtinsNs)
def PrD.at_ (K : PySem.W.Frag) (d : PrD) : Addr := prA K (He.ga K d.c) d.m
def PrD.ok (K : PySem.W.Frag) (d : PrD) : Bool := decide (PySem.W.findIn K (.ref (He.ga K d.c)) d.m = some (some (.ref (He.ma K (He.ga K d.c) d.m)))) && (decide (PySem.W.specialIn K (.ref (He.ma K (He.ga K d.c) d.m)) "__get__" = some (some (.builtin "property.__get__"))) &&
  (decide (PySem.W.takesIn K (.ref (He.ma K (He.ga K d.c) d.m)) = some true) && ((match PySem.W.recIn K (He.ma K (He.ga K d.c) d.m) "property" with
  | some (.ref _ :: _) => true
  | _ => false) && (match K.lookup (d.at_ K) with
  | some ⟨_, _, .func fd, _⟩ => PySem.W.codeIn K fd.code d.qual && (match fd.defaults with
    | .none => true
    | _ => false)
  | _ => false))))
theorem prD_ok {K : PySem.W.Frag} {d : PrD} (e : fnWA K (d.at_ K) = d.val) (c : d.ok K = true) : PropOf K (He.ga K d.c) d.m (He.ma K (He.ga K d.c) d.m) (d.at_ K) ∧ ∃ fd, FunG K d.m d.qual d.st (d.at_ K) fd := by
  unfold PrD.ok at c
  obtain ⟨c1, c⟩ := He.ba c
  obtain ⟨c2, c⟩ := He.ba c
  obtain ⟨c3, c⟩ := He.ba c
  obtain ⟨c4, c5⟩ := He.ba c
  refine ⟨⟨of_decide_eq_true c1, of_decide_eq_true c2, of_decide_eq_true c3, ?_⟩, ?_⟩
  · unfold PrD.at_ prA
    split at c4
    · rename_i g rest h
      rw [h]
      exact ⟨rest, rfl⟩
    · cases c4
  · unfold fnWA at e
    cases q : K.lookup (d.at_ K) with
    | none =>
      rw [q] at c5
      cases c5
    | some o =>
      obtain ⟨oc, od, dt, osl⟩ := o
      rw [q] at c5 e
      cases dt with
      | func fd =>
        obtain ⟨n1, n2, n3, n4, n5, n6, n7, n8, n9, n10, n11, n12, n13, n14, n15⟩ := fd
        have e2 : (some (n1, n2, n3, n4, n5, n6, n7, n15) : He.FnW) = some (d.m, d.qual, defArgs d.st, .stmts (defBody d.st), defScope d.st, mainGlobals, [], builtinsNs) := e
        simp only [Option.some.injEq, Prod.mk.injEq] at e2
        obtain ⟨rfl, rfl, rfl, rfl, rfl, rfl, rfl, rfl⟩ := e2
        obtain ⟨k1, k2⟩ := He.ba c5
        cases n8 with
        | none => exact ⟨_, ⟨oc, od, n9, n10, n11, n12, n13, n14, osl, rfl, q, k1⟩⟩
        | _ => cases k2
      | _ => cases c5
end Own

set_option Elab.async false
set_option linter.all false
set_option maxRecDepth 100000
set_option maxHeartbeats 4000000
/-! {k: f k for k in d}. -/
namespace Own
open PySem PySem.Spec PyProof.Rows L2
theorem keys_map (g : Key × V → V) (l : Tbl) : ((l.map fun p => (p.1, g p)).map (·.1)) = l.map (·.1) := by
  rw [List.map_map]
  rfl
theorem dcKeys_go {td : TE} {j : Nat} {tk tv : TE} {σ : L2.St} {H : Hp} {Q : VK} {d : Addr} {kvs : Tbl} (g : Key × V → V) (hd : H d = some (.dK kvs)) (nd : (kvs.map (·.1)).Nodup) (hz : kvs.length ≤ 100000) (ht : ∀ o (Q : VK), Q (.ref d) (upd H d (.frz o (.dK kvs))) → td σ (upd H d (.frz o (.dK kvs))) Q)
    (hk : ∀ o k v H' (R : VK), (k, v) ∈ kvs → Same (upd H d (.frz o (.dK kvs))) H' → R (kV k) H' → tk ((wipe σ [j]).set j (some (kV k))) H' R)
    (hv : ∀ o k v H' (R : VK), (k, v) ∈ kvs → Same (upd H d (.frz o (.dK kvs))) H' → R (g (k, v)) H' → tv ((wipe σ [j]).set j (some (kV k))) H' R)
    (q : ∀ D H', H D = none → Same H H' → H' D = some (.dK (kvs.map fun p => (p.1, g p))) → Q (.ref D) H') : tLockE (tDc (iKeys td) (gName j) tYes tk tv [j]) σ H Q := by
  refine ⟨d, _, hd, True.intro, fun o => ?_⟩
  refine ht _ _ ⟨d, o, rfl, .inl ⟨kvs, upd_same, ?_⟩⟩
  refine fun D hD => ?_
  have hDd : D ≠ d := by
    rintro rfl
    rw [upd_same] at hD
    cases hD
  have hDn : H D = none := by rw [upd_ne hDd] at hD; exact hD
  let Pv : Nat → Hp → Prop := fun m H' => H' D = some (.dK ((kvs.take m).map fun p => (p.1, g p))) ∧ ExT D (upd H d (.frz o (.dK kvs))) H'
  refine ⟨fun m r H' => r = kvs.length - m ∧ m ≤ kvs.length ∧ Pv m H', ⟨kvs.length, rfl, Nat.zero_le _, upd_same, exT_upd (ExT.refl D _)⟩, ?_⟩
  rintro m r H' ⟨rfl, le, p1, p2⟩
  have sH := ExT.toSame hD p2
  have lk : H' d = some (.frz o (.dK kvs)) := sH _ _ upd_same
  rcases Nat.lt_or_ge m kvs.length with lt | ge
  · refine .inr ⟨⟨lk, lt⟩, Pv (m + 1), fun H2 p' => ⟨kvs.length - (m + 1), by omega, rfl, lt, p'⟩, ?_⟩
    rintro x H2 ⟨rfl, k, v, e, rfl⟩
    have mem := List.mem_of_getElem? e
    refine ⟨wipe_set, ?_⟩
    have et : kvs.take (m + 1) = kvs.take m ++ [(k, v)] := by rw [List.take_add_one, e]; rfl
    have fin : H2 D = some (.dK ((kvs.take m).map fun p => (p.1, g p))) := p1
    have no : valV ((kvs.take m).map fun p => (p.1, g p)) k = none := by
      cases e2 : valV ((kvs.take m).map fun p => (p.1, g p)) k with
      | none => rfl
      | some w =>
        have c := valV_key.mp (show (valV ((kvs.take m).map fun p => (p.1, g p)) k).isSome = true by rw [e2]; rfl)
        rw [keys_map] at c
        have nd2 : ((kvs.take m).map (·.1) ++ (kvs.drop m).map (·.1)).Nodup := by rw [← List.map_append, List.take_append_drop]; exact nd
        have inD : k ∈ (kvs.drop m).map (·.1) := List.mem_map.mpr ⟨(k, v), List.mem_iff_getElem?.mpr ⟨0, by rw [List.getElem?_drop]; exact e⟩, rfl⟩
        exact absurd rfl ((List.nodup_append.mp nd2).2.2 k c k inD)
    refine hk o k v _ _ mem sH (hv o k v _ _ mem sH ⟨_, k, rfl, fin, ?_, ?_, exT_upd p2⟩)
    · rw [List.length_map]
      exact Nat.lt_of_le_of_lt (List.length_take_le _ _) (Nat.lt_of_lt_of_le lt (Nat.le_trans hz (by decide)))
    · rw [upd_same, putK_new _ no, et, List.map_append]
      rfl
  · obtain rfl : m = kvs.length := Nat.le_antisymm le ge
    rw [List.take_length] at p1
    refine .inl ⟨⟨lk, Nat.le_refl _⟩, lk, ?_⟩
    refine q D _ hDn (unlock_same hd sH) ?_
    rw [upd_ne hDd]
    exact p1
end Own

set_option Elab.async false
set_option linter.all false
set_option maxRecDepth 100000
set_option maxHeartbeats 4000000
/-! A nested def handed to a method, and called there by the parameter that holds it. -/
namespace Own
open PySem PySem.Spec PyProof.Rows L2
/-- a promise that speaks of the state at the call, too -/
abbrev SpS : Type := List Env → Shared → Sp
structure FnSt (P : Program) (w : World) (K : PySem.W.Frag) (mg : Str → Option Value) (base : Heap) (CX : CXT) (k : Nat) (f : Addr) (fd : FuncData) (ps : List Str) (sp : SpS) : Prop where
  len : ∀ outer s vs H Q E, sp outer s vs H Q E → vs.length = ps.length
  run : ∀ (A : Around) (outer : List Env) (s : Shared) (H : Hp) (args : Args) (us : List Value) (vs : List V) (Q : VK) (E : XK), Room k A → Env0 P w K mg base A outer s H → BindsTo s fd args (ps.zip us) → Vals vs us → sp outer s vs H Q E →
    codeAny (model P w) A (.call (.ref f) args) (CR CX outer P w H s Q E) s
theorem FnSt.mono {P : Program} {w : World} {K : PySem.W.Frag} {mg : Str → Option Value} {base : Heap} {CX : CXT} {j k : Nat} {f : Addr} {fd : FuncData} {ps : List Str} {sp : SpS} (F : FnSt P w K mg base CX j f fd ps sp) (h : j ≤ k) : FnSt P w K mg base CX k f fd ps sp :=
  ⟨F.len, fun A outer s H args us vs Q E hr => F.run A outer s H args us vs Q E (hr.mono h)⟩
theorem okS {P : Program} {w : World} {K : PySem.W.Frag} {mg : Str → Option Value} {base : Heap} {CX : CXT} {x qual : Str} {st : Stmt} {f : Addr} {fd : FuncData} {N ps : List Str} {k : Nat} {sp : SpS} (F : Fun K x qual st f fd) (S : FnScope N ps (defScope st)) (len : ∀ outer s vs H Q E, sp outer s vs H Q E → vs.length = ps.length)
    (body : ∀ (cdv : Value) (A : Around) (outer : List Env) (s : Shared) (H : Hp) (vs : List V) (Q : VK) (E : XK), Room k (A.deeper (envOfC qual (defScope st) s.heap.objs.size f cdv)) → Env0 P w K mg base A outer s H → sp outer s vs H Q E →
      ∃ t, PSs (cxOf CX P w K mg base N qual (defScope st) f cdv A outer s H E) (defBody st) t ∧ t { nx := fun _ H' => Q .non H', rt := Q } (start N vs) H) : FnSt P w K mg base CX (k + 1) f fd ps sp := by
  obtain ⟨oc, od, kV, doc, pm, an, cdv, ct, osl, rfl, lk, hcd⟩ := F.ex
  refine ⟨len, fun A outer s H args us vs Q E hr e0 hb r hsp => ?_⟩
  exact LamX.run_ofS lk hcd S hr e0 hb r (len outer s vs H Q E hsp) fun hr2 => body cdv A outer s H vs Q E hr2 e0 hsp
section
variable {X : Cx} {CX : CXT} {k : Nat} {C f : Addr} {fd : FuncData} {ps : List Str} {sp : SpS} {E : XK} {e o : Expr} {es : List Expr} {m : Str} {apos pos : Pos} {ta : TE} {t : TA}
theorem run_st {pins : List (Addr × Obj)} {σ : L2.St} {H : Hp} {s : Shared} {Q : VK} {us : List Value} {vs : List V} (F : FnSt X.prog X.w X.K X.mg X.base CX k f fd ps sp) (hr : Room k X.A) (hb : Binds X.K fd ps []) (hx : Passes CX X E)
    (I : Inv X pins σ H s) (r : Vals vs us) (h : sp X.stack s vs H Q E) : wpAny (model X.prog X.w) X.A (call (.ref f) us) (EP X pins σ Q) X.xe s := by
  have hl : us.length = ps.length := by rw [← r.length]; exact F.len _ _ _ _ _ _ h
  have hl0 : (us ++ ([] : List Value)).length = ps.length := by rw [List.append_nil]; exact hl
  have bd := hb s us I.kIn hl0
  rw [List.append_nil] at bd
  refine wpAny_call (codeAny_mono (F.run X.A X.stack s H ⟨us, []⟩ us vs Q E hr I.env0 bd r h) fun r s' hq => ?_)
  cases r with
  | error e => exact hx pins σ H s e s' I hq
  | ok fl => cases fl with
    | ret u => exact I.after hq
    | next => exact False.elim hq
    | brk => exact False.elim hq
    | cont => exact False.elim hq
/-- the cells that a def made at its entry are no frames -/
theorem cells_out {pins : List (Addr × Obj)} {σ : L2.St} {H : Hp} {s : Shared} (I : Inv X pins σ H s) {x : Str} {c : Addr} (hf : X.fn x = true) (e : X.env.cells.lookup x = some c) : c ∉ frs X.stack := fun hc => by
  rcases List.mem_cons.mp (I.stkSub c hc) with z | z
  · exact I.cne x c e z
  · obtain ⟨_, o, ho, _⟩ := I.ok.funs.mem z
    exact Nat.lt_irrefl _ (Nat.lt_of_lt_of_le (Heap.lt_size ho) (I.ok.cab x c hf e))
/-- o.m(e, ..), told with the slots of the frame that calls -/
def tMethS (C : Addr) (m : Str) (spA : L2.St → Sp) (E : XK) (ta : TE) (t : TA) : TE := fun σ H Q => ta σ H fun x H1 => ∃ a dx fs, x = .ref a ∧ H1 a = some (.ins C dx fs) ∧ fs.lookup m = none ∧ t σ H1 fun vs H2 => spA σ (x :: vs) H2 Q E
theorem pe_methS {pl : Sem Bool} {spA : L2.St → Sp} (he : PE X o ta) (c : Cls X.K C) (hm : Meth X.K C m f) (F : FnSt X.prog X.w X.K X.mg X.base CX k f fd ps sp) (hr : Room k X.A) (hb : Binds X.K fd ps []) (hx : Passes CX X E)
    (hs : ∀ (pins : List (Addr × Obj)) (σ : L2.St) (H : Hp) (s : Shared) (vs : List V) (Q : VK), Inv X pins σ H s → spA σ vs H Q E → sp X.stack s vs H Q E) (ha : PA X (e :: es) t)
    (hst : starEach (e :: es) X.env = (false, eval e X.env) :: starEach es X.env := by rfl) (hpl : (backTo pos (starEach es X.env)).any (·.1) = false := by rfl)
    (ht : eval (.Call (.Attribute o m apos) (e :: es) [] pos) X.env = (do
      let ov ← eval o X.env
      standAt apos.atName
      let (f, first) ← holding [ov] (getMethod ov m pl)
      callWith pos f first (backTo pos (starEach (e :: es) X.env)) (backToKw pos (keywordEach [] X.env))) := by rfl) :
    PE X (.Call (.Attribute o m apos) (e :: es) [] pos) (tMethS C m spA E ta t) := by
  refine ⟨fun pins s σ H Q I h => PySem.W.methodCall_KW (pl := pl) (thn (he.run pins s σ H _ I h) fun u s1 z => ?_) ht⟩
  obtain ⟨x, H1, I1, rx, a, dx, fs, rfl, ea, l, q⟩ := z
  obtain rfl : u = Value.ref a := rx
  refine getmeth_ok I1 ea c hm l (PySem.W.callWith_K (first := [.ref a]) (h₀ := X.base) I.ok.mod.kin hm.kp (thn (ha.run pos pins s1 σ H1 _ I1 q) fun us s2 z => ?_) hst hpl)
  obtain ⟨vs, H2, I2, r, q2⟩ := z
  exact ⟨I2.kIn, run_st (us := .ref a :: us) (vs := .ref a :: vs) F hr hb hx I2 (.cons rfl r) (hs _ _ _ _ _ _ I2 q2)⟩
/-- a(e, ..), a a parameter that holds a nested def whose cells are not this frame's -/
def tCallF (i : Nat) (f : Addr) (F : NdefX.NF) (ws : List (Option V)) (sp : List (Option V) → Sp) (E : XK) (t : TA) : TE := fun σ H Q => σ[i]? = some (some (.ref f)) ∧ H f = some (NdefX.FnO f F) ∧
  t σ H fun vs H1 => H1 f = some (NdefX.FnO f F) ∧ H1 F.c = some (LamX.CodeO F.c F.qual) ∧ sp ws vs H1 Q E
theorem pe_callF {F : NdefX.NF} {fr : List Str} {ws : List (Option V)} {i : Nat} {x : Str} {p : Pos} {sp : List (Option V) → Sp} (Fn : NdefX.NOk X.prog X.w X.K X.mg X.base CX k f F ps fr sp) (Cl : NdefX.CellsAt F.cl fr ws X.s_0.heap X.H_0) (nf : ∀ y c, F.cl.lookup y = some c → c ∉ X.fs) (hex : ∀ y c, F.cl.lookup y = some c → c ∉ X.ex)
    (hr : Room k X.A) (hx : Passes CX X E) (hN : X.N[i]? = some x) (hv : Vis X.env.scope x) (ha : PA X (e :: es) t)
    (hd : (x == ("__debug__" : Str)) = false := by decide) (hcd : (x == ("__classdict__" : Str)) = false := by decide)
    (he : starEach (e :: es) X.env = (false, eval e X.env) :: starEach es X.env := by rfl) (hpl : (backTo pos (starEach es X.env)).any (·.1) = false := by rfl) :
    PE X (.Call (.Name x p) (e :: es) [] pos) (tCallF i f F ws sp E t) := by
  refine ⟨fun pins s σ H Q I h => ?_⟩
  obtain ⟨hs, hf, ht⟩ := h
  obtain ⟨u, ru, ld⟩ := ld_var (E := X.xe) (pos := p) I hN hv hs hd hcd
  obtain rfl : u = Value.ref f := ru
  refine wpAny_Call_Name_kw (ld _ ?_)
  refine PySem.W.callWith_F (first := []) (NdefX.fnAt_of I hf) (thn (ha.run pos pins s σ H _ I ht) fun us s2 z => ?_) he hpl
  obtain ⟨vs, H2, I2, r, h1, h2, q⟩ := z
  refine ⟨NdefX.fnAt_of I2 h1, wpAny_call (codeAny_mono (Fn.run X.A X.stack s2 H2 us vs ws Q E hr I2.env0 h1 h2 (Cl.later nf hex I2) r q) fun r s' hq => ?_)⟩
  cases r with
  | error e => exact hx pins σ H2 s2 e s' I2 hq
  | ok fl => cases fl with
    | ret u => exact I2.after hq
    | next => exact False.elim hq
    | brk => exact False.elim hq
    | cont => exact False.elim hq
end
end Own

set_option Elab.async false
set_option linter.all false
set_option maxRecDepth 100000
set_option maxHeartbeats 4000000
/-! The look with tables and properties. -/
namespace Own
open PySem PySem.Spec PyProof.Rows L2
def obsZ (chk : PySem.W.Frag → Bool) (fn : List He.DefD) (tf : List He.Defn) (pr : List PrD) (g : Addr → Option Obj) (as : List Addr) : He.AlD := ((obsY chk fn tf g as).1 && pr.all fun d => d.ok (He.frT g as), (obsY chk fn tf g as).2 ++ pr.map fun d => fnWA (He.frT g as) (d.at_ (He.frT g as)))
def valZ (fn : List He.DefD) (pr : List PrD) : He.AlD := (true, fn.map He.DefD.val ++ pr.map PrD.val)
def PropsZ (pr : List PrD) (K : PySem.W.Frag) : Prop := ∀ d ∈ pr, fnWA K (d.at_ K) = d.val ∧ d.ok K = true
theorem saysZ {chk : PySem.W.Frag → Bool} {fn : List He.DefD} {tf : List He.Defn} {pr : List PrD} {h : Heap} {as : List Addr} (e : obsZ chk fn tf pr h.get? as = valZ fn pr) : obsN chk fn (He.frT h.get? as) = He.valD fn ∧ TabsY tf (He.frT h.get? as) h ∧ PropsZ pr (He.frT h.get? as) := by
  have e1 : ((obsY chk fn tf h.get? as).1 && pr.all fun d => d.ok (He.frT h.get? as)) = true := congrArg (fun z : He.AlD => z.1) e
  have e2 : (obsZ chk fn tf pr h.get? as).2 = (valZ fn pr).2 := congrArg (fun z : He.AlD => z.2) e
  have e3 : (obsY chk fn tf h.get? as).2 ++ (pr.map fun d => fnWA (He.frT h.get? as) (d.at_ (He.frT h.get? as))) = fn.map He.DefD.val ++ pr.map PrD.val := e2
  obtain ⟨h1, h2⟩ := He.ba e1
  have l : (obsY chk fn tf h.get? as).2.length = (fn.map He.DefD.val).length := by
    show (fn.map _).length = _
    rw [List.length_map, List.length_map]
  obtain ⟨e4, e5⟩ := List.append_inj e3 l
  obtain ⟨a, b⟩ := saysY (chk := chk) (fn := fn) (tf := tf) (h := h) (as := as) (Prod.ext h1 e4)
  refine ⟨a, b, fun d hd => ⟨?_, List.all_eq_true.mp h2 d hd⟩⟩
  exact List.map_inj_left.mp e5 d hd
def hookZ (chk : PySem.W.Frag → Bool) (fn : List He.DefD) (tf : List He.Defn) (pr : List PrD) : PySem.W.Hook where
  α := He.AlD
  obs := fun s => obsZ chk fn tf pr s.heap.get? (List.range s.heap.objs.size)
  val := fun _ => valZ fn pr
  says := fun _ h => ∃ K : PySem.W.Frag, K.In h ∧ obsN chk fn K = He.valD fn ∧ TabsY tf K h ∧ PropsZ pr K
  of := fun _ _ e => ⟨_, He.frT_in, saysZ e⟩
  keeps := fun _ _ _ ⟨K, hK, c, t, p⟩ k => ⟨K, PySem.W.Frag.In.keeps hK k, c, fun p hp => ⟨(t p hp).1, (t p hp).2.1, k _ _ (t p hp).2.2⟩, p⟩
def obZ (chk : PySem.W.Frag → Bool) (fn : List He.DefD) (tf : List He.Defn) (pr : List PrD) (s : PySem.W.SharedT) : He.AlD := obsZ chk fn tf pr (HandSHeadRun.getT s) (List.range s.n)
theorem obZ_eq {chk : PySem.W.Frag → Bool} {fn : List He.DefD} {tf : List He.Defn} {pr : List PrD} (s : PySem.W.SharedT) : obZ chk fn tf pr s = (hookZ chk fn tf pr).obs s.abs := by
  have look : HandSHeadRun.getT s = s.abs.heap.get? := funext (HandSHeadRun.getT_eq s)
  have size : s.n = s.abs.heap.objs.size := (PySem.W.absHeap_size s.tree s.n s.life).symm
  show obsZ chk fn tf pr (HandSHeadRun.getT s) (List.range s.n) = obsZ chk fn tf pr s.abs.heap.get? (List.range s.abs.heap.objs.size)
  rw [look, size]
end Own

set_option Elab.async false
set_option linter.all false
set_option maxRecDepth 100000
set_option maxHeartbeats 4000000
/-! == and != of two instances of a class that has neither for itself: the same object or not. -/
namespace Own
open PySem PySem.Spec PyProof.Rows L2
/-- the class compares as object does -/
structure EqP (K : PySem.W.Frag) (C : Addr) : Prop where
  eq : PySem.W.findIn K (.ref C) "__eq__" = some (some (.builtin "object.__eq__"))
  ne : PySem.W.findIn K (.ref C) "__ne__" = some (some (.builtin "object.__ne__"))
  ob : PySem.W.subIn K (.ref C) (.type "object") = some true
def eqpB (K : PySem.W.Frag) (x : Str) : Bool := decide (PySem.W.findIn K (.ref (He.ga K x)) "__eq__" = some (some (.builtin "object.__eq__"))) && (decide (PySem.W.findIn K (.ref (He.ga K x)) "__ne__" = some (some (.builtin "object.__ne__"))) && decide (PySem.W.subIn K (.ref (He.ga K x)) (.type "object") = some true))
theorem eqp_of {K : PySem.W.Frag} {x : Str} (h : eqpB K x = true) : EqP K (He.ga K x) := by
  simp only [eqpB, Bool.and_eq_true, decide_eq_true_eq] at h
  exact ⟨h.1, h.2.1, h.2.2⟩
section
variable {prog : Program} {w : World} {A : Around} {E : Value → Shared → Prop} {s : Shared} {K : PySem.W.Frag} {x y C f : Addr} {ox oy : Obj} {od oe : Option Obj}
theorem chk_ob {id n : String} {b : Value} {R : Unit → Shared → Prop} (X : K.In s.heap) (J : PySem.W.InstAt s.heap x ox C od) (e : EqP K C) (hk : builtinKind id = some .slot) (hs : splitId id = some ("object", n)) (ha : argsOk id ⟨[.ref x, b], []⟩) (r : R () s) :
    wpAny (model prog w) A (checkBuiltinCall id ⟨[.ref x, b], []⟩) R E s := by
  have sub := PySem.W.looks_subIn (M := model prog w) X e.ob
  simp only [checkBuiltinCall, hk, hs]
  refine wpAny_bind ?_
  unfold isInstance
  refine wpAny_bind (J.type.here (sub.here ?_))
  simp only [Bool.not_true, Bool.false_eq_true, if_false]
  cases hsig : Manifest.signature? id with
  | none => exact wpAny_pure r
  | some sig =>
    simp only [argsOk, hsig] at ha
    have h2 : Bind.checkArgs id sig ⟨[.ref x, b], []⟩ = pure () := ha
    show wpAny _ _ (Bind.checkArgs id sig ⟨[.ref x, b], []⟩) _ _ _
    rw [h2]
    exact wpAny_pure r
theorem call_bound {nm : Str} {id : String} {b : Value} {Q : Option Value → Shared → Prop} (X : K.In s.heap) (J : PySem.W.InstAt s.heap x ox C od) (hf : PySem.W.findIn K (.ref C) nm = some (some (.builtin id))) (bnd : bindSpecial (.builtin id) (.ref x) = pure (.builtin id, [.ref x]))
    (go : wpAny (model prog w) A (call (.builtin id) [.ref x, b]) (fun v => Q (some v)) E s) : wpAny (model prog w) A (callSpecialIfBound? (.ref x) nm [b]) Q E s := by
  simp only [callSpecialIfBound?, bindSpecialIfBound?]
  refine wpAny_holding (wpAny_bind (wpAny_bind (wpAny_bind (J.type.here ((PySem.W.looks_findIn X hf).here ?_)))))
  simp only [bnd]
  refine wpAny_bind (wpAny_askSetting (wpAny_ite ?_))
  have last : wpAny (model prog w) A (call (.builtin id) ([.ref x] ++ [b]) >>= fun v => pure (some v)) Q E s := wpAny_bind (thn go fun v t h => wpAny_pure h)
  split
  · exact wpAny_bind (wpAny_pure (wpAny_pure last))
  · exact wpAny_tryCatch (wpAny_bind (wpAny_pure (wpAny_pure last)))
theorem eq_call {Q : Value → Shared → Prop} (X : K.In s.heap) (J : PySem.W.InstAt s.heap x ox C od) (J' : PySem.W.InstAt s.heap y oy C oe) (e : EqP K C) (q : Q (if x = y then .bool true else .notImplemented) s) :
    wpAny (model prog w) A (call (.builtin "object.__eq__") [.ref x, .ref y]) Q E s := by
  refine wpAny_call (codeAny_call_builtin F.cmp_object.eq.plain F.cmpEntry_eq (chk_ob X J e F.cmpKind_eq F.cmpSplit_eq (F.cmpArgs_eq _ _) ?_))
  by_cases h : x = y
  · subst h
    rw [if_pos rfl] at q
    exact objEq_entry_same q
  · rw [if_neg h] at q
    exact objEq_entry_other h J.at_ J'.at_ (by rw [J.cls]; intro z; cases z) q
theorem eq_bd {Q : Option Value → Shared → Prop} (X : K.In s.heap) (J : PySem.W.InstAt s.heap x ox C od) (J' : PySem.W.InstAt s.heap y oy C oe) (e : EqP K C) (q : Q (some (if x = y then .bool true else .notImplemented)) s) :
    wpAny (model prog w) A (callSpecialIfBound? (.ref x) "__eq__" [.ref y]) Q E s := call_bound X J e.eq (F.cmp_object.eq.bind _) (eq_call X J J' e q)
theorem eq_try {Q : Option Value → Shared → Prop} (X : K.In s.heap) (J : PySem.W.InstAt s.heap x ox C od) (J' : PySem.W.InstAt s.heap y oy C oe) (e : EqP K C) (q : Q (if x = y then some (.bool true) else none) s) :
    wpAny (model prog w) A (tryCompare (.ref x) "__eq__" (.ref y)) Q E s := by
  unfold tryCompare
  refine wpAny_bind (eq_bd X J J' e ?_)
  by_cases h : x = y
  · simp only [if_pos h] at q ⊢
    exact wpAny_pure q
  · simp only [if_neg h] at q ⊢
    exact wpAny_pure q
theorem ne_call {Q : Value → Shared → Prop} (hu : A.units + 1 < cLine) (X : K.In s.heap) (J : PySem.W.InstAt s.heap x ox C od) (J' : PySem.W.InstAt s.heap y oy C oe) (e : EqP K C) (q : Q (if x = y then .bool false else .notImplemented) s) :
    wpAny (model prog w) A (call (.builtin "object.__ne__") [.ref x, .ref y]) Q E s := by
  refine wpAny_call (codeAny_call_builtin F.cmp_object.ne.plain F.cmpEntry_ne (chk_ob X J e F.cmpKind_ne F.cmpSplit_ne (F.cmpArgs_ne _ _) ?_))
  unfold Builtin.«object.__ne__»
  refine wpAny_bind (m := slotArgs _ _ _) (wpAny_pure ?_)
  refine wpAny_bind (wpAny_cRoomFor hu ?_)
  refine wpAny_bind (eq_bd X J J' e ?_)
  by_cases h : x = y
  · simp only [if_pos h] at q ⊢
    refine wpAny_bind (wpAny_truthy_bool ?_)
    exact wpAny_pure q
  · simp only [if_neg h] at q ⊢
    exact wpAny_pure q
theorem ne_try {Q : Option Value → Shared → Prop} (hu : A.units + 1 < cLine) (X : K.In s.heap) (J : PySem.W.InstAt s.heap x ox C od) (J' : PySem.W.InstAt s.heap y oy C oe) (e : EqP K C) (q : Q (if x = y then some (.bool false) else none) s) :
    wpAny (model prog w) A (tryCompare (.ref x) "__ne__" (.ref y)) Q E s := by
  unfold tryCompare
  refine wpAny_bind (call_bound X J e.ne (F.cmp_object.ne.bind _) (ne_call hu X J J' e ?_))
  by_cases h : x = y
  · simp only [if_pos h] at q ⊢
    exact wpAny_pure q
  · simp only [if_neg h] at q ⊢
    exact wpAny_pure q
theorem eq_plainI {Q : Value → Shared → Prop} (hu : A.units < cLine) (X : K.In s.heap) (J : PySem.W.InstAt s.heap x ox C od) (J' : PySem.W.InstAt s.heap y oy C oe) (e : EqP K C) (q : Q (.bool (decide (x = y))) s) :
    wpAny (model prog w) A (richCompare .Eq (.ref x) (.ref y)) Q E s := by
  unfold richCompare
  simp only [oneThing_ref]
  refine wpAny_holding (wpAny_bind (wpAny_cRoomFor hu ?_))
  refine wpAny_bind (J.type.here (wpAny_bind (J'.type.here ?_)))
  rw [if_neg (by simp)]
  refine wpAny_bind (wpAny_pure ?_)
  simp only [Bool.false_eq_true, if_false]
  refine wpAny_bind (eq_try X J J' e ?_)
  by_cases h : x = y
  · subst h
    simp only [if_true]
    rw [decide_eq_true rfl] at q
    exact wpAny_pure q
  · simp only [if_neg h, Bool.not_false, if_true]
    refine wpAny_bind (eq_try X J' J e ?_)
    rw [if_neg (fun z => h z.symm)]
    refine wpAny_bind (wpAny_rule ?_)
    refine wpAny_bind (wpAny_isSame_ref_other h J.at_ J'.at_ (by rw [J.cls]; intro z; cases z) ?_)
    rw [decide_eq_false h] at q
    exact wpAny_pure q
theorem ne_plainI {Q : Value → Shared → Prop} (hu : A.units + 2 < cLine) (X : K.In s.heap) (J : PySem.W.InstAt s.heap x ox C od) (J' : PySem.W.InstAt s.heap y oy C oe) (e : EqP K C) (q : Q (.bool (!decide (x = y))) s) :
    wpAny (model prog w) A (richCompare .NotEq (.ref x) (.ref y)) Q E s := by
  have hu0 : A.units < cLine := by omega
  have hu1 : A.units + 1 < cLine := by omega
  unfold richCompare
  simp only [oneThing_ref]
  refine wpAny_holding (wpAny_bind (wpAny_cRoomFor hu0 ?_))
  refine wpAny_bind (J.type.here (wpAny_bind (J'.type.here ?_)))
  rw [if_neg (by simp)]
  refine wpAny_bind (wpAny_pure ?_)
  simp only [Bool.false_eq_true, if_false]
  refine wpAny_bind (ne_try hu1 X J J' e ?_)
  by_cases h : x = y
  · subst h
    simp only [if_true]
    rw [decide_eq_true rfl] at q
    exact wpAny_pure q
  · simp only [if_neg h, Bool.not_false, if_true]
    refine wpAny_bind (ne_try hu1 X J' J e ?_)
    rw [if_neg (fun z => h z.symm)]
    refine wpAny_bind (wpAny_rule ?_)
    refine wpAny_bind (wpAny_isSame_ref_other h J.at_ J'.at_ (by rw [J.cls]; intro z; cases z) ?_)
    rw [decide_eq_false h] at q
    exact wpAny_pure q
end
theorem hu3_of {A : Around} {k : Nat} (hr : Room k A) : A.units + 2 < cLine := Nat.lt_of_le_of_lt (Nat.add_le_add_left (by decide : 2 ≤ 64) _) hr.units
section
variable {X : Cx} {C : Addr}
def rEqI (C : Addr) (neg : Bool) : R2 := fun x y H Q => ∃ a dx fs b dy gs, x = .ref a ∧ y = .ref b ∧ H a = some (.ins C dx fs) ∧ H b = some (.ins C dy gs) ∧ Q (.bl (if neg then !decide (a = b) else decide (a = b))) H
theorem op_eqI (e : EqP X.K C) (hu : X.A.units < cLine) : OpR X (compareOp .Eq) (rEqI C false) := by
  intro pins s σ H x y v u Q I rx ry h
  obtain ⟨a, dx, fs, b, dy, gs, rfl, rfl, ha, hb, q⟩ := h
  cases rx; cases ry
  obtain ⟨ox, od, J⟩ := ins_at I ha
  obtain ⟨oy, oe, J'⟩ := ins_at I hb
  show wpAny _ _ (richCompare .Eq (.ref a) (.ref b)) _ _ _
  exact eq_plainI hu I.kIn J J' e ⟨.bl (decide (a = b)), H, I, rfl, q⟩
theorem op_neI (e : EqP X.K C) (hu : X.A.units + 2 < cLine) : OpR X (compareOp .NotEq) (rEqI C true) := by
  intro pins s σ H x y v u Q I rx ry h
  obtain ⟨a, dx, fs, b, dy, gs, rfl, rfl, ha, hb, q⟩ := h
  cases rx; cases ry
  obtain ⟨ox, od, J⟩ := ins_at I ha
  obtain ⟨oy, oe, J'⟩ := ins_at I hb
  show wpAny _ _ (richCompare .NotEq (.ref a) (.ref b)) _ _ _
  exact ne_plainI hu I.kIn J J' e ⟨.bl (!decide (a = b)), H, I, rfl, q⟩
end
end Own

set_option Elab.async false
set_option linter.all false
set_option maxRecDepth 100000
set_option maxHeartbeats 4000000
/-! Lambdas as objects: made anywhere (in lambdas too), handed on, called in any frame; what is called may raise. -/
namespace Own
open PySem PySem.Spec PyProof.Rows L2
/-- a code object of the name q whose own table lies at P -/
def CodeH (c : Addr) (q : Str) (P : Addr) : HO := .ext fun h => h.CodeRec (.ref c) q ∧ PySem.W.CodeHd h c P
/-- the object at f is the lambda F with this body -/
def LamO (f : Addr) (F : NdefX.NF) (e : Expr) : HO := .ext fun h => ∃ pm ctv : Value, h.get? f = some (PySem.W.kla_obj "<lambda>" F.qual F.params e F.scope F.cl pm F.c ctv)
theorem codeH_at {P : Program} {w : World} {H : Hp} {h : Heap} {c Pt : Addr} {q : Str} (hok : HOk P w H h) (e : H c = some (CodeH c q Pt)) : h.CodeRec (.ref c) q ∧ PySem.W.CodeHd h c Pt := (hok c _ e).1
theorem lamO_at {P : Program} {w : World} {H : Hp} {h : Heap} {f : Addr} {F : NdefX.NF} {e : Expr} (hok : HOk P w H h) (x : H f = some (LamO f F e)) : ∃ pm ctv : Value, h.get? f = some (PySem.W.kla_obj "<lambda>" F.qual F.params e F.scope F.cl pm F.c ctv) := (hok f _ x).1
/-- the name of what is made within q -/
abbrev qSub (q : Str) : Str := (q ++ ".<locals>.") ++ "<lambda>"
/-- the tables T: all that they tell has its own table in T -/
structure TabsC (base : Heap) (mg : Str → Option Value) (T : List (Addr × Str)) (H : Hp) : Prop where
  at_ : ∀ p ∈ T, (mainGlobals ≠ p.1 ∧ base.BuiltinsAt mg p.1) ∧ ∃ ps : Array Value, H p.1 = some (.tbl ps) ∧ TriplesOk ps.toList ∧ ∀ (pos : Pos) (cv : Value), codeAmong pos ps.toList = some cv → ∃ c P', cv = .ref c ∧ H c = some (CodeH c p.2 P') ∧ (P', qSub p.2) ∈ T
  one : ∀ p ∈ T, ∀ p' ∈ T, p.1 = p'.1 → p.2 = p'.2
/-- tables with these among them -/
def TW (base : Heap) (mg : Str → Option Value) (B : List (Addr × Str)) (H : Hp) : Prop := ∃ T, TabsC base mg T H ∧ ∀ p ∈ B, p ∈ T
/-- what tables need to stay -/
def KeepT (H H' : Hp) : Prop := ∀ b o, H b = some o → (∀ xs, o ≠ .lst xs) → (∀ C dx fs, o ≠ .ins C dx fs) → (∀ kv, o ≠ .dK kv) → H' b = some o
theorem KeepT.same {H H' : Hp} (s : Same H H') : KeepT H H' := fun b o e _ _ _ => s b o e
theorem KeepT.trans {H H1 H2 : Hp} (a : KeepT H H1) (b : KeepT H1 H2) : KeepT H H2 := fun c o e h1 h2 h3 => b c o (a c o e h1 h2 h3) h1 h2 h3
theorem TW.keep {base : Heap} {mg : Str → Option Value} {B : List (Addr × Str)} {H H' : Hp} (t : TW base mg B H) (k : KeepT H H') : TW base mg B H' := by
  obtain ⟨T, ⟨ta, t1⟩, sub⟩ := t
  refine ⟨T, ⟨fun p hp => ?_, t1⟩, sub⟩
  obtain ⟨g, ps, e, tr, cs⟩ := ta p hp
  refine ⟨g, ps, k _ _ e (fun _ z => by cases z) (fun _ _ _ z => by cases z) (fun _ z => by cases z), tr, fun pos cv hc => ?_⟩
  obtain ⟨c, P', ec, hcc, hm⟩ := cs pos cv hc
  exact ⟨c, P', ec, k _ _ hcc (fun _ z => (by unfold CodeH at z; cases z)) (fun _ _ _ z => (by unfold CodeH at z; cases z)) (fun _ z => (by unfold CodeH at z; cases z)), hm⟩
theorem TW.same {base : Heap} {mg : Str → Option Value} {B : List (Addr × Str)} {H H' : Hp} (t : TW base mg B H) (s : Same H H') : TW base mg B H' := t.keep (.same s)
theorem TW.sub {base : Heap} {mg : Str → Option Value} {B B' : List (Addr × Str)} {H : Hp} (t : TW base mg B H) (s : ∀ p ∈ B', p ∈ B) : TW base mg B' H := let ⟨T, a, b⟩ := t; ⟨T, a, fun p hp => b p (s p hp)⟩
/-- an object that is no table's and no code's may change -/
theorem keepT_upd {H : Hp} {a : Addr} {u : HO} {o : HO} (e : H a = some u) (n : (∃ xs, u = .lst xs) ∨ (∃ C dx fs, u = .ins C dx fs) ∨ ∃ kv, u = .dK kv) : KeepT H (upd H a o) := fun b x hb h1 h2 h3 => by
  rw [upd_ne (fun z => ?_)]
  · exact hb
  · rw [z, e] at hb
    cases hb
    rcases n with ⟨xs, z⟩ | ⟨C, dx, fs, z⟩ | ⟨kv, z⟩
    · exact h1 _ z
    · exact h2 _ _ _ z
    · exact h3 _ z
theorem tw_start {base : Heap} {mg : Str → Option Value} {B : List (Addr × Str)} {H : Hp} (h : ∀ p ∈ B, H p.1 = some (.tbl #[])) (g : ∀ p ∈ B, mainGlobals ≠ p.1 ∧ base.BuiltinsAt mg p.1) (o : ∀ p ∈ B, ∀ p' ∈ B, p.1 = p'.1 → p.2 = p'.2) : TW base mg B H :=
  ⟨B, ⟨fun p hp => ⟨g p hp, #[], h p hp, True.intro, fun pos cv hc => by
    have z : codeAmong pos [] = some cv := hc
    simp [codeAmong] at z⟩, o⟩, fun _ h => h⟩
/-! ### cells -/
/-- from one moment to a later one: what cells hold stays, if the frames are not theirs -/
def CK (outer : List Env) (s : Shared) (H : Hp) (outer' : List Env) (s' : Shared) (H' : Hp) : Prop :=
  ∀ (cl : List (Str × Addr)) (fr : List Str) (ws : List (Option V)), NdefX.CellsAt cl fr ws s.heap H → (∀ y c, cl.lookup y = some c → c ∉ frs outer) → NdefX.CellsAt cl fr ws s'.heap H' ∧ ∀ y c, cl.lookup y = some c → c ∉ frs outer'
theorem CK.trans {o1 o2 o3 : List Env} {s1 s2 s3 : Shared} {H1 H2 H3 : Hp} (a : CK o1 s1 H1 o2 s2 H2) (b : CK o2 s2 H2 o3 s3 H3) : CK o1 s1 H1 o3 s3 H3 := fun cl fr ws c n => let ⟨c2, n2⟩ := a cl fr ws c n; b cl fr ws c2 n2
theorem ck_inv {X : Cx} {pins : List (Addr × Obj)} {σ : L2.St} {H : Hp} {s : Shared} (I : Inv X pins σ H s) (hex : X.ex = []) : CK X.outer X.s_0 X.H_0 X.stack s H := fun cl fr ws C n => by
  refine ⟨C.later n (fun y c _ z => by rw [hex] at z; cases z) I, fun y c e z => ?_⟩
  rcases List.mem_cons.mp (I.stkSub c z) with z | z
  · obtain ⟨_, v, o, ho, _⟩ := C.all y c e
    have h1 := Heap.lt_size ho
    rw [z] at h1
    exact Nat.lt_irrefl _ (Nat.lt_of_lt_of_le h1 I.ok.above)
  · exact n y c e z
/-! ### what may be called -/
structure CB where
  O : HO
  c : Addr
  q : Str
  cl : List (Str × Addr)
  P : Addr
abbrev SpC : Type := List Env → Shared → List (Option V) → Sp
structure CbOk (P : Program) (w : World) (K : PySem.W.Frag) (mg : Str → Option Value) (base : Heap) (CX : CXT) (k : Nat) (f : Addr) (B : CB) (ps fr : List Str) (sp : SpC) : Prop where
  fn : ∀ H h, HOk P w H h → H f = some B.O → PySem.W.FnAt f h
  ni : (∀ xs, B.O ≠ .lst xs) ∧ (∀ C dx fs, B.O ≠ .ins C dx fs) ∧ (∀ kv, B.O ≠ .dK kv) ∧ ∀ ps, B.O ≠ .tbl ps
  len : ∀ outer s ws vs H Q E, sp outer s ws vs H Q E → vs.length = ps.length
  run : ∀ (A : Around) (outer : List Env) (s : Shared) (H : Hp) (us : List Value) (vs : List V) (ws : List (Option V)) (Q : VK) (E : XK), Room k A → Env0 P w K mg base A outer s H → H f = some B.O → H B.c = some (CodeH B.c B.q B.P) →
    NdefX.CellsAt B.cl fr ws s.heap H → Vals vs us → sp outer s ws vs H Q E → codeAny (model P w) A (.call (.ref f) ⟨us, []⟩) (CR CX outer P w H s Q E) s
theorem lamO_ne {f : Addr} {F : NdefX.NF} {e : Expr} : (∀ xs, LamO f F e ≠ .lst xs) ∧ (∀ C dx fs, LamO f F e ≠ .ins C dx fs) ∧ (∀ kv, LamO f F e ≠ .dK kv) ∧ ∀ ps, LamO f F e ≠ .tbl ps :=
  ⟨fun _ z => (by unfold LamO at z; cases z), fun _ _ _ z => (by unfold LamO at z; cases z), fun _ z => (by unfold LamO at z; cases z), fun _ z => (by unfold LamO at z; cases z)⟩
theorem codeH_ne {c : Addr} {q : Str} {P : Addr} : (∀ xs, CodeH c q P ≠ .lst xs) ∧ (∀ C dx fs, CodeH c q P ≠ .ins C dx fs) ∧ (∀ kv, CodeH c q P ≠ .dK kv) ∧ ∀ ps, CodeH c q P ≠ .tbl ps :=
  ⟨fun _ z => (by unfold CodeH at z; cases z), fun _ _ _ z => (by unfold CodeH at z; cases z), fun _ z => (by unfold CodeH at z; cases z), fun _ z => (by unfold CodeH at z; cases z)⟩
abbrev cbL (f : Addr) (F : NdefX.NF) (e : Expr) (Pt : Addr) : CB := ⟨LamO f F e, F.c, F.qual, F.cl, Pt⟩
section
variable {CX : CXT} {P : Program} {w : World} {K : PySem.W.Frag} {mg : Str → Option Value} {base : Heap} {N ps fr : List Str} {F : NdefX.NF} {f : Addr} {k j : Nat} {sp sp' : SpC} {B : CB} {e : Expr}
theorem CbOk.mono (o : CbOk P w K mg base CX j f B ps fr sp) (h : j ≤ k) : CbOk P w K mg base CX k f B ps fr sp := ⟨o.fn, o.ni, o.len, fun A outer s H us vs ws Q E hr => o.run A outer s H us vs ws Q E (hr.mono h)⟩
/-- a lambda by its body -/
theorem cb_lam {Pt : Addr} (S : NdefX.NScope N ps fr F.scope) (hb : ∀ (pm ctv : Value) (us : List Value), us.length = ps.length → bindArgs (PySem.W.kla_fn "<lambda>" F.qual F.params e F.scope F.cl pm (.ref F.c) ctv) ⟨us, []⟩ = pure (ps.zip us)) (len : ∀ outer s ws vs H Q E, sp outer s ws vs H Q E → vs.length = ps.length)
    (body : ∀ (A : Around) (outer : List Env) (s : Shared) (H : Hp) (vs : List V) (ws : List (Option V)) (Q : VK) (E : XK), Room k (A.deeper (NdefX.envF F f s.heap.objs.size)) → H f = some (LamO f F e) → H F.c = some (CodeH F.c F.qual Pt) → NdefX.CellsAt F.cl fr ws s.heap H → sp outer s ws vs H Q E →
      ∃ t, PE (NdefX.ncx CX P w K mg base N F f A outer s H E) e t ∧ t (NdefX.startF N vs ws) H Q) : CbOk P w K mg base CX (k + 1) f (cbL f F e Pt) ps fr sp := by
  refine ⟨fun H h ok x => let ⟨pm, ctv, ho⟩ := lamO_at ok x; ⟨_, _, _, _, ho⟩, lamO_ne, len, fun A outer s H us vs ws Q E hr e0 hf hc C r hsp => ?_⟩
  have ll := len _ _ _ _ _ _ _ hsp
  obtain ⟨pm, ctv, ho⟩ := lamO_at e0.hok hf
  have noLim : s.heap.NoLimit := e0.mod.nolimit.keeps fun b o x => (e0.bs b o x).1
  refine PySem.W.kla_callFunE hr.depth ho rfl S.co S.gen rfl (codeH_at e0.hok hc).1 ?_
  rw [hb pm ctv us (by rw [← r.length]; exact ll)]
  refine wpAny_pure (wpAny_newFunctionEnv S.nocell (fun ⟨n, _⟩ hy => S.par n (List.of_mem_zip hy).1) (fun h1 ns sb => ⟨noLim.fresh _ sb, ?_⟩) S.kind)
  have grow : ∀ b o, s.heap.get? b = some o → h1.get? b = some o := fun b o x => sb.extBut b o (Nat.ne_of_lt (Heap.lt_size x)) (Heap.get?_push_of_some _ x)
  obtain ⟨t, ht, hq⟩ := body A outer s H vs ws Q E (hr.deeper _) hf hc C hsp
  have I : Inv (NdefX.ncx CX P w K mg base N F f A outer s H E) [] (NdefX.startF N vs ws) H { s with heap := h1, toks := s.toks + (ps.zip us).length } := NdefX.inv_startN S hr.hd e0 ll r C ns grow
  refine PySem.W.kla_codeExpr (wpAny_mono (ht.run [] _ _ H Q I hq) (fun v s' z => ?_) fun x s' z => z)
  obtain ⟨v', H', J, rv, q⟩ := z
  exact ⟨v', H', J.os, J.bare, J.base, J.hok, rv, q⟩
end
/-! ### made -/
section
variable {X : Cx} {pins : List (Addr × Obj)} {σ : L2.St} {H : Hp} {s : Shared}
/-- the table is written, the code object at c is known from now on -/
theorem inv_tabC {P c P' : Addr} {q : Str} {ps more : Array Value} {h' : Heap} {t' : Nat} (I : Inv X pins σ H s) (hP : H P = some (.tbl ps)) (k : ∀ b o, b ≠ P → s.heap.get? b = some o → h'.get? b = some o)
    (hm : h'.get? P = some { cls := .none, data := .fields (ps ++ more) }) (hc : s.heap.objs.size ≤ c) (hlt : c < h'.objs.size) (hc2 : s.heap.objs.size ≤ P') (hne : c ≠ P') (hr : h'.CodeRec (.ref c) q ∧ PySem.W.CodeHd h' c P') (hP' : h'.get? P' = some { cls := .none, data := .fields #[] }) :
    Inv X pins σ (upd (upd (upd H P (.tbl (ps ++ more))) c (CodeH c q P')) P' (.tbl #[])) { s with heap := h', toks := t' } := by
  have nC : H c = none := I.hok.fresh hc
  have nP' : H P' = none := I.hok.fresh hc2
  have p1 : P ≠ c := fun z => by rw [z, nC] at hP; cases hP
  have p2 : P ≠ P' := fun z => by rw [z, nP'] at hP; cases hP
  have old : ∀ b o, s.heap.get? b = some o → b ≠ c ∧ b ≠ P' := fun b o x => ⟨fun z => by rw [z] at x; exact Nat.lt_irrefl _ (Nat.lt_of_lt_of_le (Heap.lt_size x) hc), fun z => by rw [z] at x; exact Nat.lt_irrefl _ (Nat.lt_of_lt_of_le (Heap.lt_size x) hc2)⟩
  have sm : ∀ b u, H b = some u → b ≠ c ∧ b ≠ P' := fun b u x => ⟨fun z => (by rw [z, nC] at x; cases x), fun z => (by rw [z, nP'] at x; cases x)⟩
  have rest : ∀ b, b ≠ P → b ≠ c → b ≠ P' → upd (upd (upd H P (.tbl (ps ++ more))) c (CodeH c q P')) P' (.tbl #[]) b = H b := fun b h1 h2 h3 => by rw [upd_ne h3, upd_ne h2, upd_ne h1]
  have tP : upd (upd (upd H P (.tbl (ps ++ more))) c (CodeH c q P')) P' (.tbl #[]) P = some (.tbl (ps ++ more)) := by rw [upd_ne p2, upd_ne p1, upd_same]
  have tC : upd (upd (upd H P (.tbl (ps ++ more))) c (CodeH c q P')) P' (.tbl #[]) c = some (CodeH c q P') := by rw [upd_ne hne, upd_same]
  have nTb : ∀ b u, H b = some u → (∀ q, u ≠ .tbl q) → b ≠ P := fun b u x n z => by
    rw [z, hP] at x
    exact n ps (Option.some.inj x).symm
  have nNo : ∀ b, H b = none → b ≠ P := fun b x z => by
    rw [z, hP] at x
    cases x
  have keepNT : ∀ b u, H b = some u → (∀ q, u ≠ .tbl q) → upd (upd (upd H P (.tbl (ps ++ more))) c (CodeH c q P')) P' (.tbl #[]) b = some u := fun b u x n => by
    rw [rest b (nTb b u x n) (sm b u x).1 (sm b u x).2]
    exact x
  refine I.step (g' := s.gens) (d' := s.drawn) (ch := []) (fun b hb => absurd hb (by simp)) (fun b o _ _ _ x n => k b o (nNo b n) x) (fun b o _ _ _ x n => ⟨o.slots, k b o (nNo b n) x⟩)
    (fun b o _ x n => by rw [rest b (nNo b n) (old b o x).1 (old b o x).2]; exact n) (fun b o _ x => ?_) (fun b xs x => keepNT b _ x fun _ z => by cases z) (fun b o u x => keepNT b _ x fun _ z => by cases z) (fun b qs x => ?_) (fun m hn => ?_) (fun b u x => ?_) I.bare
  · by_cases hb : b = P
    · rw [hb]
      exact ⟨_, hm⟩
    · exact ⟨o, k b o hb x⟩
  · by_cases hb : b = P
    · rw [hb, hP] at x
      cases x
      rw [hb, tP]
      exact ⟨more, rfl⟩
    · rw [rest b hb (sm b _ x).1 (sm b _ x).2, x]
      exact ⟨#[], by simp⟩
  · obtain ⟨ob, es, ep, ho, r⟩ := hn
    exact ⟨ob, es, ep, k _ ob (nNo _ I.free) ho, r⟩
  · by_cases h3 : b = P'
    · rw [h3, upd_same] at x
      cases x
      rw [h3]
      exact hP'
    · by_cases h2 : b = c
      · rw [h2, tC] at x
        cases x
        rw [h2]
        obtain ⟨o, vs, f1, f2, f3, f4, f5, f6, f7, e1, e2⟩ := id hr.2
        exact ⟨hr, ⟨o, e1⟩, fun h1 h2 ⟨⟨c0, o0, v0, t0, y1, y2, y3⟩, z⟩ st => by
          cases y1
          obtain ⟨o9, vs9, g1, g2, g3, g4, g5, g6, g7, e9, r9⟩ := z
          exact ⟨⟨_, o0, v0, t0, rfl, st _ y2, y3⟩, o9, vs9, g1, g2, g3, g4, g5, g6, g7, st _ e9, r9⟩⟩
      · by_cases h1 : b = P
        · rw [h1, tP] at x
          cases x
          rw [h1]
          exact hm
        · rw [rest b h1 h2 h3] at x
          refine (I.hok b u x).stay (fun d v hd q => k d v ?_ q) (fun d q => keepNT d _ q fun _ z => by cases z) fun d xs q => keepNT d _ q fun _ z => by cases z
          rcases hd with z | z
          · rw [z]
            exact h1
          · exact nTb d _ z fun _ y => by cases y
/-- a lambda just pushed is known from now on -/
theorem inv_lamO {F : NdefX.NF} {e : Expr} {o : Obj} {pm ctv : Value} {t' : Nat} (I : Inv X pins σ H s) (ho : o = PySem.W.kla_obj "<lambda>" F.qual F.params e F.scope F.cl pm F.c ctv) : Inv X pins σ (upd H s.heap.objs.size (LamO s.heap.objs.size F e)) { s with heap := s.heap.push o, toks := t' } := by
  subst ho
  have here : (s.heap.push (PySem.W.kla_obj "<lambda>" F.qual F.params e F.scope F.cl pm F.c ctv)).get? s.heap.objs.size = some (PySem.W.kla_obj "<lambda>" F.qual F.params e F.scope F.cl pm F.c ctv) := Heap.get?_push_size _ rfl
  exact I.laid (a := s.heap.objs.size) (fun b u x => Heap.get?_push_of_some _ x) (Nat.le_refl _) ⟨⟨pm, ctv, here⟩, ⟨_, here⟩, fun h1 h2 ⟨a, b, z⟩ st => ⟨a, b, st _ z⟩⟩
/-- what it needs to make lambdas: the frame's code object, in the heap -/
structure Mk (X : Cx) (c P : Addr) (s : Shared) : Prop where
  code : X.env.code = .ref c
  hd : PySem.W.CodeHd s.heap c P
end
end Own

set_option Elab.async false
set_option linter.all false
set_option maxRecDepth 100000
set_option maxHeartbeats 4000000
namespace Own
open PySem PySem.Spec PyProof.Rows L2
section
variable {M : Model} {A : Around} {E : Value → Shared → Prop} {s : Shared} {c P : Addr} {mg : Str → Option Value} {name qual : Str} {params : Arguments} {body : Expr} {scope : Scope} {env : Env} {ps : Array Value} {pos : Pos} {line : Nat} {clos : List (Str × Addr)} {Q : Value → Shared → Prop}
/-- a lambda's object made with a new code object: its own table is told too -/
theorem lamNew (hcl : closureFor scope env = pure clos) (hgl : env.globals = mainGlobals) (hg : s.heap.Ns mainGlobals mg) (hcode : env.code = .ref c) (C : PySem.W.CodeHd s.heap c P) (hP : s.heap.get? P = some (PySem.W.tabObj ps)) (ht : TriplesOk ps.toList) (hnf : codeAmong pos ps.toList = none) (hgP : mainGlobals ≠ P) (hb : s.heap.BuiltinsAt mg P)
    (go : ∀ (c' P' : Addr) (ctv : Value) (h' : Heap) (tk : Tok), Heap.ExtBut P s.heap h' → s.heap.objs.size ≤ c' → c' < h'.objs.size → s.heap.objs.size ≤ P' → c' ≠ P' → h'.CodeRec (.ref c') qual → PySem.W.CodeHd h' c' P' → h'.get? P' = some (PySem.W.tabObj #[]) → h'.get? P = some (PySem.W.tabObj (ps ++ #[rawInt pos.line, rawInt pos.col, .ref c'])) →
      Q (.ref h'.objs.size) { s with heap := h'.push (PySem.W.kla_obj name qual params body scope clos ((mg "__name__").getD .none) c' ctv), toks := tk }) : wpAny M A (makeFunction name qual params (.expr body) scope env [] [] [] pos line) Q E s := by
  rw [makeFunction_eq]
  simp only [List.zip_nil_right, List.filterMap_nil, List.isEmpty_nil, if_true, pure_bind]
  obtain ⟨bm, ob, b1, b2, b3, b4, b5, b6, b7, b8⟩ := hb
  have ends : ∀ {ct : Value} {h0 : Heap} {c' : Addr} {h' : Heap} {tk : Tok}, (∀ b o, s.heap.get? b = some o → h0.get? b = some o) → s.heap.objs.size ≤ h0.objs.size → Heap.ExtBut P h0 h' → h0.objs.size ≤ c' → c' < h'.objs.size → h'.CodeRec (.ref c') qual → h'.TableAt c P (ps ++ #[rawInt pos.line, rawInt pos.col, .ref c']) → (∃ P', h0.objs.size ≤ P' ∧ h'.IsCode c' P' #[] ∧ h'.TableAt c' P' #[]) →
      Q (.ref h'.objs.size) { s with heap := h'.push (PySem.W.kla_obj name qual params body scope clos ((mg "__name__").getD .none) c' ct), toks := tk } := by
    intro ct h0 c' h' tk k0 z0 hx ge lt rec tab ⟨P', gP, i1, i2⟩
    refine go c' P' ct h' tk (fun b o nb x => hx b o nb (k0 b o x)) (Nat.le_trans z0 ge) lt (Nat.le_trans z0 gP) ?_ rec (PySem.W.CodeHd.of i1 i2) i2.2 tab.2
    obtain ⟨_, _, _, _, _, _, _, _, _, _, _, _, _, _, _, _, _, _, _, _, ne⟩ := i1
    exact ne
  show wpAny M A (makeTail name qual params (.expr body) scope env .none .none none pos line) Q E s
  unfold makeTail
  rw [hcl, hgl]
  refine wpAny_bind (wpAny_pure ?_)
  cases clos with
  | nil =>
    simp only [List.isEmpty_nil, if_true]
    refine wpAny_bind (wpAny_pure (wpAny_bind (wpAny_functionCodeX hcode (C.code hP ht) (C.tab hP) hnf fun c' h' tk hx ge lt _ rec tab sub => ?_)))
    have g2 := hg.extBut hx hgP
    refine wpAny_bind (wpAny_builtinsFor g2 b1 b2 (hx _ _ b4 b5) b6 b7 b8 (wpAny_bind (wpAny_nsGet g2 ?_)))
    exact wpAny_bind (wpAny_pure (wpAny_newObj_type (ends (fun _ _ x => x) (Nat.le_refl _) hx ge lt rec tab sub) (by size_fits)))
  | cons q r =>
    simp only [List.isEmpty_cons, Bool.false_eq_true, if_false]
    have k0 : ∀ (o0 : Obj) b o, s.heap.get? b = some o → (s.heap.push o0).get? b = some o := fun _ b o x => Heap.get?_push_of_some _ x
    refine wpAny_bind (wpAny_newTextTuple ?_)
    refine wpAny_bind (wpAny_functionCodeX hcode ((C.keeps (k0 _)).code (k0 _ _ _ hP) ht) ((C.keeps (k0 _)).tab (k0 _ _ _ hP)) hnf fun c' h' tk hx ge lt _ rec tab sub => ?_)
    have g2 := (hg.push _).extBut hx hgP
    refine wpAny_bind (wpAny_builtinsFor g2 b1 b2 (hx _ _ b4 (k0 _ _ _ b5)) b6 b7 b8 (wpAny_bind (wpAny_nsGet g2 ?_)))
    exact wpAny_bind (wpAny_pure (wpAny_newObj_type (ends (k0 _) (by rw [Heap.size_push]; omega) hx ge lt rec tab sub) (by size_fits)))
end

section
variable {X : Cx} {pins : List (Addr × Obj)} {σ : L2.St} {H : Hp} {s : Shared}
abbrev lamF (X : Cx) (params : Arguments) (scope : Scope) (c' : Addr) : NdefX.NF := ⟨"<lambda>", X.env.qual ++ "<lambda>", params, [], scope, cloFrom X.env.cells scope.names [], c'⟩
theorem lam_makeC {B : List (Addr × Str)} {c P : Addr} {params : Arguments} {body : Expr} {scope : Scope} {pos : Pos} {E Q : Value → Shared → Prop} (I : Inv X pins σ H s) (hcode : X.env.code = .ref c) (hC : PySem.W.CodeHd s.heap c P) (hm : (P, X.env.qual ++ "<lambda>") ∈ B) (hT : TW X.base X.mg B H)
    (hdef : defaultsOf params X.env = ([], [])) (hfree : ∀ y ∈ scope.names, y.2 = .free → ∃ c, X.env.cells.lookup y.1 = some c)
    (go : ∀ (f c' P' : Addr) (H1 : Hp) (s' : Shared), Inv X pins σ H1 s' → LamX.ExtN H H1 → (∀ b, H1 b = none → H b = none) → TW X.base X.mg ((P', qSub (X.env.qual ++ "<lambda>")) :: B) H1 → H f = none → H1 f = some (LamO f (lamF X params scope c') body) → H1 c' = some (CodeH c' (X.env.qual ++ "<lambda>") P') → Q (.ref f) s') :
    wpAny (model X.prog X.w) X.A (eval (.Lambda params body scope pos) X.env) Q E s := by
  obtain ⟨T, TC, sub⟩ := hT
  obtain ⟨⟨gP, bP0⟩, ps, hP, ht, ha⟩ := TC.at_ _ (sub _ hm)
  have bP : s.heap.BuiltinsAt X.mg P := bP0.keeps I.bk
  have tP : s.heap.get? P = some (PySem.W.tabObj ps) := I.hok P _ hP
  refine PySem.W.kla_eval hdef ?_
  cases hc : codeAmong pos ps.toList with
  | none =>
    refine lamNew (closure_ok hfree) I.ok.glob (I.mod.glob.keeps I.bk) hcode hC tP ht hc gP bP fun c' P' ctv h' tk hx ge lt gP' ne rec hd hP2 tab => ?_
    have I1 := inv_tabC (t' := tk) (more := #[rawInt pos.line, rawInt pos.col, .ref c']) (h' := h') I hP (fun b o nb x => hx b o nb x) tab ge lt gP' ne ⟨rec, hd⟩ hP2
    have I2 := inv_lamO (F := lamF X params scope c') (e := body) (t' := tk) (pm := (X.mg "__name__").getD .none) (ctv := ctv) I1 rfl
    have nC : H c' = none := I.hok.fresh ge
    have nP' : H P' = none := I.hok.fresh gP'
    have nF := I1.hok.fresh (Nat.le_refl _)
    have nF0 : H h'.objs.size = none := I.hok.fresh (Nat.le_trans ge (Nat.le_of_lt lt))
    have p1 : P ≠ c' := fun z => by rw [z, nC] at hP; cases hP
    have p2 : P ≠ P' := fun z => by rw [z, nP'] at hP; cases hP
    have kE : LamX.ExtN H (upd (upd (upd H P (.tbl (ps ++ #[rawInt pos.line, rawInt pos.col, .ref c']))) c' (CodeH c' (X.env.qual ++ "<lambda>") P')) P' (.tbl #[])) := fun b o x n => by
      rw [upd_ne (fun z => by rw [z, nP'] at x; cases x), upd_ne (fun z => by rw [z, nC] at x; cases x), upd_ne (fun z => by rw [z, hP] at x; exact n ps (Option.some.inj x).symm)]
      exact x
    have sF : Same (upd (upd (upd H P (.tbl (ps ++ #[rawInt pos.line, rawInt pos.col, .ref c']))) c' (CodeH c' (X.env.qual ++ "<lambda>") P')) P' (.tbl #[])) (upd (upd (upd (upd H P (.tbl (ps ++ #[rawInt pos.line, rawInt pos.col, .ref c']))) c' (CodeH c' (X.env.qual ++ "<lambda>") P')) P' (.tbl #[])) h'.objs.size (LamO h'.objs.size (lamF X params scope c') body)) := same_new nF
    have eC : upd (upd (upd H P (.tbl (ps ++ #[rawInt pos.line, rawInt pos.col, .ref c']))) c' (CodeH c' (X.env.qual ++ "<lambda>") P')) P' (.tbl #[]) c' = some (CodeH c' (X.env.qual ++ "<lambda>") P') := by rw [upd_ne ne, upd_same]
    have eP : upd (upd (upd H P (.tbl (ps ++ #[rawInt pos.line, rawInt pos.col, .ref c']))) c' (CodeH c' (X.env.qual ++ "<lambda>") P')) P' (.tbl #[]) P = some (.tbl (ps ++ #[rawInt pos.line, rawInt pos.col, .ref c'])) := by rw [upd_ne p2, upd_ne p1, upd_same]
    have eL : (ps ++ #[rawInt pos.line, rawInt pos.col, .ref c']).toList = ps.toList ++ [rawInt pos.line, rawInt pos.col, .ref c'] := by simp
    have hG : mainGlobals < s.heap.objs.size := by
      obtain ⟨ob, es, ep, ho, _⟩ := I.mod.glob.keeps I.bk
      exact Heap.lt_size ho
    have cH : ∀ {c0 Pa : Addr} {q0 : Str}, H c0 = some (CodeH c0 q0 Pa) → upd (upd (upd H P (.tbl (ps ++ #[rawInt pos.line, rawInt pos.col, .ref c']))) c' (CodeH c' (X.env.qual ++ "<lambda>") P')) P' (.tbl #[]) c0 = some (CodeH c0 q0 Pa) := fun x => kE _ _ x codeH_ne.2.2.2
    have TN : TabsC X.base X.mg ((P', qSub (X.env.qual ++ "<lambda>")) :: T) (upd (upd (upd H P (.tbl (ps ++ #[rawInt pos.line, rawInt pos.col, .ref c']))) c' (CodeH c' (X.env.qual ++ "<lambda>") P')) P' (.tbl #[])) := by
      have notT : ∀ p ∈ T, p.1 ≠ P' := fun p hp z => by
        obtain ⟨_, ps9, e9, _⟩ := TC.at_ p hp
        rw [z, nP'] at e9
        cases e9
      refine ⟨fun p hp => ?_, fun p hp p' hp' e => ?_⟩
      · rcases List.mem_cons.mp hp with rfl | hp
        · refine ⟨⟨fun z => ?_, ?_⟩, #[], upd_same, True.intro, fun pos cv hc => ?_⟩
          · have z : mainGlobals = P' := z
            rw [z] at hG
            exact Nat.lt_irrefl _ (Nat.lt_of_lt_of_le hG gP')
          · obtain ⟨bm, ob, b1, b2, b3, b4, b5, b6⟩ := bP0
            refine ⟨bm, ob, b1, b2, b3, fun z => ?_, b5, b6⟩
            have z : bm = P' := z
            have l1 := Heap.lt_size (I.bk _ _ b5)
            rw [z] at l1
            exact Nat.lt_irrefl _ (Nat.lt_of_lt_of_le l1 gP')
          · have z : codeAmong pos [] = some cv := hc
            simp [codeAmong] at z
        · obtain ⟨g9, ps9, e9, t9, a9⟩ := TC.at_ p hp
          by_cases hb : p.1 = P
          · have q9 : p.2 = X.env.qual ++ "<lambda>" := TC.one p hp _ (sub _ hm) hb
            rw [hb] at g9 e9 ⊢
            rw [hP] at e9
            cases e9
            refine ⟨g9, _, eP, by rw [eL]; exact PySem.TriplesOk_snoc _ _ _ _ ht, fun p0 cv hcv => ?_⟩
            rw [eL] at hcv
            rcases LamX.among_app _ ht hcv with z | z
            · obtain ⟨c0, P0, x1, x2, x3⟩ := a9 p0 cv z
              exact ⟨c0, P0, x1, cH x2, List.mem_cons_of_mem _ x3⟩
            · refine ⟨c', P', z, ?_, ?_⟩
              · rw [q9]
                exact eC
              · rw [q9]
                exact List.mem_cons_self
          · refine ⟨g9, ps9, ?_, t9, fun p0 cv hcv => ?_⟩
            · rw [upd_ne (notT p hp), upd_ne (fun z => by rw [z, nC] at e9; cases e9), upd_ne hb]
              exact e9
            · obtain ⟨c0, P0, x1, x2, x3⟩ := a9 p0 cv hcv
              exact ⟨c0, P0, x1, cH x2, List.mem_cons_of_mem _ x3⟩
      · rcases List.mem_cons.mp hp with rfl | hp
        · rcases List.mem_cons.mp hp' with rfl | hp'
          · rfl
          · exact absurd e.symm (notT p' hp')
        · rcases List.mem_cons.mp hp' with rfl | hp'
          · exact absurd e (notT p hp)
          · exact TC.one p hp p' hp' e
    refine go h'.objs.size c' P' _ _ I2 (fun b o x n => sF _ _ (kE _ _ x n)) (fun b x => ?_) (TW.same ⟨_, TN, fun p hp => ?_⟩ sF) nF0 upd_same (sF _ _ eC)
    · have z := NdefX.upd_none (NdefX.upd_none (NdefX.upd_none (NdefX.upd_none x)))
      exact z
    · rcases List.mem_cons.mp hp with rfl | hp
      · exact List.mem_cons_self
      · exact List.mem_cons_of_mem _ (sub p hp)
  | some cv =>
    obtain ⟨c', P', rfl, x2, x3⟩ := ha pos cv hc
    refine PySem.W.kla_makeFunctionHit (mg := X.mg) (closure_ok hfree) I.ok.glob (I.mod.glob.keeps I.bk) hcode hC tP ht hc bP fun ctv h' tk hx ge => ?_
    have I1 : Inv X pins σ H { s with heap := h', toks := tk } := I.kept hx
    have nF := I1.hok.fresh (Nat.le_refl _)
    have I2 := inv_lamO (F := lamF X params scope c') (e := body) (t' := tk) (pm := (X.mg "__name__").getD .none) (ctv := ctv) I1 rfl
    have sF : Same H (upd H h'.objs.size (LamO h'.objs.size (lamF X params scope c') body)) := same_new nF
    exact go h'.objs.size c' P' _ _ I2 (fun b o x n => sF _ _ x) (fun b x => NdefX.upd_none x) (TW.same ⟨T, TC, fun p hp => (List.mem_cons.mp hp).elim (fun z => z ▸ x3) (sub p)⟩ sF) nF upd_same (sF _ _ x2)
/-- a lambda as a value: told: the object, its code object, its table -/
def tLamC (X : Cx) (B : List (Addr × Str)) (c P : Addr) (params : Arguments) (body : Expr) (scope : Scope) : TE := fun σ H Q => TW X.base X.mg B H ∧ (∀ h, HOk X.prog X.w H h → X.base.StaysIn h → PySem.W.CodeHd h c P) ∧ (P, X.env.qual ++ "<lambda>") ∈ B ∧
  ∀ (f c' P' : Addr) (H1 : Hp), LamX.ExtN H H1 → (∀ b, H1 b = none → H b = none) → TW X.base X.mg ((P', qSub (X.env.qual ++ "<lambda>")) :: B) H1 → H f = none → H1 f = some (LamO f (lamF X params scope c') body) → H1 c' = some (CodeH c' (X.env.qual ++ "<lambda>") P') → Q (.ref f) H1
theorem pe_lamC {B : List (Addr × Str)} {c P : Addr} {params : Arguments} {body : Expr} {scope : Scope} {pos : Pos} (hcode : X.env.code = .ref c) (hdef : defaultsOf params X.env = ([], [])) (hfree : ∀ y ∈ scope.names, y.2 = .free → X.env.scope.names.lookup y.1 = some .cell ∨ X.env.scope.names.lookup y.1 = some .free) :
    PE X (.Lambda params body scope pos) (tLamC X B c P params body scope) := by
  refine ⟨fun pins s σ H Q I h => ?_⟩
  obtain ⟨hT, hC, hm, go⟩ := h
  have hf : ∀ y ∈ scope.names, y.2 = .free → ∃ c, X.env.cells.lookup y.1 = some c := fun y hy e => (hfree y hy e).elim (fun z => I.ok.has _ (.inl z)) fun z => I.ok.has _ (.inr z)
  refine lam_makeC I hcode (hC _ I.hok fun b o e => I.bk b o e) hm hT hdef hf fun f c' P' H1 s' I1 e1 e2 e3 e4 e5 e6 => ?_
  exact ⟨.ref f, H1, I1, rfl, go f c' P' H1 e1 e2 e3 e4 e5 e6⟩
end
/-! ### called -/
section
variable {X : Cx} {CX : CXT} {k : Nat} {f : Addr} {B : CB} {ps fr : List Str} {sp : SpC} {ws : List (Option V)} {x : Str} {i : Nat} {e : Expr} {es : List Expr} {p pos : Pos} {t : TA} {Ew : L2.St → XK}
theorem run_cb {pins : List (Addr × Obj)} {σ : L2.St} {H : Hp} {s : Shared} {Q : VK} {us : List Value} {vs : List V} (Fn : CbOk X.prog X.w X.K X.mg X.base CX k f B ps fr sp) (hr : Room k X.A) (hx : ∀ σ, PassesAt CX X σ (Ew σ)) (I : Inv X pins σ H s) (hf : H f = some B.O) (hc : H B.c = some (CodeH B.c B.q B.P)) (C : NdefX.CellsAt B.cl fr ws s.heap H)
    (r : Vals vs us) (q : sp X.stack s ws vs H Q (Ew σ)) : wpAny (model X.prog X.w) X.A (call (.ref f) us) (EP X pins σ Q) X.xe s := by
  refine wpAny_call (codeAny_mono (Fn.run X.A X.stack s H us vs ws Q (Ew σ) hr I.env0 hf hc C r q) fun r s' z => ?_)
  cases r with
  | error x => exact hx σ pins H s x s' I z
  | ok fl => cases fl with
    | ret u => exact I.after z
    | next => exact False.elim z
    | brk => exact False.elim z
    | cont => exact False.elim z
/-- x(e, ..), x a name that holds what may be called -/
def tCallB (X : Cx) (CX : CXT) (k : Nat) (ps : List Str) (i : Nat) (Ew : L2.St → XK) (t : TA) : TE := fun σ H Q => ∃ (f : Addr) (B : CB), σ[i]? = some (some (.ref f)) ∧ H f = some B.O ∧ (∀ h, HOk X.prog X.w H h → PySem.W.FnAt f h) ∧
  t σ H fun vs H1 => ∃ (fr : List Str) (ws : List (Option V)) (sp : SpC), CbOk X.prog X.w X.K X.mg X.base CX k f B ps fr sp ∧ H1 f = some B.O ∧ H1 B.c = some (CodeH B.c B.q B.P) ∧
    ∀ pins s, Inv X pins σ H1 s → NdefX.CellsAt B.cl fr ws s.heap H1 ∧ sp X.stack s ws vs H1 Q (Ew σ)
theorem pe_callB1 (hr : Room k X.A) (hx : ∀ σ, PassesAt CX X σ (Ew σ)) (hN : X.N[i]? = some x) (hv : Vis X.env.scope x) (ha : PA X (e :: es) t)
    (hd : (x == ("__debug__" : Str)) = false := by decide) (hcd : (x == ("__classdict__" : Str)) = false := by decide)
    (he : starEach (e :: es) X.env = (false, eval e X.env) :: starEach es X.env := by rfl) (hpl : (backTo pos (starEach es X.env)).any (·.1) = false := by rfl) :
    PE X (.Call (.Name x p) (e :: es) [] pos) (tCallB X CX k ps i Ew t) := by
  refine ⟨fun pins s σ H Q I h => ?_⟩
  obtain ⟨f, B, hs, hf, hfn, ht⟩ := h
  obtain ⟨u, ru, ld⟩ := ld_var (E := X.xe) (pos := p) I hN hv hs hd hcd
  obtain rfl : u = Value.ref f := ru
  refine wpAny_Call_Name_kw (ld _ ?_)
  refine PySem.W.callWith_F (first := []) (hfn _ I.hok) (thn (ha.run pos pins s σ H _ I ht) fun us s2 z => ?_) he hpl
  obtain ⟨vs, H2, I2, r, fr, ws, sp, Fn, h1, h2, hq⟩ := z
  obtain ⟨C, q⟩ := hq pins s2 I2
  exact ⟨Fn.fn _ _ I2.hok h1, run_cb Fn hr hx I2 h1 h2 C r q⟩
/-- x() -/
def tCallB0 (X : Cx) (CX : CXT) (k : Nat) (i : Nat) (Ew : L2.St → XK) : TE := fun σ H Q => ∃ (f : Addr) (B : CB) (fr : List Str) (ws : List (Option V)) (sp : SpC), σ[i]? = some (some (.ref f)) ∧ CbOk X.prog X.w X.K X.mg X.base CX k f B [] fr sp ∧ H f = some B.O ∧ H B.c = some (CodeH B.c B.q B.P) ∧
  ∀ pins s, Inv X pins σ H s → NdefX.CellsAt B.cl fr ws s.heap H ∧ sp X.stack s ws [] H Q (Ew σ)
theorem pe_callB0 (hr : Room k X.A) (hx : ∀ σ, PassesAt CX X σ (Ew σ)) (hN : X.N[i]? = some x) (hv : Vis X.env.scope x) (hd : (x == ("__debug__" : Str)) = false := by decide) (hcd : (x == ("__classdict__" : Str)) = false := by decide) : PE X (.Call (.Name x p) [] [] pos) (tCallB0 X CX k i Ew) := by
  refine ⟨fun pins s σ H Q I h => ?_⟩
  obtain ⟨f, B, fr, ws, sp, hs, Fn, h1, h2, hq⟩ := h
  obtain ⟨u, ru, ld⟩ := ld_var (E := X.xe) (pos := p) I hN hv hs hd hcd
  obtain rfl : u = Value.ref f := ru
  refine wpAny_Call_Name_kw (ld _ ?_)
  obtain ⟨C, q⟩ := hq pins s I
  exact PySem.W.callWith_F0 (first := []) (Fn.fn _ _ I.hok h1) (run_cb Fn hr hx I h1 h2 C .nil q)
/-- nothing is let out -/
theorem at0 {X : Cx} : ∀ σ, PassesAt CX0 X σ E0 := fun _ _ _ _ _ _ _ h => h.elim
theorem atN {X : Cx} : ∀ σ, PassesAt (L2.CX X.prog X.w) X σ E0 := fun _ _ _ _ _ _ _ h => by
  obtain ⟨_, _, _, _, _, _, _, _, _, _, _, _, z⟩ := h
  exact z.elim
theorem passL {X : Cx} : Passes (L2.CX X.prog X.w) X E0 := fun _ _ _ _ _ _ _ h => by
  obtain ⟨_, _, _, _, _, _, _, _, _, _, _, _, z⟩ := h
  exact z.elim
end
end Own

set_option Elab.async false
set_option linter.all false
set_option maxRecDepth 100000
set_option maxHeartbeats 4000000
/-! Places of lambdas in a text; raising: an own class without arguments, a division by zero. -/
namespace Own
open PySem PySem.Spec PyProof.Rows L2
def exN : Expr := .Name "" ⟨0, 0, 0, 0⟩
def stN : Stmt := .Pass ⟨0, 0, 0, 0⟩
def eArg (i : Nat) : Expr → Expr
  | .Call _ l _ _ => l.getD i exN
  | .Compare _ _ l _ => l.getD i exN
  | .BoolOp _ l _ => l.getD i exN
  | .List l _ => l.getD i exN
  | .Tuple l _ _ => l.getD i exN
  | _ => exN
def eFun : Expr → Expr
  | .Call f _ _ _ => f
  | .Attribute v _ _ => v
  | .Compare l _ _ _ => l
  | .Subscript v _ _ => v
  | .UnaryOp _ o _ => o
  | .BinOp l _ _ _ => l
  | .IfExp t _ _ _ => t
  | _ => exN
def sVal : Stmt → Expr
  | .Assign _ e _ => e
  | .Expr e _ => e
  | .Return (some e) _ => e
  | .If t _ _ _ => t
  | .For _ e _ _ _ => e
  | _ => exN
def sBody (i : Nat) : Stmt → Stmt
  | .If _ b _ _ => b.getD i stN
  | .For _ _ b _ _ => b.getD i stN
  | .While _ b _ _ => b.getD i stN
  | .Try b _ _ _ _ => b.getD i stN
  | _ => stN
def sElse (i : Nat) : Stmt → Stmt
  | .If _ _ b _ => b.getD i stN
  | _ => stN
def lamP : Expr → Arguments
  | .Lambda p _ _ _ => p
  | _ => ⟨[], [], none, [], [], none, []⟩
def lamB : Expr → Expr
  | .Lambda _ b _ _ => b
  | .IfExp _ b _ _ => b
  | _ => exN
def lamSc : Expr → Scope
  | .Lambda _ _ s _ => s
  | _ => C8.fnScope stN
def lamPos : Expr → Pos
  | .Lambda _ _ _ p => p
  | _ => ⟨0, 0, 0, 0⟩
abbrev lfE (e : Expr) (q : Str) (cl : List (Str × Addr)) (c' : Addr) : NdefX.NF := ⟨"<lambda>", q, lamP e, [], lamSc e, cl, c'⟩
section
variable {X : Cx} {W : WX} {k : Nat}
/-- what making the lambda e gives -/
def tLamS (X : Cx) (c : Addr) (e : Expr) (cl : List (Str × Addr)) (q : Str) : TE := fun σ H Q => ∃ (B : List (Addr × Str)) (P : Addr), TW X.base X.mg B H ∧ (∀ h, HOk X.prog X.w H h → X.base.StaysIn h → PySem.W.CodeHd h c P) ∧ (P, q) ∈ B ∧
  ∀ (f c' P' : Addr) (H1 : Hp), LamX.ExtN H H1 → (∀ b, H1 b = none → H b = none) → TW X.base X.mg ((P', qSub q) :: B) H1 → H f = none → H1 f = some (LamO f (lfE e q cl c') (lamB e)) → H1 c' = some (CodeH c' q P') → Q (.ref f) H1
theorem pe_lamS {c : Addr} {e : Expr} {q : Str} (he : e = .Lambda (lamP e) (lamB e) (lamSc e) (lamPos e)) (hq : q = X.env.qual ++ "<lambda>") (hcode : X.env.code = .ref c) (hdef : defaultsOf (lamP e) X.env = ([], [])) (hfree : ∀ y ∈ (lamSc e).names, y.2 = .free → X.env.scope.names.lookup y.1 = some .cell ∨ X.env.scope.names.lookup y.1 = some .free) :
    PE X e (tLamS X c e (cloFrom X.env.cells (lamSc e).names []) q) := by
  subst hq
  have h : ∀ B P, PE X (.Lambda (lamP e) (lamB e) (lamSc e) (lamPos e)) (tLamC X B c P (lamP e) (lamB e) (lamSc e)) := fun B P => pe_lamC (B := B) (P := P) hcode hdef hfree
  rw [← he] at h
  refine ⟨fun pins s σ H Q I ⟨B, P, h1, h2, h3, h4⟩ => (h B P).run pins s σ H Q I ⟨h1, h2, h3, fun f c' P' H1 a1 a2 a3 a4 a5 a6 => h4 f c' P' H1 a1 a2 a3 a4 a5 a6⟩⟩
/-- X(): an own exception class without own __init__ -/
theorem pmk_own0 {C : Addr} {l : List Value} {N nw it : String} {x : Str} {p pos : Pos} (F : ExcBaseFacts N nw it l) (q : PySem.W.excIn X.K C l nw = true) (gC : X.mg x = some (.ref C)) (kC : PySem.W.keepIn X.K (.ref C) = true) (r : Raises X (.ref C)) (hg : Gl X x) (hdb : (x == ("__debug__" : Str)) = false := by decide) :
    PMk X (.Call (.Name x p) [] [] pos) (fun _ H Q => Q (.ref C) none H) := by
  intro pins s σ H Q I h
  refine wpAny_Call_Name_kw (ld_glob I hg gC (PySem.W.callWith_K0 (first := []) I.kIn kC ?_) hdb)
  obtain ⟨_, _, _, _, _, _, _, _, _, _, _, _, _, _, _, _, _, c1, c2, c3, c4⟩ := exc_obj I.kIn q
  exact wpAny_call_exc_subT F c4 c1 c2 c3 (fun h' e hm => mk_of I hm r h (I.hok.gone hm.new)) (Nat.zero_le _)
/-- a // 0 -/
theorem pe_divZ {a b : Expr} {ta tb : TE} {pos : Pos} (hc : X.calm = true) (tk : Takes X W) (ha : PE X a ta) (hb : PE X b tb) :
    PE X (.BinOp a .FloorDiv b pos) (fun σ H Q => ta σ H fun x H1 => tb σ H1 fun y H2 => (∃ i : Int, x = .int i) ∧ y = .int 0 ∧ ∀ d, W (.type "ZeroDivisionError") d σ H2) := by
  refine ⟨fun pins s σ H Q I h => ?_⟩
  refine wpAny_BinOp (binT ha hb I (R := fun x y H2 => (∃ i : Int, x = .int i) ∧ y = .int 0 ∧ ∀ d, W (.type "ZeroDivisionError") d σ H2) h fun v u s2 x y H2 I2 rx ry z => ?_)
  obtain ⟨⟨i, rfl⟩, rfl, go⟩ := z
  obtain ⟨t1, rfl⟩ := (show ∃ t, v = Value.int i t from rx)
  obtain ⟨t2, rfl⟩ := (show ∃ t, u = Value.int 0 t from ry)
  exact PySem.AutoIntOps.floordiv_0 rfl ⟨I2.ok.hd hc, fun h' tk' e n => takes_new (t' := tk') tk I2 n go⟩
end

/-! ### called where it was handed to: told from the frame's entry on -/
def tCallK (P : Program) (w : World) (K : PySem.W.Frag) (mg : Str → Option Value) (base : Heap) (o0 : List Env) (s0 : Shared) (H0 : Hp) (CX : CXT) (k : Nat) (ps : List Str) (i : Nat) (Ew : L2.St → XK) (t : TA) : TE := fun σ H Q => ∃ (f : Addr) (B : CB), σ[i]? = some (some (.ref f)) ∧ H f = some B.O ∧ (∀ h, HOk P w H h → PySem.W.FnAt f h) ∧
  t σ H fun vs H1 => ∃ (fr : List Str) (ws : List (Option V)) (sp : SpC), CbOk P w K mg base CX k f B ps fr sp ∧ H1 f = some B.O ∧ H1 B.c = some (CodeH B.c B.q B.P) ∧ ∀ outer' s', CK o0 s0 H0 outer' s' H1 → NdefX.CellsAt B.cl fr ws s'.heap H1 ∧ sp outer' s' ws vs H1 Q (Ew σ)
def tCallK0 (P : Program) (w : World) (K : PySem.W.Frag) (mg : Str → Option Value) (base : Heap) (o0 : List Env) (s0 : Shared) (H0 : Hp) (CX : CXT) (k : Nat) (i : Nat) (Ew : L2.St → XK) : TE := fun σ H Q => ∃ (f : Addr) (B : CB) (fr : List Str) (ws : List (Option V)) (sp : SpC), σ[i]? = some (some (.ref f)) ∧ CbOk P w K mg base CX k f B [] fr sp ∧ H f = some B.O ∧ H B.c = some (CodeH B.c B.q B.P) ∧
  ∀ outer' s', CK o0 s0 H0 outer' s' H → NdefX.CellsAt B.cl fr ws s'.heap H ∧ sp outer' s' ws [] H Q (Ew σ)
section
variable {X : Cx} {CX : CXT} {k i : Nat} {ps : List Str} {Ew : L2.St → XK} {x : Str} {e : Expr} {es : List Expr} {p pos : Pos} {t : TA}
theorem pe_callK1 (hex : X.ex = []) (hr : Room k X.A) (hx : ∀ σ, PassesAt CX X σ (Ew σ)) (hN : X.N[i]? = some x) (hv : Vis X.env.scope x) (ha : PA X (e :: es) t)
    (hd : (x == ("__debug__" : Str)) = false := by decide) (hcd : (x == ("__classdict__" : Str)) = false := by decide)
    (he : starEach (e :: es) X.env = (false, eval e X.env) :: starEach es X.env := by rfl) (hpl : (backTo pos (starEach es X.env)).any (·.1) = false := by rfl) :
    PE X (.Call (.Name x p) (e :: es) [] pos) (tCallK X.prog X.w X.K X.mg X.base X.outer X.s_0 X.H_0 CX k ps i Ew t) := by
  refine ⟨fun pins s σ H Q I h => ?_⟩
  obtain ⟨f, B, hs, hf, hfn, ht⟩ := h
  obtain ⟨u, ru, ld⟩ := ld_var (E := X.xe) (pos := p) I hN hv hs hd hcd
  obtain rfl : u = Value.ref f := ru
  refine wpAny_Call_Name_kw (ld _ ?_)
  refine PySem.W.callWith_F (first := []) (hfn _ I.hok) (thn (ha.run pos pins s σ H _ I ht) fun us s2 z => ?_) he hpl
  obtain ⟨vs, H2, I2, r, fr, ws, sp, Fn, h1, h2, hq⟩ := z
  obtain ⟨C, q⟩ := hq X.stack s2 (ck_inv I2 hex)
  exact ⟨Fn.fn _ _ I2.hok h1, run_cb Fn hr hx I2 h1 h2 C r q⟩
theorem pe_callK0 (hex : X.ex = []) (hr : Room k X.A) (hx : ∀ σ, PassesAt CX X σ (Ew σ)) (hN : X.N[i]? = some x) (hv : Vis X.env.scope x) (hd : (x == ("__debug__" : Str)) = false := by decide) (hcd : (x == ("__classdict__" : Str)) = false := by decide) :
    PE X (.Call (.Name x p) [] [] pos) (tCallK0 X.prog X.w X.K X.mg X.base X.outer X.s_0 X.H_0 CX k i Ew) := by
  refine ⟨fun pins s σ H Q I h => ?_⟩
  obtain ⟨f, B, fr, ws, sp, hs, Fn, h1, h2, hq⟩ := h
  obtain ⟨u, ru, ld⟩ := ld_var (E := X.xe) (pos := p) I hN hv hs hd hcd
  obtain rfl : u = Value.ref f := ru
  refine wpAny_Call_Name_kw (ld _ ?_)
  obtain ⟨C, q⟩ := hq X.stack s (ck_inv I hex)
  exact PySem.W.callWith_F0 (first := []) (Fn.fn _ _ I.hok h1) (run_cb Fn hr hx I h1 h2 C .nil q)
/-- what is promised to let nothing out may let out anything -/
theorem CbOk.calm {P : Program} {w : World} {K : PySem.W.Frag} {mg : Str → Option Value} {base : Heap} {CX : CXT} {f : Addr} {B : CB} {fr : List Str} {sp : SpC} (o : CbOk P w K mg base CX0 k f B ps fr sp) : CbOk P w K mg base CX k f B ps fr sp :=
  ⟨o.fn, o.ni, o.len, fun A outer s H us vs ws Q E hr e0 hf hc C r q => codeAny_mono (o.run A outer s H us vs ws Q E hr e0 hf hc C r q) fun r s' z => by
    cases r with
    | error x => exact False.elim z
    | ok fl => cases fl <;> exact z⟩
theorem takesL {X : Cx} {E : XK} {E1 : Value → Shared → Prop} (hs : X.stack = X.env :: X.outer) (hf : X.env.frame = some X.env.locals) (hex : X.ex = [])
    (hx : X.xe = fun e s' => wpAny (model X.prog X.w) X.A (leaving X.env e) (fun _ s'' => L2.CX X.prog X.w X.outer X.H_0 X.s_0 E e s'') E1 s') : L2.Takes X (fun cls d _ H => E cls d H) := L2.takes_of hs hf hex hx
theorem passE {X : Cx} {E : XK} (tk : L2.Takes X (fun cls d _ H => E cls d H)) : ∀ σ, PassesAt (L2.CX X.prog X.w) X σ ((fun _ => E) σ) := fun σ => L2.passAt tk σ
theorem passesE {X : Cx} {E : XK} (tk : L2.Takes X (fun cls d _ H => E cls d H)) : Passes (L2.CX X.prog X.w) X E := L2.passes_call tk fun _ _ _ _ h => h
/-- the three errors of a law's own -/
def ErrN (CF : Addr) (n : Nat) (cls : Value) : Prop := (n = 0 ∧ cls = .type "KeyError") ∨ (n = 1 ∧ cls = .ref CF) ∨ (n = 2 ∧ cls = .type "ZeroDivisionError")
end

/-- a def that may raise (no note is kept of the context) -/
theorem okL {P : Program} {w : World} {K : PySem.W.Frag} {mg : Str → Option Value} {base : Heap} {x qual : Str} {st : Stmt} {f : Addr} {fd : FuncData} {N ps : List Str} {k : Nat} {sp : Sp} (F : Fun K x qual st f fd) (S : FnScope N ps (defScope st)) (len : ∀ vs H Q E, sp vs H Q E → vs.length = ps.length)
    (body : ∀ (cdv : Value) (A : Around) (outer : List Env) (s : Shared) (H : Hp) (vs : List V) (Q : VK) (E : XK), Room k (A.deeper (envOfC qual (defScope st) s.heap.objs.size f cdv)) → sp vs H Q E →
      ∃ t, PSs (cxOf (L2.CX P w) P w K mg base N qual (defScope st) f cdv A outer s H E) (defBody st) t ∧ t { nx := fun _ H' => Q .non H', rt := Q } (start N vs) H) : FnOk P w K mg base (L2.CX P w) (k + 1) f fd ps sp := by
  obtain ⟨_, _, _, _, _, _, _, _, _, rfl, lk, hcd⟩ := F.ex
  exact fn_of lk hcd S len fun A outer s H vs Q E hr h => body _ A outer s H vs Q E hr h
/-- .. whose code object is at c -/
theorem okLC {P : Program} {w : World} {K : PySem.W.Frag} {mg : Str → Option Value} {base : Heap} {x qual : Str} {st : Stmt} {f c : Addr} {fd : FuncData} {N ps : List Str} {k : Nat} {sp : Sp} (F : Fun K x qual st f fd) (S : FnScope N ps (defScope st)) (hc : fd.code = .ref c) (len : ∀ vs H Q E, sp vs H Q E → vs.length = ps.length)
    (body : ∀ (A : Around) (outer : List Env) (s : Shared) (H : Hp) (vs : List V) (Q : VK) (E : XK), Room k (A.deeper (envOfC qual (defScope st) s.heap.objs.size f (.ref c))) → sp vs H Q E →
      ∃ t, PSs (cxOf (L2.CX P w) P w K mg base N qual (defScope st) f (.ref c) A outer s H E) (defBody st) t ∧ t { nx := fun _ H' => Q .non H', rt := Q } (start N vs) H) : FnOk P w K mg base (L2.CX P w) (k + 1) f fd ps sp := by
  obtain ⟨_, _, _, _, _, _, cdv, _, _, rfl, lk, hcd⟩ := F.ex
  obtain rfl : cdv = .ref c := hc
  exact fn_of lk hcd S len fun A outer s H vs Q E hr h => body A outer s H vs Q E hr h

/-- x(e, ..), x an own def whose promise speaks of the state -/
def tFnS (spA : L2.St → Sp) (E : XK) (t : TA) : TE := fun σ H Q => t σ H fun vs H1 => spA σ vs H1 Q E
theorem pe_fnS {X : Cx} {CX : CXT} {k : Nat} {f : Addr} {fd : FuncData} {ps : List Str} {sp : SpS} {E : XK} {e : Expr} {es : List Expr} {x : Str} {p pos : Pos} {t : TA} {spA : L2.St → Sp} (F : FnSt X.prog X.w X.K X.mg X.base CX k f fd ps sp) (hr : Room k X.A) (hg : Gl X x) (hm : X.mg x = some (.ref f)) (hk : PySem.W.keepIn X.K (.ref f) = true) (hb : Binds X.K fd ps []) (hx : Passes CX X E)
    (hs : ∀ (pins : List (Addr × Obj)) (σ : L2.St) (H : Hp) (s : Shared) (vs : List V) (Q : VK), Inv X pins σ H s → spA σ vs H Q E → sp X.stack s vs H Q E) (ha : PA X (e :: es) t) (hdb : (x == ("__debug__" : Str)) = false := by decide)
    (he : starEach (e :: es) X.env = (false, eval e X.env) :: starEach es X.env := by rfl) (hpl : (backTo pos (starEach es X.env)).any (·.1) = false := by rfl) : PE X (.Call (.Name x p) (e :: es) [] pos) (tFnS spA E t) := by
  refine ⟨fun pins s σ H Q I h => ?_⟩
  refine wpAny_Call_Name_kw (ld_glob I hg hm ?_ hdb)
  refine PySem.W.callWith_K (h₀ := X.base) I.ok.mod.kin hk (thn (ha.run pos pins s σ H _ I h) fun us s2 z => ?_) he hpl
  obtain ⟨vs, H2, I2, r, q⟩ := z
  exact ⟨I2.kIn, run_st (us := us) (vs := vs) F hr hb hx I2 r (hs _ _ _ _ _ _ I2 q)⟩
/-- a lambda of this frame, ready to be handed on -/
theorem lam_caps {X : Cx} {pins : List (Addr × Obj)} {σ : L2.St} {H : Hp} {s : Shared} {e : Expr} {fr : List Str} {js : List Nat} (I : Inv X pins σ H s) (hf : NdefX.ndefB X.env.scope (lamSc e) fr = true) (hj : js.map (fun j => X.N[j]?) = fr.map some) : NdefX.CellsAt (cloFrom X.env.cells (lamSc e).names []) fr (js.map (NdefX.slotAt σ)) s.heap H :=
  NdefX.cells_of I (NdefX.Caps.made I.ok (NdefX.ndef_free hf) (NdefX.ndef_fr hf) hj)
theorem lam_sub {X : Cx} {pins : List (Addr × Obj)} {σ : L2.St} {H : Hp} {s : Shared} {e : Expr} {fr : List Str} {js : List Nat} (I : Inv X pins σ H s) (hf : NdefX.ndefB X.env.scope (lamSc e) fr = true) (hj : js.map (fun j => X.N[j]?) = fr.map some) {y : Str} {c : Addr} (h : (cloFrom X.env.cells (lamSc e).names []).lookup y = some c) : X.env.cells.lookup y = some c :=
  (NdefX.Caps.made (js := js) I.ok (NdefX.ndef_free hf) (NdefX.ndef_fr hf) hj).sub y c h
end Own

set_option Elab.async false
set_option linter.all false
set_option maxRecDepth 100000
set_option maxHeartbeats 4000000
/-! What a walk may change, told by a list of addresses; lines of nodes in a tree, and the way between two nodes. -/
namespace Own
open PySem PySem.Spec PyProof.Rows L2
/-- what a walk changes: lists, a scope, dicts that are no bindings -/
def MutO (o : HO) : Prop := (∃ xs, o = .lst xs) ∨ (∃ C dx v fs, o = .ins C dx (("root", v) :: fs)) ∨ ∃ kv, o = .dK kv ∧ ¬ TOk kv
def Dy (Z : List Addr) (H H' : Hp) : Prop := ∀ b o, b ∉ Z → (∀ ps, o ≠ .tbl ps) → H b = some o → H' b = some o
def ZOk (Z : List Addr) (H : Hp) : Prop := ∀ a ∈ Z, ∃ o, H a = some o ∧ MutO o
section
variable {Z : List Addr} {H H1 H' : Hp} {b : Addr} {o : HO}
theorem Dy.refl (Z : List Addr) (H : Hp) : Dy Z H H := fun _ _ _ _ e => e
theorem Dy.trans (a : Dy Z H H1) (c : Dy Z H1 H') : Dy Z H H' := fun b o h1 h2 e => c b o h1 h2 (a b o h1 h2 e)
theorem Dy.same (s : Same H H') : Dy Z H H' := fun _ _ _ _ e => s _ _ e
theorem Dy.extN (s : LamX.ExtN H H') : Dy Z H H' := fun _ _ _ h e => s _ _ e h
theorem Dy.exS {t g : Addr} (s : ExS t g H H') (ht : t ∈ Z) (hg : g ∈ Z) : Dy Z H H' := fun b o h _ e => s _ _ (fun z => h (z ▸ ht)) (fun z => h (z ▸ hg)) e
theorem Dy.exT {x : Addr} (s : ExT x H H') (hx : x ∈ Z) : Dy Z H H' := fun b o h _ e => s _ _ (fun z => h (z ▸ hx)) e
theorem Dy.put {x : Addr} (hx : x ∈ Z) : Dy Z H (upd H x o) := fun b u h _ e => by
  have n : b ≠ x := fun z => h (by rw [z]; exact hx)
  rw [upd_ne n]
  exact e
theorem ZOk.not (z : ZOk Z H) (e : H b = some o) (n : ¬ MutO o) : b ∉ Z := fun m => by
  obtain ⟨u, e', mu⟩ := z b m
  rw [e] at e'
  cases e'
  exact n mu
theorem Dy.keep (D : Dy Z H H') (z : ZOk Z H) (e : H b = some o) (n : ¬ MutO o) (nt : ∀ ps, o ≠ .tbl ps) : H' b = some o := D b o (z.not e n) nt e
theorem mut_dk {kv : Tbl} (h : TOk kv) : ¬ MutO (.dK kv) := fun m => by
  rcases m with ⟨_, z⟩ | ⟨_, _, _, _, z⟩ | ⟨k, z, n⟩
  · cases z
  · cases z
  · injection z with z
    exact n (z ▸ h)
theorem mut_ins {C dx : Addr} {f : Str} {v : V} {fs : List (Str × V)} (h : f ≠ "root") : ¬ MutO (.ins C dx ((f, v) :: fs)) := fun m => by
  rcases m with ⟨_, z⟩ | ⟨_, _, _, _, z⟩ | ⟨k, z, n⟩
  · cases z
  · injection z with _ _ z
    injection z with z
    injection z with z
    exact h z
  · cases z
theorem mut_tup {xs : List V} : ¬ MutO (.tup xs) := fun m => by
  rcases m with ⟨_, z⟩ | ⟨_, _, _, _, z⟩ | ⟨k, z, n⟩ <;> cases z
theorem Dy.dk {kv : Tbl} (D : Dy Z H H') (z : ZOk Z H) (e : H b = some (.dK kv)) (h : TOk kv) : H' b = some (.dK kv) := D.keep z e (mut_dk h) (fun _ z => by cases z)
theorem Dy.lst {xs : List V} (D : Dy Z H H') (n : b ∉ Z) (e : H b = some (.lst xs)) : H' b = some (.lst xs) := D b _ n (fun _ z => by cases z) e
theorem keepT_mut {x : Addr} {u : HO} (e : H x = some u) (m : MutO u) : KeepT H (upd H x o) := keepT_upd e (m.elim .inl fun m => m.elim (fun ⟨C, dx, v, fs, z⟩ => .inr (.inl ⟨C, dx, _, z⟩)) fun ⟨kv, z, _⟩ => .inr (.inr ⟨kv, z⟩))
end
/-! ### lines -/
inductive Line (ps : List Nat) : Nat → List Nat → Prop
  | root : Line ps 0 [0]
  | up {i j : Nat} {l : List Nat} (h : i ≠ 0) (e : ps[i]? = some j) (r : Line ps j l) : Line ps i (i :: l)
section
variable {ps ps' : List Nat}
theorem Line.head {i : Nat} {l : List Nat} (h : Line ps i l) : ∃ r, l = i :: r := by
  cases h with
  | root => exact ⟨_, rfl⟩
  | up _ _ _ => exact ⟨_, rfl⟩
theorem Line.det : ∀ {l : List Nat} {i : Nat}, Line ps i l → ∀ {l' : List Nat}, Line ps i l' → l = l' := by
  intro l i h
  induction h with
  | root =>
    intro l' h'
    cases h' with
    | root => rfl
    | up h _ _ => exact absurd rfl h
  | up h e r ih =>
    intro l' h'
    cases h' with
    | root => exact absurd rfl h
    | up _ e' r' =>
      rw [e] at e'
      cases e'
      rw [ih r']
theorem Line.grow {i : Nat} {l : List Nat} (p : ps <+: ps') (h : Line ps i l) : Line ps' i l := by
  induction h with
  | root => exact .root
  | up h e r ih =>
    refine .up h ?_ ih
    obtain ⟨q, rfl⟩ := p
    rw [List.getElem?_append_left (List.getElem?_eq_some_iff.mp e).1]
    exact e
theorem Line.mem {i x : Nat} {l : List Nat} (h : Line ps i l) : x ∈ l → ∃ l', Line ps x l' ∧ l'.length ≤ l.length ∧ (l'.length = l.length → x = i) := by
  induction h with
  | root =>
    intro m
    obtain rfl : x = 0 := by simpa using m
    exact ⟨_, .root, Nat.le_refl _, fun _ => rfl⟩
  | up h e r ih =>
    intro m
    rcases List.mem_cons.mp m with rfl | m
    · exact ⟨_, .up h e r, Nat.le_refl _, fun _ => rfl⟩
    · obtain ⟨l', a, b, c⟩ := ih m
      refine ⟨l', a, ?_, fun z => ?_⟩
      · rw [List.length_cons]
        omega
      · rw [List.length_cons] at z
        omega
theorem Line.lt {i : Nat} {l : List Nat} (h : Line ps i l) (hi : 0 < ps.length) : i < ps.length := by
  cases h with
  | root => exact hi
  | up _ e _ => exact (List.getElem?_eq_some_iff.mp e).1
/-- the sizes of what lies on one of the two lines alone -/
def wayOf (sz : List Nat) (a b : List Nat) : Nat := ((a.filter fun x => !b.contains x).map fun x => sz.getD x 0).sum + ((b.filter fun x => !a.contains x).map fun x => sz.getD x 0).sum
theorem wayOf_comm (sz a b : List Nat) : wayOf sz a b = wayOf sz b a := by
  unfold wayOf
  omega
theorem wayOf_same (sz : List Nat) (a : List Nat) : wayOf sz a a = 0 := by
  have e : a.filter (fun x => !a.contains x) = [] := by
    rw [List.filter_eq_nil_iff]
    intro x m
    simp [m]
  unfold wayOf
  rw [e]
  rfl
theorem way_up {sz : List Nat} {a b : Nat} {la lb : List Nat} (ha : Line ps a la) (hb : Line ps b lb) (ne : ¬ a = b) (le : lb.length ≤ la.length) : ∃ j l', a ≠ 0 ∧ ps[a]? = some j ∧ la = a :: l' ∧ Line ps j l' ∧ wayOf sz la lb = sz.getD a 0 + wayOf sz l' lb := by
  have nb : a ∉ lb := fun m => by
    obtain ⟨l', h1, h2, h3⟩ := hb.mem m
    have e := ha.det h1
    subst e
    exact ne (h3 (by omega))
  cases ha with
  | root =>
    exfalso
    obtain ⟨r, rfl⟩ := hb.head
    have : r = [] := by
      cases r with
      | nil => rfl
      | cons _ _ => simp at le
    subst this
    cases hb with
    | root => exact ne rfl
    | up _ _ r => obtain ⟨_, z⟩ := r.head; cases z
  | @up _ j l h e r =>
    refine ⟨j, l, h, e, rfl, r, ?_⟩
    unfold wayOf
    have e1 : (lb.filter fun x => !(a :: l).contains x) = lb.filter fun x => !l.contains x := by
      refine List.filter_congr fun x m => ?_
      have : x ≠ a := fun z => nb (z ▸ m)
      simp [this]
    rw [e1, List.filter_cons_of_pos (by simpa using nb), List.map_cons, List.sum_cons]
    omega
end
end Own

set_option Elab.async false
set_option linter.all false
set_option maxRecDepth 100000
set_option maxHeartbeats 4000000
/-! An instance of an own class called: its own __call__. -/
namespace Own
open PySem PySem.Spec PyProof.Rows L2
structure CallC (K : PySem.W.Frag) (C f : Addr) : Prop where
  at_ : PySem.W.findIn K (.ref C) "__call__" = some (some (.ref f))
  fn : PySem.W.isFn K (.ref f) = true
  fi : PySem.W.fnIn K f = true
def callCB (K : PySem.W.Frag) (x : Str) : Bool := decide (PySem.W.findIn K (.ref (He.ga K x)) "__call__" = some (some (.ref (He.ma K (He.ga K x) "__call__")))) && (PySem.W.isFn K (.ref (He.ma K (He.ga K x) "__call__")) && PySem.W.fnIn K (He.ma K (He.ga K x) "__call__"))
theorem callC_of {K : PySem.W.Frag} {x : Str} (c : callCB K x = true) : CallC K (He.ga K x) (He.ma K (He.ga K x) "__call__") := by
  simp only [callCB, Bool.and_eq_true, decide_eq_true_eq] at c
  exact ⟨c.1, c.2.1, c.2.2⟩
section
variable {prog : Program} {w : World} {A : Around} {s : Shared} {K : PySem.W.Frag} {x C dx f : Addr}
theorem inst_at {h : Heap} {P : Program} {H : Hp} {fs : List (Str × V)} (hok : HOk P w H h) (e : H x = some (.ins C dx fs)) : h.get? x = some (PySem.W.instObj C dx) := (hok x _ e).2.2.2.1
theorem keeps_I {M : Model} {h : Heap} (hx : h.get? x = some (PySem.W.instObj C dx)) : PySem.W.Looks M h (keeperOf (.ref x)) .caller := (PySem.W.Looks.ld (part := none) hx).andThen .now
theorem callWith_I {M : Model} {E : Value → Shared → Prop} {pos : Pos} {Q : Value → Shared → Prop} {args : List (Bool × Sem Value)} (hplain : (args.any (·.1) || ([] : List (Option Str × Sem Value)).any (·.1.isNone)) = false)
    (h : wpAny M A (evalArgs (.ref x) true args []) (fun a s₁ => (∃ dx, s₁.heap.get? x = some (PySem.W.instObj C dx)) ∧ wpAny M A (call (.ref x) a.pos a.kw) Q E s₁) E s) : wpAny M A (callWith pos (.ref x) [] args []) Q E s := by
  unfold callWith
  refine wpAny_bind (wpAny_holding (wpAny_mono h (fun a s₁ h₁ => wpAny_bind (wpAny_standAt ?_)) fun _ _ x => x))
  simp only [hplain]
  obtain ⟨⟨dx1, e1⟩, h₁⟩ := h₁
  refine wpAny_bind ((keeps_I e1).here ?_)
  have tail : ∀ {t : Sem Value}, wpAny M A t Q E s₁ → wpAny M A (t >>= fun r => holding [r] point >>= fun _ => pure r) Q E s₁ :=
    fun ht => wpAny_bind (wpAny_mono ht (fun r s₂ hr => wpAny_bind (wpAny_holding (wpAny_point (wpAny_pure hr)))) fun _ _ x => x)
  exact tail (wpAny_operating h₁)
theorem call_I {R : Result → Shared → Prop} {us : List Value} (X : K.In s.heap) (hx : s.heap.get? x = some (PySem.W.instObj C dx)) (e : CallC K C f)
    (h : codeAny (model prog w) A (.call (.ref f) ⟨.ref x :: us, []⟩) R s) : codeAny (model prog w) A (.call (.ref x) ⟨us, []⟩) R s := by
  refine codeAny_of_tree ?_
  show wpAny _ _ (callAny (.ref x) _) _ _ _
  unfold callAny
  refine wpAny_bind ((PySem.W.Looks.ld (part := none) hx).here ?_)
  show wpAny _ _ (callAny.viaDunder (.ref x) _) _ _ _
  unfold callAny.viaDunder
  have ty : PySem.W.Looks (model prog w) s.heap (typeOf (.ref x)) (.ref C) := (PySem.W.Looks.ld (part := none) hx).andThen .now
  have sp : PySem.W.Looks (model prog w) s.heap (specialOf (.ref x) "__call__") (some (.ref f)) := ty.andThen (PySem.W.looks_findIn X e.at_)
  refine wpAny_bind (sp.here ?_)
  have tf : PySem.W.typeIn K (.ref f) = some (.type "function") := by
    have z := e.fn
    unfold PySem.W.isFn at z
    exact eq_of_beq z
  refine wpAny_bind ((PySem.W.bind_fn X (.ref x) tf).here ?_)
  have fi := e.fi
  unfold PySem.W.fnIn at fi
  split at fi
  · rename_i eo
    have pc : PySem.W.Looks (model prog w) s.heap (callAny.plainCallee (.ref f)) true := (PySem.W.Looks.ld (part := none) (X _ _ eo)).andThen .now
    refine wpAny_bind (pc.here ?_)
    rw [if_pos rfl]
    refine wpAny_pure (a := Fin.again (.call (.ref f) ⟨.ref x :: us, []⟩)) ?_
    exact And.intro rfl h
  · cases fi
end
end Own
namespace Own
open PySem PySem.Spec PyProof.Rows L2
/-- xs == [], whatever the items are -/
def rEqNil (K : PySem.W.Frag) (neg : Bool) : R2 := fun x y H Q => ∃ (p q : Addr) (xs : List V), x = .ref p ∧ y = .ref q ∧ SqL K H p xs ∧ SqL K H q [] ∧ Q (.bl (if neg then !xs.isEmpty else xs.isEmpty)) H
section
variable {X : Cx}
theorem op_eqNil (hu : X.A.units + 64 < cLine) : OpR X (compareOp .Eq) (rEqNil X.K false) := by
  intro pins s σ H x y v u Q I rx ry h
  obtain ⟨p, q, xs, rfl, rfl, h1, h2, k⟩ := h
  cases rx; cases ry
  obtain ⟨its, r1, ⟨o1, n1, ho1, hc1, _, hd1⟩, _⟩ := I.list h1
  obtain ⟨its2, r2, ⟨o2, n2, ho2, hc2, _, hd2⟩, _⟩ := I.list h2
  have l1 := r1.length
  have l2 := r2.length
  have e2 : its2 = [] := List.length_eq_zero_iff.mp (by simpa using l2.symm)
  subst e2
  rw [if_neg (by simp)] at k
  by_cases e : xs = []
  · subst e
    have e1 : its = [] := List.length_eq_zero_iff.mp (by simpa using l1.symm)
    subst e1
    refine SeqAt.eq_listAt (e := fun _ => true) ⟨o1, ho1, hc1, _, hd1⟩ ⟨o2, ho2, hc2, _, hd2⟩ rfl (by omega) (fun j h1 h2 => absurd h1 (by simp)) ⟨.bl true, H, I, rfl, k⟩
  · have ne : its ≠ [] := fun z => e (List.length_eq_zero_iff.mp (by rw [l1, z]; rfl))
    have ie : xs.isEmpty = false := by cases xs with
      | nil => exact absurd rfl e
      | cons _ _ => rfl
    rw [ie] at k
    have hz : (its.toArray.size != ([] : List Value).toArray.size) = true := by
      cases its with
      | nil => exact absurd rfl ne
      | cons _ _ => simp
    exact SeqAt.eq_list_lengthsAt ⟨o1, ho1, hc1, _, hd1⟩ ⟨o2, ho2, hc2, _, hd2⟩ hz (by omega) ⟨.bl false, H, I, rfl, k⟩
end
/-- a def with defaults whose promise speaks of the state -/
theorem okSD {P : Program} {w : World} {K : PySem.W.Frag} {mg : Str → Option Value} {base : Heap} {CX : CXT} {x qual : Str} {st : Stmt} {dvs : List V} {kws : List (Str × V)} {f : Addr} {fd : FuncData} {N ps : List Str} {k : Nat} {sp : SpS} (F : FunD K x qual (defArgs st) (defBody st) (defScope st) dvs kws f fd) (S : FnScope N ps (defScope st)) (len : ∀ outer s vs H Q E, sp outer s vs H Q E → vs.length = ps.length)
    (body : ∀ (cdv : Value) (A : Around) (outer : List Env) (s : Shared) (H : Hp) (vs : List V) (Q : VK) (E : XK), Room k (A.deeper (envOfC qual (defScope st) s.heap.objs.size f cdv)) → Env0 P w K mg base A outer s H → sp outer s vs H Q E →
      ∃ t, PSs (cxOf CX P w K mg base N qual (defScope st) f cdv A outer s H E) (defBody st) t ∧ t { nx := fun _ H' => Q .non H', rt := Q } (start N vs) H) : FnSt P w K mg base CX (k + 1) f fd ps sp := by
  obtain ⟨oc, od, dV, kV, doc, pm, an, cdv, ct, osl, e, lk, hcd, hD, _⟩ := F.ex
  subst e
  refine ⟨len, fun A outer s H args us vs Q E hr e0 hb r hsp => ?_⟩
  exact LamX.run_ofS lk hcd S hr e0 hb r (len outer s vs H Q E hsp) fun hr2 => body cdv A outer s H vs Q E hr2 e0 hsp
section
variable {X : Cx} {CX : CXT} {k : Nat} {C f : Addr} {fd : FuncData} {ps : List Str} {sp : SpS} {E : XK} {te : TE} {t : TA} {spA : L2.St → Sp} {dvs : List V} {ds : List Value}
theorem run_stI {pins : List (Addr × Obj)} {σ : L2.St} {H : Hp} {s : Shared} {Q : VK} {us : List Value} {vs : List V} {a dx : Addr} {fs : List (Str × V)} (c : CallC X.K C f) (F : FnSt X.prog X.w X.K X.mg X.base CX k f fd ps sp) (hr : Room k X.A) (hb : Binds X.K fd ps ds) (hd : Vals dvs ds) (hx : Passes CX X E) (I : Inv X pins σ H s) (ha : H a = some (.ins C dx fs)) (r : Vals vs us)
    (h : sp X.stack s ((.ref a :: vs) ++ dvs) H Q E) : wpAny (model X.prog X.w) X.A (call (.ref a) us) (EP X pins σ Q) X.xe s := by
  have r2 : Vals ((.ref a :: vs) ++ dvs) ((.ref a :: us) ++ ds) := Vals.append (.cons rfl r) hd
  have hl : ((.ref a :: us) ++ ds).length = ps.length := by rw [← r2.length]; exact F.len _ _ _ _ _ _ h
  refine wpAny_call (call_I I.kIn (inst_at I.hok ha) c (codeAny_mono (F.run X.A X.stack s H ⟨.ref a :: us, []⟩ _ _ Q E hr I.env0 (hb s (.ref a :: us) I.kIn hl) r2 h) fun r s' hq => ?_))
  cases r with
  | error e => exact hx pins σ H s e s' I hq
  | ok fl =>
    cases fl with
    | ret u => exact I.after hq
    | next => exact False.elim hq
    | brk => exact False.elim hq
    | cont => exact False.elim hq
/-- e(..), e an instance with a __call__ of its own -/
def tCallI (C : Addr) (spA : L2.St → Sp) (dvs : List V) (E : XK) (te : TE) (t : TA) : TE := fun σ H Q => te σ H fun x H1 => ∃ a dx fs, x = .ref a ∧ H1 a = some (.ins C dx fs) ∧ t σ H1 fun vs H2 => (∃ dx fs, H2 a = some (.ins C dx fs)) ∧ spA σ ((.ref a :: vs) ++ dvs) H2 Q E
theorem pe_callI1 {fe e : Expr} {es : List Expr} {pos : Pos} (he : PE X fe te) (c : CallC X.K C f) (F : FnSt X.prog X.w X.K X.mg X.base CX k f fd ps sp) (hr : Room k X.A) (hb : Binds X.K fd ps ds) (hd : Vals dvs ds) (hx : Passes CX X E)
    (hs : ∀ (pins : List (Addr × Obj)) (σ : L2.St) (H : Hp) (s : Shared) (vs : List V) (Q : VK), Inv X pins σ H s → spA σ vs H Q E → sp X.stack s vs H Q E) (ha : PA X (e :: es) t)
    (hst : starEach (e :: es) X.env = (false, eval e X.env) :: starEach es X.env := by rfl) (hpl : (backTo pos (starEach es X.env)).any (·.1) = false := by rfl)
    (hev : eval (.Call fe (e :: es) [] pos) X.env = (eval fe X.env >>= fun v => callWith pos v [] (backTo pos (starEach (e :: es) X.env)) (backToKw pos (keywordEach [] X.env))) := by rfl) : PE X (.Call fe (e :: es) [] pos) (tCallI C spA dvs E te t) := by
  refine ⟨fun pins s σ H Q I h => ?_⟩
  rw [hev]
  refine wpAny_bind (thn (he.run pins s σ H _ I h) fun u s1 z => ?_)
  obtain ⟨x, H1, I1, rx, a, dx, fs, rfl, ea, q⟩ := z
  obtain rfl : u = Value.ref a := rx
  have hp2 : ((backTo pos (starEach (e :: es) X.env)).any (·.1) || ([] : List (Option Str × Sem Value)).any (·.1.isNone)) = false := by
    rw [hst]
    show ((false || (backTo pos (starEach es X.env)).any (·.1)) || false) = false
    rw [hpl]
    rfl
  show wpAny _ _ (callWith pos (.ref a) [] (backTo pos (starEach (e :: es) X.env)) []) _ _ _
  have run := ha.run pos pins s1 σ H1 _ I1 q
  refine callWith_I (C := C) hp2 ?_
  rw [hst] at run ⊢
  refine PySem.Calls.evalArgs_plain (thn run fun us s2 z => ?_)
  obtain ⟨vs, H2, I2, r, ⟨dx2, fs2, ea2⟩, q2⟩ := z
  exact ⟨⟨dx2, inst_at I2.hok ea2⟩, run_stI c F hr hb hd hx I2 ea2 r (hs _ _ _ _ _ _ I2 q2)⟩
theorem pe_callI0 {fe : Expr} {pos : Pos} (he : PE X fe te) (c : CallC X.K C f) (F : FnSt X.prog X.w X.K X.mg X.base CX k f fd ps sp) (hr : Room k X.A) (hb : Binds X.K fd ps ds) (hd : Vals dvs ds) (hx : Passes CX X E)
    (hs : ∀ (pins : List (Addr × Obj)) (σ : L2.St) (H : Hp) (s : Shared) (vs : List V) (Q : VK), Inv X pins σ H s → spA σ vs H Q E → sp X.stack s vs H Q E)
    (hev : eval (.Call fe [] [] pos) X.env = (eval fe X.env >>= fun v => callWith pos v [] (backTo pos (starEach [] X.env)) (backToKw pos (keywordEach [] X.env))) := by rfl) : PE X (.Call fe [] [] pos) (tCallI C spA dvs E te tNil) := by
  refine ⟨fun pins s σ H Q I h => ?_⟩
  rw [hev]
  refine wpAny_bind (thn (he.run pins s σ H _ I h) fun u s1 z => ?_)
  obtain ⟨x, H1, I1, rx, a, dx, fs, rfl, ea, ⟨dx2, fs2, ea2⟩, q⟩ := z
  obtain rfl : u = Value.ref a := rx
  show wpAny _ _ (callWith pos (.ref a) [] [] []) _ _ _
  refine callWith_I (C := C) rfl (evalArgs_nil3 ⟨⟨dx, inst_at I1.hok ea⟩, ?_⟩)
  exact run_stI (us := []) (vs := []) c F hr hb hd hx I1 ea .nil (hs _ _ _ _ _ _ I1 q)
end
end Own
namespace Own
open PySem PySem.Spec PyProof.Rows L2
/-- two tuples built alike: they don't differ -/
def rNeAT (K : PySem.W.Frag) : R2 := fun x y H Q => ∃ (n : Nat) (p q : Addr) (xs ys : List V), n ≤ 60 ∧ x = .ref p ∧ y = .ref q ∧ SqT K H p xs ∧ SqT K H q ys ∧ xs.length = ys.length ∧ (∀ (i : Nat) x y, xs[i]? = some x → ys[i]? = some y → Alike K H n x y) ∧ Q (.bl false) H
theorem op_neAT {X : Cx} (hu : X.A.units + 64 < cLine) : OpR X (compareOp .NotEq) (rNeAT X.K) := by
  intro pins s σ H x y v u Q I rx ry h
  obtain ⟨n, p, q, xs, ys, hn, rfl, rfl, h1, h2, hl, hi, k⟩ := h
  cases rx; cases ry
  obtain ⟨its, r1, ⟨o1, ho1, hc1, n1, hd1⟩, _⟩ := I.tuple h1
  obtain ⟨its2, r2, ⟨o2, ho2, hc2, n2, hd2⟩, _⟩ := I.tuple h2
  have l1 := r1.length
  have l2 := r2.length
  have hz : its.toArray.size = its2.toArray.size := by simp; omega
  have z := SeqAt.RcNeAt.tuples (A := X.A) (s := s) (l := p) (b := q) (items := its.toArray) (items2 := its2.toArray) (e := fun _ => true) ⟨o1, ho1, hc1, _, hd1⟩ ⟨o2, ho2, hc2, _, hd2⟩ (by omega) (fun j h1 h2 => by
    have j1 : j < xs.length := by simp at h1; omega
    have j2 : j < ys.length := by omega
    obtain ⟨w1, e1, g1⟩ := r1.get (List.getElem?_eq_getElem j1)
    obtain ⟨w2, e2, g2⟩ := r2.get (List.getElem?_eq_getElem j2)
    have z1 : its.toArray[j] = w1 := by
      rw [List.getElem?_eq_getElem (by simpa using h1)] at e1
      simpa using Option.some.inj e1
    have z2 : its2.toArray[j] = w2 := by
      rw [List.getElem?_eq_getElem (by simpa using h2)] at e2
      simpa using Option.some.inj e2
    rw [z1, z2]
    exact Alike.run I n X.A.in1 (by show X.A.units + 1 + n < cLine; omega) _ _ _ _ (hi j _ _ (List.getElem?_eq_getElem j1) (List.getElem?_eq_getElem j2)) g1 g2)
  have t : (!((List.range (min its.toArray.size its2.toArray.size)).all (fun _ => true) && its.toArray.size == its2.toArray.size)) = false := by simp at hz ⊢; exact hz
  rw [t] at z
  exact PySem.EqBoolInt.of_rcne z ⟨.bl false, H, I, rfl, k⟩
end Own

set_option Elab.async false
set_option linter.all false
set_option maxRecDepth 100000
set_option maxHeartbeats 4000000
/-! Lambdas with cells of their own beside the captured ones (a parameter that a comprehension reads). -/
namespace Own
open PySem PySem.Spec PyProof.Rows L2
theorem cellsFrom_app : ∀ (l : List (Str × NameKind)) (n : Nat) (acc : List (Str × Addr)), cellsFrom n l acc = cellsFrom n l [] ++ acc
  | [], _, _ => rfl
  | (name, kind) :: r, n, acc => by
    unfold cellsFrom
    split
    · rw [cellsFrom_app r (n + 1) ((name, n) :: acc), cellsFrom_app r (n + 1) [(name, n)]]
      simp
    · exact cellsFrom_app r n acc
theorem cellsFrom_key : ∀ {l : List (Str × NameKind)} {n : Nat} {x : Str} {c : Addr}, (x, c) ∈ cellsFrom n l [] → ∃ y ∈ l, y.1 = x ∧ y.2 = .cell
  | [], _, _, _, h => by cases h
  | (name, kind) :: r, n, x, c, h => by
    unfold cellsFrom at h
    split at h
    · rename_i hk
      rw [cellsFrom_app] at h
      rcases List.mem_append.mp h with h | h
      · obtain ⟨y, m, e⟩ := cellsFrom_key h
        exact ⟨y, by simp [m], e⟩
      · simp only [List.mem_cons, List.not_mem_nil, or_false, Prod.mk.injEq] at h
        exact ⟨(name, kind), by simp, h.1.symm, eq_of_beq hk⟩
    · obtain ⟨y, m, e⟩ := cellsFrom_key h
      exact ⟨y, by simp [m], e⟩
section
variable {M : Model} {A : Around} {E : Value → Shared → Prop} {s₀ s : Shared} {m cm : Str → Option Value} {env : Env} {cs : List (Str × Addr)}
theorem stL2 {n : Str} {v : Value} {Q : Unit → Shared → Prop} (x : InCallC s₀ env.locals m cs cm s) (hk : env.scope.kind = .function) (hl : env.kindOf n = some .local)
    (h : ∀ s', InCallC s₀ env.locals (fun y => if y = n then some v else m y) cs cm s' → Q () s') : wpAny M A (storeName env n v) Q E s := by
  refine wpAny_storeName_local hl x.toInCall.ns (fun h' hn' hs' => h _ ⟨⟨?_, hn', fun b o e => ?_, x.toInCall.fresh⟩, fun k c hc => ?_, x.apart, x.above⟩) (by rw [hk]; rfl)
  · obtain ⟨h₁, tk, rfl⟩ := x.toInCall.same
    exact ⟨h', _, rfl⟩
  · exact hs'.extBut b o (Nat.ne_of_lt (Nat.lt_of_lt_of_le (Heap.lt_size e) x.toInCall.fresh)) (x.toInCall.keep b o e)
  · exact (x.cell k c hc).sameBut hs' (Nat.ne_of_gt (x.above k c (PySem.mem_of_lookup hc)))
theorem stC2 {n : Str} {c : Addr} {v : Value} {Q : Unit → Shared → Prop} (x : InCallC s₀ env.locals m cs cm s) (hk : env.scope.kind = .function) (hl : env.kindOf n = some .cell) (hc : env.cells.lookup n = some c) (ho : cs.lookup n = some c)
    (h : ∀ s', InCallC s₀ env.locals m cs (fun y => if y = n then some v else cm y) s' → Q () s') : wpAny M A (storeName env n v) Q E s := by
  have hLc := x.above n c (PySem.mem_of_lookup ho)
  refine wpAny_storeName_cell hk hl hc (x.cell n c ho) fun h' hc' hs' => h _ ⟨⟨?_, x.toInCall.ns.sameBut hs' (Nat.ne_of_lt hLc), fun b o e => ?_, x.toInCall.fresh⟩, fun k c' hk' => ?_, x.apart, x.above⟩
  · obtain ⟨h₁, tk, rfl⟩ := x.toInCall.same
    exact ⟨h', _, rfl⟩
  · exact hs'.extBut b o (Nat.ne_of_lt (Nat.lt_trans (Nat.lt_of_lt_of_le (Heap.lt_size e) x.toInCall.fresh) hLc)) (x.toInCall.keep b o e)
  · by_cases hkn : k = n
    · subst hkn
      rw [ho] at hk'; cases hk'
      simpa using hc'
    · rw [if_neg hkn]
      exact (x.cell k c' hk').sameBut hs' fun e => hkn (name_of_addr x.apart (PySem.mem_of_lookup hk') (e ▸ PySem.mem_of_lookup ho))
theorem bindParams2 (f : Str × Value → PUnit → Sem (ForInStep PUnit)) (hf : ∀ n v u, f (n, v) u = (do storeName env n v; pure (.yield ⟨⟩))) (hk : env.scope.kind = .function) :
    ∀ (binds : List (Str × Value)) (m cm : Str → Option Value) (s : Shared) (Q : PUnit → Shared → Prop), InCallC s₀ env.locals m cs cm s →
      (∀ x ∈ binds, env.kindOf x.1 = some .local ∨ (env.kindOf x.1 = some .cell ∧ ∃ c, env.cells.lookup x.1 = some c ∧ cs.lookup x.1 = some c)) →
      (∀ s', InCallC s₀ env.locals (bindL env.kindOf binds m) cs (bindC env.kindOf binds cm) s' → Q ⟨⟩ s') → wpAny M A (forIn binds ⟨⟩ f) Q E s
  | [], m, cm, s, Q, x, _, h => by rw [List.forIn_nil]; exact wpAny_pure (h s x)
  | (n, v) :: r, m, cm, s, Q, x, hkind, h => by
    rw [List.forIn_cons, hf]
    have hr : ∀ y ∈ r, env.kindOf y.1 = some .local ∨ (env.kindOf y.1 = some .cell ∧ ∃ c, env.cells.lookup y.1 = some c ∧ cs.lookup y.1 = some c) := fun y hy => hkind y (List.mem_cons_of_mem _ hy)
    rcases hkind (n, v) List.mem_cons_self with hl | ⟨hl, c, hc, ho⟩
    · refine wpAny_bind (wpAny_bind (stL2 x hk hl fun s' x' => wpAny_pure (bindParams2 f hf hk r _ _ s' Q x' hr fun s'' x'' => h s'' ?_)))
      unfold bindL bindC; rw [if_pos hl, if_pos hl]; exact x''
    · have hnl : ¬ env.kindOf n = some .local := by rw [hl]; decide
      refine wpAny_bind (wpAny_bind (stC2 x hk hl hc ho fun s' x' => wpAny_pure (bindParams2 f hf hk r _ _ s' Q x' hr fun s'' x'' => h s'' ?_)))
      unfold bindL bindC; rw [if_neg hnl, if_neg hnl]; exact x''
end
theorem newFunctionEnv_mix {M : Model} {A : Around} {E : Value → Shared → Prop} {s : Shared} {scope : Scope} {globals : Addr} {closure : List (Str × Addr)} {binds : List (Str × Value)} {qual : Str} {func : Option Addr} {code : Value} {builtins : Addr} {Q : Env → Shared → Prop}
    (hk : scope.kind = .function)
    (hkind : ∀ x ∈ binds, scope.names.lookup x.1 = some .local ∨ (scope.names.lookup x.1 = some .cell ∧ ((cellsFrom (s.heap.objs.size + 1) scope.names []).lookup x.1).isSome = true))
    (hQ : ∀ env, env = newEnv scope s.heap.objs.size globals (cellsFrom (s.heap.objs.size + 1) scope.names closure) qual func code none builtins →
      ∀ s', InCallC s env.locals (bindL env.kindOf binds fun _ => none) (cellsFrom (s.heap.objs.size + 1) scope.names []) (bindC env.kindOf binds fun _ => none) s' → Q env s') :
    wpAny M A (newFunctionEnv scope globals closure binds qual func code none builtins) Q E s := by
  simp only [newFunctionEnv, Option.isSome_none, Bool.false_eq_true, if_false]
  refine wpAny_bind (wpAny_alloc ?_)
  refine wpAny_bind (wpAny_layCells _ (fun name kind cells => by cases hkc : kind == NameKind.cell <;> simp [hkc]) _ _ _ _ ?_)
  have ok := cellsFrom_ok scope.names (s.heap.push { cls := .type "frame", data := .dict #[] }) (s.heap.objs.size + 1) [] ⟨fun _ _ hm => (nomatch hm), List.Pairwise.nil⟩ (by rw [Heap.size_push]; exact Nat.le_refl _)
  rw [Heap.size_push] at ok
  rw [show ({ s with heap := s.heap.push { cls := .type "frame", data := .dict #[] } } : Shared).heap.objs.size = s.heap.objs.size + 1 from Heap.size_push ..]
  refine wpAny_bind (bindParams2 (s₀ := s) (cs := cellsFrom (s.heap.objs.size + 1) scope.names []) (env := newEnv scope s.heap.objs.size globals (cellsFrom (s.heap.objs.size + 1) scope.names closure) qual func code none builtins)
    _ (fun _ _ _ => rfl) hk binds (fun _ => none) (fun _ => none) _ _
    ⟨⟨⟨_, _, rfl⟩, (Heap.Ns.new s.heap (.type "frame")).keeps (pushCells_keeps _ _), fun b o e => pushCells_keeps _ _ b o (Heap.get?_push_of_some _ e), Nat.le_refl _⟩,
      fun n c hc => (ok.empty n c (PySem.mem_of_lookup hc)).1, ok.apart, fun n c hm => (ok.empty n c hm).2⟩
    (fun x hx => ?_) fun s' x => wpAny_pure (hQ _ rfl s' x))
  rcases hkind x hx with h | ⟨h, hc⟩
  · exact .inl h
  · obtain ⟨c, hc⟩ := Option.isSome_iff_exists.mp hc
    refine .inr ⟨h, c, ?_, hc⟩
    show (cellsFrom (s.heap.objs.size + 1) scope.names closure).lookup x.1 = some c
    rw [cellsFrom_app, List.lookup_append, hc]
    rfl
end Own
namespace Own
open PySem PySem.Spec PyProof.Rows L2
structure MScope (N ps fr : List Str) (sc : Scope) : Prop where
  kind : sc.kind = .function
  co : sc.isCoroutine = false
  gen : sc.isGenerator = false
  nd : N.Nodup
  pre : N.take (ps.length + fr.length) = ps ++ fr
  par : ∀ x ∈ ps, sc.names.lookup x = some .local ∨ sc.names.lookup x = some .cell
  free : ∀ y ∈ sc.names, y.2 = .free → y.1 ∈ fr
  frk : ∀ x ∈ fr, sc.names.lookup x = some .free
  sep : ∀ y ∈ sc.names, y.2 = .cell → y.1 ∉ fr
def mscB (N ps fr : List Str) (sc : Scope) : Bool :=
  decide (sc.kind = .function) && !sc.isCoroutine && !sc.isGenerator && decide N.Nodup && decide (N.take (ps.length + fr.length) = ps ++ fr) && ps.all (fun x => decide (sc.names.lookup x = some .local) || decide (sc.names.lookup x = some .cell)) && sc.names.all (fun y => !decide (y.2 = .free) || decide (y.1 ∈ fr)) && fr.all (fun x => decide (sc.names.lookup x = some .free)) && sc.names.all (fun y => !decide (y.2 = .cell) || !decide (y.1 ∈ fr))
theorem mscope_by {N ps fr : List Str} {sc : Scope} (h : mscB N ps fr sc = true) : MScope N ps fr sc := by
  unfold mscB at h
  simp only [Bool.and_eq_true, Bool.not_eq_true', decide_eq_true_eq, List.all_eq_true, Bool.or_eq_true, decide_eq_false_iff_not] at h
  obtain ⟨⟨⟨⟨⟨⟨⟨⟨h1, h2⟩, h3⟩, h4⟩, h5⟩, h6⟩, h8⟩, h9⟩, h10⟩ := h
  exact ⟨h1, h2, h3, h4, h5, h6, fun y hy e => (h8 y hy).elim (fun z => absurd e z) id, h9, fun y hy e => (h10 y hy).elim (fun z => absurd e z) id⟩
abbrev envM (F : NdefX.NF) (f L : Addr) : Env := PySem.W.envX F.qual F.scope L f (.ref F.c) (cellsFrom (L + 1) F.scope.names F.cl)
/-- the context of its body, at its entry -/
def mcx (CX : CXT) (P : Program) (w : World) (K : PySem.W.Frag) (mg : Str → Option Value) (base : Heap) (N : List Str) (F : NdefX.NF) (f : Addr) (A : Around) (outer : List Env) (s : Shared) (H : Hp) (E : XK) : Cx where
  prog := P
  w := w
  K := K
  mg := mg
  base := base
  A := A.deeper (envM F f s.heap.objs.size)
  N := N
  s_0 := s
  H_0 := H
  env := envM F f s.heap.objs.size
  outer := outer
  stack := envM F f s.heap.objs.size :: outer
  ex := []
  calm := true
  fn := fun x => decide (F.scope.names.lookup x = some .cell)
  pn := []
  xe := fun e s' => wpAny (model P w) (A.deeper (envM F f s.heap.objs.size)) (leaving (envM F f s.heap.objs.size) e) (fun _ s'' => CX outer H s E e s'') (fun e' s'' => CX outer H s E e' s'') s'
section
variable {CX : CXT} {P : Program} {w : World} {K : PySem.W.Frag} {mg : Str → Option Value} {base : Heap} {N ps fr : List Str} {F : NdefX.NF} {f : Addr} {A : Around} {outer : List Env} {s s1 : Shared} {H : Hp} {E : XK} {us : List Value} {vs : List V} {ws : List (Option V)}
theorem inv_startM (S : MScope N ps fr F.scope) (hd : A.handled = none) (e0 : Env0 P w K mg base A outer s H) (hl : vs.length = ps.length) (r : Vals vs us) (C : NdefX.CellsAt F.cl fr ws s.heap H)
    (x : InCallC s s.heap.objs.size (bindL (envM F f s.heap.objs.size).kindOf (ps.zip us) fun _ => none) (cellsFrom (s.heap.objs.size + 1) F.scope.names []) (bindC (envM F f s.heap.objs.size).kindOf (ps.zip us) fun _ => none) s1) :
    Inv (mcx CX P w K mg base N F f A outer s H E) [] (NdefX.startF N vs ws) H s1 := by
  have hpl : ps.length + fr.length ≤ N.length := by
    have q := congrArg List.length S.pre
    rw [List.length_take, List.length_append] at q
    omega
  obtain ⟨h1, tk, rfl, kp⟩ := x.done
  have noA : ∀ b : Addr, b ∉ (mcx CX P w K mg base N F f A outer s H E).ex := fun b z => absurd (show b ∈ ([] : List Addr) from z) (by simp)
  have cellK : ∀ {c : Addr} {v : Option Value}, s.heap.IsCell c v → h1.IsCell c v := fun {c v} ⟨o, ho, hd⟩ => ⟨o, kp _ _ ho, hd⟩
  -- a cell of its own or a captured one
  have two : ∀ {y : Str} {c : Addr}, (cellsFrom (s.heap.objs.size + 1) F.scope.names F.cl).lookup y = some c → (cellsFrom (s.heap.objs.size + 1) F.scope.names []).lookup y = some c ∨ ((cellsFrom (s.heap.objs.size + 1) F.scope.names []).lookup y = none ∧ F.cl.lookup y = some c) := fun {y c} h => by
    rw [cellsFrom_app, List.lookup_append] at h
    cases e : (cellsFrom (s.heap.objs.size + 1) F.scope.names []).lookup y with
    | some d =>
      rw [e] at h
      exact .inl h
    | none =>
      rw [e] at h
      exact .inr ⟨rfl, h⟩
  have ofFree : ∀ {y : Str} {c : Addr}, y ∈ fr → F.cl.lookup y = some c → (cellsFrom (s.heap.objs.size + 1) F.scope.names F.cl).lookup y = some c := fun {y c} hy h => by
    rw [cellsFrom_app, List.lookup_append]
    cases e : (cellsFrom (s.heap.objs.size + 1) F.scope.names []).lookup y with
    | some d =>
      exfalso
      obtain ⟨z, mz, e1, e2⟩ := cellsFrom_key (PySem.mem_of_lookup e)
      exact S.sep z mz e2 (e1 ▸ hy)
    | none => exact h
  have ofOwn : ∀ {y : Str} {c : Addr}, (cellsFrom (s.heap.objs.size + 1) F.scope.names []).lookup y = some c → (cellsFrom (s.heap.objs.size + 1) F.scope.names F.cl).lookup y = some c := fun {y c} h => by
    rw [cellsFrom_app, List.lookup_append, h]
    rfl
  have above : ∀ {y : Str} {c : Addr}, (cellsFrom (s.heap.objs.size + 1) F.scope.names []).lookup y = some c → s.heap.objs.size < c := fun h => x.above _ _ (PySem.mem_of_lookup h)
  have below : ∀ {y : Str} {c : Addr}, F.cl.lookup y = some c → c < s.heap.objs.size := fun h => by
    obtain ⟨_, v, o, ho, _⟩ := C.all _ _ h
    exact Heap.lt_size ho
  refine ⟨⟨e0.mod, S.kind, rfl, rfl, Nat.le_refl _, fun y z c h1 h2 => ?_, fun y hy => ?_, fun y c hf h => ?_, fun _ => hd, Around.frames_deeper e0.frames, .inr ⟨rfl, rfl⟩, fun b z => absurd z (noA b), e0.bs, e0.bsz, fun b _ _ => noA b, fun b z => absurd z (noA b), e0.funs, e0.frf⟩,
    rfl, e0.bare, Un.kept kp, ⟨_, x.toInCall.ns, fun i y v e1 e2 e3 => ?_⟩, fun y c e => ?_, e0.hok.fresh (Nat.le_refl _), fun y c e => ?_, fun q hq => absurd (show q ∈ ([] : List (Addr × Obj)) ++ [] from hq) (by simp), e0.hok.kept kp, ?_⟩
  · rcases two h1 with h1 | ⟨_, h1⟩ <;> rcases two h2 with h2 | ⟨_, h2⟩
    · exact name_of_addr x.apart (PySem.mem_of_lookup h1) (PySem.mem_of_lookup h2)
    · exact absurd (above h1) (Nat.not_lt.mpr (Nat.le_of_lt (below h2)))
    · exact absurd (above h2) (Nat.not_lt.mpr (Nat.le_of_lt (below h1)))
    · exact C.inj _ _ _ h1 h2
  · have hy : F.scope.names.lookup y = some .cell ∨ F.scope.names.lookup y = some .free := hy
    rcases hy with hy | hy
    · obtain ⟨c, h⟩ := cell_has (n := s.heap.objs.size + 1) hy
      exact ⟨c, ofOwn h⟩
    · have hm := S.free _ (PySem.mem_of_lookup hy) rfl
      obtain ⟨i, hi⟩ := List.mem_iff_getElem?.mp hm
      obtain ⟨c, hc, _⟩ := C.has i y hi
      exact ⟨c, ofFree hm hc⟩
  · have hc : F.scope.names.lookup y = some .cell := of_decide_eq_true hf
    obtain ⟨d, hd⟩ := cell_has (n := s.heap.objs.size + 1) hc
    have z : (cellsFrom (s.heap.objs.size + 1) F.scope.names F.cl).lookup y = some c := h
    rw [ofOwn hd] at z
    cases z
    exact Nat.le_of_lt (above hd)
  · have e1 : N[i]? = some y := e1
    have clen := C.len
    unfold NdefX.startF at e2
    by_cases h1 : i < ps.length
    · have hq : (ps ++ fr)[i]? = some y := by
        rw [← S.pre, List.getElem?_take_of_lt (by omega)]
        exact e1
      rw [List.getElem?_append_left h1] at hq
      rw [List.getElem?_append_left (by rw [List.length_map]; omega), List.getElem?_map] at e2
      have ha : vs[i]? = some v := by
        cases e : vs[i]? with
        | none => rw [e] at e2; cases e2
        | some a => rw [e] at e2; cases e2; rfl
      obtain ⟨u, hu, rv⟩ := r.get ha
      have ndP : ps.Nodup := by
        have q := S.nd.sublist (List.take_sublist (ps.length + fr.length) N)
        rw [S.pre] at q
        exact (List.nodup_append.mp q).1
      refine ⟨u, rv, ?_⟩
      rcases S.par y (List.mem_of_getElem? hq) with k | k
      · exact .inl ⟨k, bindL_get ndP hq hu k⟩
      · obtain ⟨c, e⟩ := cell_has (n := s.heap.objs.size + 1) k
        refine .inr ⟨.inl k, c, ofOwn e, ?_⟩
        have q := x.cell y c e
        rw [bindC_get ndP hq hu (by show F.scope.names.lookup y ≠ _; rw [k]; decide)] at q
        exact q
    · rw [List.getElem?_append_right (by rw [List.length_map]; omega), List.length_map] at e2
      by_cases h2 : i < ps.length + fr.length
      · have hq : (ps ++ fr)[i]? = some y := by
          rw [← S.pre, List.getElem?_take_of_lt (by omega)]
          exact e1
        rw [List.getElem?_append_right (by omega)] at hq
        rw [List.getElem?_append_left (by omega), hl] at e2
        obtain ⟨c, hc, hv⟩ := C.has (i - ps.length) y hq
        obtain ⟨u, ru, hu⟩ := hv v e2
        exact ⟨u, ru, .inr ⟨.inr (S.frk y (List.mem_of_getElem? hq)), c, ofFree (List.mem_of_getElem? hq) hc, cellK hu⟩⟩
      · rw [List.getElem?_append_right (by omega), List.getElem?_replicate] at e2
        split at e2 <;> cases e2
  · rcases two e with e | ⟨_, e⟩
    · exact ⟨_, x.cell y c e⟩
    · obtain ⟨v, z⟩ := (C.all y c e).2
      exact ⟨v, cellK z⟩
  · rcases two e with e | ⟨_, e⟩
    · exact e0.hok.fresh (Nat.le_of_lt (above e))
    · exact (C.all y c e).1
  · have clen := C.len
    unfold NdefX.startF
    show _ = N.length
    rw [List.length_append, List.length_append, List.length_map, List.length_replicate]
    omega
/-- a lambda by its body; it may have cells of its own -/
theorem cb_lamM {k : Nat} {sp : SpC} {e : Expr} {Pt : Addr} (S : MScope N ps fr F.scope) (hb : ∀ (pm ctv : Value) (us : List Value), us.length = ps.length → bindArgs (PySem.W.kla_fn "<lambda>" F.qual F.params e F.scope F.cl pm (.ref F.c) ctv) ⟨us, []⟩ = pure (ps.zip us)) (len : ∀ outer s ws vs H Q E, sp outer s ws vs H Q E → vs.length = ps.length)
    (body : ∀ (A : Around) (outer : List Env) (s : Shared) (H : Hp) (vs : List V) (ws : List (Option V)) (Q : VK) (E : XK), Room k (A.deeper (envM F f s.heap.objs.size)) → H f = some (LamO f F e) → H F.c = some (CodeH F.c F.qual Pt) → NdefX.CellsAt F.cl fr ws s.heap H → sp outer s ws vs H Q E →
      ∃ t, PE (mcx CX P w K mg base N F f A outer s H E) e t ∧ t (NdefX.startF N vs ws) H Q) : CbOk P w K mg base CX (k + 1) f (cbL f F e Pt) ps fr sp := by
  refine ⟨fun H h ok x => let ⟨pm, ctv, ho⟩ := lamO_at ok x; ⟨_, _, _, _, ho⟩, lamO_ne, len, fun A outer s H us vs ws Q E hr e0 hf hc C r hsp => ?_⟩
  have ll := len _ _ _ _ _ _ _ hsp
  obtain ⟨pm, ctv, ho⟩ := lamO_at e0.hok hf
  have noLim : s.heap.NoLimit := e0.mod.nolimit.keeps fun b o x => (e0.bs b o x).1
  refine PySem.W.kla_callFunE hr.depth ho rfl S.co S.gen rfl (codeH_at e0.hok hc).1 ?_
  rw [hb pm ctv us (by rw [← r.length]; exact ll)]
  have hkind : ∀ y ∈ ps.zip us, F.scope.names.lookup y.1 = some .local ∨ (F.scope.names.lookup y.1 = some .cell ∧ ((cellsFrom (s.heap.objs.size + 1) F.scope.names []).lookup y.1).isSome = true) := fun ⟨n, v⟩ hy => by
    rcases S.par n (List.of_mem_zip hy).1 with q | q
    · exact .inl q
    · exact .inr ⟨q, PySem.W.cellsFrom_some _ _ _ (.inl q)⟩
  refine wpAny_pure (newFunctionEnv_mix S.kind hkind fun env he s1 x => ?_)
  subst he
  refine ⟨noLim.keeps x.toInCall.keep, ?_⟩
  obtain ⟨t, ht, hq⟩ := body A outer s H vs ws Q E (hr.deeper _) hf hc C hsp
  have I : Inv (mcx CX P w K mg base N F f A outer s H E) [] (NdefX.startF N vs ws) H s1 := inv_startM S hr.hd e0 ll r C x
  refine PySem.W.kla_codeExpr (wpAny_mono (ht.run [] _ _ H Q I hq) (fun v s' z => ?_) fun x s' z => z)
  obtain ⟨v', H', J, rv, q⟩ := z
  exact ⟨v', H', J.os, J.bare, J.base, J.hok, rv, q⟩
end
end Own

set_option Elab.async false
set_option linter.all false
set_option maxRecDepth 100000
set_option maxHeartbeats 4000000
/-! {k: v for x in xs}, xs a list or a tuple in which things may stand twice. -/
namespace Own
open PySem PySem.Spec PyProof.Rows L2
/-- the rows of these names, the names perhaps more than once -/
abbrev rowsF (f : Str → V) (ys : List Str) : Tbl := ys.map fun y => (Sum.inr y, f y)
theorem valV_rows (f : Str → V) : ∀ {ys : List Str} {a : Tbl} {z : Str}, valV (mergeK a (rowsF f ys)) (.inr z) = if z ∈ ys then some (f z) else valV a (.inr z)
  | [], a, z => by
    show valV a _ = _
    simp
  | y :: ys, a, z => by
    show valV (mergeK (putK a (Sum.inr y) (f y)) (rowsF f ys)) (.inr z) = _
    rw [valV_rows f, valV_put]
    by_cases h1 : z ∈ ys
    · simp [h1]
    · by_cases h2 : z = y
      · subst h2
        simp [h1]
      · rw [if_neg h1, if_neg (fun e => h2 (Sum.inr.inj e)), if_neg (by simp [h1, h2])]
theorem rows_tok {f : Str → V} {ys : List Str} {a : Tbl} (ha : TOk a) (ids : ∀ y ∈ ys, isIdent y = true) (ok : ∀ y ∈ ys, valOk (f y) = true) : TOk (mergeK a (rowsF f ys)) :=
  mergeK_tok ha (fun p hp => by
    obtain ⟨y, my, rfl⟩ := List.mem_map.mp hp
    exact ids y my) (fun p hp => by
    obtain ⟨y, my, rfl⟩ := List.mem_map.mp hp
    exact ok y my)
theorem rows_len {f : Str → V} {ys : List Str} : (mergeK [] (rowsF f ys)).length ≤ ys.length := by
  have := length_mergeK (rowsF f ys) []
  rw [show (rowsF f ys).length = ys.length from List.length_map ..] at this
  simpa using this
theorem dcY_go {J : It} {ys : List Str} {G : Hp → Prop} (w : Walk J ys.length G (YAt (ys.map V.str))) {j : Nat} {tk tv : TE} {σ : L2.St} {H : Hp} {Q : VK} (f : Str → V) (hG : ∀ D H', H D = none → ExT D H H' → G H') (hz : ys.length ≤ 100000)
    (hk : ∀ (y : Str) H' (R : VK), y ∈ ys → Same H H' → R (.str y) H' → tk ((wipe σ [j]).set j (some (.str y))) H' R)
    (hv : ∀ (y : Str) H' (R : VK), y ∈ ys → Same H H' → R (f y) H' → tv ((wipe σ [j]).set j (some (.str y))) H' R)
    (q : ∀ D H', H D = none → Same H H' → H' D = some (.dK (mergeK [] (rowsF f ys))) → Q (.ref D) H') : tDc (fun _ H R => R J H) (gName j) tYes tk tv [j] σ H Q := by
  refine fun D hD => ?_
  refine ⟨fun i m H' => m = ys.length - i ∧ i ≤ ys.length ∧ H' D = some (.dK (mergeK [] (rowsF f (ys.take i)))) ∧ ExT D H H', ⟨ys.length, rfl, Nat.zero_le _, upd_same, exT_upd (ExT.refl D H)⟩, ?_⟩
  rintro i m H' ⟨rfl, le, p1, p2⟩
  have sH := ExT.toSame hD p2
  have g := hG D H' hD p2
  rcases Nat.lt_or_ge i ys.length with lt | ge
  · have ey : ys[i]? = some ys[i] := List.getElem?_eq_getElem lt
    have mem : ys[i] ∈ ys := List.getElem_mem lt
    refine .inr ⟨w.goes i H' lt g, fun H2 => H2 D = some (.dK (mergeK [] (rowsF f (ys.take (i + 1))))) ∧ ExT D H H2, fun H2 p' => ⟨ys.length - (i + 1), by omega, rfl, lt, p'⟩, ?_⟩
    intro x H2 hy
    obtain ⟨rfl, hx⟩ := w.yields i H' x H2 lt g hy
    rw [List.getElem?_map, ey] at hx
    have ex2 : V.str ys[i] = x := Option.some.inj hx
    subst ex2
    refine ⟨wipe_set, ?_⟩
    show tk _ _ _
    refine hk _ _ _ mem sH (hv _ _ _ mem sH ?_)
    refine ⟨_, Sum.inr ys[i], rfl, p1, ?_, ?_, exT_upd p2⟩
    · refine Nat.lt_of_le_of_lt rows_len ?_
      exact Nat.lt_of_le_of_lt (List.length_take_le _ _) (Nat.lt_of_lt_of_le lt (Nat.le_trans hz (by decide)))
    · rw [upd_same, List.take_add_one, ey]
      unfold rowsF mergeK
      rw [List.map_append, List.foldl_append]
      rfl
  · obtain rfl : i = ys.length := Nat.le_antisymm le ge
    rw [List.take_length] at p1
    exact .inl ⟨w.stops H' g, q D H' hD sH p1⟩
/-- .. over a list or a tuple -/
theorem dcLT_go {K : PySem.W.Frag} {t1 t2 : TE} {j : Nat} {tk tv : TE} {σ : L2.St} {H : Hp} {Q : VK} {a : Addr} {ys : List Str} (f : Str → V) (ht1 : ∀ Q : VK, Q (.ref a) H → t1 σ H Q) (ht2 : ∀ Q : VK, Q (.ref a) H → t2 σ H Q) (ha : SqL K H a (ys.map V.str) ∨ SqT K H a (ys.map V.str)) (hz : ys.length ≤ 100000)
    (hk : ∀ (y : Str) H' (R : VK), y ∈ ys → Same H H' → R (.str y) H' → tk ((wipe σ [j]).set j (some (.str y))) H' R)
    (hv : ∀ (y : Str) H' (R : VK), y ∈ ys → Same H H' → R (f y) H' → tv ((wipe σ [j]).set j (some (.str y))) H' R)
    (q : ∀ D H', H D = none → Same H H' → H' D = some (.dK (mergeK [] (rowsF f ys))) → Q (.ref D) H') : tDc (fun σ H R => iList K t1 σ H R ∨ iTup K t2 σ H R) (gName j) tYes tk tv [j] σ H Q := by
  have e : (ys.map V.str).length = ys.length := List.length_map ..
  rcases ha with ha | ha
  · exact .inl (ht1 _ ⟨a, rfl, ⟨_, ha⟩, dcY_go (e ▸ walk_list) f (fun D H' hD v => sq_same (ExT.toSame hD v) ha) hz hk hv q⟩)
  · exact .inr (ht2 _ ⟨a, rfl, ⟨_, ha⟩, dcY_go (e ▸ walk_tup) f (fun D H' hD v => sqT_same (ExT.toSame hD v) ha) hz hk hv q⟩)
/-- two tables that differ, or don't -/
def rNeDB : R2 := fun x y H Q => ∃ a b ka kb, x = .ref a ∧ y = .ref b ∧ H a = some (.dK ka) ∧ H b = some (.dK kb) ∧ TOk ka ∧ TOk kb ∧ Q (.bl (!eqT ka kb)) H
theorem op_neDB {X : Cx} (hu : X.A.units < cLine) : OpR X (compareOp .NotEq) rNeDB := by
  intro pins s σ H x y v u Q I rx ry h
  obtain ⟨a, b, ka, kb, rfl, rfl, ha, hb, ta, tb, q⟩ := h
  cases rx; cases ry
  obtain ⟨_, ya, va, ra, da⟩ := dk_of I.hok ha
  obtain ⟨_, yb, vb, rb, db⟩ := dk_of I.hok hb
  refine PySem.W.keq_ne (knd := mixKind X.prog X.w) (r := hitB kb ka) ya yb da db hu (fun _ => hits_tab (P := X.prog) (w := X.w) rb tb.ok ra ta.ok) ⟨.bl (!eqT ka kb), H, I, ?_, q⟩
  have l1 : ka.length = va.length := Paired.length ra
  have l2 : kb.length = vb.length := Paired.length rb
  show Value.bool (!(va.length == vb.length && hitB kb ka)) = Value.bool (!eqT ka kb)
  unfold eqT
  rw [l1, l2]
end Own

set_option Elab.async false
set_option linter.all false
set_option maxRecDepth 100000
set_option maxHeartbeats 4000000
/-! A default that is an empty tuple. -/
namespace Own
open PySem PySem.Spec PyProof.Rows L2
def nilTB (K : PySem.W.Frag) (a : Addr) : Bool := match K.lookup a with
  | some ⟨.type c, _, .seq its _, _⟩ => decide (c = "tuple") && decide (its.size = 0)
  | _ => false
theorem nilTB_ok {K : PySem.W.Frag} {a : Addr} (h : nilTB K a = true) (H : Hp) : SqT K H a [] := by
  unfold nilTB at h
  split at h
  · rename_i c d its n sl q
    simp only [Bool.and_eq_true, decide_eq_true_eq] at h
    obtain ⟨rfl, h2⟩ := h
    have e : its.toList = [] := by
      apply List.eq_nil_of_length_eq_zero
      simpa using h2
    exact .inr ⟨_, its, n, q, rfl, rfl, by rw [h2]; decide, by rw [e]; exact .nil⟩
  · cases h
end Own

set_option Elab.async false
set_option linter.all false
set_option maxRecDepth 100000
set_option maxHeartbeats 4000000
/-! Cells of frames that have ended, told in the heap; calls that are told by thin frames. -/
namespace Own
open PySem PySem.Spec PyProof.Rows L2
/-! ### a cell of an ended frame -/
def CellO (c : Addr) (b : Obj) : HO := .ext fun h => h.get? c = some b
theorem cellO_ne {c : Addr} {b : Obj} : (∀ xs, CellO c b ≠ .lst xs) ∧ (∀ C dx fs, CellO c b ≠ .ins C dx fs) ∧ (∀ kv, CellO c b ≠ .dK kv) ∧ ∀ ps, CellO c b ≠ .tbl ps :=
  ⟨fun _ z => (by unfold CellO at z; cases z), fun _ _ _ z => (by unfold CellO at z; cases z), fun _ z => (by unfold CellO at z; cases z), fun _ z => (by unfold CellO at z; cases z)⟩
theorem cellO_tup {c : Addr} {b : Obj} {xs : List V} : CellO c b ≠ .tup xs := fun z => by unfold CellO at z; cases z
theorem cellO_own {c a : Addr} {b : Obj} : CellO c b ≠ .own a := fun z => by unfold CellO at z; cases z
theorem cellO_frz {c : Addr} {b : Obj} {o : Obj} {u : HO} : CellO c b ≠ .frz o u := fun z => by unfold CellO at z; cases z
def unp (H : Hp) (c : Addr) : Hp := fun a => if a = c then none else H a
theorem unp_same {H : Hp} {c : Addr} : unp H c c = none := by unfold unp; rw [if_pos rfl]
theorem unp_ne {H : Hp} {a c : Addr} (h : a ≠ c) : unp H c a = H a := by unfold unp; rw [if_neg h]
theorem unp_none {H : Hp} {a c : Addr} (h : H a = none) : unp H c a = none := by
  unfold unp
  split
  · rfl
  · exact h
theorem unp_some {H : Hp} {a c : Addr} {o : HO} (h : unp H c a = some o) : a ≠ c ∧ H a = some o := by
  by_cases z : a = c
  · rw [z, unp_same] at h
    cases h
  · rw [unp_ne z] at h
    exact ⟨z, h⟩
section
variable {P : Program} {w : World} {K : PySem.W.Frag} {mg : Str → Option Value} {base : Heap} {H H' : Hp} {h h' B : Heap} {c : Addr} {b : Obj} {fs ex : List Addr} {A : Around} {outer : List Env} {s s' : Shared} {Q Q' : VK} {E E' : XK} {u : Value}
theorem cellO_ok (e : h.get? c = some b) : ObjOk P w H h c (CellO c b) := ⟨e, ⟨b, e⟩, fun h1 h2 e1 st => st _ e1⟩
theorem ne_cell {a : Addr} {o : HO} (e : H c = some (CellO c b)) (q : H a = some o) (n : CellO c b ≠ o) : a ≠ c := fun z => by
  rw [z, e] at q
  exact n (Option.some.inj q)
theorem hok_unp (x : HOk P w H h) (e : H c = some (CellO c b)) : HOk P w (unp H c) h := fun a o ha => by
  obtain ⟨_, h1⟩ := unp_some ha
  exact (x a o h1).stay (fun _ _ _ q => q) (fun d q => by rw [unp_ne (ne_cell e q cellO_own)]; exact q) fun d xs q => by rw [unp_ne (ne_cell e q cellO_tup)]; exact q
theorem hok_pin (x : HOk P w H h) (n : H c = none) (e : h.get? c = some b) : HOk P w (upd H c (CellO c b)) h := fun a o ha => by
  by_cases z : a = c
  · subst z
    rw [upd_same] at ha
    obtain rfl := Option.some.inj ha
    exact cellO_ok e
  · rw [upd_ne z] at ha
    exact (x a o ha).stay (fun _ _ _ q => q) (fun d q => by rw [upd_ne (fun y => by rw [y, n] at q; cases q)]; exact q) fun d xs q => by rw [upd_ne (fun y => by rw [y, n] at q; cases q)]; exact q
theorem un_pin (u : Un fs ex (unp H c) H' h h') (e : H c = some (CellO c b)) : Un fs ex H (upd H' c (CellO c b)) h h' where
  keep d o x n := u.keep d o x (unp_none n)
  slot d o x n := u.slot d o x (unp_none n)
  free d o x n hx := by
    rw [upd_ne (fun z => by rw [z, e] at n; cases n)]
    exact u.free d o x (unp_none n) hx
  there := u.there
  tups d xs x := by
    have nd := ne_cell e x cellO_tup
    rw [upd_ne nd]
    exact u.tups d xs (by rw [unp_ne nd]; exact x)
  frzs d o y x := by
    have nd := ne_cell e x cellO_frz
    rw [upd_ne nd]
    exact u.frzs d o y (by rw [unp_ne nd]; exact x)
  tbls d ps x := by
    have nd := ne_cell e x (cellO_ne.2.2.2 _)
    rw [upd_ne nd]
    exact u.tbls d ps (by rw [unp_ne nd]; exact x)
theorem ub_pin (u : UB fs (unp H c) H' h B h') (e : H c = some (CellO c b)) : UB fs H (upd H' c (CellO c b)) h B h' where
  keep d o x n := u.keep d o x (unp_none n)
  slot := u.slot
  free d o x n := by
    rw [upd_ne (fun z => by rw [z, e] at n; cases n)]
    exact u.free d o x (unp_none n)
  there := u.there
  tups d xs x := by
    have nd := ne_cell e x cellO_tup
    rw [upd_ne nd]
    exact u.tups d xs (by rw [unp_ne nd]; exact x)
  frzs d o y x := by
    have nd := ne_cell e x cellO_frz
    rw [upd_ne nd]
    exact u.frzs d o y (by rw [unp_ne nd]; exact x)
  tbls d ps x := by
    have nd := ne_cell e x (cellO_ne.2.2.2 _)
    rw [upd_ne nd]
    exact u.tbls d ps (by rw [unp_ne nd]; exact x)
theorem un_new {o : HO} (u : Un fs ex H H' h h') (n : h.get? c = none) (nc : H c = none) : Un fs ex H (upd H' c o) h h' where
  keep := u.keep
  slot := u.slot
  free d o x m hx := by
    rw [upd_ne (fun z => by rw [z, n] at x; cases x)]
    exact u.free d o x m hx
  there := u.there
  tups d xs x := by
    rw [upd_ne (fun z => by rw [z, nc] at x; cases x)]
    exact u.tups d xs x
  frzs d o y x := by
    rw [upd_ne (fun z => by rw [z, nc] at x; cases x)]
    exact u.frzs d o y x
  tbls d ps x := by
    rw [upd_ne (fun z => by rw [z, nc] at x; cases x)]
    exact u.tbls d ps x
theorem ce_pin (z : CE outer P w (unp H c) s Q' u s') (e : H c = some (CellO c b)) (hok : HOk P w H s.heap) (nf : c ∉ frs outer) (im : ∀ v H', H' c = none → Q' v H' → Q v (upd H' c (CellO c b))) : CE outer P w H s Q u s' := by
  obtain ⟨v, H', os, bare, un, ok, rv, q⟩ := z
  have ho : s.heap.get? c = some b := (hok c _ e).1
  have n : H' c = none := un.free c b ho unp_same (by simp)
  exact ⟨v, _, os, bare, un_pin un e, hok_pin ok n (un.keep c b ho unp_same nf (by simp)), rv, im v H' n q⟩
theorem cx_pin (z : L2.CX P w outer (unp H c) s E' u s') (e : H c = some (CellO c b)) (hok : HOk P w H s.heap) (nf : c ∉ frs outer) (im : ∀ cls d H', H' c = none → E' cls d H' → E cls d (upd H' c (CellO c b))) : L2.CX P w outer H s E u s' := by
  obtain ⟨a, B, H', cls, d, rfl, fl, ok, ub, na, os, ag, hE⟩ := z
  have ho : s.heap.get? c = some b := (hok c _ e).1
  have n : H' c = none := ub.free c b ho unp_same
  have k := ub.keep c b ho unp_same nf
  have ac : a ≠ c := fun y => by
    have f := fl.2.1
    rw [y, k] at f
    cases f
  exact ⟨a, B, _, cls, d, rfl, fl, hok_pin ok n k, ub_pin ub e, by rw [upd_ne ac]; exact na, os, ag, im _ _ _ n hE⟩
/-- the other way: told in the heap for the time of a call -/
theorem repin {e : H c = some (CellO c b)} : upd (unp H c) c (CellO c b) = H := by
  funext a
  by_cases z : a = c
  · rw [z, upd_same, e]
  · rw [upd_ne z, unp_ne z]
theorem un_unp (u : Un fs ex (upd H c (CellO c b)) H' h h') (n : H c = none) (ho : h.get? c = some b) (e : H' c = some (CellO c b)) (ho' : h'.get? c = some b) (nf : c ∉ fs) : Un fs ex H (unp H' c) h h' where
  keep d o x m hf hx := by
    by_cases z : d = c
    · subst z
      rw [ho] at x
      obtain rfl := Option.some.inj x
      exact ho'
    · exact u.keep d o x (by rw [upd_ne z]; exact m) hf hx
  slot d o x m hf hx := u.slot d o x (by rw [upd_ne (fun z => nf (by rw [← z]; exact hf))]; exact m) hf hx
  free d o x m hx := by
    by_cases z : d = c
    · rw [z]
      exact unp_same
    · exact unp_none (u.free d o x (by rw [upd_ne z]; exact m) hx)
  there := u.there
  tups d xs x := by
    have nd : d ≠ c := fun z => by rw [z, n] at x; cases x
    rw [unp_ne nd]
    exact u.tups d xs (by rw [upd_ne nd]; exact x)
  frzs d o y x := by
    have nd : d ≠ c := fun z => by rw [z, n] at x; cases x
    rw [unp_ne nd]
    exact u.frzs d o y (by rw [upd_ne nd]; exact x)
  tbls d ps x := by
    have nd : d ≠ c := fun z => by rw [z, n] at x; cases x
    rw [unp_ne nd]
    exact u.tbls d ps (by rw [upd_ne nd]; exact x)
theorem ub_unp (u : UB fs (upd H c (CellO c b)) H' h B h') (n : H c = none) (ho : h.get? c = some b) (ho' : B.get? c = some b) (nf : c ∉ fs) : UB fs H (unp H' c) h B h' where
  keep d o x m hf := by
    by_cases z : d = c
    · subst z
      rw [ho] at x
      obtain rfl := Option.some.inj x
      exact ho'
    · exact u.keep d o x (by rw [upd_ne z]; exact m) hf
  slot := u.slot
  free d o x m := by
    by_cases z : d = c
    · rw [z]
      exact unp_same
    · exact unp_none (u.free d o x (by rw [upd_ne z]; exact m))
  there := u.there
  tups d xs x := by
    have nd : d ≠ c := fun z => by rw [z, n] at x; cases x
    rw [unp_ne nd]
    exact u.tups d xs (by rw [upd_ne nd]; exact x)
  frzs d o y x := by
    have nd : d ≠ c := fun z => by rw [z, n] at x; cases x
    rw [unp_ne nd]
    exact u.frzs d o y (by rw [upd_ne nd]; exact x)
  tbls d ps x := by
    have nd : d ≠ c := fun z => by rw [z, n] at x; cases x
    rw [unp_ne nd]
    exact u.tbls d ps (by rw [upd_ne nd]; exact x)
theorem ce_unp (z : CE outer P w (upd H c (CellO c b)) s Q' u s') (n : H c = none) (ho : s.heap.get? c = some b) (nf : c ∉ frs outer) (im : ∀ v H', Q' v H' → H' c = some (CellO c b) ∧ Q v (unp H' c)) : CE outer P w H s Q u s' := by
  obtain ⟨v, H', os, bare, un, ok, rv, q⟩ := z
  obtain ⟨e, q⟩ := im v H' q
  exact ⟨v, _, os, bare, un_unp un n ho e (ok c _ e).1 nf, hok_unp ok e, rv, q⟩
theorem cx_unp (z : L2.CX P w outer (upd H c (CellO c b)) s E' u s') (n : H c = none) (ho : s.heap.get? c = some b) (nf : c ∉ frs outer) (im : ∀ cls d H', E' cls d H' → H' c = some (CellO c b) ∧ E cls d (unp H' c)) : L2.CX P w outer H s E u s' := by
  obtain ⟨a, B, H', cls, d, rfl, fl, ok, ub, na, os, ag, hE⟩ := z
  obtain ⟨e, q⟩ := im _ _ _ hE
  exact ⟨a, B, _, cls, d, rfl, fl, hok_unp ok e, ub_unp ub n ho (ok c _ e).1 nf, unp_none na, os, ag, q⟩
theorem env0_pin (e0 : Env0 P w K mg base A outer s H) (n : H c = none) (ho : s.heap.get? c = some b) (nf : c ∉ frs outer) (nb : base.get? c = none) : Env0 P w K mg base A outer s (upd H c (CellO c b)) :=
  ⟨e0.frames, e0.mod, fun d o x => ⟨(e0.bs d o x).1, by rw [upd_ne (fun z => by rw [z, nb] at x; cases x)]; exact (e0.bs d o x).2⟩, e0.bsz, e0.funs, fun d hd => by rw [upd_ne (fun z => nf (by rw [← z]; exact hd))]; exact e0.frf d hd, hok_pin e0.hok n ho, e0.bare⟩
theorem env0_unp (e0 : Env0 P w K mg base A outer s H) (e : H c = some (CellO c b)) : Env0 P w K mg base A outer s (unp H c) :=
  ⟨e0.frames, e0.mod, fun d o x => ⟨(e0.bs d o x).1, unp_none (e0.bs d o x).2⟩, e0.bsz, e0.funs, fun d hd => unp_none (e0.frf d hd), hok_unp e0.hok e, e0.bare⟩
end
/-! ### thin frames -/
/-- room for k frames, and for 16 steps of L2's own reckoning below them -/
structure RT (k : Nat) (A : Around) : Prop where
  hd : A.handled = none
  dp : A.depth + k + 60 < recursionLimit
  un : A.units + 6 * k + 500 < cLine
theorem RT.mono {j k : Nat} {A : Around} (r : RT k A) (h : j ≤ k) : RT j A := ⟨r.hd, by have := r.dp; omega, by have := r.un; omega⟩
theorem RT.deeper {k : Nat} {A : Around} (r : RT (k + 1) A) (env : Env) : RT k (A.deeper env) :=
  ⟨r.hd, by have := r.dp; show A.depth + 1 + k + 60 < _; omega, by have := r.un; show A.units + 3 + 6 * k + 500 < _; omega⟩
theorem RT.leaf {k : Nat} {A : Around} (r : RT k A) : Room 16 A := ⟨r.hd, by have := r.dp; omega, by have := r.un; omega⟩
structure FnT (P : Program) (w : World) (K : PySem.W.Frag) (mg : Str → Option Value) (base : Heap) (CX : CXT) (k : Nat) (f : Addr) (fd : FuncData) (ps : List Str) (sp : SpS) : Prop where
  len : ∀ outer s vs H Q E, sp outer s vs H Q E → vs.length = ps.length
  run : ∀ (A : Around) (outer : List Env) (s : Shared) (H : Hp) (args : Args) (us : List Value) (vs : List V) (Q : VK) (E : XK), RT k A → Env0 P w K mg base A outer s H → BindsTo s fd args (ps.zip us) → Vals vs us → sp outer s vs H Q E →
    codeAny (model P w) A (.call (.ref f) args) (CR CX outer P w H s Q E) s
theorem FnT.mono {P : Program} {w : World} {K : PySem.W.Frag} {mg : Str → Option Value} {base : Heap} {CX : CXT} {j k : Nat} {f : Addr} {fd : FuncData} {ps : List Str} {sp : SpS} (F : FnT P w K mg base CX j f fd ps sp) (h : j ≤ k) : FnT P w K mg base CX k f fd ps sp :=
  ⟨F.len, fun A outer s H args us vs Q E hr => F.run A outer s H args us vs Q E (hr.mono h)⟩
/-- a def (its code object known or not) by its body -/
theorem okT {P : Program} {w : World} {K : PySem.W.Frag} {mg : Str → Option Value} {base : Heap} {CX : CXT} {x qual : Str} {st : Stmt} {f : Addr} {fd : FuncData} {N ps : List Str} {k : Nat} {sp : SpS} (F : Fun K x qual st f fd) (S : FnScope N ps (defScope st)) (len : ∀ outer s vs H Q E, sp outer s vs H Q E → vs.length = ps.length)
    (body : ∀ (A : Around) (outer : List Env) (s : Shared) (H : Hp) (vs : List V) (Q : VK) (E : XK), RT k (A.deeper (envOfC qual (defScope st) s.heap.objs.size f fd.code)) → Env0 P w K mg base A outer s H → sp outer s vs H Q E →
      ∃ t, PSs (cxOf CX P w K mg base N qual (defScope st) f fd.code A outer s H E) (defBody st) t ∧ t { nx := fun _ H' => Q .non H', rt := Q } (start N vs) H) : FnT P w K mg base CX (k + 1) f fd ps sp := by
  obtain ⟨oc, od, kV, doc, pm, an, cdv, ct, osl, rfl, lk, hcd⟩ := F.ex
  refine ⟨len, fun A outer s H args us vs Q E hr e0 hb r hsp => ?_⟩
  exact LamX.run_ofS (k := 0) lk hcd S (hr.leaf.mono (by decide)) e0 hb r (len outer s vs H Q E hsp) fun _ => body A outer s H vs Q E (hr.deeper _) e0 hsp
theorem okTD {P : Program} {w : World} {K : PySem.W.Frag} {mg : Str → Option Value} {base : Heap} {CX : CXT} {x qual : Str} {st : Stmt} {dvs : List V} {kws : List (Str × V)} {f : Addr} {fd : FuncData} {N ps : List Str} {k : Nat} {sp : SpS} (F : FunD K x qual (defArgs st) (defBody st) (defScope st) dvs kws f fd) (S : FnScope N ps (defScope st)) (len : ∀ outer s vs H Q E, sp outer s vs H Q E → vs.length = ps.length)
    (body : ∀ (A : Around) (outer : List Env) (s : Shared) (H : Hp) (vs : List V) (Q : VK) (E : XK), RT k (A.deeper (envOfC qual (defScope st) s.heap.objs.size f fd.code)) → Env0 P w K mg base A outer s H → sp outer s vs H Q E →
      ∃ t, PSs (cxOf CX P w K mg base N qual (defScope st) f fd.code A outer s H E) (defBody st) t ∧ t { nx := fun _ H' => Q .non H', rt := Q } (start N vs) H) : FnT P w K mg base CX (k + 1) f fd ps sp := by
  obtain ⟨oc, od, dV, kV, doc, pm, an, cdv, ct, osl, e, lk, hcd, hD, _⟩ := F.ex
  subst e
  refine ⟨len, fun A outer s H args us vs Q E hr e0 hb r hsp => ?_⟩
  exact LamX.run_ofS (k := 0) lk hcd S (hr.leaf.mono (by decide)) e0 hb r (len outer s vs H Q E hsp) fun _ => body A outer s H vs Q E (hr.deeper _) e0 hsp
/-! ### the end of a frame whose cells are told from then on -/
section
variable {CX : CXT} {P : Program} {w : World} {K : PySem.W.Frag} {mg : Str → Option Value} {base : Heap} {k : Nat} {f : Addr} {qual : Str} {scope : Scope} {N ps : List Str} {A : Around} {outer : List Env} {s s' : Shared} {H H' : Hp} {us : List Value} {vs : List V} {Q : VK} {E : XK} {cd : Value} {σ' : L2.St}
theorem pin_end {i : Nat} {x : Str} {b : Addr} (J : Inv (cxOf CX P w K mg base N qual scope f cd A outer s H E) [] σ' H' s') (hok : HOk P w H s.heap) (hN : N[i]? = some x) (hσ : σ'[i]? = some (some (.ref b))) (hk : scope.names.lookup x = some .cell) :
    ∃ c o, (cellsFrom (s.heap.objs.size + 1) scope.names []).lookup x = some c ∧ o.data = .cell (some (.ref b)) ∧ H' c = none ∧ H c = none ∧ base.get? c = none ∧ (Q .non (upd H' c (CellO c o)) → CE outer P w H s Q Value.none s') := by
  obtain ⟨m, _, hl⟩ := J.loc
  obtain ⟨u, ru, lk⟩ := hl i x _ hN hσ (.inr (.inl hk))
  obtain rfl : u = Value.ref b := ru
  rcases lk with ⟨z, _⟩ | ⟨_, c, hc, o, ho, hd⟩
  · have z2 : scope.names.lookup x = some .local := z
    rw [hk] at z2
    cases z2
  · have hc2 : (cellsFrom (s.heap.objs.size + 1) scope.names []).lookup x = some c := hc
    have nc := J.freeC x c hc
    have ge : s.heap.objs.size ≤ c := J.ok.cab x c rfl hc
    have fresh : s.heap.get? c = none := by
      cases e : s.heap.get? c with
      | none => rfl
      | some o => exact absurd (Nat.lt_of_lt_of_le (Heap.lt_size e) ge) (Nat.lt_irrefl _)
    have nH : H c = none := hok.fresh ge
    have nb : base.get? c = none := by
      cases e : base.get? c with
      | none => rfl
      | some y => exact absurd ((J.ok.bs c y e).1.symm.trans fresh) (by simp)
    exact ⟨c, o, hc2, hd, nc, nH, nb, fun q => ⟨.non, _, J.os, J.bare, un_new J.base fresh nH, hok_pin J.hok nc ho, rfl, q⟩⟩
/-- a def that falls off its end; what is wanted there may read its cells -/
theorem okP {x : Str} {st : Stmt} {fd : FuncData} {sp : SpS} (F : Fun K x qual st f fd) (S : FnScope N ps (defScope st)) (len : ∀ outer s vs H Q E, sp outer s vs H Q E → vs.length = ps.length)
    (body : ∀ (A : Around) (outer : List Env) (s : Shared) (H : Hp) (vs : List V) (Q : VK) (E : XK), Room k (A.deeper (envOfC qual (defScope st) s.heap.objs.size f fd.code)) → Env0 P w K mg base A outer s H → sp outer s vs H Q E →
      ∃ t, PSs (cxOf CX P w K mg base N qual (defScope st) f fd.code A outer s H E) (defBody st) t ∧ t { nx := fun σ' H' => ∀ s', Inv (cxOf CX P w K mg base N qual (defScope st) f fd.code A outer s H E) [] σ' H' s' → CE outer P w H s Q Value.none s', rt := fun _ _ => False } (start N vs) H) : FnSt P w K mg base CX (k + 1) f fd ps sp := by
  obtain ⟨oc, od, kV, doc, pm, an, cdv, ct, osl, rfl, lk, hcd⟩ := F.ex
  refine ⟨len, fun A outer s H args us vs Q E hr e0 hb r hsp => ?_⟩
  have hl := len _ _ _ _ _ _ hsp
  have hK : K.In s.heap := e0.mod.kin.keeps fun d o e => (e0.bs d o e).1
  have noLim : s.heap.NoLimit := e0.mod.nolimit.keeps fun d o e => (e0.bs d o e).1
  have kinds : ∀ y ∈ ps.zip us, (defScope st).names.lookup y.1 = some .local ∨ ((defScope st).names.lookup y.1 = some .cell ∧ ((cellsFrom (s.heap.objs.size + 1) (defScope st).names []).lookup y.1).isSome = true) := by
    rintro ⟨y, v⟩ hy
    exact (S.par y (List.of_mem_zip hy).1).elim .inl fun q => .inr ⟨q, PySem.W.cellsFrom_some _ _ _ (.inl q)⟩
  refine codeAny_call_function hr.depth (hK _ _ lk) rfl S.co S.gen rfl (PySem.W.codeRec_of hK hcd) (hb _ _ _ _ (wpAny_newFunctionEnv_cells S.kind kinds ?_))
  rintro env rfl s1 x1
  refine ⟨noLim.keeps x1.toInCall.keep, codeAny_func ?_⟩
  obtain ⟨t, ht, hq⟩ := body A outer s H vs Q E (hr.deeper _) e0 hsp
  refine wpAny_mono (ht.run [] s1 (L2.start N vs) H _ (inv_start S hr.hd e0 hl r x1) hq) (fun fl s2 z => ?_) fun _ _ z => z
  match fl, z with
  | .next, ⟨σ', H', J, q⟩ => exact q s2 J
  | .ret u, ⟨_, _, _, _, _, q⟩ => exact q.elim
  | .brk, ⟨_, _, _, q⟩ => exact q.elim
  | .cont, ⟨_, _, _, q⟩ => exact q.elim
end
/-! ### calls by thin frames -/
section
variable {X : Cx} {CX : CXT} {k : Nat} {C f : Addr} {fd : FuncData} {ps : List Str} {sp : SpS} {E : XK} {e o : Expr} {es : List Expr} {m : Str} {apos pos p : Pos} {ta te : TE} {t : TA} {x : Str} {spA : L2.St → Sp} {dvs : List V} {ds : List Value}
theorem run_t {pins : List (Addr × Obj)} {σ : L2.St} {H : Hp} {s : Shared} {Q : VK} {us : List Value} {vs : List V} (F : FnT X.prog X.w X.K X.mg X.base CX k f fd ps sp) (hr : RT k X.A) (hb : Binds X.K fd ps []) (hx : Passes CX X E)
    (I : Inv X pins σ H s) (r : Vals vs us) (h : sp X.stack s vs H Q E) : wpAny (model X.prog X.w) X.A (call (.ref f) us) (EP X pins σ Q) X.xe s := by
  have hl0 : (us ++ ([] : List Value)).length = ps.length := by rw [List.append_nil, ← r.length]; exact F.len _ _ _ _ _ _ h
  have bd := hb s us I.kIn hl0
  rw [List.append_nil] at bd
  refine wpAny_call (codeAny_mono (F.run X.A X.stack s H ⟨us, []⟩ us vs Q E hr I.env0 bd r h) fun r s' hq => ?_)
  match r, hq with
  | .error e, hq => exact hx pins σ H s e s' I hq
  | .ok (.ret u), hq => exact I.after hq
  | .ok .next, hq => exact False.elim hq
  | .ok .brk, hq => exact False.elim hq
  | .ok .cont, hq => exact False.elim hq
theorem pe_fnT (F : FnT X.prog X.w X.K X.mg X.base CX k f fd ps sp) (hr : RT k X.A) (hg : Gl X x) (hm : X.mg x = some (.ref f)) (hk : PySem.W.keepIn X.K (.ref f) = true) (hb : Binds X.K fd ps []) (hx : Passes CX X E)
    (hs : ∀ (pins : List (Addr × Obj)) (σ : L2.St) (H : Hp) (s : Shared) (vs : List V) (Q : VK), Inv X pins σ H s → spA σ vs H Q E → sp X.stack s vs H Q E) (ha : PA X (e :: es) t) (hdb : (x == ("__debug__" : Str)) = false := by decide)
    (he : starEach (e :: es) X.env = (false, eval e X.env) :: starEach es X.env := by rfl) (hpl : (backTo pos (starEach es X.env)).any (·.1) = false := by rfl) : PE X (.Call (.Name x p) (e :: es) [] pos) (tFnS spA E t) := by
  refine ⟨fun pins s σ H Q I h => ?_⟩
  refine wpAny_Call_Name_kw (ld_glob I hg hm ?_ hdb)
  refine PySem.W.callWith_K (h₀ := X.base) I.ok.mod.kin hk (thn (ha.run pos pins s σ H _ I h) fun us s2 z => ?_) he hpl
  obtain ⟨vs, H2, I2, r, q⟩ := z
  exact ⟨I2.kIn, run_t (us := us) (vs := vs) F hr hb hx I2 r (hs _ _ _ _ _ _ I2 q)⟩
theorem pe_methT {pl : Sem Bool} (he : PE X o ta) (c : Cls X.K C) (hm : Meth X.K C m f) (F : FnT X.prog X.w X.K X.mg X.base CX k f fd ps sp) (hr : RT k X.A) (hb : Binds X.K fd ps []) (hx : Passes CX X E)
    (hs : ∀ (pins : List (Addr × Obj)) (σ : L2.St) (H : Hp) (s : Shared) (vs : List V) (Q : VK), Inv X pins σ H s → spA σ vs H Q E → sp X.stack s vs H Q E) (ha : PA X (e :: es) t)
    (hst : starEach (e :: es) X.env = (false, eval e X.env) :: starEach es X.env := by rfl) (hpl : (backTo pos (starEach es X.env)).any (·.1) = false := by rfl)
    (ht : eval (.Call (.Attribute o m apos) (e :: es) [] pos) X.env = (do
      let ov ← eval o X.env
      standAt apos.atName
      let (f, first) ← holding [ov] (getMethod ov m pl)
      callWith pos f first (backTo pos (starEach (e :: es) X.env)) (backToKw pos (keywordEach [] X.env))) := by rfl) :
    PE X (.Call (.Attribute o m apos) (e :: es) [] pos) (tMethS C m spA E ta t) := by
  refine ⟨fun pins s σ H Q I h => PySem.W.methodCall_KW (pl := pl) (thn (he.run pins s σ H _ I h) fun u s1 z => ?_) ht⟩
  obtain ⟨x, H1, I1, rx, a, dx, fs, rfl, ea, l, q⟩ := z
  obtain rfl : u = Value.ref a := rx
  refine getmeth_ok I1 ea c hm l (PySem.W.callWith_K (first := [.ref a]) (h₀ := X.base) I.ok.mod.kin hm.kp (thn (ha.run pos pins s1 σ H1 _ I1 q) fun us s2 z => ?_) hst hpl)
  obtain ⟨vs, H2, I2, r, q2⟩ := z
  exact ⟨I2.kIn, run_t (us := .ref a :: us) (vs := .ref a :: vs) F hr hb hx I2 (.cons rfl r) (hs _ _ _ _ _ _ I2 q2)⟩
theorem pe_callT0 {fe : Expr} (he : PE X fe te) (c : CallC X.K C f) (F : FnT X.prog X.w X.K X.mg X.base CX k f fd ps sp) (hr : RT k X.A) (hb : Binds X.K fd ps ds) (hd : Vals dvs ds) (hx : Passes CX X E)
    (hs : ∀ (pins : List (Addr × Obj)) (σ : L2.St) (H : Hp) (s : Shared) (vs : List V) (Q : VK), Inv X pins σ H s → spA σ vs H Q E → sp X.stack s vs H Q E)
    (hev : eval (.Call fe [] [] pos) X.env = (eval fe X.env >>= fun v => callWith pos v [] (backTo pos (starEach [] X.env)) (backToKw pos (keywordEach [] X.env))) := by rfl) : PE X (.Call fe [] [] pos) (tCallI C spA dvs E te tNil) := by
  refine ⟨fun pins s σ H Q I h => ?_⟩
  rw [hev]
  refine wpAny_bind (thn (he.run pins s σ H _ I h) fun u s1 z => ?_)
  obtain ⟨x, H1, I1, rx, a, dx, fs, rfl, ea, ⟨dx2, fs2, ea2⟩, q⟩ := z
  obtain rfl : u = Value.ref a := rx
  show wpAny _ _ (callWith pos (.ref a) [] [] []) _ _ _
  refine callWith_I (C := C) rfl (evalArgs_nil3 ⟨⟨dx, inst_at I1.hok ea⟩, ?_⟩)
  have h := hs _ _ _ _ _ _ I1 q
  have r2 : Vals ((.ref a :: ([] : List V)) ++ dvs) ((.ref a :: ([] : List Value)) ++ ds) := Vals.append (.cons rfl .nil) hd
  have hl : ((Value.ref a :: ([] : List Value)) ++ ds).length = ps.length := by
    rw [← r2.length]
    exact F.len _ _ _ _ _ _ h
  refine wpAny_call (call_I I1.kIn (inst_at I1.hok ea) c (codeAny_mono (F.run X.A X.stack s1 H1 ⟨[.ref a], []⟩ _ _ Q E hr I1.env0 (hb s1 [.ref a] I1.kIn hl) r2 h) fun r s' hq => ?_))
  match r, hq with
  | .error e, hq => exact hx pins σ H1 s1 e s' I1 hq
  | .ok (.ret u), hq => exact I1.after hq
  | .ok .next, hq => exact False.elim hq
  | .ok .brk, hq => exact False.elim hq
  | .ok .cont, hq => exact False.elim hq
end
/-! ### what may be called, by thin frames -/
structure CbT (P : Program) (w : World) (K : PySem.W.Frag) (mg : Str → Option Value) (base : Heap) (CX : CXT) (k : Nat) (f : Addr) (B : CB) (ps fr : List Str) (sp : SpC) : Prop where
  fn : ∀ H h, HOk P w H h → H f = some B.O → PySem.W.FnAt f h
  ni : (∀ xs, B.O ≠ .lst xs) ∧ (∀ C dx fs, B.O ≠ .ins C dx fs) ∧ (∀ kv, B.O ≠ .dK kv) ∧ ∀ ps, B.O ≠ .tbl ps
  len : ∀ outer s ws vs H Q E, sp outer s ws vs H Q E → vs.length = ps.length
  run : ∀ (A : Around) (outer : List Env) (s : Shared) (H : Hp) (us : List Value) (vs : List V) (ws : List (Option V)) (Q : VK) (E : XK), RT k A → Env0 P w K mg base A outer s H → H f = some B.O → H B.c = some (CodeH B.c B.q B.P) →
    NdefX.CellsAt B.cl fr ws s.heap H → Vals vs us → sp outer s ws vs H Q E → codeAny (model P w) A (.call (.ref f) ⟨us, []⟩) (CR CX outer P w H s Q E) s
section
variable {CX : CXT} {P : Program} {w : World} {K : PySem.W.Frag} {mg : Str → Option Value} {base : Heap} {N ps fr : List Str} {F : NdefX.NF} {f : Addr} {k j : Nat} {sp : SpC} {B : CB} {e : Expr}
theorem CbT.mono (o : CbT P w K mg base CX j f B ps fr sp) (h : j ≤ k) : CbT P w K mg base CX k f B ps fr sp := ⟨o.fn, o.ni, o.len, fun A outer s H us vs ws Q E hr => o.run A outer s H us vs ws Q E (hr.mono h)⟩
theorem cb_lamT {Pt : Addr} (S : NdefX.NScope N ps fr F.scope) (hb : ∀ (pm ctv : Value) (us : List Value), us.length = ps.length → bindArgs (PySem.W.kla_fn "<lambda>" F.qual F.params e F.scope F.cl pm (.ref F.c) ctv) ⟨us, []⟩ = pure (ps.zip us)) (len : ∀ outer s ws vs H Q E, sp outer s ws vs H Q E → vs.length = ps.length)
    (body : ∀ (A : Around) (outer : List Env) (s : Shared) (H : Hp) (vs : List V) (ws : List (Option V)) (Q : VK) (E : XK), RT k (A.deeper (NdefX.envF F f s.heap.objs.size)) → H f = some (LamO f F e) → H F.c = some (CodeH F.c F.qual Pt) → NdefX.CellsAt F.cl fr ws s.heap H → sp outer s ws vs H Q E →
      ∃ t, PE (NdefX.ncx CX P w K mg base N F f A outer s H E) e t ∧ t (NdefX.startF N vs ws) H Q) : CbT P w K mg base CX (k + 1) f (cbL f F e Pt) ps fr sp := by
  refine ⟨fun H h ok x => let ⟨pm, ctv, ho⟩ := lamO_at ok x; ⟨_, _, _, _, ho⟩, lamO_ne, len, fun A outer s H us vs ws Q E hr e0 hf hc C r hsp => ?_⟩
  have ll := len _ _ _ _ _ _ _ hsp
  obtain ⟨pm, ctv, ho⟩ := lamO_at e0.hok hf
  have noLim : s.heap.NoLimit := e0.mod.nolimit.keeps fun b o x => (e0.bs b o x).1
  refine PySem.W.kla_callFunE hr.leaf.depth ho rfl S.co S.gen rfl (codeH_at e0.hok hc).1 ?_
  rw [hb pm ctv us (by rw [← r.length]; exact ll)]
  refine wpAny_pure (wpAny_newFunctionEnv S.nocell (fun ⟨n, _⟩ hy => S.par n (List.of_mem_zip hy).1) (fun h1 ns sb => ⟨noLim.fresh _ sb, ?_⟩) S.kind)
  have grow : ∀ b o, s.heap.get? b = some o → h1.get? b = some o := fun b o x => sb.extBut b o (Nat.ne_of_lt (Heap.lt_size x)) (Heap.get?_push_of_some _ x)
  obtain ⟨t, ht, hq⟩ := body A outer s H vs ws Q E (hr.deeper _) hf hc C hsp
  have I : Inv (NdefX.ncx CX P w K mg base N F f A outer s H E) [] (NdefX.startF N vs ws) H { s with heap := h1, toks := s.toks + (ps.zip us).length } := NdefX.inv_startN S hr.hd e0 ll r C ns grow
  refine PySem.W.kla_codeExpr (wpAny_mono (ht.run [] _ _ H Q I hq) (fun v s' z => ?_) fun x s' z => z)
  obtain ⟨v', H', J, rv, q⟩ := z
  exact ⟨v', H', J.os, J.bare, J.base, J.hok, rv, q⟩
/-- .. with its one cell told in the heap -/
def spPin (c b : Addr) (ob : Obj) (sp : SpC) : SpC := fun outer s _ vs H Q E => H c = some (CellO c ob) ∧ ∀ s' : Shared, s'.heap.get? c = some ob → c ∉ frs outer → sp outer s' [some (.ref b)] vs (unp H c) (fun v H' => H' c = none → Q v (upd H' c (CellO c ob))) (fun cls d H' => H' c = none → E cls d (upd H' c (CellO c ob)))
theorem CbT.pin {O : HO} {c c1 b P1 : Addr} {ob : Obj} {q y : Str} {cl : List (Str × Addr)} (o : CbT P w K mg base (L2.CX P w) k f ⟨O, c1, q, cl, P1⟩ ps [y] sp) (hd : ob.data = .cell (some (.ref b))) (hcl : ∀ z c', cl.lookup z = some c' → z = y ∧ c' = c) (hy : cl.lookup y = some c) (fc : f ≠ c) (cc : c1 ≠ c) :
    CbT P w K mg base (L2.CX P w) k f ⟨O, c1, q, [], P1⟩ ps [] (fun outer s _ vs H Q E => vs.length = ps.length ∧ spPin c b ob sp outer s [] vs H Q E) := by
  refine ⟨o.fn, o.ni, fun outer s ws vs H Q E h => h.1, fun A outer s H us vs ws Q E hr e0 hf hc _ r hsp => ?_⟩
  obtain ⟨_, h1, h2⟩ := hsp
  have ho : s.heap.get? c = some ob := (e0.hok c _ h1).1
  have cell : s.heap.IsCell c (some (.ref b)) := ⟨ob, ho, hd⟩
  have nf : c ∉ frs outer := fun h => by
    have z := e0.frf c h
    rw [h1] at z
    cases z
  have C : NdefX.CellsAt cl [y] [some (.ref b)] s.heap (unp H c) := ⟨rfl, fun y' c' e => by
    obtain ⟨_, rfl⟩ := hcl _ _ e
    exact ⟨unp_same, _, cell⟩, fun x z d e1 e2 => (hcl _ _ e1).1.trans (hcl _ _ e2).1.symm, fun i z hi => by
    match i, hi with
    | 0, hi =>
      obtain rfl : y = z := by simpa using hi
      exact ⟨c, hy, fun v hv => ⟨.ref b, by
        obtain rfl : V.ref b = v := by simpa using hv
        rfl, cell⟩⟩⟩
  refine codeAny_mono (o.run A outer s (unp H c) us vs _ _ _ hr (env0_unp e0 h1) (by rw [unp_ne fc]; exact hf) (by show unp H c c1 = _; rw [unp_ne cc]; exact hc) C r (h2 s ho nf)) fun r s' z => ?_
  match r, z with
  | .error e, z => exact cx_pin z h1 e0.hok nf fun _ _ _ n q => q n
  | .ok (.ret u), z => exact ce_pin z h1 e0.hok nf fun _ _ n q => q n
  | .ok .next, z => exact False.elim z
  | .ok .brk, z => exact False.elim z
  | .ok .cont, z => exact False.elim z
end
def tCallT (P : Program) (w : World) (K : PySem.W.Frag) (mg : Str → Option Value) (base : Heap) (o0 : List Env) (s0 : Shared) (H0 : Hp) (CX : CXT) (k : Nat) (ps : List Str) (i : Nat) (Ew : L2.St → XK) (t : TA) : TE := fun σ H Q => ∃ (f : Addr) (B : CB), σ[i]? = some (some (.ref f)) ∧ H f = some B.O ∧ (∀ h, HOk P w H h → PySem.W.FnAt f h) ∧
  t σ H fun vs H1 => ∃ (fr : List Str) (ws : List (Option V)) (sp : SpC), CbT P w K mg base CX k f B ps fr sp ∧ H1 f = some B.O ∧ H1 B.c = some (CodeH B.c B.q B.P) ∧ ∀ outer' s', CK o0 s0 H0 outer' s' H1 → NdefX.CellsAt B.cl fr ws s'.heap H1 ∧ sp outer' s' ws vs H1 Q (Ew σ)
def tCallT0 (P : Program) (w : World) (K : PySem.W.Frag) (mg : Str → Option Value) (base : Heap) (o0 : List Env) (s0 : Shared) (H0 : Hp) (CX : CXT) (k : Nat) (i : Nat) (Ew : L2.St → XK) : TE := fun σ H Q => ∃ (f : Addr) (B : CB) (fr : List Str) (ws : List (Option V)) (sp : SpC), σ[i]? = some (some (.ref f)) ∧ CbT P w K mg base CX k f B [] fr sp ∧ H f = some B.O ∧ H B.c = some (CodeH B.c B.q B.P) ∧
  ∀ outer' s', CK o0 s0 H0 outer' s' H → NdefX.CellsAt B.cl fr ws s'.heap H ∧ sp outer' s' ws [] H Q (Ew σ)
section
variable {X : Cx} {CX : CXT} {k : Nat} {f : Addr} {B : CB} {ps fr : List Str} {sp : SpC} {ws : List (Option V)} {x : Str} {i : Nat} {e : Expr} {es : List Expr} {p pos : Pos} {t : TA} {Ew : L2.St → XK}
theorem run_cbT {pins : List (Addr × Obj)} {σ : L2.St} {H : Hp} {s : Shared} {Q : VK} {us : List Value} {vs : List V} (Fn : CbT X.prog X.w X.K X.mg X.base CX k f B ps fr sp) (hr : RT k X.A) (hx : ∀ σ, PassesAt CX X σ (Ew σ)) (I : Inv X pins σ H s) (hf : H f = some B.O) (hc : H B.c = some (CodeH B.c B.q B.P)) (C : NdefX.CellsAt B.cl fr ws s.heap H)
    (r : Vals vs us) (q : sp X.stack s ws vs H Q (Ew σ)) : wpAny (model X.prog X.w) X.A (call (.ref f) us) (EP X pins σ Q) X.xe s := by
  refine wpAny_call (codeAny_mono (Fn.run X.A X.stack s H us vs ws Q (Ew σ) hr I.env0 hf hc C r q) fun r s' z => ?_)
  match r, z with
  | .error e, z => exact hx σ pins H s e s' I z
  | .ok (.ret u), z => exact I.after z
  | .ok .next, z => exact False.elim z
  | .ok .brk, z => exact False.elim z
  | .ok .cont, z => exact False.elim z
theorem pe_callT1 (hex : X.ex = []) (hr : RT k X.A) (hx : ∀ σ, PassesAt CX X σ (Ew σ)) (hN : X.N[i]? = some x) (hv : Vis X.env.scope x) (ha : PA X (e :: es) t)
    (hd : (x == ("__debug__" : Str)) = false := by decide) (hcd : (x == ("__classdict__" : Str)) = false := by decide)
    (he : starEach (e :: es) X.env = (false, eval e X.env) :: starEach es X.env := by rfl) (hpl : (backTo pos (starEach es X.env)).any (·.1) = false := by rfl) :
    PE X (.Call (.Name x p) (e :: es) [] pos) (tCallT X.prog X.w X.K X.mg X.base X.outer X.s_0 X.H_0 CX k ps i Ew t) := by
  refine ⟨fun pins s σ H Q I h => ?_⟩
  obtain ⟨f, B, hs, hf, hfn, ht⟩ := h
  obtain ⟨u, ru, ld⟩ := ld_var (E := X.xe) (pos := p) I hN hv hs hd hcd
  obtain rfl : u = Value.ref f := ru
  refine wpAny_Call_Name_kw (ld _ ?_)
  refine PySem.W.callWith_F (first := []) (hfn _ I.hok) (thn (ha.run pos pins s σ H _ I ht) fun us s2 z => ?_) he hpl
  obtain ⟨vs, H2, I2, r, fr, ws, sp, Fn, h1, h2, hq⟩ := z
  obtain ⟨C, q⟩ := hq X.stack s2 (ck_inv I2 hex)
  exact ⟨Fn.fn _ _ I2.hok h1, run_cbT Fn hr hx I2 h1 h2 C r q⟩
theorem pe_callTT0 (hex : X.ex = []) (hr : RT k X.A) (hx : ∀ σ, PassesAt CX X σ (Ew σ)) (hN : X.N[i]? = some x) (hv : Vis X.env.scope x) (hd : (x == ("__debug__" : Str)) = false := by decide) (hcd : (x == ("__classdict__" : Str)) = false := by decide) :
    PE X (.Call (.Name x p) [] [] pos) (tCallT0 X.prog X.w X.K X.mg X.base X.outer X.s_0 X.H_0 CX k i Ew) := by
  refine ⟨fun pins s σ H Q I h => ?_⟩
  obtain ⟨f, B, fr, ws, sp, hs, Fn, h1, h2, hq⟩ := h
  obtain ⟨u, ru, ld⟩ := ld_var (E := X.xe) (pos := p) I hN hv hs hd hcd
  obtain rfl : u = Value.ref f := ru
  refine wpAny_Call_Name_kw (ld _ ?_)
  obtain ⟨C, q⟩ := hq X.stack s (ck_inv I hex)
  exact PySem.W.callWith_F0 (first := []) (Fn.fn _ _ I.hok h1) (run_cbT Fn hr hx I h1 h2 C .nil q)
/-- a call from a lambda, its one cell told in the heap meanwhile -/
def spUnp (c : Addr) (ob : Obj) (spA : L2.St → Sp) : L2.St → Sp := fun σ vs H Q E => H c = none ∧ spA σ vs (upd H c (CellO c ob)) (fun v H' => H' c = some (CellO c ob) ∧ Q v (unp H' c)) (fun cls d H' => H' c = some (CellO c ob) ∧ E cls d (unp H' c))
theorem pe_fnTU {fd : FuncData} {spS : SpS} {E : XK} {spA : L2.St → Sp} {c : Addr} {ob : Obj} {y : Str} (F : FnT X.prog X.w X.K X.mg X.base (L2.CX X.prog X.w) k f fd ps spS) (hr : RT k X.A) (hg : Gl X x) (hm : X.mg x = some (.ref f)) (hk : PySem.W.keepIn X.K (.ref f) = true) (hb : Binds X.K fd ps []) (hx : Passes (L2.CX X.prog X.w) X E)
    (ho : X.s_0.heap.get? c = some ob) (hn : X.H_0 c = none) (nfs : c ∉ X.fs) (nex : X.ex = []) (nst : c ∉ frs X.stack) (nb : X.base.get? c = none)
    (hs : ∀ (σ : L2.St) (H : Hp) (s : Shared) (vs : List V) (Q : VK) (E : XK), spA σ vs H Q E → spS X.stack s vs H Q E) (ha : PA X (e :: es) t) (hdb : (x == ("__debug__" : Str)) = false := by decide)
    (he : starEach (e :: es) X.env = (false, eval e X.env) :: starEach es X.env := by rfl) (hpl : (backTo pos (starEach es X.env)).any (·.1) = false := by rfl) : PE X (.Call (.Name x p) (e :: es) [] pos) (tFnS (spUnp c ob spA) E t) := by
  refine ⟨fun pins s σ H Q I h => ?_⟩
  refine wpAny_Call_Name_kw (ld_glob I hg hm ?_ hdb)
  refine PySem.W.callWith_K (h₀ := X.base) I.ok.mod.kin hk (thn (ha.run pos pins s σ H _ I h) fun us s2 z => ?_) he hpl
  obtain ⟨vs, H2, I2, r, hn2, q⟩ := z
  refine ⟨I2.kIn, ?_⟩
  have ho2 : s2.heap.get? c = some ob := I2.base.keep c ob ho hn nfs (by rw [nex]; simp)
  have h := hs _ _ s2 _ _ _ q
  have hl0 : (us ++ ([] : List Value)).length = ps.length := by rw [List.append_nil, ← r.length]; exact F.len _ _ _ _ _ _ h
  have bd := hb s2 us I2.kIn hl0
  rw [List.append_nil] at bd
  refine wpAny_call (codeAny_mono (F.run X.A X.stack s2 _ ⟨us, []⟩ us vs _ _ hr (env0_pin I2.env0 hn2 ho2 nst nb) bd r h) fun r s' hq => ?_)
  match r, hq with
  | .error e, hq => exact hx pins σ H2 s2 e s' I2 (cx_unp hq hn2 ho2 nst fun _ _ _ z => z)
  | .ok (.ret u), hq => exact I2.after (ce_unp hq hn2 ho2 nst fun _ _ z => z)
  | .ok .next, hq => exact False.elim hq
  | .ok .brk, hq => exact False.elim hq
  | .ok .cont, hq => exact False.elim hq
end
end Own
namespace Own
open PySem PySem.Spec PyProof.Rows L2
section
variable {X : Cx}
theorem op_neNil (hu : X.A.units + 64 < cLine) : OpR X (compareOp .NotEq) (rEqNil X.K true) := by
  intro pins s σ H x y v u Q I rx ry h
  obtain ⟨p, q, xs, rfl, rfl, h1, h2, k⟩ := h
  cases rx; cases ry
  obtain ⟨its, r1, ⟨o1, n1, ho1, hc1, _, hd1⟩, _⟩ := I.list h1
  obtain ⟨its2, r2, ⟨o2, n2, ho2, hc2, _, hd2⟩, _⟩ := I.list h2
  have l1 := r1.length
  have l2 := r2.length
  have e2 : its2 = [] := List.length_eq_zero_iff.mp (by simpa using l2.symm)
  subst e2
  rw [if_pos rfl] at k
  by_cases e : xs = []
  · subst e
    have e1 : its = [] := List.length_eq_zero_iff.mp (by simpa using l1.symm)
    subst e1
    have z := SeqAt.RcNeAt.lists (A := X.A) (s := s) (l := p) (b := q) (items := ([] : List Value).toArray) (items2 := ([] : List Value).toArray) (e := fun _ => true) ⟨o1, ho1, hc1, _, hd1⟩ ⟨o2, ho2, hc2, _, hd2⟩ rfl (by omega) (fun j h1 h2 => absurd h1 (by simp))
    exact PySem.EqBoolInt.of_rcne z ⟨.bl false, H, I, rfl, k⟩
  · have ne : its ≠ [] := fun z => e (List.length_eq_zero_iff.mp (by rw [l1, z]; rfl))
    have ie : xs.isEmpty = false := by cases xs with
      | nil => exact absurd rfl e
      | cons _ _ => rfl
    rw [ie] at k
    have hz : (its.toArray.size != ([] : List Value).toArray.size) = true := by
      cases its with
      | nil => exact absurd rfl ne
      | cons _ _ => simp
    have z := SeqAt.RcNeAt.lists_lengths (A := X.A) (s := s) (l := p) (b := q) (items := its.toArray) (items2 := ([] : List Value).toArray) ⟨o1, ho1, hc1, _, hd1⟩ ⟨o2, ho2, hc2, _, hd2⟩ hz (by omega)
    exact PySem.EqBoolInt.of_rcne z ⟨.bl true, H, I, rfl, k⟩
end
end Own

set_option Elab.async false
set_option linter.all false
set_option maxRecDepth 100000
set_option maxHeartbeats 4000000
/-! A thin frame that falls off its end and pins its cells, or lets an error out; a method that may raise, within a try. -/
namespace Own
open PySem PySem.Spec PyProof.Rows L2
section
variable {CX : CXT} {P : Program} {w : World} {K : PySem.W.Frag} {mg : Str → Option Value} {base : Heap} {k : Nat} {f : Addr} {qual : Str} {N ps : List Str}
theorem okPT {x : Str} {st : Stmt} {fd : FuncData} {sp : SpS} (F : Fun K x qual st f fd) (S : FnScope N ps (defScope st)) (len : ∀ outer s vs H Q E, sp outer s vs H Q E → vs.length = ps.length)
    (body : ∀ (A : Around) (outer : List Env) (s : Shared) (H : Hp) (vs : List V) (Q : VK) (E : XK), RT k (A.deeper (envOfC qual (defScope st) s.heap.objs.size f fd.code)) → Env0 P w K mg base A outer s H → sp outer s vs H Q E →
      ∃ t, PSs (cxOf CX P w K mg base N qual (defScope st) f fd.code A outer s H E) (defBody st) t ∧ t { nx := fun σ' H' => ∀ s', Inv (cxOf CX P w K mg base N qual (defScope st) f fd.code A outer s H E) [] σ' H' s' → CE outer P w H s Q Value.none s', rt := fun _ _ => False } (start N vs) H) : FnT P w K mg base CX (k + 1) f fd ps sp := by
  obtain ⟨oc, od, kV, doc, pm, an, cdv, ct, osl, rfl, lk, hcd⟩ := F.ex
  refine ⟨len, fun A outer s H args us vs Q E hr e0 hb r hsp => ?_⟩
  have hl := len _ _ _ _ _ _ hsp
  have hK : K.In s.heap := e0.mod.kin.keeps fun d o e => (e0.bs d o e).1
  have noLim : s.heap.NoLimit := e0.mod.nolimit.keeps fun d o e => (e0.bs d o e).1
  have kinds : ∀ y ∈ ps.zip us, (defScope st).names.lookup y.1 = some .local ∨ ((defScope st).names.lookup y.1 = some .cell ∧ ((cellsFrom (s.heap.objs.size + 1) (defScope st).names []).lookup y.1).isSome = true) := by
    rintro ⟨y, v⟩ hy
    exact (S.par y (List.of_mem_zip hy).1).elim .inl fun q => .inr ⟨q, PySem.W.cellsFrom_some _ _ _ (.inl q)⟩
  refine codeAny_call_function hr.leaf.depth (hK _ _ lk) rfl S.co S.gen rfl (PySem.W.codeRec_of hK hcd) (hb _ _ _ _ (wpAny_newFunctionEnv_cells S.kind kinds ?_))
  rintro env rfl s1 x1
  refine ⟨noLim.keeps x1.toInCall.keep, codeAny_func ?_⟩
  obtain ⟨t, ht, hq⟩ := body A outer s H vs Q E (hr.deeper _) e0 hsp
  refine wpAny_mono (ht.run [] s1 (L2.start N vs) H _ (inv_start S hr.hd e0 hl r x1) hq) (fun fl s2 z => ?_) fun _ _ z => z
  match fl, z with
  | .next, ⟨σ', H', J, q⟩ => exact q s2 J
  | .ret u, ⟨_, _, _, _, _, q⟩ => exact q.elim
  | .brk, ⟨_, _, _, q⟩ => exact q.elim
  | .cont, ⟨_, _, _, q⟩ => exact q.elim
end
section
variable {X : Cx} {CX : CXT} {k : Nat} {C f : Addr} {fd : FuncData} {ps : List Str} {sp : Sp} {E : L2.St → XK} {e o : Expr} {es : List Expr} {m : Str} {apos pos : Pos} {ta : TE} {t : TA}
def tMethX (C : Addr) (m : Str) (sp : Sp) (E : L2.St → XK) (ta : TE) (t : TA) : TE := fun σ H Q => ta σ H fun x H1 => ∃ a dx fs, x = .ref a ∧ H1 a = some (.ins C dx fs) ∧ fs.lookup m = none ∧ t σ H1 fun vs H2 => sp (x :: vs) H2 Q (E σ)
/-- o.m(e, ..), which may raise, told with the slots -/
theorem pe_methX {pl : Sem Bool} (he : PE X o ta) (c : Cls X.K C) (hm : Meth X.K C m f) (F : FnOk X.prog X.w X.K X.mg X.base CX k f fd ps sp) (hr : Room k X.A) (hb : Binds X.K fd ps []) (hx : ∀ σ, PassesAt CX X σ (E σ)) (ha : PA X (e :: es) t)
    (hst : starEach (e :: es) X.env = (false, eval e X.env) :: starEach es X.env := by rfl) (hpl : (backTo pos (starEach es X.env)).any (·.1) = false := by rfl)
    (ht : eval (.Call (.Attribute o m apos) (e :: es) [] pos) X.env = (do
      let ov ← eval o X.env
      standAt apos.atName
      let (f, first) ← holding [ov] (getMethod ov m pl)
      callWith pos f first (backTo pos (starEach (e :: es) X.env)) (backToKw pos (keywordEach [] X.env))) := by rfl) :
    PE X (.Call (.Attribute o m apos) (e :: es) [] pos) (tMethX C m sp E ta t) := by
  refine ⟨fun pins s σ H Q I h => ?_⟩
  refine PySem.W.methodCall_KW (pl := pl) (thn (he.run pins s σ H _ I h) fun u s1 ⟨x, H1, I1, rx, a, dx, fs, ex, ea, l, q⟩ => ?_) ht
  subst ex
  obtain rfl : u = Value.ref a := rx
  refine getmeth_ok I1 ea c hm l ?_
  refine PySem.W.callWith_K (first := [.ref a]) (h₀ := X.base) I.ok.mod.kin hm.kp (thn (ha.run pos pins s1 σ H1 _ I1 q) fun us s2 ⟨vs, H2, I2, r, q2⟩ => ⟨I2.kIn, ?_⟩) hst hpl
  exact run_fnS (us := .ref a :: us) (vs := .ref a :: vs) F hr hb (hx σ) I2 (.cons rfl r) q2
end
/-- [e for j in range(n) if c], c and e changing nothing -/
theorem lcRP_go {ta : TA} {j : Nat} {tt : TT} {te : TE} {σ : L2.St} {H : Hp} {Q : VK} {n : Nat} (b : Nat → Bool) (g : Nat → V) (ht : ∀ R : List V → Hp → Prop, R [.int (n : Int)] H → ta σ H R) (hn : n ≤ 100000)
    (htt : ∀ (i : Nat) H' (R : Bool → Hp → Prop), i < n → Same H H' → R (b i) H' → tt ((wipe σ [j]).set j (some (.int (i : Int)))) H' R)
    (hte : ∀ (i : Nat) H' (R : VK), i < n → b i = true → Same H H' → R (g i) H' → te ((wipe σ [j]).set j (some (.int (i : Int)))) H' R)
    (q : ∀ D H', H D = none → Same H H' → H' D = some (.lst (((List.range n).filter b).map g)) → Q (.ref D) H') : tLc (iRng1 ta) (gName j) tt te [j] σ H Q := by
  refine ht _ ⟨n, rfl, by omega, by omega, fun D hD => ?_⟩
  rw [Int.toNat_natCast]
  refine lc_range (lo := 0) (n := n) (fun i H' => H' D = some (.lst (((List.range i).filter b).map g)) ∧ ExT D H H') ⟨upd_same, exT_upd (ExT.refl D H)⟩ ?_ ?_
  · rintro i H' hi ⟨p1, p2⟩
    rw [Int.zero_add]
    have e : List.range (i + 1) = List.range i ++ [i] := List.range_succ
    refine ⟨wipe_set, htt i H' _ hi (ExT.toSame hD p2) ?_⟩
    cases hb : b i with
    | true =>
      refine hte i H' _ hi hb (ExT.toSame hD p2) ⟨_, p1, ?_, ?_, exT_upd p2⟩
      · rw [List.length_map]
        refine Nat.lt_of_le_of_lt (List.length_filter_le _ _) ?_
        rw [List.length_range]
        exact Nat.lt_of_lt_of_le hi (Nat.le_trans hn (by decide))
      · rw [e, List.filter_append, List.map_append]
        simp only [List.filter_cons, hb, if_true, List.filter_nil, List.map_cons, List.map_nil]
        exact upd_same
    | false =>
      refine ⟨?_, p2⟩
      rw [e, List.filter_append]
      simp only [List.filter_cons, hb, List.filter_nil]
      rw [p1]
      simp
  · rintro H' ⟨p1, p2⟩
    exact q D H' hD (ExT.toSame hD p2) p1
end Own

set_option Elab.async false
set_option linter.all false
set_option maxRecDepth 100000
set_option maxHeartbeats 4000000
/-! Dicts that the module's top has written, with texts or tuples of texts as values; comprehensions and loops over zip; trees as data by their roles. -/
namespace Own
open PySem PySem.Spec PyProof.Rows L2
/-! ### a dict of the top -/
/-- at d: a written dict; its entries by R -/
structure CDict (K : PySem.W.Frag) (w : World) (d : Addr) {α : Type} (kvs : List (Str × α)) (R : α → V → Prop) where
  es : Array DictEntry
  n : Nat
  kd : KDict K w d es n
  has : ∀ x r, (x, r) ∈ kvs → ∃ u v, PySem.W.nsIn K d x = some (some u) ∧ RelV v u ∧ R r v
  no : ∀ x, x ∉ kvs.map (·.1) → PySem.W.nsIn K d x = some none
section
variable {K : PySem.W.Frag} {w : World} {d : Addr} {α : Type} {kvs : List (Str × α)} {R : α → V → Prop}
theorem CDict.isin (C : CDict K w d kvs R) (x : Str) : ∃ r, PySem.W.nsIn K d x = some r ∧ r.isSome = decide (x ∈ kvs.map (·.1)) := by
  by_cases h : x ∈ kvs.map (·.1)
  · obtain ⟨p, mp, rfl⟩ := List.mem_map.mp h
    obtain ⟨u, v, e, _⟩ := C.has p.1 p.2 mp
    exact ⟨some u, e, (decide_eq_true h).symm⟩
  · exact ⟨none, C.no x h, (decide_eq_false h).symm⟩
theorem CDict.dct (C : CDict K w d kvs R) {x : Str} {r : α} (h : (x, r) ∈ kvs) : ∃ v, R r v ∧ KDct K w d x v := by
  obtain ⟨u, v, e, rv, hr⟩ := C.has x r h
  exact ⟨v, hr, C.es, C.n, u, C.kd.at_, C.kd.lit, e, rv⟩
end
/-- a tuple of texts, wherever -/
def TupS (K : PySem.W.Frag) (rs : List Str) (v : V) : Prop := ∃ a, v = .ref a ∧ ∀ H, SqT K H a (rs.map V.str)
def StrS (x : Str) (v : V) : Prop := v = .str x
def IntS (k : Nat) (v : V) : Prop := v = .int k
theorem inK_go {K : PySem.W.Frag} {w : World} {d : Addr} {α : Type} {kvs : List (Str × α)} {R : α → V → Prop} (C : CDict K w d kvs R) {x : Str} {H : Hp} {Q : VK} (q : Q (.bl (decide (x ∈ kvs.map (·.1)))) H) :
    ∃ (z : Str) (r : Option Value), V.str x = .str z ∧ V.ref d = .ref d ∧ PySem.W.nsIn K d z = some r ∧ Q (.bl r.isSome) H := by
  obtain ⟨r, e, e2⟩ := C.isin x
  exact ⟨x, r, rfl, rfl, e, by rw [e2]; exact q⟩
theorem ixK_go {K : PySem.W.Frag} {w : World} {d : Addr} {α : Type} {kvs : List (Str × α)} {R : α → V → Prop} (C : CDict K w d kvs R) {x : Str} {r : α} {H : Hp} {Q : VK} (h : (x, r) ∈ kvs) (q : ∀ v, R r v → Q v H) : rIxD K w (.ref d) (.str x) H Q := by
  obtain ⟨v, hr, k⟩ := C.dct h
  exact ⟨d, x, v, rfl, rfl, k, q v hr⟩
/-! ### walks -/
theorem walk_zipT {K : PySem.W.Frag} {a b : Addr} {xs ys : List V} (hl : xs.length = ys.length) : Walk (RZ.ItzT K a b) xs.length (fun H => SqT K H a xs ∧ SqT K H b ys) (YPair (fun i => xs[i]?) (fun i => ys[i]?)) where
  goes := fun i H hi q => ⟨xs, ys, xs[i], ys[i]'(hl ▸ hi), q.1, q.2, by simp, by simp⟩
  stops := fun H q => ⟨xs, ys, q.1, q.2, .inl (Nat.le_refl _)⟩
  yields := fun i H v H' _ q y => by
    obtain ⟨T, x, z, e1, e2, e3, e4, e5⟩ := y
    exact ⟨T, x, z, e1, e2, e3, e4 xs q.1, e5 ys q.2⟩
/-- [e for g in .. if c], by an invariant -/
theorem lcW_go {J : It} {n : Nat} {G : Hp → Prop} {Y : Nat → Hp → V → Hp → Prop} (wk : Walk J n G Y) {wi : TI} {g : TG} {tt : TT} {te : TE} {vs : List Nat} {σ : L2.St} {H : Hp} {Q : VK} (Inv : Addr → Nat → List V → Hp → Prop)
    (ht : ∀ R : It → Hp → Prop, R J H → wi σ H R) (hG : ∀ D i acc H', i ≤ n → Inv D i acc H' → H D = none → G H') (h0 : ∀ D, H D = none → Inv D 0 [] (upd H D (.lst [])))
    (hs : ∀ D i acc H' x H2, i < n → H D = none → H' D = some (.lst acc) → acc.length ≤ i → Inv D i acc H' → Y i H' x H2 → g x (wipe σ vs) H2 fun σ2 H3 => wipe σ2 vs = wipe σ vs ∧ tt σ2 H3 fun b H4 => if b = true then te σ2 H4 fun y H5 => ∃ acc', H5 D = some (.lst acc') ∧ acc'.length < sizeLine ∧ LcP Inv D (i + 1) (upd H5 D (.lst (acc' ++ [y]))) else LcP Inv D (i + 1) H4)
    (q : ∀ D acc H', H D = none → H' D = some (.lst acc) → acc.length ≤ n → Inv D n acc H' → Q (.ref D) H') : tLc wi g tt te vs σ H Q := by
  refine ht _ fun D hD => ?_
  refine lc_it wk (fun i H' => LcP Inv D i H') ⟨[], upd_same, Nat.le_refl _, h0 D hD⟩ (fun i H' hi p => ?_) (fun i x H' H2 hi p y => ?_) (fun H' p => ?_)
  · obtain ⟨acc, _, _, p⟩ := p
    exact hG D i acc H' hi p hD
  · obtain ⟨acc, p1, p2, p3⟩ := p
    exact hs D i acc H' x H2 hi hD p1 p2 p3 y
  · obtain ⟨acc, p1, p2, p3⟩ := p
    exact q D acc H' hD p1 p2 p3
/-- [e for a, b in zip(x, y)] over tuples, e changing nothing that stood -/
theorem lcZT_go {K : PySem.W.Frag} {a b : Addr} {xs ys : List V} (hl : xs.length = ys.length) {wi : TI} {g : TG} {te : TE} {vs : List Nat} {σ : L2.St} {H : Hp} {Q : VK} (f : Nat → V) (ht : ∀ R : It → Hp → Prop, R (RZ.ItzT K a b) H → wi σ H R) (ha : SqT K H a xs) (hb : SqT K H b ys) (hz : xs.length ≤ 100000)
    (hs : ∀ i x y T H2 (R : VK), xs[i]? = some x → ys[i]? = some y → Same H H2 → H2 T = some (.tup [x, y]) → (∀ H3, Same H2 H3 → R (f i) H3) → g (.ref T) (wipe σ vs) H2 fun σ2 H3 => wipe σ2 vs = wipe σ vs ∧ te σ2 H3 R)
    (q : ∀ D H', H D = none → Same H H' → H' D = some (.lst ((List.range xs.length).map f)) → Q (.ref D) H') : tLc wi g tYes te vs σ H Q := by
  refine lcW_go (walk_zipT hl) (fun D i acc H' => acc = (List.range i).map f ∧ ExT D H H') ht (fun D i acc H' _ p hD => ⟨sqT_same (ExT.toSame hD p.2) ha, sqT_same (ExT.toSame hD p.2) hb⟩) (fun D hD => ⟨rfl, exT_upd (.refl D H)⟩) (fun D i acc H' x H2 hi hD rD la p y => ?_) (fun D acc H' hD rD la p => ?_)
  · obtain ⟨rfl, v⟩ := p
    obtain ⟨T, x1, y1, rfl, nT, rfl, e1, e2⟩ := y
    have sT := same_new (o := .tup [x1, y1]) nT
    have sH := (ExT.toSame hD v).trans sT
    have rD2 := sT _ _ rD
    refine hs i x1 y1 T _ (fun y H5 => ∃ acc', H5 D = some (.lst acc') ∧ acc'.length < sizeLine ∧ LcP (fun D i acc H' => acc = (List.range i).map f ∧ ExT D H H') D (i + 1) (upd H5 D (.lst (acc' ++ [y])))) e1 e2 sH upd_same (fun H3 s3 => ⟨_, s3 _ _ rD2, ?_, _, upd_same, ?_, ?_, ?_⟩)
    · rw [List.length_map, List.length_range]
      exact Nat.lt_of_lt_of_le hi (Nat.le_trans hz (by decide))
    · simp
    · rw [List.range_succ, List.map_append]
      rfl
    · exact exT_upd (v.trans ((Same.exT (sT.trans s3))))
  · obtain ⟨rfl, v⟩ := p
    exact q D H' hD (ExT.toSame hD v) rD
end Own

set_option Elab.async false
set_option linter.all false
set_option maxRecDepth 100000
set_option maxHeartbeats 4000000
/-! A frame that ends by a return, or by an error, and pins its cell. -/
namespace Own
open PySem PySem.Spec PyProof.Rows L2
/-! ### statements whose returns are told with the slots -/
abbrev RK := L2.St → V → Hp → Prop
abbrev TR := RK → L2.St → Hp → Prop
def RP (X : Cx) (pins : List (Addr × Obj)) (R : RK) (f : Flow) (s' : Shared) : Prop :=
  match f with
  | .ret u => ∃ v σ' H', Inv X pins σ' H' s' ∧ RelV v u ∧ R σ' v H'
  | .next => False
  | .brk => False
  | .cont => False
structure PRs (X : Cx) (st : List Stmt) (t : TR) : Prop where
  run : ∀ (pins : List (Addr × Obj)) (s : Shared) (σ : L2.St) (H : Hp) (R : RK), Inv X pins σ H s → t R σ H → wpAny (model X.prog X.w) X.A (execs st X.env) (RP X pins R) X.xe s
section
variable {X : Cx} {st : Stmt} {rest a : List Stmt} {t : TS} {u ta : TR} {e c : Expr} {te : TE} {tc : TT} {pos : Pos}
theorem prs_cons (h1 : PS X st t) (h2 : PRs X rest u) : PRs X (st :: rest) (fun R σ H => t { nx := u R, rt := fun _ _ => False } σ H) := by
  refine ⟨fun pins s σ H R I h => ?_⟩
  refine wpAny_execs_cons (thn (h1.run pins s σ H { nx := u R, rt := fun _ _ => False } I h) fun f s1 q => ?_)
  cases f with
  | next =>
    obtain ⟨σ', H', I', q⟩ := q
    exact h2.run pins s1 σ' H' R I' q
  | ret v =>
    obtain ⟨_, _, _, _, _, q⟩ := q
    exact q.elim
  | brk =>
    obtain ⟨_, _, _, q⟩ := q
    exact q.elim
  | cont =>
    obtain ⟨_, _, _, q⟩ := q
    exact q.elim
theorem prs_ret (he : PE X e te) : PRs X [.Return (some e) pos] (fun R σ H => te σ H (R σ)) := by
  refine ⟨fun pins s σ H R I h => ?_⟩
  refine wpAny_execs_cons ?_
  refine wpAny_Return_some (thn (he.run pins s σ H _ I h) fun v s1 z => ?_)
  obtain ⟨x, H1, I1, r1, q1⟩ := z
  exact ⟨x, σ, H1, I1, r1, q1⟩
theorem prs_if (hc : PT X c tc) (ha : PRs X a ta) (h2 : PRs X rest u) : PRs X (.If c a [] pos :: rest) (fun R σ H => tc σ H fun b H1 => if b = true then ta R σ H1 else u R σ H1) := by
  refine ⟨fun pins s σ H R I h => ?_⟩
  refine wpAny_execs_cons (wpAny_If (thn (hc.run pins s σ H _ I h) fun d s1 z => ?_))
  obtain ⟨H1, I1, q1⟩ := z
  cases d with
  | true =>
    refine thn (ha.run pins s1 σ H1 R I1 q1) fun f s2 q => ?_
    match f, q with
    | .ret v, q => exact q
    | .next, q => exact False.elim q
    | .brk, q => exact False.elim q
    | .cont, q => exact False.elim q
  | false => exact wpAny_execs_nil (h2.run pins s1 σ H1 R I1 q1)
end
/-! ### the end -/
section
variable {CX : CXT} {P : Program} {w : World} {K : PySem.W.Frag} {mg : Str → Option Value} {base : Heap} {k : Nat} {f : Addr} {qual : Str} {scope : Scope} {N ps : List Str} {A : Around} {outer : List Env} {s s' : Shared} {H H' : Hp} {us : List Value} {vs : List V} {Q : VK} {E : XK} {cd : Value} {σ' : L2.St}
/-- where a cell of the frame stands -/
theorem cell_in {X : Cx} {pins : List (Addr × Obj)} {i : Nat} {x : Str} {b : Addr} (J : Inv X pins σ' H' s') (hN : X.N[i]? = some x) (hσ : σ'[i]? = some (some (.ref b))) (hk : X.env.scope.names.lookup x = some .cell) :
    ∃ c o, X.env.cells.lookup x = some c ∧ s'.heap.get? c = some o ∧ o.data = .cell (some (.ref b)) ∧ H' c = none := by
  obtain ⟨m, _, hl⟩ := J.loc
  obtain ⟨u, ru, lk⟩ := hl i x _ hN hσ (.inr (.inl hk))
  obtain rfl : u = Value.ref b := ru
  rcases lk with ⟨z, _⟩ | ⟨_, c, hc, o, ho, hd⟩
  · have z2 : X.env.scope.names.lookup x = some .local := z
    rw [hk] at z2
    cases z2
  · exact ⟨c, o, hc, ho, hd, J.freeC x c hc⟩
theorem pin_ret {i : Nat} {x : Str} {b : Addr} {v : V} {u : Value} (J : Inv (cxOf CX P w K mg base N qual scope f cd A outer s H E) [] σ' H' s') (hok : HOk P w H s.heap) (hN : N[i]? = some x) (hσ : σ'[i]? = some (some (.ref b))) (hk : scope.names.lookup x = some .cell) (rv : RelV v u) :
    ∃ c o, (cellsFrom (s.heap.objs.size + 1) scope.names []).lookup x = some c ∧ o.data = .cell (some (.ref b)) ∧ H' c = none ∧ H c = none ∧ base.get? c = none ∧ (Q v (upd H' c (CellO c o)) → CE outer P w H s Q u s') := by
  obtain ⟨c, o, hc, ho, hd, nc⟩ := cell_in J hN hσ hk
  have ge : s.heap.objs.size ≤ c := J.ok.cab x c rfl hc
  have fresh : s.heap.get? c = none := by
    cases e : s.heap.get? c with
    | none => rfl
    | some o => exact absurd (Nat.lt_of_lt_of_le (Heap.lt_size e) ge) (Nat.lt_irrefl _)
  have nH : H c = none := hok.fresh ge
  have nb : base.get? c = none := by
    cases e : base.get? c with
    | none => rfl
    | some y => exact absurd ((J.ok.bs c y e).1.symm.trans fresh) (by simp)
  exact ⟨c, o, hc, hd, nc, nH, nb, fun q => ⟨v, _, J.os, J.bare, un_new J.base fresh nH, hok_pin J.hok nc ho, rv, q⟩⟩
/-- a thin frame that ends by returns -/
theorem okPR {x : Str} {st : Stmt} {fd : FuncData} {sp : SpS} (F : Fun K x qual st f fd) (S : FnScope N ps (defScope st)) (len : ∀ outer s vs H Q E, sp outer s vs H Q E → vs.length = ps.length)
    (body : ∀ (A : Around) (outer : List Env) (s : Shared) (H : Hp) (vs : List V) (Q : VK) (E : XK), RT k (A.deeper (envOfC qual (defScope st) s.heap.objs.size f fd.code)) → Env0 P w K mg base A outer s H → sp outer s vs H Q E →
      ∃ t, PRs (cxOf CX P w K mg base N qual (defScope st) f fd.code A outer s H E) (defBody st) t ∧ t (fun σ' v H' => ∀ s' u, RelV v u → Inv (cxOf CX P w K mg base N qual (defScope st) f fd.code A outer s H E) [] σ' H' s' → CE outer P w H s Q u s') (start N vs) H) : FnT P w K mg base CX (k + 1) f fd ps sp := by
  obtain ⟨oc, od, kV, doc, pm, an, cdv, ct, osl, rfl, lk, hcd⟩ := F.ex
  refine ⟨len, fun A outer s H args us vs Q E hr e0 hb r hsp => ?_⟩
  have hl := len _ _ _ _ _ _ hsp
  have hK : K.In s.heap := e0.mod.kin.keeps fun d o e => (e0.bs d o e).1
  have noLim : s.heap.NoLimit := e0.mod.nolimit.keeps fun d o e => (e0.bs d o e).1
  have kinds : ∀ y ∈ ps.zip us, (defScope st).names.lookup y.1 = some .local ∨ ((defScope st).names.lookup y.1 = some .cell ∧ ((cellsFrom (s.heap.objs.size + 1) (defScope st).names []).lookup y.1).isSome = true) := by
    rintro ⟨y, v⟩ hy
    exact (S.par y (List.of_mem_zip hy).1).elim .inl fun q => .inr ⟨q, PySem.W.cellsFrom_some _ _ _ (.inl q)⟩
  refine codeAny_call_function hr.leaf.depth (hK _ _ lk) rfl S.co S.gen rfl (PySem.W.codeRec_of hK hcd) (hb _ _ _ _ (wpAny_newFunctionEnv_cells S.kind kinds ?_))
  rintro env rfl s1 x1
  refine ⟨noLim.keeps x1.toInCall.keep, codeAny_func ?_⟩
  obtain ⟨t, ht, hq⟩ := body A outer s H vs Q E (hr.deeper _) e0 hsp
  refine wpAny_mono (ht.run [] s1 (L2.start N vs) H _ (inv_start S hr.hd e0 hl r x1) hq) (fun fl s2 z => ?_) fun _ _ z => z
  match fl, z with
  | .ret u, ⟨_, _, _, J, rv, q⟩ => exact q s2 u rv J
  | .next, z => exact False.elim z
  | .brk, z => exact False.elim z
  | .cont, z => exact False.elim z
/-- an error that leaves the frame, the cell pinned -/
theorem takesP {i : Nat} {x : Str} (hok : HOk P w H s.heap) (hN : N[i]? = some x) (hk : scope.names.lookup x = some .cell) :
    Takes (cxOf (L2.CX P w) P w K mg base N qual scope f cd A outer s H E) (fun cls d σ H' => ∃ b, σ[i]? = some (some (.ref b)) ∧ ∀ c o, (cellsFrom (s.heap.objs.size + 1) scope.names []).lookup x = some c → o.data = .cell (some (.ref b)) → H' c = none → H c = none → base.get? c = none → E cls d (upd H' c (CellO c o))) := by
  intro u s' X
  show wpAny _ _ (leaving _ u) _ _ _
  have hs : (cxOf (L2.CX P w) P w K mg base N qual scope f cd A outer s H E).stack = (cxOf (L2.CX P w) P w K mg base N qual scope f cd A outer s H E).env :: (cxOf (L2.CX P w) P w K mg base N qual scope f cd A outer s H E).outer := rfl
  have hf : (cxOf (L2.CX P w) P w K mg base N qual scope f cd A outer s H E).env.frame = some (cxOf (L2.CX P w) P w K mg base N qual scope f cd A outer s H E).env.locals := rfl
  obtain ⟨a, B, sI, pins, σ, H1, cls, d, rfl, I, nb, up, sky, na, os, ag, b, hb, go⟩ := X
  obtain ⟨c, o, hc, ho, hd, nc⟩ := cell_in I hN hb hk
  have ge : s.heap.objs.size ≤ c := I.ok.cab x c rfl hc
  have fresh : s.heap.get? c = none := by
    cases e : s.heap.get? c with
    | none => rfl
    | some o => exact absurd (Nat.lt_of_lt_of_le (Heap.lt_size e) ge) (Nat.lt_irrefl _)
  have nH : H c = none := hok.fresh ge
  have nbb : base.get? c = none := by
    cases e : base.get? c with
    | none => rfl
    | some y => exact absurd ((I.ok.bs c y e).1.symm.trans fresh) (by simp)
  have q := go c o hc hd nc nH nbb
  have nst0 : c ∉ frs (cxOf (L2.CX P w) P w K mg base N qual scope f cd A outer s H E).stack := cells_out I rfl hc
  have hB : B.get? c = some o := nb c o ho nst0
  have hfr : (cxOf (L2.CX P w) P w K mg base N qual scope f cd A outer s H E).A.frames = some ((cxOf (L2.CX P w) P w K mg base N qual scope f cd A outer s H E).env :: outer) := by rw [I.ok.frames, hs]; rfl
  have nst : ∀ b o, s.heap.get? b = some o → b ∉ frs outer → b ∉ frs (cxOf (L2.CX P w) P w K mg base N qual scope f cd A outer s H E).stack := fun b o e hb hm => by
    rcases List.mem_cons.mp (I.stkSub b hm) with z | z
    · have h1 := Heap.lt_size e
      have h2 := I.ok.above
      rw [z] at h1
      exact absurd (Nat.lt_of_lt_of_le h1 h2) (Nat.lt_irrefl _)
    · exact hb z
  have hokB := I.inGround nb
  have fin : ∀ h', HandSPX.FlyingZ B outer a (Zc cls d) h' → s'.heap.UpToSlots h' → L2.CX P w outer H s E (.ref a) { s' with heap := h' } := fun h' fl up' => by
    have ac : a ≠ c := fun y => by
      have f := fl.2.1
      rw [y, hB] at f
      cases f
    refine ⟨a, B, upd H1 c (CellO c o), cls, d, rfl, fl, hok_pin hokB nc hB, ⟨fun b o e n hb => nb b o (I.base.keep b o e n hb (by simp [cxOf])) (nst b o e hb), fun b o e hb => ?_, fun b o e n => ?_, fun b o e hb => ?_, fun b xs e => ?_, fun b o y e => ?_, fun b ps e => ?_⟩, by rw [upd_ne ac]; exact na, os.trans I.os, ag, q⟩
    · obtain ⟨_, o₀, e₀, hnf⟩ := I.ok.funs.mem hb
      rw [show (cxOf (L2.CX P w) P w K mg base N qual scope f cd A outer s H E).s_0.heap.get? b = some o from e] at e₀
      cases e₀
      obtain ⟨sl, e1⟩ := I.base.slot b o e (I.ok.frf b hb) hb (by simp [cxOf])
      obtain ⟨sl2, e2⟩ := up b _ e1 hnf
      obtain ⟨sl3, e3⟩ := up' b _ e2 hnf
      exact ⟨sl3, e3⟩
    · rw [upd_ne (fun z => by rw [z, fresh] at e; cases e)]
      exact I.base.free b o e n (by simp [cxOf])
    · obtain ⟨o', e1⟩ := I.base.there b o e (by simp [cxOf])
      exact ⟨o', nb b o' e1 (nst b o e hb)⟩
    · rw [upd_ne (fun z => by rw [z, nH] at e; cases e)]
      exact I.base.tups b xs e
    · rw [upd_ne (fun z => by rw [z, nH] at e; cases e)]
      exact I.base.frzs b o y e
    · rw [upd_ne (fun z => by rw [z, nH] at e; cases e)]
      exact I.base.tbls b ps e
  rw [hs] at sky
  rcases sky with ⟨hB0, hn, hl, oe, vs0, he, hz, hd0, h1⟩ | fl | hd0
  · exact HandSPX.leaving_firstZ Zc.steady hfr hl hf he hB0 hn hd0 h1 hz fin
  · exact HandSPX.leaves_onZ Zc.steady hfr hf fl fin
  · exact HandSPX.leaves_heldZ hf hd0 fin
end
end Own

set_option Elab.async false
set_option linter.all false
set_option maxRecDepth 100000
set_option maxHeartbeats 4000000
/-! Several cells of frames that have ended: pinned at a return, dropped for the call. -/
namespace Own
open PySem PySem.Spec PyProof.Rows L2
section
variable {P : Program} {w : World} {K : PySem.W.Frag} {mg : Str → Option Value} {base : Heap} {H H' : Hp} {h h' B : Heap} {c : Addr} {b : Obj} {fs ex : List Addr} {A : Around} {outer : List Env} {s s' : Shared} {Q Q' : VK} {E E' : XK} {u : Value}
/-- a cell that is told is forgotten -/
theorem ce_drop (z : CE outer P w (unp H c) s Q u s') (e : H c = some (CellO c b)) : CE outer P w H s Q u s' := by
  obtain ⟨v, H', os, bare, un, ok, rv, q⟩ := z
  refine ⟨v, H', os, bare, ⟨fun d o x n => un.keep d o x (unp_none n), fun d o x n => un.slot d o x (unp_none n), fun d o x n => un.free d o x (unp_none n), un.there, fun d xs x => ?_, fun d o y x => ?_, fun d ps x => ?_⟩, ok, rv, q⟩
  · exact un.tups d xs (by rw [unp_ne (ne_cell e x cellO_tup)]; exact x)
  · exact un.frzs d o y (by rw [unp_ne (ne_cell e x cellO_frz)]; exact x)
  · exact un.tbls d ps (by rw [unp_ne (ne_cell e x (cellO_ne.2.2.2 _))]; exact x)
theorem cx_drop (z : L2.CX P w outer (unp H c) s E u s') (e : H c = some (CellO c b)) : L2.CX P w outer H s E u s' := by
  obtain ⟨a, B, H', cls, d, rfl, fl, ok, ub, na, os, ag, hE⟩ := z
  refine ⟨a, B, H', cls, d, rfl, fl, ok, ⟨fun d o x n => ub.keep d o x (unp_none n), ub.slot, fun d o x n => ub.free d o x (unp_none n), ub.there, fun d xs x => ?_, fun d o y x => ?_, fun d ps x => ?_⟩, na, os, ag, hE⟩
  · exact ub.tups d xs (by rw [unp_ne (ne_cell e x cellO_tup)]; exact x)
  · exact ub.frzs d o y (by rw [unp_ne (ne_cell e x cellO_frz)]; exact x)
  · exact ub.tbls d ps (by rw [unp_ne (ne_cell e x (cellO_ne.2.2.2 _))]; exact x)
/-- several -/
def unpL (H : Hp) : List (Addr × Obj) → Hp
  | [] => H
  | p :: l => unpL (unp H p.1) l
def Pins (H : Hp) (l : List (Addr × Obj)) : Prop := (l.map (·.1)).Nodup ∧ ∀ p ∈ l, H p.1 = some (CellO p.1 p.2)
theorem nd_ne {p : Addr × Obj} {l : List (Addr × Obj)} (nd : ((p :: l).map (·.1)).Nodup) : (l.map (·.1)).Nodup ∧ ∀ q ∈ l, q.1 ≠ p.1 := by
  have z := List.nodup_cons.mp nd
  exact ⟨z.2, fun q m e => z.1 (List.mem_map.mpr ⟨q, m, e⟩)⟩
theorem Pins.tail {p : Addr × Obj} {l : List (Addr × Obj)} (h : Pins H (p :: l)) : Pins (unp H p.1) l := by
  obtain ⟨nd, a⟩ := h
  obtain ⟨n1, n2⟩ := nd_ne nd
  exact ⟨n1, fun q m => by
    rw [unp_ne (n2 q m)]
    exact a q (List.mem_cons_of_mem _ m)⟩
theorem unpL_ne : ∀ {l : List (Addr × Obj)} {H : Hp} {a : Addr}, (∀ p ∈ l, a ≠ p.1) → unpL H l a = H a
  | [], _, _, _ => rfl
  | p :: l, H, a, h => by
    show unpL (unp H p.1) l a = _
    rw [unpL_ne fun q m => h q (List.mem_cons_of_mem _ m), unp_ne (h p (by simp))]
theorem unpL_none {l : List (Addr × Obj)} : ∀ {H : Hp} {a : Addr}, H a = none → unpL H l a = none := by
  induction l with
  | nil => exact fun h => h
  | cons p l ih =>
    intro H a h
    show unpL (unp H p.1) l a = none
    exact ih (unp_none h)
theorem unpL_in {p : Addr × Obj} {l : List (Addr × Obj)} : ∀ {H : Hp}, p ∈ l → unpL H l p.1 = none := by
  induction l with
  | nil => exact fun m => by cases m
  | cons q l ih =>
    intro H m
    rcases List.mem_cons.mp m with rfl | m
    · show unpL (unp H p.1) l p.1 = none
      exact unpL_none unp_same
    · exact ih m
theorem ce_dropL : ∀ {l : List (Addr × Obj)} {H : Hp}, Pins H l → CE outer P w (unpL H l) s Q u s' → CE outer P w H s Q u s'
  | [], _, _, z => z
  | p :: l, H, h, z => ce_drop (ce_dropL (l := l) h.tail z) (h.2 p (by simp))
theorem cx_dropL : ∀ {l : List (Addr × Obj)} {H : Hp}, Pins H l → L2.CX P w outer (unpL H l) s E u s' → L2.CX P w outer H s E u s'
  | [], _, _, z => z
  | p :: l, H, h, z => cx_drop (cx_dropL (l := l) h.tail z) (h.2 p (by simp))
theorem env0_unpL : ∀ {l : List (Addr × Obj)} {H : Hp}, Pins H l → Env0 P w K mg base A outer s H → Env0 P w K mg base A outer s (unpL H l)
  | [], _, _, z => z
  | p :: l, _, h, z => env0_unpL (l := l) h.tail (env0_unp z (h.2 p (by simp)))
/-- what may be called, its cells told in the heap till then -/
def spDrop (cs : List (Addr × Obj)) (ws : List (Option V)) (sp : SpC) : SpC := fun outer s _ vs H Q E => Pins H cs ∧ ∀ s' : Shared, (∀ p ∈ cs, s'.heap.get? p.1 = some p.2 ∧ p.1 ∉ frs outer) → sp outer s' ws vs (unpL H cs) Q E
theorem CbT.dropL {k : Nat} {f : Addr} {O : HO} {c1 P1 : Addr} {q : Str} {cl : List (Str × Addr)} {ps fr : List Str} {sp : SpC} (o : CbT P w K mg base (L2.CX P w) k f ⟨O, c1, q, cl, P1⟩ ps fr sp) {cs : List (Addr × Obj)} {ws : List (Option V)} (fc : ∀ p ∈ cs, f ≠ p.1 ∧ c1 ≠ p.1)
    (hc : ∀ s' : Shared, (∀ p ∈ cs, s'.heap.get? p.1 = some p.2) → ∀ H, (∀ p ∈ cs, H p.1 = none) → NdefX.CellsAt cl fr ws s'.heap H) :
    CbT P w K mg base (L2.CX P w) k f ⟨O, c1, q, [], P1⟩ ps [] (fun outer s _ vs H Q E => vs.length = ps.length ∧ spDrop cs ws sp outer s [] vs H Q E) := by
  refine ⟨o.fn, o.ni, fun outer s ws vs H Q E h => h.1, fun A outer s H us vs _ Q E hr e0 hf hcd _ r hsp => ?_⟩
  obtain ⟨_, pn, h2⟩ := hsp
  have at_ : ∀ p ∈ cs, s.heap.get? p.1 = some p.2 := fun p m => (e0.hok p.1 _ (pn.2 p m)).1
  have nf : ∀ p ∈ cs, p.1 ∉ frs outer := fun p m h => by
    have z := e0.frf p.1 h
    rw [pn.2 p m] at z
    cases z
  have C := hc s at_ (unpL H cs) fun p m => unpL_in m
  refine codeAny_mono (o.run A outer s (unpL H cs) us vs ws Q E hr (env0_unpL pn e0) (by rw [unpL_ne fun p m => (fc p m).1]; exact hf) (by show unpL H cs c1 = _; rw [unpL_ne fun p m => (fc p m).2]; exact hcd) C r (h2 s fun p m => ⟨at_ p m, nf p m⟩)) fun r s' z => ?_
  match r, z with
  | .error e, z => exact cx_dropL pn z
  | .ok (.ret u), z => exact ce_dropL pn z
  | .ok .next, z => exact False.elim z
  | .ok .brk, z => exact False.elim z
  | .ok .cont, z => exact False.elim z
end
section
variable {P : Program} {w : World} {K : PySem.W.Frag} {mg : Str → Option Value} {base : Heap}
/-- .. and one of them pinned again behind the call -/
def spDropP (cs : List (Addr × Obj)) (c : Addr) (ob : Obj) (ws : List (Option V)) (sp : SpC) : SpC := fun outer s _ vs H Q E => Pins H ((c, ob) :: cs) ∧ ∀ s' : Shared, (∀ p ∈ (c, ob) :: cs, s'.heap.get? p.1 = some p.2 ∧ p.1 ∉ frs outer) → sp outer s' ws vs (unpL (unp H c) cs) (fun v H' => H' c = none → Q v (upd H' c (CellO c ob))) (fun cls d H' => H' c = none → E cls d (upd H' c (CellO c ob)))
theorem CbT.dropP {k : Nat} {f : Addr} {O : HO} {c1 P1 : Addr} {q : Str} {cl : List (Str × Addr)} {ps fr : List Str} {sp : SpC} (o : CbT P w K mg base (L2.CX P w) k f ⟨O, c1, q, cl, P1⟩ ps fr sp) {cs : List (Addr × Obj)} {c : Addr} {ob : Obj} {ws : List (Option V)} (fc : ∀ p ∈ (c, ob) :: cs, f ≠ p.1 ∧ c1 ≠ p.1)
    (hc : ∀ s' : Shared, (∀ p ∈ (c, ob) :: cs, s'.heap.get? p.1 = some p.2) → ∀ H, (∀ p ∈ (c, ob) :: cs, H p.1 = none) → NdefX.CellsAt cl fr ws s'.heap H) :
    CbT P w K mg base (L2.CX P w) k f ⟨O, c1, q, [], P1⟩ ps [] (fun outer s _ vs H Q E => vs.length = ps.length ∧ spDropP cs c ob ws sp outer s [] vs H Q E) := by
  refine ⟨o.fn, o.ni, fun outer s ws vs H Q E h => h.1, fun A outer s H us vs _ Q E hr e0 hf hcd _ r hsp => ?_⟩
  obtain ⟨_, pn, h2⟩ := hsp
  have at_ : ∀ p ∈ (c, ob) :: cs, s.heap.get? p.1 = some p.2 := fun p m => (e0.hok p.1 _ (pn.2 p m)).1
  have nf : ∀ p ∈ (c, ob) :: cs, p.1 ∉ frs outer := fun p m h => by
    have z := e0.frf p.1 h
    rw [pn.2 p m] at z
    cases z
  have C := hc s at_ (unpL H ((c, ob) :: cs)) fun p m => unpL_in m
  have hcell := pn.2 (c, ob) (by simp)
  have hok := e0.hok
  refine codeAny_mono (o.run A outer s (unpL H ((c, ob) :: cs)) us vs ws _ _ hr (env0_unpL pn e0) (by rw [unpL_ne fun p m => (fc p m).1]; exact hf) (by show unpL H ((c, ob) :: cs) c1 = _; rw [unpL_ne fun p m => (fc p m).2]; exact hcd) C r (h2 s fun p m => ⟨at_ p m, nf p m⟩)) fun r s' z => ?_
  match r, z with
  | .error e, z => exact cx_pin (cx_dropL (l := cs) pn.tail z) hcell hok (nf (c, ob) (by simp)) fun _ _ _ n q => q n
  | .ok (.ret u), z => exact ce_pin (ce_dropL (l := cs) pn.tail z) hcell hok (nf (c, ob) (by simp)) fun _ _ n q => q n
  | .ok .next, z => exact False.elim z
  | .ok .brk, z => exact False.elim z
  | .ok .cont, z => exact False.elim z
end
/-- the rest, from what is known behind a statement -/
theorem prs_cut {X : Cx} {st : Stmt} {rest : List Stmt} {t : TS} {u : TR} (h1 : PS X st t) (h2 : PRs X rest u) : PRs X (st :: rest) (fun R σ H => ∃ C : L2.St → Hp → Prop, t { nx := C, rt := fun _ _ => False } σ H ∧ ∀ σ' H', C σ' H' → u R σ' H') := by
  refine ⟨fun pins s σ H R I h => ?_⟩
  obtain ⟨C, a, b⟩ := h
  refine wpAny_execs_cons (thn (h1.run pins s σ H { nx := C, rt := fun _ _ => False } I a) fun f s1 q => ?_)
  cases f with
  | next =>
    obtain ⟨σ', H', I', q⟩ := q
    exact h2.run pins s1 σ' H' R I' (b σ' H' q)
  | ret v =>
    obtain ⟨_, _, _, _, _, q⟩ := q
    exact q.elim
  | brk =>
    obtain ⟨_, _, _, q⟩ := q
    exact q.elim
  | cont =>
    obtain ⟨_, _, _, q⟩ := q
    exact q.elim
/-! ### pinned at the return -/
def pinL (H : Hp) : List (Addr × Obj) → Hp
  | [] => H
  | p :: l => pinL (upd H p.1 (CellO p.1 p.2)) l
theorem pinL_ne : ∀ {l : List (Addr × Obj)} {H : Hp} {a : Addr}, (∀ p ∈ l, a ≠ p.1) → pinL H l a = H a
  | [], _, _, _ => rfl
  | p :: l, H, a, h => by
    show pinL (upd H p.1 _) l a = _
    rw [pinL_ne fun q m => h q (List.mem_cons_of_mem _ m), upd_ne (h p (by simp))]
theorem pinL_in {p : Addr × Obj} {l : List (Addr × Obj)} : ∀ {H : Hp}, (l.map (·.1)).Nodup → p ∈ l → pinL H l p.1 = some (CellO p.1 p.2) := by
  induction l with
  | nil => exact fun _ m => by cases m
  | cons q l ih =>
    intro H nd m
    obtain ⟨n1, n2⟩ := nd_ne nd
    rcases List.mem_cons.mp m with rfl | m
    · show pinL (upd H p.1 _) l p.1 = _
      rw [pinL_ne fun q m e => n2 q m e.symm, upd_same]
    · exact ih n1 m
/-- one cell first -/
theorem pinL_one {c : Addr} {o : Obj} {l : List (Addr × Obj)} {H : Hp} (nd : (l.map (·.1)).Nodup) (m : (c, o) ∈ l) : ∃ l3 : List (Addr × Obj), pinL H l = pinL (upd H c (CellO c o)) l3 ∧ (((c, o) :: l3).map (·.1)).Nodup ∧ (∀ p, p ∈ l ↔ p ∈ (c, o) :: l3) := by
  have in_one : ∀ {p q : Addr × Obj}, p ∈ l → q ∈ l → p.1 = q.1 → p = q := by
    have h : ∀ {l : List (Addr × Obj)}, (l.map (·.1)).Nodup → ∀ {p q : Addr × Obj}, p ∈ l → q ∈ l → p.1 = q.1 → p = q := by
      intro l
      induction l with
      | nil => exact fun _ _ _ m => by cases m
      | cons a l ih =>
        intro nd p q mp mq e
        obtain ⟨n1, n2⟩ := nd_ne nd
        rcases List.mem_cons.mp mp with e1 | mp
        · rcases List.mem_cons.mp mq with e2 | mq
          · rw [e1, e2]
          · exact absurd (by rw [← e, e1]) (n2 q mq)
        · rcases List.mem_cons.mp mq with e2 | mq
          · exact absurd (by rw [e, e2]) (n2 p mp)
          · exact ih n1 mp mq e
    exact fun {p q} mp mq e => h nd mp mq e
  have nd3 : ((l.filter fun p => !decide (p.1 = c)).map (·.1)).Nodup := List.Nodup.sublist (List.Sublist.map _ (List.filter_sublist)) nd
  have nc : ∀ p ∈ l.filter fun p => !decide (p.1 = c), p.1 ≠ c := fun p mp => by
    have z := (List.mem_filter.mp mp).2
    simpa using z
  have iff : ∀ p, p ∈ l ↔ p ∈ (c, o) :: l.filter fun p => !decide (p.1 = c) := fun p => by
    constructor
    · intro mp
      by_cases e : p.1 = c
      · rw [in_one mp m e]
        exact List.mem_cons_self
      · exact List.mem_cons_of_mem _ (List.mem_filter.mpr ⟨mp, by simp [e]⟩)
    · intro mp
      rcases List.mem_cons.mp mp with rfl | mp
      · exact m
      · exact (List.mem_filter.mp mp).1
  refine ⟨_, ?_, ?_, iff⟩
  · funext a
    by_cases e : ∃ p ∈ l, a = p.1
    · obtain ⟨p, mp, rfl⟩ := e
      rw [pinL_in nd mp]
      rcases List.mem_cons.mp ((iff p).mp mp) with rfl | m3
      · rw [pinL_ne fun q mq e => nc q mq e.symm, upd_same]
      · rw [pinL_in nd3 m3]
    · have n1 : ∀ p ∈ l, a ≠ p.1 := fun p mp z => e ⟨p, mp, z⟩
      rw [pinL_ne n1, pinL_ne fun p mp => n1 p ((iff p).mpr (List.mem_cons_of_mem _ mp)), upd_ne (n1 _ m)]
  · rw [List.map_cons, List.nodup_cons]
    refine ⟨fun z => ?_, nd3⟩
    obtain ⟨p, mp, e⟩ := List.mem_map.mp z
    exact nc p mp e
theorem Pins.pinL {l : List (Addr × Obj)} {H : Hp} (nd : (l.map (·.1)).Nodup) : Pins (pinL H l) l := ⟨nd, fun _ m => pinL_in nd m⟩
theorem pinL_same {l : List (Addr × Obj)} : ∀ {H : Hp}, (l.map (·.1)).Nodup → (∀ p ∈ l, H p.1 = none) → Same H (pinL H l) := by
  induction l with
  | nil => exact fun _ _ => .refl _
  | cons p l ih =>
    intro H nd h
    obtain ⟨n1, n2⟩ := nd_ne nd
    refine (same_new (h p (by simp))).trans (ih n1 fun q m => ?_)
    rw [upd_ne (n2 q m)]
    exact h q (List.mem_cons_of_mem _ m)
section
variable {CX : CXT} {P : Program} {w : World} {K : PySem.W.Frag} {mg : Str → Option Value} {base : Heap} {f : Addr} {qual : Str} {scope : Scope} {N ps : List Str} {A : Around} {outer : List Env} {s s' : Shared} {H H' : Hp} {Q : VK} {E : XK} {cd : Value} {σ' : L2.St}
theorem pinL_ok {h0 h : Heap} {l : List (Addr × Obj)} : ∀ {H0 H' : Hp}, Un (frs outer) [] H0 H' h0 h → HOk P w H' h → (l.map (·.1)).Nodup → (∀ p ∈ l, H' p.1 = none ∧ h.get? p.1 = some p.2 ∧ h0.get? p.1 = none ∧ H0 p.1 = none) → Un (frs outer) [] H0 (pinL H' l) h0 h ∧ HOk P w (pinL H' l) h := by
  induction l with
  | nil => exact fun u o _ _ => ⟨u, o⟩
  | cons p l ih =>
    intro H0 H' u o nd a
    obtain ⟨n1, n2⟩ := nd_ne nd
    obtain ⟨a1, a2, a3, a4⟩ := a p (by simp)
    refine ih (un_new u a3 a4) (hok_pin o a1 a2) n1 fun q m => ?_
    obtain ⟨b1, b2, b3, b4⟩ := a q (List.mem_cons_of_mem _ m)
    refine ⟨?_, b2, b3, b4⟩
    rw [upd_ne (n2 q m)]
    exact b1
/-- any value in a cell of the frame -/
theorem cell_inV {X : Cx} {pins : List (Addr × Obj)} {i : Nat} {x : Str} {v : V} (J : Inv X pins σ' H' s') (hN : X.N[i]? = some x) (hσ : σ'[i]? = some (some v)) (hk : X.env.scope.names.lookup x = some .cell) :
    ∃ c o u, X.env.cells.lookup x = some c ∧ s'.heap.get? c = some o ∧ o.data = .cell (some u) ∧ RelV v u ∧ H' c = none := by
  obtain ⟨m, _, hl⟩ := J.loc
  obtain ⟨u, ru, lk⟩ := hl i x _ hN hσ (.inr (.inl hk))
  rcases lk with ⟨z, _⟩ | ⟨_, c, hc, o, ho, hd⟩
  · have z2 : X.env.scope.names.lookup x = some .local := z
    rw [hk] at z2
    cases z2
  · exact ⟨c, o, u, hc, ho, hd, ru, J.freeC x c hc⟩
/-- the cells that a closure holds, with what stands in them -/
theorem cells_cs {cl : List (Str × Addr)} {fr : List Str} {ws : List (Option V)} {h : Heap} {H : Hp} (C : NdefX.CellsAt cl fr ws h H) (nd : fr.Nodup) (hall : ∀ y c, cl.lookup y = some c → y ∈ fr) :
    ∃ cs : List (Addr × Obj), (cs.map (·.1)).Nodup ∧ (∀ p ∈ cs, H p.1 = none ∧ h.get? p.1 = some p.2 ∧ ∃ y, cl.lookup y = some p.1) ∧ (∀ y c, cl.lookup y = some c → ∃ p ∈ cs, p.1 = c) ∧
      ∀ (h2 : Heap) (H2 : Hp), (∀ p ∈ cs, h2.get? p.1 = some p.2) → (∀ p ∈ cs, H2 p.1 = none) → NdefX.CellsAt cl fr ws h2 H2 := by
  have ex : ∀ l : List Str, (∀ y ∈ l, y ∈ fr) → ∃ cs : List (Addr × Obj), Paired (fun (y : Str) (p : Addr × Obj) => cl.lookup y = some p.1 ∧ h.get? p.1 = some p.2) l cs := by
    intro l
    induction l with
    | nil => exact fun _ => ⟨[], .nil⟩
    | cons y l ih =>
      intro hl
      obtain ⟨cs, pr⟩ := ih fun z m => hl z (List.mem_cons_of_mem _ m)
      obtain ⟨i, hi⟩ := List.mem_iff_getElem?.mp (hl y (by simp))
      obtain ⟨c, hc, _⟩ := C.has i y hi
      obtain ⟨_, v, o, ho, hd⟩ := C.all y c hc
      exact ⟨(c, o) :: cs, .cons ⟨hc, ho⟩ pr⟩
  obtain ⟨cs, pr⟩ := ex fr fun _ m => m
  have back : ∀ {l : List Str} {cs : List (Addr × Obj)}, Paired (fun (y : Str) (p : Addr × Obj) => cl.lookup y = some p.1 ∧ h.get? p.1 = some p.2) l cs → ∀ p ∈ cs, ∃ y ∈ l, cl.lookup y = some p.1 ∧ h.get? p.1 = some p.2 := by
    intro l cs pr
    induction pr with
    | nil => exact fun _ m => by cases m
    | cons a _ ih =>
      intro p m
      rcases List.mem_cons.mp m with rfl | m
      · exact ⟨_, by simp, a⟩
      · obtain ⟨y, my, z⟩ := ih p m
        exact ⟨y, List.mem_cons_of_mem _ my, z⟩
  have forth : ∀ {l : List Str} {cs : List (Addr × Obj)}, Paired (fun (y : Str) (p : Addr × Obj) => cl.lookup y = some p.1 ∧ h.get? p.1 = some p.2) l cs → ∀ y ∈ l, ∃ p ∈ cs, cl.lookup y = some p.1 ∧ h.get? p.1 = some p.2 := by
    intro l cs pr
    induction pr with
    | nil => exact fun _ m => by cases m
    | cons a _ ih =>
      intro y m
      rcases List.mem_cons.mp m with rfl | m
      · exact ⟨_, by simp, a⟩
      · obtain ⟨p, mp, z⟩ := ih y m
        exact ⟨p, List.mem_cons_of_mem _ mp, z⟩
  have ndc : ∀ {l : List Str} {cs : List (Addr × Obj)}, l.Nodup → Paired (fun (y : Str) (p : Addr × Obj) => cl.lookup y = some p.1 ∧ h.get? p.1 = some p.2) l cs → (cs.map (·.1)).Nodup := by
    intro l cs nl pr
    induction pr with
    | nil => exact List.nodup_nil
    | cons a r ih =>
      have z := List.nodup_cons.mp nl
      refine List.nodup_cons.mpr ⟨fun m => ?_, ih z.2⟩
      obtain ⟨p, mp, e⟩ := List.mem_map.mp m
      obtain ⟨y, my, e1, _⟩ := back r p mp
      have e2 := C.inj _ _ _ a.1 (by rw [e1]; exact congrArg some e)
      exact z.1 (by rw [e2]; exact my)
  refine ⟨cs, ndc nd pr, fun p m => ?_, fun y c hc => ?_, fun h2 H2 a1 a2 => ⟨C.len, fun y c hc => ?_, C.inj, fun i y hi => ?_⟩⟩
  · obtain ⟨y, _, e1, e2⟩ := back pr p m
    exact ⟨(C.all y _ e1).1, e2, y, e1⟩
  · obtain ⟨p, mp, e1, e2⟩ := forth pr y (hall y c hc)
    exact ⟨p, mp, Option.some.inj (e1.symm.trans hc)⟩
  · obtain ⟨p, mp, e1, e2⟩ := forth pr y (hall y c hc)
    obtain rfl : c = p.1 := Option.some.inj (hc.symm.trans e1)
    obtain ⟨_, v, o, ho, hd⟩ := C.all y _ hc
    obtain rfl : o = p.2 := Option.some.inj (ho.symm.trans e2)
    exact ⟨a2 p mp, v, p.2, a1 p mp, hd⟩
  · obtain ⟨c, hc, g⟩ := C.has i y hi
    refine ⟨c, hc, fun v hv => ?_⟩
    obtain ⟨u, ru, o, ho, hd⟩ := g v hv
    obtain ⟨p, mp, e1, e2⟩ := forth pr y (hall y c hc)
    obtain rfl : c = p.1 := Option.some.inj (hc.symm.trans e1)
    obtain rfl : o = p.2 := Option.some.inj (ho.symm.trans e2)
    exact ⟨u, ru, p.2, a1 p mp, hd⟩
/-- the free names of a lambda are those that are listed -/
theorem clo_all {cells : List (Str × Addr)} {names : List (Str × NameKind)} {fr : List Str} (h : names.all (fun y => !decide (y.2 = .free) || fr.contains y.1) = true) : ∀ y c, (cloFrom cells names []).lookup y = some c → y ∈ fr := fun y c e => by
  rcases cloFrom_mem (PySem.mem_of_lookup e) with m | ⟨m, _⟩
  · cases m
  · have z := List.all_eq_true.mp h _ m
    simpa using z
/-- a lambda of this frame is returned: its cells are told from then on -/
theorem ret_pins {e : Expr} {js : List Nat} {fr : List Str} (J : Inv (cxOf CX P w K mg base N qual scope f cd A outer s H E) [] σ' H' s') (hok : HOk P w H s.heap) (hf : NdefX.ndefB scope (lamSc e) fr = true) (hj : js.map (fun j => N[j]?) = fr.map some) (nd : fr.Nodup) (ha : (lamSc e).names.all (fun y => !decide (y.2 = .free) || fr.contains y.1) = true) :
    ∃ cs : List (Addr × Obj), (cs.map (·.1)).Nodup ∧ (∀ p ∈ cs, H' p.1 = none ∧ base.get? p.1 = none ∧ s'.heap.get? p.1 = some p.2) ∧ (∀ y a, (cloFrom (cellsFrom (s.heap.objs.size + 1) scope.names []) (lamSc e).names []).lookup y = some a → ∃ p ∈ cs, p.1 = a) ∧
      (∀ (h2 : Heap) (H2 : Hp), (∀ p ∈ cs, h2.get? p.1 = some p.2) → (∀ p ∈ cs, H2 p.1 = none) → NdefX.CellsAt (cloFrom (cellsFrom (s.heap.objs.size + 1) scope.names []) (lamSc e).names []) fr (js.map (NdefX.slotAt σ')) h2 H2) ∧
      ∀ v u, RelV v u → Q v (pinL H' cs) → CE outer P w H s Q u s' := by
  have C := lam_caps (X := cxOf CX P w K mg base N qual scope f cd A outer s H E) J hf hj
  obtain ⟨cs, n1, n2, n4, n3⟩ := cells_cs C nd (clo_all ha)
  have fresh : ∀ p ∈ cs, s.heap.get? p.1 = none ∧ H p.1 = none ∧ base.get? p.1 = none := fun p m => by
    obtain ⟨_, _, y, hy⟩ := n2 p m
    have hy2 := lam_sub (X := cxOf CX P w K mg base N qual scope f cd A outer s H E) (js := js) J hf hj hy
    have ge : s.heap.objs.size ≤ p.1 := J.ok.cab y p.1 rfl hy2
    have fr : s.heap.get? p.1 = none := by
      cases e : s.heap.get? p.1 with
      | none => rfl
      | some o => exact absurd (Nat.lt_of_lt_of_le (Heap.lt_size e) ge) (Nat.lt_irrefl _)
    refine ⟨fr, hok.fresh ge, ?_⟩
    cases e : base.get? p.1 with
    | none => rfl
    | some y => exact absurd ((J.ok.bs p.1 y e).1.symm.trans fr) (by simp)
  refine ⟨cs, n1, fun p m => ⟨(n2 p m).1, (fresh p m).2.2, (n2 p m).2.1⟩, n4, n3, fun v u rv q => ?_⟩
  obtain ⟨un, ok⟩ := pinL_ok (l := cs) J.base J.hok n1 fun p m => ⟨(n2 p m).1, (n2 p m).2.1, (fresh p m).1, (fresh p m).2.1⟩
  exact ⟨v, _, J.os, J.bare, un, ok, rv, q⟩
end
end Own

set_option Elab.async false
set_option linter.all false
set_option maxRecDepth 100000
set_option maxHeartbeats 4000000
/-! Tables of sets with removed places, of any size up to 512. -/
namespace Own
open PySem PySem.Spec PyProof.Rows L2
/-! ### all places are met -/
def Msk (m : Nat) : Prop := m = 7 ∨ m = 15 ∨ m = 31 ∨ m = 63 ∨ m = 127 ∨ m = 255 ∨ m = 511
/-- the places of n steps of the round, as the bits of a number -/
def orb (m : Nat) : Nat → Nat → Nat → Nat
  | 0, _, c => c
  | n + 1, x, c => orb m n ((x * 5 + 1) % (m + 1)) (c ||| 1 <<< x)
theorem lcg_front (m i : Nat) : ∀ k, lcgI m ((i * 5 + 1) % (m + 1)) k = lcgI m i (k + 1)
  | 0 => rfl
  | k + 1 => by
    show (lcgI m ((i * 5 + 1) % (m + 1)) k * 5 + 1) % (m + 1) = (lcgI m i (k + 1) * 5 + 1) % (m + 1)
    rw [lcg_front m i k]
theorem lcg_more (m i a : Nat) : ∀ k, lcgI m (lcgI m i a) k = lcgI m i (a + k)
  | 0 => rfl
  | k + 1 => by
    show (lcgI m (lcgI m i a) k * 5 + 1) % (m + 1) = (lcgI m i (a + k) * 5 + 1) % (m + 1)
    rw [lcg_more m i a k]
theorem orb_met (m : Nat) : ∀ (n x c j : Nat), (orb m n x c).testBit j = true → c.testBit j = true ∨ ∃ k, k < n ∧ lcgI m x k = j
  | 0, _, _, _, h => .inl h
  | n + 1, x, c, j, h => by
    rcases orb_met m n _ _ j h with h | ⟨k, hk, e⟩
    · rw [Nat.testBit_or, Bool.or_eq_true] at h
      rcases h with h | h
      · exact .inl h
      · rw [Nat.testBit_shiftLeft] at h
        simp only [Bool.and_eq_true, decide_eq_true_eq] at h
        refine .inr ⟨0, by omega, ?_⟩
        have e : j - x = 0 := by
          have z := h.2
          rcases Nat.eq_zero_or_pos (j - x) with e | e
          · exact e
          · obtain ⟨y, ey⟩ : ∃ y, j - x = y + 1 := ⟨j - x - 1, by omega⟩
            rw [ey, Nat.testBit_succ] at z
            simp at z
        show x = j
        omega
    · refine .inr ⟨k + 1, by omega, ?_⟩
      rw [← lcg_front]
      exact e
theorem orb_all {m : Nat} (h : Msk m) : orb m (m + 1) 0 0 = 2 ^ (m + 1) - 1 := by
  rcases h with rfl | rfl | rfl | rfl | rfl | rfl | rfl <;> decide +kernel
theorem lcg_back {m : Nat} (h : Msk m) : lcgI m 0 (m + 1) = 0 := by
  rcases h with rfl | rfl | rfl | rfl | rfl | rfl | rfl <;> decide +kernel
theorem Msk.met0 {m : Nat} (h : Msk m) {j : Nat} (hj : j ≤ m) : ∃ k, k ≤ m ∧ lcgI m 0 k = j := by
  have z : (orb m (m + 1) 0 0).testBit j = true := by
    rw [orb_all h, Nat.testBit_two_pow_sub_one]
    exact decide_eq_true (by omega)
  rcases orb_met m _ _ _ _ z with z | ⟨k, hk, e⟩
  · simp at z
  · exact ⟨k, by omega, e⟩
theorem Msk.met {m : Nat} (h : Msk m) {i j : Nat} (hi : i ≤ m) (hj : j ≤ m) : ∃ k, k ≤ m ∧ lcgI m i k = j := by
  obtain ⟨a, ha, rfl⟩ := h.met0 hi
  obtain ⟨b, hb, rfl⟩ := h.met0 hj
  by_cases c : a ≤ b
  · exact ⟨b - a, by omega, by rw [lcg_more, Nat.add_sub_of_le c]⟩
  · refine ⟨m + 1 - a + b, by omega, ?_⟩
    rw [lcg_more, show a + (m + 1 - a + b) = (m + 1) + b from by omega, ← lcg_more, lcg_back h]
theorem Msk.runs {m : Nat} (h : Msk m) (x : Int) {j : Nat} (hj : j ≤ m) : ∃ n, n ≤ m + 12 ∧ runI m (SetTable.bits x) n = j := by
  obtain ⟨k, hk, e⟩ := h.met (runI_le m (SetTable.bits x) 12) hj
  exact ⟨12 + k, by omega, (runI_tail (bits_lt x) k).trans e⟩
theorem Msk.ways {m : Nat} (h : Msk m) (x : Int) {j : Nat} (hj : j ≤ m) : ∃ k, k < 10 * SetTable.turns m ∧ way m x k = j := by
  obtain ⟨n, hn, e⟩ := h.runs x hj
  obtain ⟨k, hk, e2⟩ := run_nth m (SetTable.bits x) n
  refine ⟨k, by unfold SetTable.turns; omega, ?_⟩
  show (nth m _ k).j = j
  rw [e2]
  exact e
theorem way_in (m : Nat) (x : Int) (k : Nat) : way m x k ≤ m := by
  have hi : SetTable.bits x % (m + 1) ≤ m := Nat.le_of_lt_succ (Nat.mod_lt _ (Nat.succ_pos _))
  have q := nth_in (m := m) k (runAt m (SetTable.bits x % (m + 1)) (SetTable.bits x)) (by
    have r := runEnd_bd hi
    show SetTable.bits x % (m + 1) + (SetTable.runEnd m (SetTable.bits x % (m + 1)) - SetTable.bits x % (m + 1)) ≤ m
    omega)
  exact Nat.le_trans (Nat.le_add_right _ _) q
theorem Msk.le {m : Nat} (h : Msk m) : m ≤ 511 := by
  rcases h with rfl | rfl | rfl | rfl | rfl | rfl | rfl <;> decide
theorem Msk.ge {m : Nat} (h : Msk m) : 7 ≤ m := by
  rcases h with rfl | rfl | rfl | rfl | rfl | rfl | rfl <;> decide
theorem Msk.odd {m : Nat} (h : Msk m) : m % 2 = 1 := by
  rcases h with rfl | rfl | rfl | rfl | rfl | rfl | rfl <;> decide
def sizesOk : Bool := (List.range 512).all fun n => [7, 15, 31, 63, 127, 255, 511].contains (SetTable.sizeAbove n - 1) && decide (n ≤ SetTable.sizeAbove n - 1)
theorem sizes_ok : sizesOk = true := by decide +kernel
theorem sizeAbove_mk {n : Nat} (h : n < 512) : Msk (SetTable.sizeAbove n - 1) ∧ n ≤ SetTable.sizeAbove n - 1 := by
  have z := List.all_eq_true.mp sizes_ok n (List.mem_range.mpr h)
  rw [Bool.and_eq_true, decide_eq_true_eq] at z
  refine ⟨?_, z.2⟩
  have y := z.1
  simp only [List.contains_iff_mem, List.mem_cons, List.not_mem_nil, or_false] at y
  exact y
/-! ### lists of places -/
theorem has_of {xs : Array Nat} (r : Ris xs.toList) {j : Nat} : SetTable.has xs j = true ↔ j ∈ xs.toList := by
  obtain ⟨c1, c2, c3⟩ := below_cut r j
  unfold SetTable.has
  rw [beq_iff_eq, ← Array.getElem?_toList]
  constructor
  · exact fun e => List.mem_of_getElem? e
  · intro m
    obtain ⟨i, e⟩ := List.mem_iff_getElem?.mp m
    have h1 : ¬ i < SetTable.below xs j := fun z => absurd (c2 i j e z) (Nat.lt_irrefl _)
    have h2 : ¬ SetTable.below xs j < i := fun z => by
      have lt := (List.getElem?_eq_some_iff.mp e).1
      have e2 : xs.toList[SetTable.below xs j]? = some _ := List.getElem?_eq_getElem (Nat.lt_trans z lt)
      have a1 := c3 _ _ e2 (Nat.le_refl _)
      have a2 := ris_lt r e2 e z
      omega
    rw [show SetTable.below xs j = i from by omega]
    exact e
theorem erase_list {α : Type} (xs : Array α) (p : Nat) : (SetTable.eraseAt xs p).toList = xs.toList.eraseIdx p := by
  unfold SetTable.eraseAt
  rw [List.eraseIdx_eq_take_drop_succ]
  simp [List.take_of_length_le]
theorem ris_erase {xs : Array Nat} (r : Ris xs.toList) (p : Nat) : Ris (SetTable.eraseAt xs p).toList := by
  rw [erase_list]
  exact List.Pairwise.sublist (List.eraseIdx_sublist _ _) r
theorem mem_eraseIdx_of {α : Type} {l : List α} {p : Nat} {x y : α} (e : l[p]? = some y) (m : x ∈ l) (ne : x ≠ y) : x ∈ l.eraseIdx p := by
  obtain ⟨i, ei⟩ := List.mem_iff_getElem?.mp m
  rw [List.eraseIdx_eq_take_drop_succ, List.mem_append]
  by_cases c : i < p
  · refine .inl (List.mem_iff_getElem?.mpr ⟨i, ?_⟩)
    rw [List.getElem?_take, if_pos c, ei]
  · have c2 : i ≠ p := fun z => by
      rw [z, e] at ei
      exact ne (Option.some.inj ei).symm
    refine .inr (List.mem_iff_getElem?.mpr ⟨i - (p + 1), ?_⟩)
    rw [List.getElem?_drop, show p + 1 + (i - (p + 1)) = i from by omega, ei]
theorem rises_not {l : List Nat} (r : Ris l) {p y : Nat} (e : l[p]? = some y) : y ∉ l.eraseIdx p := by
  intro m
  rw [List.eraseIdx_eq_take_drop_succ, List.mem_append] at m
  rcases m with m | m
  · obtain ⟨i, ei⟩ := List.mem_iff_getElem?.mp m
    rw [List.getElem?_take] at ei
    split at ei
    · next c => exact absurd (ris_lt r ei e c) (Nat.lt_irrefl _)
    · cases ei
  · obtain ⟨i, ei⟩ := List.mem_iff_getElem?.mp m
    rw [List.getElem?_drop] at ei
    exact absurd (ris_lt r e ei (by omega)) (Nat.lt_irrefl _)
theorem insert_mem {xs : Array Nat} {j x : Nat} : x ∈ (SetTable.insertAt xs (SetTable.below xs j) j).toList ↔ x = j ∨ x ∈ xs.toList := by
  rw [SetTable.toList_insertAt]
  exact mem_ins
/-! ### the table -/
/-- a place that is not free -/
def Occ (t : SetTable) (j : Nat) : Prop := j ∈ t.place.toList ∨ j ∈ t.dummies.toList
structure TabD (t : SetTable) (hs : List Int) : Prop where
  ris : Ris t.place.toList
  rid : Ris t.dummies.toList
  dis : ∀ j ∈ t.dummies.toList, j ∉ t.place.toList
  sz : t.place.toList.length = hs.length
  mok : Msk t.mask
  bd : ∀ j, Occ t j → j ≤ t.mask
  reach : ∀ (i : Nat) (x : Int) (j : Nat), hs[i]? = some x → t.place.toList[i]? = some j → ∃ k, way t.mask x k = j ∧ ∀ k', k' < k → Occ t (way t.mask x k')
section
variable {t : SetTable} {hs : List Int}
theorem slot_dummy (T : TabD t hs) {j : Nat} (m : j ∈ t.dummies.toList) : t.slot j = .dummy := by
  unfold SetTable.slot
  have e : (t.place[SetTable.below t.place j]? == some j) = false := beq_eq_false_iff_ne.mpr fun z => T.dis j m (List.mem_of_getElem? (by rw [Array.getElem?_toList]; exact z))
  simp only [e, (has_of T.rid).mpr m]
  rfl
theorem slot_free (T : TabD t hs) {j : Nat} (m : ¬ Occ t j) : t.slot j = .empty := by
  unfold SetTable.slot
  have e : (t.place[SetTable.below t.place j]? == some j) = false := beq_eq_false_iff_ne.mpr fun z => m (.inl (List.mem_of_getElem? (by rw [Array.getElem?_toList]; exact z)))
  have e2 : SetTable.has t.dummies j = false := by
    cases c : SetTable.has t.dummies j with
    | false => rfl
    | true => exact absurd (.inr ((has_of T.rid).mp c)) m
  simp only [e, e2]
  rfl
theorem TabD.first (T : TabD t hs) (hl : t.fill ≤ t.mask) (x : Int) : ∃ K, K < 10 * SetTable.turns t.mask ∧ ¬ Occ t (way t.mask x K) ∧ ∀ k, k < K → Occ t (way t.mask x k) := by
  obtain ⟨j, hj, hn⟩ := st_missing (t.place.toList ++ t.dummies.toList) (t.mask + 1) (by
    rw [List.length_append, Array.length_toList, Array.length_toList]
    exact Nat.lt_succ_of_le hl)
  obtain ⟨k, hk, e⟩ := T.mok.ways x (Nat.le_of_lt_succ hj)
  obtain ⟨K, h1, h2, h3⟩ := st_least (p := fun k => ¬ Occ t (way t.mask x k)) k (by
    show ¬ Occ t (way t.mask x k)
    rw [e]
    exact fun z => hn (List.mem_append.mpr z))
  exact ⟨K, Nat.lt_of_le_of_lt h1 hk, h2, fun k' hk' => Classical.not_not.mp (h3 k' hk')⟩
theorem TabD.before (T : TabD t hs) {x : Int} {K i j : Nat} (hK : ¬ Occ t (way t.mask x K)) (hi : hs[i]? = some x) (hj : t.place.toList[i]? = some j) : ∃ k, k < K ∧ way t.mask x k = j := by
  obtain ⟨k, e, hb⟩ := T.reach i x j hi hj
  refine ⟨k, ?_, e⟩
  rcases Nat.lt_trichotomy k K with c | c | c
  · exact c
  · rw [← c, e] at hK
    exact absurd (.inl (List.mem_of_getElem? hj)) hK
  · exact absurd (hb K c) hK
/-- the n-th stand of a search for a hash -/
abbrev stand (t : SetTable) (x : Int) (n : Nat) : SetTable.Probe := nth t.mask (runAt t.mask (SetTable.bits x % (t.mask + 1)) (SetTable.bits x)) n
/-- .. with the removed place that it has met -/
abbrev standD (t : SetTable) (x : Int) (n : Nat) (d : Option Nat) : SetTable.Probe := { stand t x n with dummy := d }
/-- what is remembered is a removed place met before -/
def GoodD (t : SetTable) (x : Int) (n : Nat) (d : Option Nat) : Prop := ∀ j, d = some j → j ∈ t.dummies.toList ∧ ∃ r, r < n ∧ way t.mask x r = j
theorem GoodD.up {x : Int} {n n' : Nat} {d : Option Nat} (g : GoodD t x n d) (h : n ≤ n') : GoodD t x n' d := fun j e => by
  obtain ⟨g1, r, g2, g3⟩ := g j e
  exact ⟨g1, r, by omega, g3⟩
theorem stand_dm (t : SetTable) (x : Int) (n : Nat) : (stand t x n).dummy = none := by
  have go : ∀ (n : Nat) (p : SetTable.Probe), p.dummy = none → (nth t.mask p n).dummy = none := by
    intro n
    induction n with
    | zero => exact fun _ e => e
    | succ n ih => exact fun p e => ih _ (by unfold adv; split <;> exact e)
  exact go n _ rfl
theorem standD_none (t : SetTable) (x : Int) (n : Nat) : standD t x n none = stand t x n := by
  have e := stand_dm t x n
  show { stand t x n with dummy := none } = stand t x n
  generalize stand t x n = p at e
  cases p
  cases e
  rfl
theorem adv_standD (t : SetTable) (x : Int) (n : Nat) (d : Option Nat) : t.advance (standD t x n d) = standD t x (n + 1) d := by
  show adv t.mask (standD t x n d) = { nth t.mask _ (n + 1) with dummy := d }
  rw [nth_succ]
  show adv t.mask { stand t x n with dummy := d } = { adv t.mask (stand t x n) with dummy := d }
  unfold adv
  dsimp only
  split <;> rfl
/-- what a search answers from its n-th stand on: a place with this hash, or the first free place behind -/
theorem go_at (T : TabD t hs) (hashAt : Nat → Int) (x : Int) {Z : Nat} (zb : ∀ q, q < Z → Occ t (way t.mask x q)) (z0 : ¬ Occ t (way t.mask x Z)) : ∀ (f n : Nat) (d : Option Nat), n ≤ Z → Z < n + f → GoodD t x n d →
    (∃ q i d', n ≤ q ∧ q < Z ∧ t.place.toList[i]? = some (way t.mask x q) ∧ hashAt i = x ∧ (∀ k' i', n ≤ k' → k' < q → t.place.toList[i']? = some (way t.mask x k') → hashAt i' ≠ x) ∧ GoodD t x (q + 1) d' ∧
      SetTable.probe.go t hashAt x f (standD t x n d) = some (.candidate (way t.mask x q) i (standD t x (q + 1) d'))) ∨
    ((∀ k' i', n ≤ k' → k' < Z → t.place.toList[i']? = some (way t.mask x k') → hashAt i' ≠ x) ∧ ∃ d', GoodD t x Z d' ∧ SetTable.probe.go t hashAt x f (standD t x n d) = some (.empty (way t.mask x Z) d')) := by
  intro f
  induction f with
  | zero => exact fun n d h1 h2 _ => absurd h1 (by omega)
  | succ f ih =>
    intro n d h1 h2 g
    have skip : (∀ i', t.place.toList[i']? = some (way t.mask x n) → hashAt i' ≠ x) → ∀ d2, n < Z → GoodD t x (n + 1) d2 → SetTable.probe.go t hashAt x (f + 1) (standD t x n d) = SetTable.probe.go t hashAt x f (standD t x (n + 1) d2) →
        (∃ q i d', n ≤ q ∧ q < Z ∧ t.place.toList[i]? = some (way t.mask x q) ∧ hashAt i = x ∧ (∀ k' i', n ≤ k' → k' < q → t.place.toList[i']? = some (way t.mask x k') → hashAt i' ≠ x) ∧ GoodD t x (q + 1) d' ∧
          SetTable.probe.go t hashAt x (f + 1) (standD t x n d) = some (.candidate (way t.mask x q) i (standD t x (q + 1) d'))) ∨
        ((∀ k' i', n ≤ k' → k' < Z → t.place.toList[i']? = some (way t.mask x k') → hashAt i' ≠ x) ∧ ∃ d', GoodD t x Z d' ∧ SetTable.probe.go t hashAt x (f + 1) (standD t x n d) = some (.empty (way t.mask x Z) d')) := by
      intro one d2 lt g2 e
      rw [e]
      rcases ih (n + 1) d2 lt (by omega) g2 with ⟨q, i, d', a1, a2, a3, a4, a5, a6⟩ | ⟨a1, a2⟩
      · refine .inl ⟨q, i, d', by omega, a2, a3, a4, fun k' i' b1 b2 b3 => ?_, a6⟩
        by_cases c : k' = n
        · subst c
          exact one i' b3
        · exact a5 k' i' (by omega) b2 b3
      · refine .inr ⟨fun k' i' b1 b2 b3 => ?_, a2⟩
        by_cases c : k' = n
        · subst c
          exact one i' b3
        · exact a1 k' i' (by omega) b2 b3
    by_cases ez : n = Z
    · subst ez
      refine .inr ⟨fun k' i' a b => absurd a (by omega), d, g, ?_⟩
      have e : t.slot (way t.mask x n) = .empty := slot_free T z0
      unfold SetTable.probe.go
      show (match t.slot (way t.mask x n) with
        | .empty => _
        | .dummy => _
        | .live i => _) = _
      rw [e]
    · have lt : n < Z := by omega
      by_cases mp : way t.mask x n ∈ t.place.toList
      · obtain ⟨i, ei⟩ := List.mem_iff_getElem?.mp mp
        have e := slot_live T.ris ei
        by_cases hh : hashAt i = x
        · refine .inl ⟨n, i, d, Nat.le_refl _, lt, ei, hh, fun k' i' a b => absurd a (by omega), g.up (Nat.le_succ n), ?_⟩
          unfold SetTable.probe.go
          show (match t.slot (way t.mask x n) with
            | .empty => _
            | .dummy => _
            | .live i => _) = _
          rw [e]
          show (if (hashAt i == x) = true then some (SetTable.Met.candidate (way t.mask x n) i (t.advance (standD t x n d))) else _) = _
          rw [if_pos (by rw [hh]; exact beq_self_eq_true x), adv_standD]
        · refine skip (fun i' e' => ?_) d lt (g.up (Nat.le_succ n)) ?_
          · have e2 := slot_live T.ris e'
            rw [e] at e2
            injection e2 with e2
            rw [← e2]
            exact hh
          · conv => lhs; unfold SetTable.probe.go
            show (match t.slot (way t.mask x n) with
              | .empty => _
              | .dummy => _
              | .live i => _) = _
            rw [e]
            show (if (hashAt i == x) = true then _ else SetTable.probe.go t hashAt x f (t.advance (standD t x n d))) = _
            rw [if_neg (by rw [beq_iff_eq]; exact hh), adv_standD]
      · have md : way t.mask x n ∈ t.dummies.toList := (zb n lt).resolve_left mp
        refine skip (fun i' e' => absurd (List.mem_of_getElem? e') mp) (some (way t.mask x n)) lt (fun j e => ?_) ?_
        · cases e
          exact ⟨md, n, Nat.lt_succ_self n, rfl⟩
        · conv => lhs; unfold SetTable.probe.go
          show (match t.slot (way t.mask x n) with
            | .empty => _
            | .dummy => _
            | .live i => _) = _
          rw [slot_dummy T md]
          show SetTable.probe.go t hashAt x f (t.advance (standD t x n (some (way t.mask x n)))) = _
          rw [adv_standD]
/-- one more, at a free or a removed place of its way -/
theorem TabD.put (T : TabD t hs) {x : Int} {K : Nat} (nk : way t.mask x K ∉ t.place.toList) (hb : ∀ k, k < K → Occ t (way t.mask x k)) :
    (t.put (way t.mask x K)).2 = SetTable.below t.place (way t.mask x K) ∧ SetTable.below t.place (way t.mask x K) ≤ hs.length ∧
    TabD (t.put (way t.mask x K)).1 (hs.take (SetTable.below t.place (way t.mask x K)) ++ x :: hs.drop (SetTable.below t.place (way t.mask x K))) ∧
    (t.put (way t.mask x K)).1.mask = t.mask ∧ (t.put (way t.mask x K)).1.led = t.led ∧ (t.put (way t.mask x K)).1.fill = t.fill + (if way t.mask x K ∈ t.dummies.toList then 0 else 1) := by
  have hjm : way t.mask x K ≤ t.mask := way_in _ _ _
  obtain ⟨j, hj⟩ : ∃ j, j = way t.mask x K := ⟨_, rfl⟩
  rw [← hj] at nk hjm ⊢
  obtain ⟨c1, _, _⟩ := below_cut T.ris j
  have pl : SetTable.below t.place j ≤ t.place.toList.length := by rw [Array.length_toList]; exact c1
  have ph : SetTable.below t.place j ≤ hs.length := by rw [← T.sz]; exact pl
  have np : t.place[SetTable.below t.place j]? ≠ some j := fun e => nk (List.mem_of_getElem? (by rw [Array.getElem?_toList]; exact e))
  obtain ⟨ds, eds⟩ : ∃ ds, ds = (if SetTable.has t.dummies j then SetTable.eraseAt t.dummies (SetTable.below t.dummies j) else t.dummies) := ⟨_, rfl⟩
  have ep : (t.put j).1 = { t with place := SetTable.insertAt t.place (SetTable.below t.place j) j, dummies := ds } := by rw [eds]; rfl
  have dm : (∀ y, y ∈ ds.toList ↔ y ∈ t.dummies.toList ∧ y ≠ j) ∧ Ris ds.toList ∧ ds.size + (if j ∈ t.dummies.toList then 1 else 0) = t.dummies.size := by
    by_cases hd : j ∈ t.dummies.toList
    · rw [if_pos hd]
      have hd2 := (has_of T.rid).mpr hd
      rw [if_pos hd2] at eds
      subst eds
      have at_ : t.dummies.toList[SetTable.below t.dummies j]? = some j := by
        unfold SetTable.has at hd2
        rw [beq_iff_eq, ← Array.getElem?_toList] at hd2
        exact hd2
      refine ⟨fun y => ?_, ris_erase T.rid _, ?_⟩
      · rw [erase_list]
        constructor
        · exact fun m => ⟨List.mem_of_mem_eraseIdx m, fun z => rises_not T.rid at_ (z ▸ m)⟩
        · exact fun m => mem_eraseIdx_of at_ m.1 m.2
      · have z := List.length_eraseIdx_of_lt (List.getElem?_eq_some_iff.mp at_).1
        have lt := (List.getElem?_eq_some_iff.mp at_).1
        rw [← erase_list, Array.length_toList, Array.length_toList] at z
        rw [Array.length_toList] at lt
        omega
    · rw [if_neg hd]
      rw [if_neg (fun z => hd ((has_of T.rid).mp z))] at eds
      subst eds
      exact ⟨fun y => ⟨fun m => ⟨m, fun z => hd (z ▸ m)⟩, fun m => m.1⟩, T.rid, rfl⟩
  obtain ⟨dm1, dm2, dm3⟩ := dm
  have pm : ∀ y, y ∈ (t.put j).1.place.toList ↔ y = j ∨ y ∈ t.place.toList := fun y => by rw [ep]; exact insert_mem
  have up : ∀ {y : Nat}, Occ t y → Occ (t.put j).1 y := fun {y} o => by
    by_cases e : y = j
    · exact .inl ((pm y).mpr (.inl e))
    · rcases o with o | o
      · exact .inl ((pm y).mpr (.inr o))
      · refine .inr ?_
        rw [ep]
        exact (dm1 y).mpr ⟨o, e⟩
  have es : (t.put j).1.place.toList = t.place.toList.take (SetTable.below t.place j) ++ j :: t.place.toList.drop (SetTable.below t.place j) := SetTable.toList_insertAt _ _ _
  refine ⟨rfl, ph, ⟨ris_insert T.ris np, ?_, fun y my mp => ?_, ?_, T.mok, fun y o => ?_, fun i h' j' h1 h2 => ?_⟩, rfl, rfl, ?_⟩
  · rw [ep]
    exact dm2
  · rw [ep] at my
    obtain ⟨m1, m2⟩ := (dm1 y).mp my
    rcases (pm y).mp mp with e | e
    · exact m2 e
    · exact T.dis y m1 e
  · rw [es, len_ins _ pl, len_ins _ ph, T.sz]
  · rcases o with o | o
    · rcases (pm y).mp o with e | e
      · rw [e]
        exact hjm
      · exact T.bd y (.inl e)
    · rw [ep] at o
      exact T.bd y (.inr ((dm1 y).mp o).1)
  · rw [tins_get hs ph] at h1
    rw [es, tins_get _ pl] at h2
    show ∃ k, way t.mask h' k = j' ∧ ∀ k', k' < k → Occ (t.put j).1 (way t.mask h' k')
    by_cases c : i < SetTable.below t.place j
    · rw [if_pos c] at h1 h2
      obtain ⟨k, e, z⟩ := T.reach i h' j' h1 h2
      exact ⟨k, e, fun k' hk' => up (z k' hk')⟩
    · rw [if_neg c] at h1 h2
      by_cases d : i = SetTable.below t.place j
      · rw [if_pos d] at h1 h2
        cases h1
        cases h2
        exact ⟨K, hj.symm, fun k' hk' => up (hb k' hk')⟩
      · rw [if_neg d] at h1 h2
        obtain ⟨k, e, z⟩ := T.reach (i - 1) h' j' h1 h2
        exact ⟨k, e, fun k' hk' => up (z k' hk')⟩
  · have e1 : (t.put j).1.place.size = t.place.size + 1 := by rw [← Array.length_toList, es, len_ins _ pl, Array.length_toList]
    show (t.put j).1.place.size + (t.put j).1.dummies.size = t.place.size + t.dummies.size + _
    rw [e1, show (t.put j).1.dummies = ds from by rw [ep]]
    split at dm3 <;> rename_i c <;> simp only [c, if_true, if_false] <;> omega
/-- one is taken away: its place stays, marked -/
theorem TabD.drop (T : TabD t hs) {i : Nat} (hi : i < hs.length) : TabD (t.drop i) (hs.eraseIdx i) ∧ (t.drop i).mask = t.mask ∧ (t.drop i).led = t.led ∧ (t.drop i).fill = t.fill := by
  have il : i < t.place.toList.length := by rw [T.sz]; exact hi
  obtain ⟨j, ej⟩ : ∃ j, t.place.toList[i]? = some j := ⟨_, List.getElem?_eq_getElem il⟩
  have ej2 : t.place[i]? = some j := by rw [← Array.getElem?_toList]; exact ej
  have ed : t.drop i = { t with place := SetTable.eraseAt t.place i, dummies := SetTable.insertAt t.dummies (SetTable.below t.dummies j) j } := by
    unfold SetTable.drop
    rw [ej2]
  rw [ed]
  have mj : j ∈ t.place.toList := List.mem_of_getElem? ej
  have nd : j ∉ t.dummies.toList := fun z => T.dis j z mj
  have np : t.dummies[SetTable.below t.dummies j]? ≠ some j := fun e => nd (List.mem_of_getElem? (by rw [Array.getElem?_toList]; exact e))
  have occ : ∀ y, Occ t y ↔ Occ { t with place := SetTable.eraseAt t.place i, dummies := SetTable.insertAt t.dummies (SetTable.below t.dummies j) j } y := fun y => by
    constructor
    · intro o
      by_cases e : y = j
      · exact .inr (insert_mem.mpr (.inl e))
      · rcases o with o | o
        · refine .inl ?_
          show y ∈ (SetTable.eraseAt t.place i).toList
          rw [erase_list]
          exact mem_eraseIdx_of ej o e
        · exact .inr (insert_mem.mpr (.inr o))
    · intro o
      rcases o with o | o
      · have z : y ∈ (SetTable.eraseAt t.place i).toList := o
        rw [erase_list] at z
        exact .inl (List.mem_of_mem_eraseIdx z)
      · rcases insert_mem.mp o with e | e
        · exact .inl (e ▸ mj)
        · exact .inr e
  have key : ∀ {α : Type} (l : List α) (q : Nat), (l.eraseIdx i)[q]? = if q < i then l[q]? else l[q + 1]? := fun l q => by rw [List.getElem?_eraseIdx]
  refine ⟨⟨ris_erase T.ris i, ris_insert T.rid np, fun y my mp => ?_, ?_, T.mok, fun y o => T.bd y ((occ y).mpr o), fun q x y h1 h2 => ?_⟩, rfl, rfl, ?_⟩
  · have mp : y ∈ (SetTable.eraseAt t.place i).toList := mp
    rw [erase_list] at mp
    rcases insert_mem.mp my with e | e
    · exact rises_not T.ris ej (e ▸ mp)
    · exact T.dis y e (List.mem_of_mem_eraseIdx mp)
  · show (SetTable.eraseAt t.place i).toList.length = _
    rw [erase_list, List.length_eraseIdx_of_lt il, List.length_eraseIdx_of_lt hi, T.sz]
  · have h2 : (SetTable.eraseAt t.place i).toList[q]? = some y := h2
    rw [erase_list, key] at h2
    rw [key] at h1
    by_cases c : q < i
    · rw [if_pos c] at h1 h2
      obtain ⟨k, e, z⟩ := T.reach q x y h1 h2
      exact ⟨k, e, fun k' hk' => (occ _).mp (z k' hk')⟩
    · rw [if_neg c] at h1 h2
      obtain ⟨k, e, z⟩ := T.reach (q + 1) x y h1 h2
      exact ⟨k, e, fun k' hk' => (occ _).mp (z k' hk')⟩
  · show (SetTable.eraseAt t.place i).size + (SetTable.insertAt t.dummies (SetTable.below t.dummies j) j).size = t.place.size + t.dummies.size
    have e1 : (SetTable.eraseAt t.place i).size + 1 = t.place.size := by
      have z := List.length_eraseIdx_of_lt il
      rw [← erase_list, Array.length_toList, Array.length_toList] at z
      rw [Array.length_toList] at il
      omega
    have e2 : (SetTable.insertAt t.dummies (SetTable.below t.dummies j) j).size = t.dummies.size + 1 := by
      obtain ⟨c1, _, _⟩ := below_cut T.rid j
      rw [← Array.length_toList, SetTable.toList_insertAt, len_ins _ (by rw [Array.length_toList]; exact c1), Array.length_toList]
    omega
theorem TabD.empty {m f mv : Nat} {l p : Bool} (h : Msk m) : TabD { mask := m, place := #[], dummies := #[], finger := f, led := l, moves := mv, plain := p } [] :=
  ⟨List.Pairwise.nil, List.Pairwise.nil, fun j m => (by cases m), rfl, h, fun j o => (by rcases o with o | o <;> cases o), fun i x j e => (by simp at e)⟩
theorem TabD.same (T : TabD t hs) {t2 : SetTable} (e1 : t2.mask = t.mask) (e2 : t2.place = t.place) (e3 : t2.dummies = t.dummies) : TabD t2 hs := by
  obtain ⟨a, b, c, d, e, f, l⟩ := t
  obtain ⟨a2, b2, c2, d2, e4, f2, l2⟩ := t2
  cases e1
  cases e2
  cases e3
  exact ⟨T.ris, T.rid, T.dis, T.sz, T.mok, T.bd, T.reach⟩
end
/-! ### all laid anew -/
/-- after these have been laid: the k-th stands at the k-th of ps -/
structure Lays (m : Nat) (done : List Int) (owner : Array (Option Nat)) (ps : List Nat) : Prop where
  sz : owner.size = m + 1
  len : ps.length = done.length
  bd : ∀ j ∈ ps, j ≤ m
  at_ : ∀ (k j : Nat), ps[k]? = some j → oAt owner j = some k
  un : ∀ j, j ≤ m → j ∉ ps → oAt owner j = none
  way_ : ∀ (k : Nat) (x : Int) (j : Nat), done[k]? = some x → ps[k]? = some j → ∃ K, way m x K = j ∧ ∀ k', k' < K → way m x k' ∈ ps
theorem Lays.nodup {m : Nat} {done : List Int} {owner : Array (Option Nat)} {ps : List Nat} (W : Lays m done owner ps) : ps.Nodup := by
  refine List.pairwise_iff_getElem.mpr fun i k hi hk lt e => ?_
  have a1 := W.at_ i _ (List.getElem?_eq_getElem hi)
  have a2 := W.at_ k _ (List.getElem?_eq_getElem hk)
  rw [e, a2] at a1
  have := Option.some.inj a1
  omega
theorem Lays.step {m : Nat} (hm : Msk m) {done : List Int} {owner : Array (Option Nat)} {ps : List Nat} (W : Lays m done owner ps) (hl : done.length ≤ m) (x : Int) :
    ∃ j, SetTable.layClean.free m owner (SetTable.turns m) (SetTable.bits x % (m + 1)) (SetTable.bits x) = some j ∧ Lays m (done ++ [x]) (owner.setIfInBounds j (some done.length)) (ps ++ [j]) := by
  obtain ⟨j0, h0, n0⟩ := st_missing ps (m + 1) (by rw [W.len]; omega)
  have e0 := W.un j0 (Nat.le_of_lt_succ h0) n0
  obtain ⟨n, hn, en⟩ := hm.runs x (Nat.le_of_lt_succ h0)
  have wn : way m x (off m (SetTable.bits x % (m + 1)) (SetTable.bits x) n) = j0 := by
    show (nth m (runAt m (SetTable.bits x % (m + 1)) (SetTable.bits x)) (off m (SetTable.bits x % (m + 1)) (SetTable.bits x) n)).j = j0
    rw [nth_off, itL_run]
    exact en
  obtain ⟨K, k1, k2, k3⟩ := st_least (p := fun k => oAt owner (way m x k) = none) _ (by rw [wn]; exact e0)
  have hfree := free_spec m owner (SetTable.turns m) n _ (SetTable.bits x) K (by unfold SetTable.turns; omega) k1 (fun k hk => by
    cases z : oAt owner (way m x k) with
    | none => exact absurd z (k3 k hk)
    | some y => rfl) (by rw [show oAt owner (nth m (runAt m (SetTable.bits x % (m + 1)) (SetTable.bits x)) K).j = none from k2]; rfl)
  have jm := way_in m x K
  have js : way m x K < owner.size := by rw [W.sz]; omega
  have jn : way m x K ∉ ps := fun z => by
    obtain ⟨k, ek⟩ := List.mem_iff_getElem?.mp z
    have a := W.at_ k _ ek
    rw [show oAt owner (way m x K) = none from k2] at a
    cases a
  refine ⟨_, hfree, ?_, ?_, ?_, ?_, ?_, ?_⟩
  · rw [Array.size_setIfInBounds]
    exact W.sz
  · rw [List.length_append, List.length_append, W.len]
    rfl
  · intro j mj
    rcases List.mem_append.mp mj with z | z
    · exact W.bd j z
    · rw [List.mem_singleton.mp z]
      exact jm
  · intro k j e
    by_cases c : k < ps.length
    · rw [List.getElem?_append_left c] at e
      have ne : j ≠ way m x K := fun z => jn (z ▸ List.mem_of_getElem? e)
      rw [oAt_set_ne _ ne]
      exact W.at_ k j e
    · rw [List.getElem?_append_right (by omega)] at e
      have c2 := (List.getElem?_eq_some_iff.mp e).1
      have c3 : k = ps.length := by
        simp only [List.length_singleton] at c2
        omega
      subst c3
      rw [Nat.sub_self] at e
      cases e
      rw [W.len]
      exact oAt_set_self _ js
  · intro j hj nj
    rw [List.mem_append, not_or] at nj
    have ne : j ≠ way m x K := fun z => nj.2 (List.mem_singleton.mpr z)
    rw [oAt_set_ne _ ne]
    exact W.un j hj nj.1
  · intro k y j e1 e2
    by_cases c : k < ps.length
    · rw [List.getElem?_append_left c] at e2
      rw [List.getElem?_append_left (by rw [← W.len]; exact c)] at e1
      obtain ⟨Q, q1, q2⟩ := W.way_ k y j e1 e2
      exact ⟨Q, q1, fun k' hk' => List.mem_append_left _ (q2 k' hk')⟩
    · rw [List.getElem?_append_right (by omega)] at e2
      have c2 := (List.getElem?_eq_some_iff.mp e2).1
      have c3 : k = ps.length := by
        simp only [List.length_singleton] at c2
        omega
      subst c3
      rw [Nat.sub_self] at e2
      cases e2
      rw [W.len, List.getElem?_append_right (Nat.le_refl _), Nat.sub_self] at e1
      cases e1
      refine ⟨K, rfl, fun k' hk' => List.mem_append_left _ ?_⟩
      by_cases z : way m x k' ∈ ps
      · exact z
      · exact absurd (W.un _ (way_in m x k') z) (k3 k' hk')
theorem Lays.fold {m : Nat} (hm : Msk m) : ∀ (rest done : List Int) (owner : Array (Option Nat)) (ps : List Nat), Lays m done owner ps → done.length + rest.length ≤ m →
    ∃ owner' ps', rest.foldl (stepF m) (some (owner, done.length)) = some (owner', (done ++ rest).length) ∧ Lays m (done ++ rest) owner' ps' := by
  intro rest
  induction rest with
  | nil => exact fun done owner ps W _ => ⟨owner, ps, by rw [List.append_nil]; rfl, by rw [List.append_nil]; exact W⟩
  | cons x rest ih =>
    intro done owner ps W hl
    rw [List.length_cons] at hl
    obtain ⟨j, e, W2⟩ := W.step hm (by omega) x
    have len : (done ++ [x]).length = done.length + 1 := by rw [List.length_append]; rfl
    obtain ⟨o', ps', f, W3⟩ := ih (done ++ [x]) _ _ W2 (by rw [len]; omega)
    rw [List.append_assoc] at f W3
    rw [len] at f
    exact ⟨o', ps', by rw [List.foldl_cons, stepF_some e]; exact f, W3⟩
/-- the new table -/
def newTab (m f mv : Nat) (l p : Bool) (owner : Array (Option Nat)) : SetTable := { mask := m, place := ((liveOf m owner).map (·.1)).toArray, dummies := #[], finger := f, led := l, moves := mv, plain := p }
theorem laid_ok {m : Nat} (hm : Msk m) (f mv : Nat) (l p : Bool) {hs : Array Int} (hn : hs.size ≤ m) :
    ∃ t order, SetTable.laid m f mv l p hs = some (t, order) ∧ order.toList.Perm (List.range hs.size) ∧ TabD t (order.toList.map fun i => hs.getD i 0) ∧ t.mask = m ∧ t.led = l ∧ t.plain = p ∧ t.dummies = #[] := by
  have ini : Lays m [] (Array.replicate (m + 1) none) [] := ⟨by simp, rfl, by simp, by simp, fun j hj _ => oAt_init hj, by simp⟩
  obtain ⟨owner, ps, e, W⟩ := Lays.fold hm hs.toList [] _ _ ini (by rw [Array.length_toList]; show 0 + hs.size ≤ m; omega)
  rw [List.nil_append] at e W
  have el : SetTable.layClean m hs = some owner := by
    rw [layClean_eq]
    have e2 : hs.toList.foldl (stepF m) (some (Array.replicate (m + 1) none, 0)) = some (owner, hs.toList.length) := e
    rw [e2]
    rfl
  have er : SetTable.laid m f mv l p hs = some (newTab m f mv l p owner, ((liveOf m owner).map (·.2)).toArray) := by
    show (SetTable.layClean m hs).bind _ = _
    rw [el]
    rfl
  have ris := ris_live (fun j => owner.getD j none) (List.range (m + 1)) (by unfold Ris; exact List.pairwise_lt_range)
  have r1 : Ris ((liveOf m owner).map (·.1)) := ris.1
  have mem : ∀ j k, (j, k) ∈ liveOf m owner ↔ ps[k]? = some j := fun j k => by
    rw [mem_live W.sz]
    constructor
    · rintro ⟨hj, e⟩
      by_cases mj : j ∈ ps
      · obtain ⟨q, eq⟩ := List.mem_iff_getElem?.mp mj
        have a := W.at_ q j eq
        rw [e] at a
        rw [Option.some.inj a]
        exact eq
      · rw [W.un j hj mj] at e
        cases e
    · exact fun e => ⟨W.bd j (List.mem_of_getElem? e), W.at_ k j e⟩
  have pl : ∀ j, j ∈ (liveOf m owner).map (·.1) ↔ j ∈ ps := fun j => by
    constructor
    · intro z
      obtain ⟨⟨a, b⟩, h, rfl⟩ := List.mem_map.mp z
      exact List.mem_of_getElem? ((mem a b).mp h)
    · intro z
      obtain ⟨k, ek⟩ := List.mem_iff_getElem?.mp z
      exact List.mem_map.mpr ⟨(j, k), (mem j k).mpr ek, rfl⟩
  have pp : ((liveOf m owner).map (·.1)).Perm ps := (List.perm_ext_iff_of_nodup (List.Pairwise.imp (fun h => Nat.ne_of_lt h) r1) W.nodup).mpr pl
  have len : (liveOf m owner).length = hs.size := by
    have z := pp.length_eq
    rw [List.length_map, W.len, Array.length_toList] at z
    exact z
  refine ⟨_, _, er, ?_, ⟨r1, List.Pairwise.nil, fun j m => (by cases m), ?_, hm, fun j o => ?_, fun i x j h1 h2 => ?_⟩, rfl, rfl, rfl, rfl⟩
  · refine perm_range hs.size _ (by show ((liveOf m owner).map (·.2)).length = hs.size; rw [List.length_map, len]) fun k hk => ?_
    obtain ⟨j, ej⟩ : ∃ j, ps[k]? = some j := ⟨_, List.getElem?_eq_getElem (by rw [W.len, Array.length_toList]; exact hk)⟩
    exact List.mem_map.mpr ⟨(j, k), (mem j k).mpr ej, rfl⟩
  · show ((liveOf m owner).map (·.1)).length = (((liveOf m owner).map (·.2)).map _).length
    simp
  · rcases o with o | o
    · exact W.bd j ((pl j).mp o)
    · cases o
  · have h1' : (((liveOf m owner).map (·.2)).map fun i => hs.getD i 0)[i]? = some x := h1
    have h2' : ((liveOf m owner).map (·.1))[i]? = some j := h2
    rw [List.getElem?_map, List.getElem?_map] at h1'
    rw [List.getElem?_map] at h2'
    cases hq : (liveOf m owner)[i]? with
    | none =>
      rw [hq] at h2'
      cases h2'
    | some q =>
      obtain ⟨y, k⟩ := q
      rw [hq] at h1' h2'
      have ej : y = j := Option.some.inj h2'
      have ex : hs.getD k 0 = x := Option.some.inj h1'
      subst ej
      have ek := (mem y k).mp (List.mem_of_getElem? hq)
      have kl : k < hs.size := by
        have z := (List.getElem?_eq_some_iff.mp ek).1
        rw [W.len, Array.length_toList] at z
        exact z
      obtain ⟨K, a1, a2⟩ := W.way_ k x y (by
        rw [Array.getElem?_toList, Array.getElem?_eq_getElem kl, ← ex, Array.getD_eq_getD_getElem?, Array.getElem?_eq_getElem kl]
        rfl) ek
      exact ⟨K, a1, fun k' hk' => .inl ((pl _).mpr (a2 k' hk'))⟩
end Own

set_option Elab.async false
set_option linter.all false
set_option maxRecDepth 100000
set_option maxHeartbeats 4000000
/-! Sets of tuples that hold ints and texts. -/
namespace Own
open PySem PySem.Spec PyProof.Rows L2
/-- the tuple at b holds these ints and texts -/
abbrev Tk (P : Program) (w : World) (h : Heap) (k : List Key) (b : Addr) : Prop := IsTupleKey (mixKind P w) h k b
abbrev hsT (P : Program) (w : World) (k : List Key) : Int := tupleKeyHash (mixKind P w) k
/-- what a set of them holds -/
abbrev SD3 : Type := Array (Int × Value) × Nat × SetTable
section
variable {P : Program} {w : World} {A : Around} {E : Value → Shared → Prop} {s : Shared} {h h' : Heap} {a b c : Addr} {k k' : List Key} {D D' : SD3} {L L' : List (List Key × Addr)}
theorem keys_shape {k : List Key} {vs : List Value} (m : ItemsAre (mixKind P w) k vs) : ∀ v ∈ vs, (∃ i t, v = Value.int i t) ∨ ∃ x t, v = Value.str x t := by
  induction m with
  | nil => exact fun _ m => by cases m
  | cons h1 _ ih =>
    intro v hv
    rcases List.mem_cons.mp hv with rfl | hv
    · rcases keyIs_shape h1 with ⟨i, t, _, e⟩ | ⟨x, t, _, e⟩
      · exact .inl ⟨i, t, e⟩
      · exact .inr ⟨x, t, e⟩
    · exact ih v hv
theorem noClass_key (n : Nat) {v : Value} (h : (∃ i t, v = Value.int i t) ∨ ∃ x t, v = Value.str x t) : ofAClassStatement n v = pure false := by
  rcases h with ⟨i, t, rfl⟩ | ⟨x, t, rfl⟩ <;> cases n <;> rfl
theorem byVal_key (n : Nat) {v : Value} (h : (∃ i t, v = Value.int i t) ∨ ∃ x t, v = Value.str x t) : ∃ r, hashByValue n v = pure r := by
  rcases h with ⟨i, t, rfl⟩ | ⟨x, t, rfl⟩
  · exact ⟨true, by cases n <;> rfl⟩
  · exact ⟨false, by cases n <;> rfl⟩
/-- such a tuple is of no class statement -/
theorem noClass_tk {Q : Bool → Shared → Prop} (m : Tk P w s.heap k b) (q : Q false s) : wpAny (model P w) A (ofAClassStatement 8 (.ref b)) Q E s := by
  have ty := m.typeIs
  obtain ⟨o, its, n, ho, _, od, im⟩ := m
  unfold ofAClassStatement
  refine wpAny_bind (wpAny_typeOf ty ?_)
  simp only [show (("tuple" : String) == "tuple") = true from by decide, if_true]
  refine wpAny_bind (wpAny_pure ?_)
  refine wp_if_neg (by simp) ?_
  refine wpAny_bind (wpAny_seqItems ho od ?_)
  refine wpAny_bind ?_
  rw [← Array.forIn_toList]
  refine wpAny_forIn_list _ (fun l r s2 => s2 = s ∧ r.1 = none ∧ ∀ v ∈ l, (∃ i t, v = Value.int i t) ∨ ∃ x t, v = Value.str x t) _ (fun v l r s2 J => ?_) (fun r s2 J => ?_) _ _ ⟨rfl, rfl, keys_shape im⟩
  · obtain ⟨rfl, r1, all⟩ := J
    rw [noClass_key _ (all v (by simp))]
    refine wpAny_bind (wpAny_pure (wp_if_neg (by simp) ?_))
    exact wpAny_pure ⟨rfl, rfl, fun u m => all u (List.mem_cons_of_mem _ m)⟩
  · obtain ⟨rfl, r1, _⟩ := J
    obtain ⟨r, r2⟩ := r
    obtain rfl : r = none := r1
    exact wpAny_pure q
/-- whether its hash is by value: one or the other -/
theorem byVal_tk {Q : Bool → Shared → Prop} (m : Tk P w s.heap k b) (q : ∀ r, Q r s) : wpAny (model P w) A (hashByValue 8 (.ref b)) Q E s := by
  have ty := m.typeIs
  obtain ⟨o, its, n, ho, _, od, im⟩ := m
  unfold hashByValue
  refine wpAny_bind (wpAny_specialOf ty F.slot_tuple_hash.lookup ?_)
  refine wpAny_bind (wpAny_seqItems ho od ?_)
  refine wpAny_bind ?_
  show wpAny _ _ (forIn its _ _) _ _ s
  rw [← Array.forIn_toList]
  refine wpAny_forIn_list _ (fun l r s2 => s2 = s ∧ r.1 = none ∧ ∀ v ∈ l, (∃ i t, v = Value.int i t) ∨ ∃ x t, v = Value.str x t) _ (fun v l r s2 J => ?_) (fun r s2 J => ?_) _ _ ⟨rfl, rfl, keys_shape im⟩
  · obtain ⟨rfl, r1, all⟩ := J
    obtain ⟨y, ey⟩ := byVal_key 7 (all v (by simp))
    rw [ey]
    refine wpAny_bind (wpAny_pure ?_)
    cases y with
    | true =>
      refine wp_if_neg (by simp) ?_
      exact wpAny_pure ⟨rfl, rfl, fun u m => all u (List.mem_cons_of_mem _ m)⟩
    | false =>
      refine wp_if_pos (by simp) ?_
      exact wpAny_pure (wpAny_pure (q false))
  · obtain ⟨rfl, r1, _⟩ := J
    obtain ⟨r, r2⟩ := r
    obtain rfl : r = none := r1
    exact wpAny_pure (q true)
/-- nobody sees a search among them -/
theorem unseen_tk {Q : Bool → Shared → Prop} (m : Tk P w s.heap k b) {ys : List Value} (all : ∀ y ∈ ys, ∃ k' c, y = Value.ref c ∧ Tk P w s.heap k' c) (q : Q false s) : wpAny (model P w) A (searchCouldBeSeen (.ref b) ys) Q E s := by
  unfold searchCouldBeSeen
  refine wpAny_bind ?_
  refine wpAny_forIn_list _ (fun l r s2 => s2 = s ∧ r.1 = none ∧ ∀ y ∈ l, ∃ k' c, y = Value.ref c ∧ Tk P w s.heap k' c) _ (fun v l r s2 J => ?_) (fun r s2 J => ?_) _ _ ⟨rfl, rfl, all⟩
  · obtain ⟨rfl, r1, al⟩ := J
    obtain ⟨k2, c, rfl, mc⟩ := al v (by simp)
    have go : ∀ y ∈ l, ∃ k' c, y = Value.ref c ∧ Tk P w s2.heap k' c := fun y my => al y (List.mem_cons_of_mem _ my)
    by_cases e : (b == c || (carriedByValue (.ref b) && carriedByValue (.ref c))) = true
    · exact wp_if_pos e (wpAny_pure ⟨rfl, rfl, go⟩)
    · refine wp_if_neg e ?_
      refine wpAny_bind (wpAny_eqIsQuiet_tuple m (wp_if_neg (by simp) ?_))
      refine wpAny_bind (wpAny_eqIsQuiet_tuple mc (wp_if_neg (by simp) ?_))
      refine wpAny_bind (noClass_tk m (wp_if_neg (by simp) ?_))
      refine wpAny_bind (noClass_tk mc (wp_if_neg (by simp) ?_))
      exact wpAny_pure ⟨rfl, rfl, go⟩
  · obtain ⟨rfl, r1, _⟩ := J
    obtain ⟨r, r2⟩ := r
    obtain rfl : r = none := r1
    exact wpAny_pure q
/-- the set at a: what its rows are, what they stand for -/
def ent (P : Program) (w : World) (p : List Key × Addr) : Int × Value := (hsT P w p.1, Value.ref p.2)
structure PSet (P : Program) (w : World) (h : Heap) (a : Addr) (L : List (List Key × Addr)) (D : SD3) : Prop where
  own : ∃ o, h.get? a = some o ∧ o.ExactSet ∧ o.data = .set D.1 D.2.1 D.2.2
  rows : D.1.toList = L.map (ent P w)
  good : TabD D.2.2 (L.map fun p => hsT P w p.1)
  dist : (L.map (·.1)).Nodup
  here : ∀ p ∈ L, Tk P w h p.1 p.2
  vis : w.params.followText "set-order" = true ∨ D.2.2.led = true
  spare : D.2.2.fill * 5 < D.2.2.mask * 3
theorem PSet.count (S : PSet P w h a L D) : D.1.size = L.length := by rw [← Array.length_toList, S.rows, List.length_map]
theorem PSet.places (S : PSet P w h a L D) : D.2.2.place.toList.length = L.length := by
  have e := S.good.sz
  rw [List.length_map] at e
  exact e
theorem PSet.fill_ge (S : PSet P w h a L D) : L.length ≤ D.2.2.fill := by
  have e := S.places
  rw [Array.length_toList] at e
  unfold SetTable.fill
  omega
theorem PSet.few (S : PSet P w h a L D) : L.length ≤ 306 := by
  have e := S.fill_ge
  have sp := S.spare
  have m := S.good.mok.le
  omega
theorem PSet.fits (S : PSet P w h a L D) : D.2.2.fits D.1.size = true := by
  have e := S.places
  rw [Array.length_toList] at e
  have sp := S.spare
  have c := S.count
  unfold SetTable.fits
  simp only [Bool.and_eq_true, beq_iff_eq, decide_eq_true_eq]
  exact ⟨by omega, by omega⟩
theorem PSet.row (S : PSet P w h a L D) {i : Nat} {p : List Key × Addr} (e : L[i]? = some p) : D.1[i]? = some (ent P w p) := by
  rw [← Array.getElem?_toList, S.rows, List.getElem?_map, e]
  rfl
theorem PSet.odd (S : PSet P w h a L D) : ¬ D.2.2.gaveWay = true := fun z => by
  unfold SetTable.gaveWay at z
  rw [S.good.mok.odd] at z
  exact absurd z (by decide)
/-- the search, from its n-th stand on: the first empty place stands at Z -/
theorem look_from (S : PSet P w s.heap a L D) (m : Tk P w s.heap k b) (hu : A.units < cLine) {ad : Bool} {Z : Nat} (zf : Z < 10 * SetTable.turns D.2.2.mask) (z0 : ¬ Occ D.2.2 (way D.2.2.mask (hsT P w k) Z)) (zb : ∀ q, q < Z → Occ D.2.2 (way D.2.2.mask (hsT P w k) q))
    {Q : SetFound → Shared → Prop} (yes : ∀ i p, L[i]? = some p → p.1 = k → Q (.there (if ad then none else some i)) s) (no : k ∉ L.map (·.1) → ∀ d, GoodD D.2.2 (hsT P w k) Z d → Q (.free (d.getD (way D.2.2.mask (hsT P w k) Z)) d.isSome) s) (f : Nat) :
    ∀ (n : Nat) (st : Option SetTable.Probe) (d : Option Nat), st.getD (D.2.2.probeStart (hsT P w k)) = standD D.2.2 (hsT P w k) n d → GoodD D.2.2 (hsT P w k) n d → n ≤ Z → Z < n + f →
      (∀ (i : Nat) (p : List Key × Addr), L[i]? = some p → p.1 = k → ∃ q, n ≤ q ∧ q < Z ∧ D.2.2.place.toList[i]? = some (way D.2.2.mask (hsT P w k) q)) → wpAny (model P w) A (setSearchFrom a (.ref b) (hsT P w k) ad f st) Q E s := by
  induction f with
  | zero => exact fun n _ _ _ _ h1 h2 _ => absurd h1 (by omega)
  | succ f ih =>
    intro n st d0 est gd nz zn left
    obtain ⟨o, ho, hx, od⟩ := S.own
    rw [setSearchFrom_succ]
    refine wpAny_bind (wpAny_setState_of ho od S.fits (wp_if_neg S.odd ?_))
    have pl : ∀ (i : Nat) (p : List Key × Addr), L[i]? = some p → (D.1[i]?.map (·.1)).getD 0 = hsT P w p.1 := fun i p e => by
      rw [S.row e]
      rfl
    have met : ∀ {u : SetTable.Met}, SetTable.probe.go D.2.2 (fun i => (D.1[i]?.map (·.1)).getD 0) (hsT P w k) (10 * SetTable.turns D.2.2.mask) (standD D.2.2 (hsT P w k) n d0) = some u → D.2.2.probe (fun i => (D.1[i]?.map (·.1)).getD 0) (hsT P w k) (st.getD (D.2.2.probeStart (hsT P w k))) = some u := fun e => by
      rw [est]
      exact e
    rcases go_at S.good (fun i => (D.1[i]?.map (·.1)).getD 0) (hsT P w k) zb z0 (10 * SetTable.turns D.2.2.mask) n d0 nz (by omega) gd with ⟨q, i, d2, nq, qz, ei, eh, nob, g2, er⟩ | ⟨nob, d2, g2, er⟩
    · rw [met er]
      have il : i < L.length := by
        rw [← S.places]
        exact (List.getElem?_eq_some_iff.mp ei).1
      obtain ⟨p, ep⟩ : ∃ p, L[i]? = some p := ⟨_, List.getElem?_eq_getElem il⟩
      have mp := List.mem_of_getElem? ep
      have tail : wpAny (model P w) A (searchRest a (.ref b) (hsT P w k) ad f D.1 D.2.2 (way D.2.2.mask (hsT P w k) q) i (standD D.2.2 (hsT P w k) (q + 1) d2)) Q E s := by
        unfold searchRest
        rw [S.row ep]
        refine wpAny_bind (wpAny_holding (wpAny_eqBool_tuple hu (S.here p mp) m ?_))
        refine wpAny_bind (wpAny_setState_of ho od S.fits ?_)
        by_cases ead : (ad && decide (p.1 = k)) = true
        · refine wp_if_pos ead (wpAny_pure ?_)
          rw [Bool.and_eq_true, decide_eq_true_eq] at ead
          have z := yes i p ep ead.2
          rw [ead.1] at z
          exact z
        · refine wp_if_neg ead ?_
          have sl : D.2.2.slot (way D.2.2.mask (hsT P w k) q) = .live i := slot_live S.good.ris ei
          rw [sameMem]
          simp only [if_true, sl, S.row ep]
          refine wpAny_bind (wpAny_isSame_ref_self (wpAny_bind (wpAny_pure ?_)))
          simp only [if_true]
          by_cases ek : p.1 = k
          · refine wp_if_pos (by simp [ek]) (wpAny_pure ?_)
            have z := yes i p ep ek
            have e : ad = false := by
              cases ad with
              | false => rfl
              | true => exact absurd (by simp [ek]) ead
            rw [e] at z
            exact z
          · refine wp_if_neg (by simp [ek]) (ih (n := q + 1) _ d2 rfl g2 (by omega) (by omega) fun i2 p2 e2 k2 => ?_)
            obtain ⟨r, r1, r2, r3⟩ := left i2 p2 e2 k2
            refine ⟨r, ?_, r2, r3⟩
            have hh : (D.1[i2]?.map (·.1)).getD 0 = hsT P w k := by rw [pl i2 p2 e2, k2]
            have c1 : ¬ r < q := fun z => nob r i2 r1 z r3 hh
            have c2 : r ≠ q := fun z => by
              rw [z] at r3
              have s3 := slot_live S.good.ris r3
              rw [sl] at s3
              injection s3 with s3
              rw [← s3, ep] at e2
              exact ek (by rw [Option.some.inj e2]; exact k2)
            omega
      by_cases el : D.2.2.led = true
      · exact wp_if_neg (by simp [el]) tail
      · refine wp_if_pos (by simp [el]) (wpAny_bind (unseen_tk m (fun y my => ?_) (wp_if_neg (by simp) tail)))
        obtain ⟨u, mu, rfl⟩ := List.mem_map.mp my
        have mu2 : u ∈ D.1.toList := by
          have z : u ∈ D.1 ∧ u.1 = hsT P w k := by simpa using mu
          exact Array.mem_toList_iff.mpr z.1
        rw [S.rows] at mu2
        obtain ⟨p2, mp2, rfl⟩ := List.mem_map.mp mu2
        exact ⟨p2.1, p2.2, rfl, S.here p2 mp2⟩
    · rw [met er]
      have nk : k ∉ L.map (·.1) := fun mk => by
        obtain ⟨p, mp, ek⟩ := List.mem_map.mp mk
        obtain ⟨i, ei⟩ := List.mem_iff_getElem?.mp mp
        obtain ⟨r, r1, r2, r3⟩ := left i p ei ek
        exact nob r i r1 r2 r3 (by rw [pl i p ei, ek])
      cases d2 with
      | none => exact wpAny_pure (no nk none g2)
      | some j =>
        have sd := slot_dummy S.good (g2 j rfl).1
        refine wp_if_neg ?_ (wpAny_pure (no nk (some j) g2))
        rw [sd]
        simp
/-- .. as it is asked for -/
theorem look_at (S : PSet P w s.heap a L D) (m : Tk P w s.heap k b) (hu : A.units < cLine) {ad : Bool} {Q : SetFound → Shared → Prop} (yes : ∀ i p, L[i]? = some p → p.1 = k → Q (.there (if ad then none else some i)) s)
    (no : ∀ Z j dm, k ∉ L.map (·.1) → way D.2.2.mask (hsT P w k) Z = j → j ∉ D.2.2.place.toList → (∀ q, q < Z → Occ D.2.2 (way D.2.2.mask (hsT P w k) q)) → (dm = true ↔ j ∈ D.2.2.dummies.toList) → Q (.free j dm) s) : wpAny (model P w) A (setSearch a (.ref b) (hsT P w k) ad) Q E s := by
  have sp := S.spare
  obtain ⟨Z, z1, z2, z3⟩ := S.good.first (by omega) (hsT P w k)
  have zz : Z < 100000 := by
    have e : SetTable.turns D.2.2.mask ≤ 526 := by
      unfold SetTable.turns
      have := S.good.mok.le
      omega
    omega
  unfold setSearch
  refine look_from S m hu z1 z2 z3 yes (fun n d g => ?_) 100000 0 none none (standD_none _ _ 0).symm (fun j e => by cases e) (Nat.zero_le _) (by omega) fun i p ei ek => ?_
  · cases d with
    | none => exact no Z _ false n rfl (fun z => z2 (.inl z)) z3 ⟨fun z => absurd z (by simp), fun z => absurd (.inr z) z2⟩
    | some j =>
      obtain ⟨g1, r, g2, g3⟩ := g j rfl
      exact no r j true n g3 (S.good.dis j g1) (fun q hq => z3 q (by omega)) ⟨fun _ => g1, fun _ => rfl⟩
  · obtain ⟨j, ej⟩ : ∃ j, D.2.2.place.toList[i]? = some j := ⟨_, List.getElem?_eq_getElem (by rw [S.places]; exact (List.getElem?_eq_some_iff.mp ei).1)⟩
    obtain ⟨q, q1, q2⟩ := S.good.before z2 (i := i) (x := hsT P w k) (by rw [List.getElem?_map, ei]; exact congrArg (fun k => some (hsT P w k)) ek) ej
    exact ⟨q, Nat.zero_le _, q1, by rw [ej, q2]⟩
theorem Tk.but {o : Obj} {es : Array (Int × Value)} {ep : Nat} {t : SetTable} (m : Tk P w h k b) (ho : h.get? a = some o) (od : o.data = .set es ep t) (sb : Heap.SameBut a h h') : Tk P w h' k b := by
  obtain ⟨u, its, n, hu, uc, ud, im⟩ := m
  refine ⟨u, its, n, (sb.2 b fun z => ?_).trans hu, uc, ud, im⟩
  rw [z, ho] at hu
  rw [← Option.some.inj hu, od] at ud
  cases ud
theorem Tk.keep (m : Tk P w h k b) (kp : ∀ c o, h.get? c = some o → h'.get? c = some o) : Tk P w h' k b := by
  obtain ⟨u, its, n, hu, r⟩ := m
  exact ⟨u, its, n, kp _ _ hu, r⟩
theorem PSet.keep (S : PSet P w h a L D) (ka : ∀ o, h.get? a = some o → h'.get? a = some o) (kt : ∀ p ∈ L, Tk P w h' p.1 p.2) : PSet P w h' a L D := by
  obtain ⟨o, ho, r⟩ := S.own
  exact { S with own := ⟨o, ka o ho, r⟩, here := kt }
/-- rows taken in another order -/
theorem rows_order {es : Array (Int × Value)} {order : Array Nat} (er : es.toList = L.map (ent P w)) (po : order.toList.Perm (List.range L.length)) :
    ∃ L2 : List (List Key × Addr), (order.filterMap (es[·]?)).toList = L2.map (ent P w) ∧ L2.Perm L ∧ (L2.map fun p => hsT P w p.1) = order.toList.map fun i => (es.map (·.1)).getD i 0 := by
  have at_ : ∀ i, es[i]? = (L[i]?).map (ent P w) := fun i => by rw [← Array.getElem?_toList, er, List.getElem?_map]
  have all : ∀ i ∈ order.toList, ∃ p, L[i]? = some p := fun i mi => ⟨_, List.getElem?_eq_getElem (List.mem_range.mp (po.mem_iff.mp mi))⟩
  have go : ∀ l : List Nat, (∀ i ∈ l, ∃ p, L[i]? = some p) → l.filterMap (fun i => es[i]?) = (l.filterMap fun i => L[i]?).map (ent P w) ∧ ((l.filterMap fun i => L[i]?).map fun p => hsT P w p.1) = l.map fun i => (es.map (·.1)).getD i 0 := by
    intro l
    induction l with
    | nil => exact fun _ => ⟨rfl, rfl⟩
    | cons i l ih =>
      intro al
      obtain ⟨p, ep⟩ := al i (by simp)
      obtain ⟨i1, i2⟩ := ih fun j mj => al j (List.mem_cons_of_mem _ mj)
      have e1 : es[i]? = some (ent P w p) := by rw [at_, ep]; rfl
      have e2 : (es.map (·.1)).getD i 0 = hsT P w p.1 := by
        have z : (es.map (·.1))[i]? = some (hsT P w p.1) := by rw [Array.getElem?_map, e1]; rfl
        simp [Array.getD_eq_getD_getElem?, z]
      refine ⟨?_, ?_⟩
      · rw [List.filterMap_cons_some e1, List.filterMap_cons_some ep, i1]
        rfl
      · rw [List.filterMap_cons_some ep, List.map_cons, List.map_cons, i2, e2]
  obtain ⟨g1, g2⟩ := go _ all
  have ids : ∀ n, n ≤ L.length → (List.range n).filterMap (fun i => L[i]?) = L.take n := by
    intro n
    induction n with
    | zero => exact fun _ => rfl
    | succ n ih =>
      intro hn
      have e : L[n]? = some L[n] := List.getElem?_eq_getElem hn
      rw [List.range_succ, List.filterMap_append, ih (by omega), List.filterMap_cons_some e, List.take_add_one, e]
      rfl
  have pp := po.filterMap (fun i => L[i]?)
  rw [ids _ (Nat.le_refl _), List.take_length] at pp
  exact ⟨_, by rw [Array.toList_filterMap]; exact g1, pp, g2⟩
/-- the table is laid anew -/
theorem lay_anew {o : Obj} {wanted : Nat} (ho : s.heap.get? a = some o) (hx : o.ExactSet) (od : o.data = .set D.1 D.2.1 D.2.2) (er : D.1.toList = L.map (ent P w)) (ft : D.2.2.fits D.1.size = true)
    (nd : (L.map (·.1)).Nodup) (hr : ∀ p ∈ L, Tk P w s.heap p.1 p.2) (vs : w.params.followText "set-order" = true ∨ D.2.2.led = true) (hw : wanted < 512) (sp : L.length * 2 ≤ wanted)
    {Q : Unit → Shared → Prop} (q : ∀ h2 L2 D2, Heap.SameBut a s.heap h2 → PSet P w h2 a L2 D2 → L2.Perm L → D2.2.2.dummies = #[] → wanted ≤ D2.2.2.mask → Q () { s with heap := h2 }) : wpAny (model P w) A (setRelay a wanted) Q E s := by
  have cn : D.1.size = L.length := by rw [← Array.length_toList, er, List.length_map]
  obtain ⟨mk, le⟩ := sizeAbove_mk hw
  have m511 := mk.le
  have m7 := mk.ge
  obtain ⟨t2, od2, e, po, good, em, el, _, ed⟩ := laid_ok (hs := D.1.map (·.1)) mk D.2.2.finger (D.2.2.movedTo (SetTable.sizeAbove wanted - 1)) D.2.2.led D.2.2.plain (by rw [Array.size_map, cn]; omega)
  rw [Array.size_map, cn] at po
  obtain ⟨L2, r1, r2, r3⟩ := rows_order er po
  rw [← r3] at good
  have c2 : (od2.filterMap (D.1[·]?)).size = D.1.size := by rw [← Array.length_toList, r1, List.length_map, r2.length_eq, cn]
  rw [setRelay_eq]
  refine wpAny_bind (wpAny_setState_of ho od ft (wp_if_neg (by rw [sizeLine_eq]; omega) ?_))
  rw [show D.2.2.relaid (D.1.map (·.1)) wanted = some (t2, od2) from e]
  refine wpAny_bind (wp_if_neg (by simp [c2]) (wpAny_pure ?_))
  refine wpAny_storeSet_of ho od ?_ (by rw [c2, cn, sizeLine_eq]; omega)
  have sb : Heap.SameBut a s.heap (s.heap.update a (Obj.putSet (od2.filterMap (D.1[·]?)) t2)) := Heap.SameBut.update ..
  have fl : t2.fill = L.length := by
    have z := good.sz
    rw [List.length_map, Array.length_toList, r2.length_eq] at z
    unfold SetTable.fill
    rw [ed, z]
    rfl
  refine q _ L2 (od2.filterMap (D.1[·]?), D.2.1 + 1, t2) sb ⟨⟨_, store_at ho od, ⟨hx.1, hx.2.1, hx.2.2⟩, rfl⟩, r1, good, (r2.map (·.1)).nodup_iff.mpr nd, fun p mp => (hr p (r2.mem_iff.mp mp)).but ho od sb, ?_, ?_⟩ r2 ed (by show wanted ≤ t2.mask; rw [em]; exact le)
  · rcases vs with z | z
    · exact .inl z
    · exact .inr (el.trans z)
  · show t2.fill * 5 < t2.mask * 3
    rw [fl, em]
    omega
/-- one is added -/
theorem put_one (S : PSet P w s.heap a L D) (m : Tk P w s.heap k b) (hu : A.units < cLine) (few : L.length + 1 ≤ 127) {Q : Bool → Shared → Prop}
    (q : ∀ r h2 L2 D2, Heap.SameBut a s.heap h2 → PSet P w h2 a L2 D2 → (k ∈ L.map (·.1) → L2 = L) → (k ∉ L.map (·.1) → L2.Perm ((k, b) :: L)) → Q r { s with heap := h2 }) : wpAny (model P w) A (setAddHashed a (.ref b) (hsT P w k)) Q E s := by
  obtain ⟨o, ho, hx, od⟩ := S.own
  have cn := S.count
  have sp := S.spare
  have m511 := S.good.mok.le
  unfold setAddHashed
  refine wpAny_holding ?_
  rw [show (100000 : Nat) = 99999 + 1 from rfl, setAddHashedIn_succ]
  refine wpAny_bind (wpAny_setState_of ho od S.fits (wp_if_neg (by simp [byScan, Value.scannable]) ?_))
  refine wpAny_bind (look_at S m hu (fun i p ei ek => ?_) fun Z j dm nk ej nj z3 hd => ?_)
  · exact wpAny_pure (q false s.heap L D (Heap.SameBut.refl a s.heap) S (fun _ => rfl) fun z => absurd (List.mem_map.mpr ⟨p, List.mem_of_getElem? ei, ek⟩) z)
  refine wpAny_bind (wpAny_setState_of ho od S.fits ?_)
  dsimp only
  subst ej
  obtain ⟨p1, p2, p3, p4, p5, p9⟩ := S.good.put nj z3
  have pm := put_perm L (SetTable.below D.2.2.place (way D.2.2.mask (hsT P w k) Z)) (k, b)
  have eL : (L.take (SetTable.below D.2.2.place (way D.2.2.mask (hsT P w k) Z)) ++ (k, b) :: L.drop (SetTable.below D.2.2.place (way D.2.2.mask (hsT P w k) Z))).map (fun p => hsT P w p.1) = (L.map fun p => hsT P w p.1).take (SetTable.below D.2.2.place (way D.2.2.mask (hsT P w k) Z)) ++ hsT P w k :: (L.map fun p => hsT P w p.1).drop (SetTable.below D.2.2.place (way D.2.2.mask (hsT P w k) Z)) := by
    rw [List.map_append, List.map_cons, List.map_take, List.map_drop]
  have eR : (SetTable.insertAt D.1 (SetTable.below D.2.2.place (way D.2.2.mask (hsT P w k) Z)) (hsT P w k, Value.ref b)).toList = (L.take (SetTable.below D.2.2.place (way D.2.2.mask (hsT P w k) Z)) ++ (k, b) :: L.drop (SetTable.below D.2.2.place (way D.2.2.mask (hsT P w k) Z))).map (ent P w) := by
    rw [SetTable.toList_insertAt, S.rows, List.map_append, List.map_cons, List.map_take, List.map_drop]
    rfl
  rw [← eL] at p3
  obtain ⟨add, p9a, p9b⟩ : ∃ add, (D.2.2.put (way D.2.2.mask (hsT P w k) Z)).1.fill = D.2.2.fill + add ∧ ((dm = true ∧ add = 0) ∨ (dm = false ∧ add = 1)) := by
    by_cases c : dm = true
    · exact ⟨0, by rw [p9, if_pos (hd.mp c)], .inl ⟨c, rfl⟩⟩
    · exact ⟨1, by rw [p9, if_neg fun z => c (hd.mpr z)], .inr ⟨by simpa using c, rfl⟩⟩
  clear p9 hd
  generalize hpt : D.2.2.put (way D.2.2.mask (hsT P w k) Z) = pt at p1 p3 p4 p5 p9a ⊢
  obtain ⟨t1, n1⟩ := pt
  obtain rfl : n1 = SetTable.below D.2.2.place (way D.2.2.mask (hsT P w k) Z) := p1
  have p3 : TabD t1 _ := p3
  have p4 : t1.mask = D.2.2.mask := p4
  have p5 : t1.led = D.2.2.led := p5
  have p9 : t1.fill = D.2.2.fill + add := p9a
  generalize SetTable.insertAt D.1 (SetTable.below D.2.2.place (way D.2.2.mask (hsT P w k) Z)) (hsT P w k, Value.ref b) = es1 at eR ⊢
  generalize L.take (SetTable.below D.2.2.place (way D.2.2.mask (hsT P w k) Z)) ++ (k, b) :: L.drop (SetTable.below D.2.2.place (way D.2.2.mask (hsT P w k) Z)) = L1 at pm p3 eR
  clear eL hpt nj z3 p9a
  have len1 : L1.length = L.length + 1 := pm.length_eq
  have c1 : es1.size = L.length + 1 := by rw [← Array.length_toList, eR, List.length_map, len1]
  have nd1 : (L1.map (·.1)).Nodup := (pm.map (·.1)).nodup_iff.mpr (by rw [List.map_cons]; exact List.nodup_cons.mpr ⟨nk, S.dist⟩)
  have tail : ∀ t2 : SetTable, TabD t2 (L1.map fun p => hsT P w p.1) → t2.mask = D.2.2.mask → t2.led = D.2.2.led → t2.fill = D.2.2.fill + add → wpAny (model P w) A (do
      storeSet a es1 t2
      if !dm && t2.tooFull then setRelay a (SetTable.grown (D.1.size + 1))
      return true) Q E s := by
    intro t2 g2 m2 l2 f2
    refine wpAny_bind (wpAny_storeSet_of ho od ?_ (by rw [c1, sizeLine_eq]; omega))
    have sb : Heap.SameBut a s.heap (s.heap.update a (Obj.putSet es1 t2)) := Heap.SameBut.update ..
    have ho1 := store_at (es' := es1) (t' := t2) ho od
    generalize s.heap.update a (Obj.putSet es1 t2) = h1 at sb ho1 ⊢
    have hr1 : ∀ p ∈ L1, Tk P w h1 p.1 p.2 := fun p mp => by
      rcases List.mem_cons.mp (pm.mem_iff.mp mp) with rfl | mp
      · exact m.but ho od sb
      · exact (S.here p mp).but ho od sb
    have vs : w.params.followText "set-order" = true ∨ t2.led = true := S.vis.elim .inl fun z => .inr (l2.trans z)
    have pl1 : t2.place.size = es1.size := by
      have e := g2.sz
      rw [List.length_map, len1, Array.length_toList] at e
      rw [e, c1]
    by_cases full : (!dm && t2.tooFull) = true
    · refine wp_if_pos full (wpAny_bind ?_)
      have ft : t2.fits es1.size = true := by
        unfold SetTable.fits
        simp only [Bool.and_eq_true, beq_iff_eq, decide_eq_true_eq]
        refine ⟨pl1, ?_⟩
        rw [f2, m2]
        rcases p9b with ⟨_, e⟩ | ⟨_, e⟩ <;> omega
      have gr : SetTable.grown (D.1.size + 1) = (L.length + 1) * 4 := by
        unfold SetTable.grown
        rw [cn, if_neg (by omega)]
      rw [gr]
      exact lay_anew (s := { s with heap := h1 }) (D := (es1, D.2.1 + 1, t2)) ho1 ⟨hx.1, hx.2.1, hx.2.2⟩ rfl eR ft nd1 hr1 vs (by omega) (by rw [len1]; omega) fun h2 L2 D2 sb2 S2 pm2 _ _ => wpAny_pure (q true h2 L2 D2 (sb.trans sb2) S2 (fun z => absurd z nk) fun _ => pm2.trans pm)
    · refine wp_if_neg full ?_
      refine wpAny_pure (q true h1 L1 (es1, D.2.1 + 1, t2) sb ⟨⟨_, ho1, ⟨hx.1, hx.2.1, hx.2.2⟩, rfl⟩, eR, g2, nd1, hr1, vs, ?_⟩ (fun z => absurd z nk) fun _ => pm)
      show t2.fill * 5 < t2.mask * 3
      rcases p9b with ⟨_, e⟩ | ⟨e1, e⟩
      · rw [f2, m2, e]
        exact sp
      · rw [e1] at full
        simp only [Bool.not_false, Bool.true_and] at full
        unfold SetTable.tooFull at full
        rw [decide_eq_true_eq] at full
        omega
  have ends : ∀ r : Bool, wpAny (model P w) A (do
      storeSet a es1 (if r then t1 else { t1 with plain := false })
      if !dm && (if r then t1 else { t1 with plain := false }).tooFull then setRelay a (SetTable.grown (D.1.size + 1))
      return true) Q E s := fun r => by
    cases r with
    | true => exact tail t1 p3 p4 p5 p9
    | false => exact tail { t1 with plain := false } (p3.same rfl rfl rfl) p4 p5 p9
  by_cases pl : t1.plain = true
  · exact wp_if_pos pl (wpAny_bind (byVal_tk m fun r => ends r))
  · exact wp_if_neg pl (wpAny_bind (wpAny_pure (ends true)))
/-- what a set has got of these rows: the first i of ks, over what it had -/
structure Has (L0 ks : List (List Key × Addr)) (i : Nat) (L : List (List Key × Addr)) : Prop where
  sub : ∀ p ∈ L, p ∈ L0 ∨ p ∈ ks.take i
  old : ∀ p ∈ L0, p.1 ∈ L.map (·.1)
  all : ∀ p ∈ ks.take i, p.1 ∈ L.map (·.1)
theorem Has.zero {L0 ks : List (List Key × Addr)} : Has L0 ks 0 L0 := ⟨fun p m => .inl m, fun p m => List.mem_map.mpr ⟨p, m, rfl⟩, fun p m => (by simp at m)⟩
theorem Has.next {L0 ks L L2 : List (List Key × Addr)} {i : Nat} {p : List Key × Addr} (g : Has L0 ks i L) (e : ks[i]? = some p) (c1 : p.1 ∈ L.map (·.1) → L2 = L) (c2 : p.1 ∉ L.map (·.1) → L2.Perm (p :: L)) : Has L0 ks (i + 1) L2 := by
  have et : ks.take (i + 1) = ks.take i ++ [p] := by rw [List.take_add_one, e]; rfl
  have up : ∀ x, x ∈ L.map (·.1) ∨ x = p.1 → x ∈ L2.map (·.1) := fun x h => by
    by_cases m : p.1 ∈ L.map (·.1)
    · rw [c1 m]
      rcases h with h | rfl
      · exact h
      · exact m
    · refine ((c2 m).map (·.1)).mem_iff.mpr ?_
      rw [List.map_cons]
      rcases h with h | rfl
      · exact List.mem_cons_of_mem _ h
      · exact List.mem_cons_self
  refine ⟨fun q mq => ?_, fun q mq => up _ (.inl (g.old q mq)), fun q mq => ?_⟩
  · rw [et]
    have old : q ∈ L → q ∈ L0 ∨ q ∈ ks.take i ++ [p] := fun h => (g.sub q h).imp id fun z => List.mem_append_left _ z
    by_cases m : p.1 ∈ L.map (·.1)
    · rw [c1 m] at mq
      exact old mq
    · rcases List.mem_cons.mp ((c2 m).mem_iff.mp mq) with rfl | h
      · exact .inr (List.mem_append_right _ (by simp))
      · exact old h
  · rw [et] at mq
    rcases List.mem_append.mp mq with h | h
    · exact up _ (.inl (g.all q h))
    · exact up _ (.inr (by rw [List.mem_singleton.mp h]))
/-- a set that grows from these rows stays small -/
def Cap (L0 ks : List (List Key × Addr)) : Prop := ∀ l : List (List Key), l.Nodup → (∀ x ∈ l, x ∈ L0.map (·.1) ∨ x ∈ ks.map (·.1)) → l.length ≤ 126
theorem Has.few {L0 ks L : List (List Key × Addr)} {i : Nat} (g : Has L0 ks i L) (nd : (L.map (·.1)).Nodup) (cap : Cap L0 ks) : L.length + 1 ≤ 127 := by
  have z := cap _ nd fun x mx => by
    obtain ⟨p, mp, rfl⟩ := List.mem_map.mp mx
    rcases g.sub p mp with m | m
    · exact .inl (List.mem_map.mpr ⟨p, m, rfl⟩)
    · exact .inr (List.mem_map.mpr ⟨p, List.mem_of_mem_take m, rfl⟩)
  rw [List.length_map] at z
  omega
/-- the set takes what a walk gives -/
theorem fill_loop {I : Addr} {fp wr : List Addr} {G : Array GenState → Array GenState → Prop} {n : Nat} {Pv : Nat → Value → Prop} {St : Nat → Shared → Prop} {R : Result → Shared → Prop} {L0 ks : List (List Key × Addr)} (W : WalksS P w A.in1 I fp wr G n Pv St) (af : a ∉ fp) (en : n = ks.length)
    (cap : Cap L0 ks) (hv : ∀ i v, Pv i v → ∃ p, ks[i]? = some p ∧ v = .ref p.2) {h0 : Heap} (k0 : ∀ p ∈ ks, Tk P w h0 p.1 p.2) (t0 : ∀ p ∈ L0, Tk P w h0 p.1 p.2) (na : h0.get? a = none) (nw : ∀ b ∈ wr, h0.get? b = none) (hu : A.in1.units < cLine) (j : Nat) :
    ∀ (i : Nat) (s : Shared), n = i + j → St i s → (∀ b o, h0.get? b = some o → s.heap.get? b = some o) → (∃ L D, PSet P w s.heap a L D ∧ Has L0 ks i L) →
      (∀ s2 L D, Moved (a :: wr) G s s2 → PSet P w s2.heap a L D → Has L0 ks n L → (∀ b o, h0.get? b = some o → s2.heap.get? b = some o) → R (.ok (.ret .none)) s2) → codeAny (model P w) A (.builtin "set.update.loop" ⟨[.ref a, .ref I], []⟩) R s := by
  have aw : a ∉ wr := fun m => af (W.sub _ m)
  have stay : ∀ {s s2 : Shared}, Moved wr G s s2 → (∀ b o, h0.get? b = some o → s.heap.get? b = some o) → ∀ b o, h0.get? b = some o → s2.heap.get? b = some o := fun mv kp b o e => mv.heap b o (fun m => by rw [nw b m] at e; cases e) (kp b o e)
  have rows : ∀ {i : Nat} {L : List (List Key × Addr)} {g : Heap}, Has L0 ks i L → (∀ b o, h0.get? b = some o → g.get? b = some o) → ∀ p ∈ L, Tk P w g p.1 p.2 := fun hs kp p mp => (hs.sub p mp).elim (fun m => (t0 p m).keep kp) fun m => (k0 p (List.mem_of_mem_take m)).keep kp
  induction j with
  | zero =>
    intro i s ei st kp ⟨L, D, S, hs⟩ fin
    obtain rfl : i = n := ei.symm
    refine codeAny_builtin F.entry_set_update_loop ?_
    rw [Around.under_plainId F.plain_set_update_loop _]
    refine wpAny_bind (W.done s _ _ st fun s2 mv => ?_)
    have kp2 := stay mv kp
    exact wpAny_pure (fin s2 L D ⟨fun b o m e => mv.heap b o (fun z => m (List.mem_cons_of_mem _ z)) e, mv.gens, mv.drawn, mv.os, mv.toks⟩ (S.keep (fun o e => mv.heap a o aw e) (rows hs kp2)) hs kp2)
  | succ j ih =>
    intro i s ei st kp ⟨L, D, S, hs⟩ fin
    refine codeAny_builtin F.entry_set_update_loop ?_
    rw [Around.under_plainId F.plain_set_update_loop _]
    refine wpAny_bind (W.item i s _ _ (by omega) st fun v s2 pv st2 mv => ?_)
    obtain ⟨p, ep, rfl⟩ := hv i v pv
    have kp2 := stay mv kp
    have S2 : PSet P w s2.heap a L D := S.keep (fun o e => mv.heap a o aw e) (rows hs kp2)
    have m2 : Tk P w s2.heap p.1 p.2 := (k0 p (List.mem_of_getElem? ep)).keep kp2
    refine wpAny_bind (wpAny_holding ?_)
    unfold setAdd
    refine wpAny_holding (wpAny_bind (wpAny_pyHash_tuple hu m2 ?_))
    refine put_one (s := { s2 with toks := s2.toks + (p.1.length + 1) }) S2 m2 hu (hs.few S.dist cap) fun r h3 L3 D3 sb S3 c1 c2 => ?_
    have kp3 : ∀ b o, h0.get? b = some o → h3.get? b = some o := fun b o e => (sb.2 b fun z => by rw [z, na] at e; cases e).trans (kp2 b o e)
    refine wpAny_pure ⟨plainId_quiet F.plain_set_update_loop _, ih (i + 1) _ (by omega) (W.frame _ s2 _ _ st2 (Nat.le_add_right _ _) fun b m o e => (sb.2 b fun z => af (z ▸ m)).trans e) kp3 ⟨L3, D3, S3, hs.next ep c1 c2⟩ fun s4 L4 D4 mv4 S4 g4 kp4 => fin s4 L4 D4 ?_ S4 g4 kp4⟩
    refine Moved.trans W.gtrans (show Moved (a :: wr) G s { s2 with heap := h3, toks := s2.toks + (p.1.length + 1) } from ⟨fun b o m e => ?_, mv.gens, mv.drawn, mv.os, Nat.le_trans mv.toks (Nat.le_add_right _ _)⟩) mv4
    exact (sb.2 b fun z => m (by rw [z]; exact List.mem_cons_self)).trans (mv.heap b o (fun z => m (List.mem_cons_of_mem _ z)) e)
end
end Own

set_option Elab.async false
set_option linter.all false
set_option maxRecDepth 100000
set_option maxHeartbeats 4000000
/-! set(xs) and sorted(set) of tuples that hold ints and texts. -/
namespace Own
open PySem PySem.Spec PyProof.Rows L2
section
variable {P : Program} {w : World} {A : Around} {E : Value → Shared → Prop} {s : Shared} {h h' : Heap} {a b c : Addr} {k k' : List Key} {D D' : SD3} {L L' : List (List Key × Addr)}
abbrev freshSet (w : World) : Obj := { cls := .type "set", dict := none, data := .set #[] 0 (.fresh 0 0 (!w.params.followText "set-order")) }
theorem pset_new {h : Heap} {a : Addr} (e : h.get? a = some (freshSet w)) : PSet P w h a [] (#[], 0, .fresh 0 0 (!w.params.followText "set-order")) := by
  refine ⟨⟨_, e, ⟨rfl, rfl, rfl⟩, rfl⟩, rfl, TabD.empty (.inl rfl), List.nodup_nil, fun p m => (by cases m), ?_, (show 0 * 5 < 7 * 3 by decide)⟩
  by_cases e : w.params.followText "set-order" = true
  · exact .inl e
  · exact .inr (show (!w.params.followText "set-order") = true by simpa using e)
/-- set(xs): a list or a tuple -/
def SeqAt2 (h : Heap) (l : Addr) (its : Array Value) : Prop := h.IsList l its ∨ h.IsTuple l its
theorem call_set_tk {l : Addr} {its : Array Value} {ks : List (List Key × Addr)} {Q : Value → Shared → Prop} (hh : A.handled = none) (hl : SeqAt2 s.heap l its) (hi : its.toList = ks.map fun p => Value.ref p.2) (hk : ∀ p ∈ ks, Tk P w s.heap p.1 p.2) (cap : Cap [] ks) (hu : A.units + 3 < cLine)
    (q : ∀ (h2 : Heap) (tk : Nat) L D, PSet P w h2 s.heap.objs.size L D → Has [] ks ks.length L → (∀ b o, s.heap.get? b = some o → h2.get? b = some o) → Q (.ref s.heap.objs.size) { s with heap := h2, toks := tk }) : wpAny (model P w) A (call (.type "set") [.ref l]) Q E s := by
  have en : its.size = ks.length := by rw [← Array.length_toList, hi, List.length_map]
  obtain ⟨c, tl, hmro⟩ := F.called_set.mro
  have hmade := F.called_set.made
  have hsub := F.called_set.sub
  refine wpAny_call (codeAny_of_tree (wpAny_pure ⟨Code.quiet_builtin _ (by decide +kernel), codeAny_builtin F.entry_type_call ?_⟩))
  rw [Around.under_plain (weight_type_call_type "set" [.ref l] []) rfl]
  have h1 := F.called_set.notType
  have h2 := F.called_set.canCreate
  have hct := F.typeCall_set_1 (.ref l)
  repeat (any_goals (first | assumption | wp_step))
  refine codeAny_mono (code_set_led1 (.ref l) (E := E) (Q₁ := fun v s2 => v = .ref s.heap.objs.size ∧ s2 = { s with heap := s.heap.push (freshSet w) }) ⟨rfl, rfl⟩) fun r s1 hr => ?_
  match r, hr with
  | .error e, hr => exact hr
  | .ok .next, hr => exact False.elim hr
  | .ok .brk, hr => exact False.elim hr
  | .ok .cont, hr => exact False.elim hr
  | .ok (.ret v), hr =>
    obtain ⟨rfl, rfl⟩ := hr
    have eS : (s.heap.push (freshSet w)).get? s.heap.objs.size = some (freshSet w) := Heap.get?_push_size _ rfl
    have hT : Shared.TypeIs { s with heap := s.heap.push (freshSet w) } (.ref s.heap.objs.size) "set" := ⟨_, eS, rfl⟩
    have hli := F.called_set.init.lookup
    have hbi := F.called_set.init.bind (.ref s.heap.objs.size)
    repeat (any_goals (first | assumption | wp_step))
    refine codeAny_mono (codeAny_call_builtin (R := wants (fun r s2 => r = .none ∧ ∃ h2 tk L D, s2 = { s with heap := h2, toks := tk } ∧ PSet P w h2 s.heap.objs.size L D ∧ Has [] ks ks.length L ∧ ∀ b o, s.heap.get? b = some o → h2.get? b = some o) E) F.called_set.init.plain F.entry_set_init (check_set_init_1 hT ?_)) fun r2 s2 hr2 => ?_
    · have non : ∀ b, s.heap.objs.size ≤ b → s.heap.get? b = none := fun b hb => by
        cases e : s.heap.get? b with
        | none => rfl
        | some o => exact absurd (Nat.lt_of_lt_of_le (Heap.lt_size e) hb) (Nat.lt_irrefl _)
      have vals : ∀ (i : Nat) (v : Value), its[i]? = some v → ∃ p, ks[i]? = some p ∧ v = .ref p.2 := fun i v e => by
        rw [← Array.getElem?_toList, hi, List.getElem?_map] at e
        obtain ⟨p, ep, rfl⟩ := Option.map_eq_some_iff.mp e
        exact ⟨p, ep, rfl⟩
      have hh3 : A.in1.in1.in1.handled = none := by simp [hh]
      have ne2 : l ≠ (s.heap.push (freshSet w)).objs.size ∧ s.heap.objs.size ∉ [(s.heap.push (freshSet w)).objs.size, l] := by
        have z : l < s.heap.objs.size := by
          rcases hl with ⟨o, e, _⟩ | ⟨o, e, _⟩ <;> exact Heap.lt_size e
        rw [Heap.size_push]
        refine ⟨Nat.ne_of_lt (Nat.lt_succ_of_lt z), ?_⟩
        simp only [List.mem_cons, List.not_mem_nil, or_false, not_or]
        exact ⟨Nat.ne_of_lt (Nat.lt_succ_self _), Nat.ne_of_gt z⟩
      have ends : ∀ {s4 : Shared} {L : List (List Key × Addr)} {D : SD3}, Moved (s.heap.objs.size :: [(s.heap.push (freshSet w)).objs.size]) (fun a b => b = a) { s with heap := (s.heap.push (freshSet w)) } s4 → PSet P w s4.heap s.heap.objs.size L D → Has [] ks its.size L → (∀ b o, s.heap.get? b = some o → s4.heap.get? b = some o) →
          (wants (fun r s2 => r = .none ∧ ∃ h2 tk L D, s2 = { s with heap := h2, toks := tk } ∧ PSet P w h2 s.heap.objs.size L D ∧ Has [] ks ks.length L ∧ ∀ b o, s.heap.get? b = some o → h2.get? b = some o) E) (.ok (.ret .none)) s4 := fun {s4 L D} mv S g kp => by
        rw [en] at g
        exact ⟨rfl, s4.heap, s4.toks, L, D, mv.eq_with, S, g, kp⟩
      rcases hl with hl | hl
      · have hl1 : (s.heap.push (freshSet w)).IsList l its := by
          obtain ⟨o, e, r⟩ := hl
          exact ⟨o, Heap.get?_push_of_some _ e, r⟩
        have hTl : Shared.TypeIs { s with heap := s.heap.push (freshSet w) } (.ref l) "list" := by
          obtain ⟨o, e, c, r⟩ := hl1
          exact ⟨o, e, c⟩
        have f1 := F.sub_list_set
        have f2 := F.sub_list_frozenset
        have f3 : (Value.type "list" == Value.type "dict") = false := by decide
        unfold Builtin.«set.__init__» noKeywords Builtin.Frozenset.updateFrom
        generalize hPI : pyIter = PI
        wp_walk
        subst hPI
        refine wpAny_pyIter_list hl1 (wpAny_bind (wpAny_runValue ?_))
        refine fill_loop ((Walks.list hh3 _ l ne2.1 its).toS) ne2.2 en cap vals hk (fun p m => by cases m) (non _ (Nat.le_refl _)) (fun b mb => non b (by rw [List.mem_singleton.mp mb, Heap.size_push]; exact Nat.le_succ _)) hu its.size 0 _ (by omega)
          ⟨⟨_, Heap.get?_push_size _ rfl, rfl, rfl⟩, (hl1.push _)⟩ (fun b o e => Heap.get?_push_of_some _ (Heap.get?_push_of_some _ e)) ⟨[], _, pset_new (Heap.get?_push_of_some _ eS), .zero⟩ fun s4 L D mv S g kp => ?_
        refine wpAny_pure (wpAny_pure ?_)
        exact ends ⟨fun b o m e => mv.heap b o m (Heap.get?_push_of_some _ e), mv.gens, mv.drawn, mv.os, mv.toks⟩ S g kp
      · have hl1 : (s.heap.push (freshSet w)).IsTuple l its := by
          obtain ⟨o, e, r⟩ := hl
          exact ⟨o, Heap.get?_push_of_some _ e, r⟩
        have hTl : Shared.TypeIs { s with heap := s.heap.push (freshSet w) } (.ref l) "tuple" := hl1.typeIs
        have f1 := F.sub_tuple_set
        have f2 := F.sub_tuple_frozenset
        have f3 : (Value.type "tuple" == Value.type "dict") = false := by decide
        unfold Builtin.«set.__init__» noKeywords Builtin.Frozenset.updateFrom
        generalize hPI : pyIter = PI
        wp_walk
        subst hPI
        refine wpAny_pyIter_tuple hl1 (wpAny_bind (wpAny_runValue ?_))
        refine fill_loop ((Walks.tuple hh3 _ l ne2.1 its).toS) ne2.2 en cap vals hk (fun p m => by cases m) (non _ (Nat.le_refl _)) (fun b mb => non b (by rw [List.mem_singleton.mp mb, Heap.size_push]; exact Nat.le_succ _)) hu its.size 0 _ (by omega)
          ⟨⟨_, Heap.get?_push_size _ rfl, rfl, rfl⟩, (hl1.push _)⟩ (fun b o e => Heap.get?_push_of_some _ (Heap.get?_push_of_some _ e)) ⟨[], _, pset_new (Heap.get?_push_of_some _ eS), .zero⟩ fun s4 L D mv S g kp => ?_
        refine wpAny_pure (wpAny_pure ?_)
        exact ends ⟨fun b o m e => mv.heap b o m (Heap.get?_push_of_some _ e), mv.gens, mv.drawn, mv.os, mv.toks⟩ S g kp
    · match r2, hr2 with
      | .error e, hr2 => exact hr2
      | .ok .next, hr2 => exact False.elim hr2
      | .ok .brk, hr2 => exact False.elim hr2
      | .ok .cont, hr2 => exact False.elim hr2
      | .ok (.ret r), hr2 =>
        obtain ⟨rfl, h2, tk, L, D, rfl, S, g, kp⟩ := hr2
        repeat (any_goals (first | assumption | wp_step))
        exact q _ _ _ _ S g kp
end
end Own

set_option Elab.async false
set_option linter.all false
set_option maxRecDepth 100000
set_option maxHeartbeats 4000000
/-! Sets and sorted lists of pairs: an int and a text. -/
namespace Own
open PySem PySem.Spec PyProof.Rows L2
abbrev PI := Int × Str
/-- a pair and where it lies -/
abbrev PR := PI × Addr
def kp (m : PI) : List Key := [.inl m.1, .inr m.2]
def rowP (m : PR) : List Key × Addr := (kp m.1, m.2)
theorem kp_inj {a b : PI} (h : kp a = kp b) : a = b := by
  obtain ⟨a1, a2⟩ := a
  obtain ⟨b1, b2⟩ := b
  unfold kp at h
  simp at h
  rw [h.1, h.2]
/-- the order of pairs -/
def LeP (a b : PI) : Prop := a.1 < b.1 ∨ (a.1 = b.1 ∧ a.2.cps.toList ≤ b.2.cps.toList)
instance (a b : PI) : Decidable (LeP a b) := by unfold LeP; infer_instance
theorem LeP.trans {a b c : PI} (h : LeP a b) (g : LeP b c) : LeP a c := by
  rcases h with h | ⟨h, h2⟩ <;> rcases g with g | ⟨g, g2⟩
  · exact .inl (by omega)
  · exact .inl (by omega)
  · exact .inl (by omega)
  · exact .inr ⟨h.trans g, List.le_trans h2 g2⟩
theorem LeP.total (a b : PI) : LeP a b ∨ LeP b a := by
  rcases Int.lt_trichotomy a.1 b.1 with h | h | h
  · exact .inl (.inl h)
  · rcases List.le_total a.2.cps.toList b.2.cps.toList with g | g
    · exact .inl (.inr ⟨h, g⟩)
    · exact .inr (.inr ⟨h.symm, g⟩)
  · exact .inr (.inl h)
theorem LeP.anti {a b : PI} (h : LeP a b) (g : LeP b a) : a = b := by
  rcases h with h | ⟨h, h2⟩ <;> rcases g with g | ⟨g, g2⟩
  · omega
  · omega
  · omega
  · obtain ⟨a1, a2⟩ := a
    obtain ⟨b1, b2⟩ := b
    have e : a1 = b1 := h
    have e2 : a2.cps.toList = b2.cps.toList := List.le_antisymm h2 g2
    rw [e, str_ext e2]
/-- two ascending lists of the same pairs -/
theorem leP_one : ∀ {xs ys : List PI}, xs.Pairwise LeP → ys.Pairwise LeP → xs.Perm ys → xs = ys
  | [], _, _, _, h => (List.nil_perm.mp h).symm
  | x :: xs, [], _, _, h => by simpa using h.length_eq
  | x :: xs, y :: ys, h1, h2, h => by
    obtain ⟨a1, a2⟩ := List.pairwise_cons.mp h1
    obtain ⟨b1, b2⟩ := List.pairwise_cons.mp h2
    have e : x = y := by
      have mx : x ∈ y :: ys := h.subset (by simp)
      have my : y ∈ x :: xs := h.symm.subset (by simp)
      rcases List.mem_cons.mp mx with e | mx
      · exact e
      · rcases List.mem_cons.mp my with e | my
        · exact e.symm
        · exact (a1 y my).anti (b1 x mx)
    subst e
    rw [leP_one a2 b2 (List.Perm.cons_inv h)]
def encM (m : PR) : PyData := .tuple [.int m.1.1, .str m.1.2]
theorem le_encM : PySem.W.dataLe false encM = fun p q => decide (LeP p.1 q.1) := by
  funext p q
  rw [PySem.W.dataLe_eq]
  show (!PySem.W.dataLt (.tuple [.int q.1.1, .str q.1.2]) (.tuple [.int p.1.1, .str p.1.2])) = _
  rw [PySem.W.dataLt_pair (by simp [PySem.W.alike]) (by simp [PySem.W.alike]), PySem.W.dataLt_int, PySem.W.dataLt_str]
  simp only [PyData.eqv, beq_iff_eq]
  unfold LeP
  by_cases h1 : q.1.1 = p.1.1
  · rw [if_pos h1]
    by_cases h2 : q.1.2 = p.1.2
    · rw [if_pos h2]
      simp [h1, h2]
    · rw [if_neg h2, PySem.W.not_lt_str]
      simp [h1]
  · rw [if_neg h1]
    by_cases h3 : q.1.1 < p.1.1
    · have h4 : ¬ p.1.1 < q.1.1 := by omega
      simp [h3, h4]
      omega
    · have h4 : p.1.1 < q.1.1 := by omega
      simp [h3, h4]
theorem sort_encM (ms : List PR) : (ms.mergeSort (PySem.W.dataLe false encM)).Perm ms ∧ (ms.mergeSort (PySem.W.dataLe false encM)).Pairwise fun p q => LeP p.1 q.1 := by
  refine ⟨List.mergeSort_perm _ _, ?_⟩
  have z := List.pairwise_mergeSort (le := PySem.W.dataLe false encM) (fun a b c h1 h2 => by
    rw [le_encM] at h1 h2 ⊢
    exact decide_eq_true (LeP.trans (of_decide_eq_true h1) (of_decide_eq_true h2))) (fun a b => by
    rw [le_encM]
    rcases LeP.total a.1 b.1 with h | h <;> simp [h]) ms
  refine z.imp fun {a b} h => ?_
  rw [le_encM] at h
  exact of_decide_eq_true h
end Own

set_option Elab.async false
set_option linter.all false
set_option maxRecDepth 100000
set_option maxHeartbeats 4000000
/-! set(xs) and sorted(..) of pairs, in a def. -/
namespace Own
open PySem PySem.Spec PyProof.Rows L2
/-- the set at a, its pairs told elsewhere -/
structure PSet0 (P : Program) (w : World) (h : Heap) (a : Addr) (ms : List PR) : Prop where
  ex : ∃ D : SD3, (∃ o, h.get? a = some o ∧ o.ExactSet ∧ o.data = .set D.1 D.2.1 D.2.2) ∧ D.1.toList = (ms.map rowP).map (ent P w) ∧ TabD D.2.2 ((ms.map rowP).map fun p => hsT P w p.1) ∧ ((ms.map rowP).map (·.1)).Nodup ∧ (w.params.followText "set-order" = true ∨ D.2.2.led = true) ∧ D.2.2.fill * 5 < D.2.2.mask * 3
def SetO (P : Program) (w : World) (a : Addr) (ms : List PR) : HO := .ext fun h => PSet0 P w h a ms
section
variable {P : Program} {w : World} {A : Around} {E : Value → Shared → Prop} {s : Shared} {h h' : Heap} {a b c : Addr} {D : SD3} {ms : List PR}
theorem PSet.bare (S : PSet P w h a (ms.map rowP) D) : PSet0 P w h a ms := ⟨D, S.own, S.rows, S.good, S.dist, S.vis, S.spare⟩
theorem PSet0.full (S : PSet0 P w h a ms) (k : ∀ m ∈ ms, Tk P w h (kp m.1) m.2) : ∃ D, PSet P w h a (ms.map rowP) D := by
  obtain ⟨D, s1, s2, s3, s4, s5, s6⟩ := S.ex
  refine ⟨D, s1, s2, s3, s4, fun p mp => ?_, s5, s6⟩
  obtain ⟨m, mm, rfl⟩ := List.mem_map.mp mp
  exact k m mm
theorem setO_ok {H : Hp} (S : PSet0 P w h a ms) : ObjOk P w H h a (SetO P w a ms) := by
  obtain ⟨D, ⟨o, ho, r⟩, q⟩ := id S.ex
  refine ⟨S, ⟨o, ho⟩, fun h1 h2 p k => ?_⟩
  obtain ⟨D2, ⟨o2, ho2, r2⟩, q2⟩ := PSet0.ex p
  exact ⟨D2, ⟨o2, k _ ho2, r2⟩, q2⟩
theorem rows_of {L : List (List Key × Addr)} (hL : ∀ p ∈ L, ∃ m ∈ ms, p = rowP m) : ∃ ns : List PR, L = ns.map rowP ∧ ∀ m ∈ ns, m ∈ ms := by
  induction L with
  | nil => exact ⟨[], rfl, by simp⟩
  | cons p L ih =>
    obtain ⟨m, mm, rfl⟩ := hL p (by simp)
    obtain ⟨ns, rfl, hn⟩ := ih fun q mq => hL q (List.mem_cons_of_mem _ mq)
    exact ⟨m :: ns, rfl, fun x mx => (List.mem_cons.mp mx).elim (fun e => e ▸ mm) (hn x)⟩
theorem refs_vals : ∀ {ms : List PR} {us : List Value}, Vals (ms.map fun m => V.ref m.2) us → us = (ms.map rowP).map fun p => Value.ref p.2
  | [], _, .nil => rfl
  | m :: ms, _, .cons r t => by
    cases r
    rw [refs_vals t]
    rfl
theorem vals_refs : ∀ (ms : List PR), Vals (ms.map fun m => V.ref m.2) (ms.map fun m => Value.ref m.2)
  | [] => .nil
  | m :: ms => .cons rfl (vals_refs ms)
theorem tk_pair {n : Int} {x : Str} {us : List Value} (r : Vals [.int n, .str x] us) : ItemsAre (mixKind P w) (kp (n, x)) us := by
  cases r with
  | cons r1 t =>
    cases t with
    | cons r2 t =>
      cases t
      obtain ⟨t1, rfl⟩ := r1
      obtain ⟨t2, rfl⟩ := r2
      exact .cons (mixKind_int P w n t1) (.cons (mixKind_str P w x t2) .nil)
/-- few different ones -/
def Few (ps : List PI) : Prop := ∀ l : List PI, l.Nodup → (∀ x ∈ l, x ∈ ps) → l.length ≤ 126
theorem Few.of {ps : List PI} (h : ps.length ≤ 126) : Few ps := fun l nd sub => Nat.le_trans (by
  have z := List.Nodup.length_le_of_subset nd (l₂ := ps) sub
  exact z) h
theorem Few.cap {ms : List PR} (f : Few (ms.map (·.1))) : Cap [] (ms.map rowP) := fun l nd sub => by
  have key : ∀ l : List (List Key), (∀ x ∈ l, x ∈ (ms.map rowP).map (·.1)) → ∃ l2 : List PI, l = l2.map kp ∧ ∀ x ∈ l2, x ∈ ms.map (·.1) := by
    intro l
    induction l with
    | nil => exact fun _ => ⟨[], rfl, by simp⟩
    | cons x l ih =>
      intro h
      obtain ⟨l2, rfl, h2⟩ := ih fun y my => h y (List.mem_cons_of_mem _ my)
      obtain ⟨p, mp, rfl⟩ := List.mem_map.mp (h x (by simp))
      obtain ⟨m, mm, rfl⟩ := List.mem_map.mp mp
      exact ⟨m.1 :: l2, rfl, fun y my => (List.mem_cons.mp my).elim (fun e => e ▸ List.mem_map.mpr ⟨m, mm, rfl⟩) (h2 y)⟩
  obtain ⟨l2, rfl, h2⟩ := key l fun x mx => (sub x mx).resolve_left (by simp)
  rw [List.length_map]
  exact f l2 (List.Pairwise.of_map kp (fun a b ne e => ne (congrArg kp e)) nd) h2
theorem perm_map {α β : Type} {f : α → β} : ∀ {ms : List α} {vs : List β}, vs.Perm (ms.map f) → ∃ ns : List α, vs = ns.map f ∧ ns.Perm ms
  | [], vs, h => ⟨[], List.perm_nil.mp h, .refl _⟩
  | m :: ms, vs, h => by
    obtain ⟨l1, l2, rfl⟩ := List.append_of_mem (h.symm.subset (show f m ∈ (m :: ms).map f by simp))
    have h2 : (l1 ++ l2).Perm (ms.map f) := List.Perm.cons_inv (List.perm_middle.symm.trans h)
    obtain ⟨ns, e, p⟩ := perm_map h2
    obtain ⟨n1, n2, rfl, e1, e2⟩ := List.map_eq_append_iff.mp e.symm
    exact ⟨n1 ++ m :: n2, by rw [List.map_append, List.map_cons, e1, e2], List.perm_middle.trans (p.cons m)⟩
theorem reads_pair {n : Int} {x : Str} {its : Array Value} (e : ∃ o k, h.get? b = some o ∧ o.cls = .type "tuple" ∧ o.data = .seq its k) (r : ItemsAre (mixKind P w) (kp (n, x)) its.toList) : Reads h (.ref b) (.tuple [.int n, .str x]) [] := by
  obtain ⟨o, k, e1, e2, e3⟩ := e
  refine .tuple e1 e2 e3 ?_
  generalize its.toList = us at r
  cases r with
  | cons r1 r =>
    cases r with
    | cons r2 r =>
      cases r
      rcases keyIs_shape (show keyIs (.inl n) _ = true from r1) with ⟨i, t, h1, rfl⟩ | ⟨y, t, h1, _⟩
      · rcases keyIs_shape (show keyIs (.inr x) _ = true from r2) with ⟨i2, t2, h2, _⟩ | ⟨y, t2, h2, rfl⟩
        · cases h2
        · cases h1
          cases h2
          exact .cons (as := []) (bs := []) (.int _ _) (.cons (as := []) (bs := []) (.str _ _) .nil)
      · cases h1
/-- sorted(set) -/
theorem sorted_set_tk {Q : Value → Shared → Prop} (S : PSet P w s.heap a (ms.map rowP) D) (hh : A.handled = none) (hu : A.units + 8 < cLine)
    (q : ∀ s2 p (out : Array Value) (c : Nat) (ns : List PR), (∀ b o, s.heap.get? b = some o → s2.heap.get? b = some o) → s2.gens = s.gens → s2.os = s.os → s.heap.objs.size ≤ p → s2.heap.get? p = some (seqObj "list" out c) → out.toList = ns.map (fun m => Value.ref m.2) → ns.Perm ms → ns.Pairwise (fun x y => LeP x.1 y.1) → Q (.ref p) s2) :
    wpAny (model P w) A (call (.builtin "sorted") [.ref a]) Q E s := by
  obtain ⟨o, ho, hx, od⟩ := S.own
  have cn := S.count
  have sp := S.spare
  have fe := S.few
  rw [List.length_map] at cn fe
  refine Calls.call_function_entry kind_sorted plain_sorted entry_sorted (args_sorted1 _) ?_
  unfold Builtin.«sorted»
  refine wpAny_bind (m := checkCount "sorted" 1 1 _) (wpAny_pure ?_)
  refine wpAny_bind (collect_set (A := A.in1) hh ⟨o, ho, hx.1, od⟩ S.fits (by unfold scanBound; omega) S.good.ris S.vis fun s1 vs k1 z1 g1 o1 pm => ?_)
  have es : D.1.toList.map (·.2) = ms.map fun m => Value.ref m.2 := by
    rw [S.rows, List.map_map, List.map_map]
    rfl
  rw [es] at pm
  obtain ⟨ns, rfl, pn⟩ := perm_map pm
  refine wpAny_bind (wpAny_newList ?_ (by rw [List.length_map, pn.length_eq, sizeLine_eq]; omega))
  have oL : (s1.heap.push (seqObj "list" (ns.map fun m => Value.ref m.2).toArray 0)).get? s1.heap.objs.size = some (seqObj "list" (ns.map fun m => Value.ref m.2).toArray 0) := Heap.get?_push_size _ rfl
  have rd : ∀ m ∈ ns, Reads (s1.heap.push (seqObj "list" (ns.map fun m => Value.ref m.2).toArray 0)) (.ref m.2) (encM m) [] := fun m mm => by
    obtain ⟨u, its, n, e1, e2, e3, e4⟩ := S.here (rowP m) (List.mem_map.mpr ⟨m, pn.mem_iff.mp mm, rfl⟩)
    exact reads_pair ⟨u, n, Heap.get?_push_of_some _ (k1 _ _ e1), e2, e3⟩ e4
  have ei : ∀ l : List PR, (∀ m ∈ l, m ∈ ns) → PySem.W.EachIs (fun (v : Value) (m : PR) => v = .ref m.2) (l.map fun m => Value.ref m.2) l ∧ PySem.W.EachIs (fun (v : Value) (m : PR) => ∃ as, Reads (s1.heap.push (seqObj "list" (ns.map fun m => Value.ref m.2).toArray 0)) v (encM m) as ∧ s1.heap.objs.size ∉ as) (l.map fun m => Value.ref m.2) l := by
    intro l
    induction l with
    | nil => exact fun _ => ⟨.nil, .nil⟩
    | cons m l ih =>
      intro hl
      obtain ⟨i1, i2⟩ := ih fun x mx => hl x (List.mem_cons_of_mem _ mx)
      exact ⟨.cons rfl i1, .cons ⟨[], rd m (hl m (by simp)), by simp⟩ i2⟩
  obtain ⟨ei1, ei2⟩ := ei ns fun _ h => h
  have out1 : ∀ {out : List Value} {l : List PR}, PySem.W.EachIs (fun (v : Value) (m : PR) => v = .ref m.2) out l → out = l.map fun m => Value.ref m.2 := by
    intro out l h
    induction h with
    | nil => rfl
    | cons e _ ih => rw [e, ih]; rfl
  obtain ⟨sp1, sp2⟩ := sort_encM ns
  refine wpAny_bind (wpAny_holding (PySem.W.list_sort_data (s := { s1 with heap := s1.heap.push (seqObj "list" (ns.map fun m => Value.ref m.2).toArray 0) }) (enc := encM) oL ei1 ei2 (PySem.W.AllAlike.of fun x y => by simp [encM, PySem.W.alike, PySem.W.alikeAll]) (PySem.W.Sortable.tuples fun m => ⟨_, _, rfl⟩) (by rw [pn.length_eq, sizeLine_eq]; omega) (fun m _ => ?_) fun out ol oe => ?_))
  · show A.in1.units + 1 + (encM m).depth < cLine
    have e : (encM m).depth ≤ 2 := by
      unfold encM
      simp [PyData.depth, PyData.depthAll]
    have e2 : A.in1.units ≤ A.units + 1 := by simp
    omega
  have eo := out1 oe
  obtain ⟨c, hc⟩ := sortedHeap_at (vs := ns.map fun m => Value.ref m.2) (out := out.toArray) oL
  refine wpAny_pure ⟨_, rfl, q _ s1.heap.objs.size out.toArray c (ns.mergeSort (PySem.W.dataLe false encM)) (fun b u e => ?_) g1 o1 z1 hc (by rw [eo]) (sp1.trans pn) sp2⟩
  have z := k1 _ _ e
  have lt := Heap.lt_size z
  show (sortedHeap (s1.heap.push _) s1.heap.objs.size _ _).get? b = some u
  rw [sortedHeap_old (Nat.ne_of_lt lt) (by rw [size_push']; exact Nat.lt_succ_of_lt lt)]
  exact Heap.get?_push_of_some _ z
end
section
variable {X : Cx} {pins : List (Addr × Obj)} {σ : L2.St} {H : Hp} {s : Shared}
/-- a pair is told -/
abbrev Pair2 (K : PySem.W.Frag) (H : Hp) (m : PR) : Prop := SqT K H m.2 [.int m.1.1, .str m.1.2]
theorem tk_told {m : PR} (I : Inv X pins σ H s) (h : Pair2 X.K H m) : Tk X.prog X.w s.heap (kp m.1) m.2 := by
  obtain ⟨its, r, ⟨o, ho, hc, n, hd⟩, _⟩ := I.tuple h
  exact ⟨o, its.toArray, n, ho, hc, hd, by simpa using tk_pair (P := X.prog) (w := X.w) r⟩
/-- a list or a tuple of these pairs -/
def SqP (K : PySem.W.Frag) (H : Hp) (l : Addr) (ms : List PR) : Prop := SqL K H l (ms.map fun m => V.ref m.2) ∨ SqT K H l (ms.map fun m => V.ref m.2)
/-- set(xs) -/
def rSetP (K : PySem.W.Frag) (P : Program) (w : World) : List V → Hp → VK → Prop := fun xs H Q => ∃ (l : Addr) (ms : List PR), xs = [V.ref l] ∧ SqP K H l ms ∧ (∀ m ∈ ms, Pair2 K H m) ∧ Few (ms.map (·.1)) ∧ ∀ a ns, H a = none → (∀ m ∈ ns, m ∈ ms) → (∀ m ∈ ms, m.1 ∈ ns.map (·.1)) → (ns.map (·.1)).Nodup → Q (.ref a) (upd H a (SetO P w a ns))
theorem cr_setP (hc : X.calm = true) (hu : X.A.units + 64 < cLine) : CallR X (.type "set") (rSetP X.K X.prog X.w) := by
  intro pins s σ H xs us Q I r h
  obtain ⟨l, ms, rfl, hl, hk, few, q⟩ := h
  rw [Vals.ref1 r]
  have hn : H s.heap.objs.size = none := I.hok.fresh (Nat.le_refl _)
  obtain ⟨its, rv, sq⟩ : ∃ its : List Value, Vals (ms.map fun m => V.ref m.2) its ∧ SeqAt2 s.heap l its.toArray := by
    rcases hl with hl | hl
    · obtain ⟨its, rv, pl, _⟩ := I.list hl
      exact ⟨its, rv, .inl pl.isList⟩
    · obtain ⟨its, rv, ⟨o, ho, hc, n, hd⟩, _⟩ := I.tuple hl
      exact ⟨its, rv, .inr ⟨o, ho, hc, n, hd⟩⟩
  refine call_set_tk (P := X.prog) (w := X.w) (ks := ms.map rowP) (I.ok.hd hc) sq (by simpa using refs_vals rv) (fun p mp => ?_) few.cap (by omega) fun h2 tk L D S g k => ?_
  · obtain ⟨m, mm, rfl⟩ := List.mem_map.mp mp
    exact tk_told I (hk m mm)
  obtain ⟨ns, rfl, sub⟩ := rows_of (ms := ms) (L := L) fun p mp => by
    rcases g.sub p mp with m | m
    · cases m
    · obtain ⟨m2, mm, rfl⟩ := List.mem_map.mp (List.mem_of_mem_take m)
      exact ⟨m2, mm, rfl⟩
  refine ⟨.ref s.heap.objs.size, upd H s.heap.objs.size (SetO X.prog X.w s.heap.objs.size ns), I.laid (t' := tk) k (Nat.le_refl _) (setO_ok S.bare), rfl, q _ ns hn sub (fun m mm => ?_) ?_⟩
  · have z := g.all (rowP m) (by rw [List.take_length]; exact List.mem_map.mpr ⟨m, mm, rfl⟩)
    obtain ⟨p, mp, e⟩ := List.mem_map.mp z
    obtain ⟨m2, mm2, rfl⟩ := List.mem_map.mp mp
    exact List.mem_map.mpr ⟨m2, mm2, kp_inj e⟩
  · have z := S.dist
    rw [List.map_map] at z
    refine List.pairwise_map.mpr (List.Pairwise.imp (fun {x y} ne e => ne ?_) (List.pairwise_map.mp z))
    show kp x.1 = kp y.1
    rw [e]
/-- sorted(set) -/
def rSortedP (K : PySem.W.Frag) (P : Program) (w : World) : List V → Hp → VK → Prop := fun xs H Q => ∃ (a : Addr) (ms : List PR), xs = [V.ref a] ∧ H a = some (SetO P w a ms) ∧ (∀ m ∈ ms, Pair2 K H m) ∧
  ∀ (ns : List PR) (p : Addr), ns.Perm ms → ns.Pairwise (fun x y => LeP x.1 y.1) → ns.length ≤ 306 → H p = none → Q (.ref p) (upd H p (.lst (ns.map fun m => V.ref m.2)))
theorem cr_sortedP (hc : X.calm = true) (hu : X.A.units + 64 < cLine) : CallR X (.builtin "sorted") (rSortedP X.K X.prog X.w) := by
  intro pins s σ H vs us Q I r h
  obtain ⟨a, ms, rfl, ha, hk, q⟩ := h
  obtain ⟨D, S⟩ := PSet0.full (I.hok a _ ha).1 fun m mm => tk_told I (hk m mm)
  rw [Vals.ref1 r]
  refine sorted_set_tk S (I.ok.hd hc) (by omega) fun s2 p out c ns k g o hp hg eo pm pw => ?_
  have few : ns.length ≤ 306 := by
    rw [pm.length_eq]
    have z := S.few
    rw [List.length_map] at z
    exact z
  have hn : H p = none := I.hok.fresh hp
  have J : Inv X pins σ (upd H p (.lst (ns.map fun m => V.ref m.2))) { s with heap := s2.heap, gens := s2.gens, drawn := s2.drawn, toks := s2.toks } :=
    I.call (ch := []) (Un.laid k hp hn) (I.hok.laid k hp ⟨by rw [List.length_map, sizeLine_eq]; omega, out.toList, c, by rw [eo]; exact vals_refs ns, hg⟩) (by rw [g]; exact I.bare) (fun _ z => nomatch z)
  have e : s2 = { s with heap := s2.heap, gens := s2.gens, drawn := s2.drawn, toks := s2.toks } := by
    cases s2
    cases s
    cases o
    rfl
  rw [e]
  exact ⟨.ref p, _, J, rfl, q ns p pm pw few hn⟩
end
end Own

set_option Elab.async false
set_option linter.all false
set_option maxRecDepth 100000
set_option maxHeartbeats 4000000
/-! Own __len__ and __bool__ in one class; a class called by a variable; sorted lists of pairs. -/
namespace Own
open PySem PySem.Spec PyProof.Rows L2
def limN : Int := 10 ^ 60
structure LenF (K : PySem.W.Frag) (C f : Addr) : Prop where
  at_ : PySem.W.findIn K (.ref C) "__len__" = some (some (.ref f))
  fn : PySem.W.isFn K (.ref f) = true
structure BoolC (K : PySem.W.Frag) (C f : Addr) : Prop where
  at_ : PySem.W.findIn K (.ref C) "__bool__" = some (some (.ref f))
  fn : PySem.W.isFn K (.ref f) = true
def hasB (K : PySem.W.Frag) (x m : Str) : Bool := decide (PySem.W.findIn K (.ref (He.ga K x)) m = some (some (.ref (He.ma K (He.ga K x) m)))) && PySem.W.isFn K (.ref (He.ma K (He.ga K x) m))
theorem lenF_of {K : PySem.W.Frag} {x : Str} (c : hasB K x "__len__" = true) : LenF K (He.ga K x) (He.ma K (He.ga K x) "__len__") := by
  simp only [hasB, Bool.and_eq_true, decide_eq_true_eq] at c
  exact ⟨c.1, c.2⟩
theorem boolC_of {K : PySem.W.Frag} {x : Str} (c : hasB K x "__bool__" = true) : BoolC K (He.ga K x) (He.ma K (He.ga K x) "__bool__") := by
  simp only [hasB, Bool.and_eq_true, decide_eq_true_eq] at c
  exact ⟨c.1, c.2⟩
section
variable {X : Cx} {CX : CXT} {k : Nat} {C f : Addr} {sp : Sp} {E : XK}
theorem call_lenF (c : LenF X.K C f) (F : FnR X.prog X.w X.K X.mg X.base CX k f sp) (hr : Room (k + 1) X.A) (hx : Passes CX X E) : CallR X (.builtin "len") (rLenO C sp E) := by
  intro pins s σ H xs us Q I r h
  obtain ⟨a, dx, fs, rfl, ha, q⟩ := h
  obtain rfl := Vals.ref1 r
  obtain ⟨ox, od, J⟩ := ins_at I ha
  obtain ⟨m, hF⟩ := I.fr
  refine PySem.W.len_K hF I.ok.mod.kin J c.at_ c.fn (wpAny_call (codeAny_mono (F X.A.in1 X.stack s H [.ref a] [.ref a] _ E hr.in1 I.env0.in1 (.cons rfl .nil) q) fun r s2 hq => ?_))
  match r, hq with
  | .error er, hq => exact hx pins σ H s er s2 I hq
  | .ok .next, hq => exact False.elim hq
  | .ok .brk, hq => exact False.elim hq
  | .ok .cont, hq => exact False.elim hq
  | .ok (.ret u), hq =>
    obtain ⟨z, H2, I2, rz, n, rfl, hn, qz⟩ := I.after hq
    obtain ⟨t, rfl⟩ := rz
    exact ⟨⟨by omega, by omega⟩, .int n, H2, I2.tok _, ⟨_, rfl⟩, qz⟩
def rBoolF (C : Addr) (sp : Sp) (E : XK) : List V → Hp → VK → Prop := fun xs H Q => ∃ a dx fs, xs = [V.ref a] ∧ H a = some (.ins C dx fs) ∧ sp [.ref a] H (fun v H2 => ∃ b : Bool, v = .bl b ∧ Q (.bl b) H2) E
theorem call_boolF (c : BoolC X.K C f) (F : FnR X.prog X.w X.K X.mg X.base CX k f sp) (hr : Room (k + 2) X.A) (hx : Passes CX X E) : CallR X (.type "bool") (rBoolF C sp E) := by
  intro pins s σ H xs us Q I r h
  obtain ⟨a, dx, fs, rfl, ha, q⟩ := h
  obtain rfl := Vals.ref1 r
  obtain ⟨ox, od, J⟩ := ins_at I ha
  refine call_bool_any ?_
  unfold truthy
  refine wpAny_bind (m := callSpecial? (.ref a) (Str.ofString "__bool__")) (PySem.W.special_fn I.kIn J c.at_ (beq_iff_eq.mp c.fn) (wpAny_call (codeAny_mono (F X.A.in1.in1 X.stack s H [.ref a] [.ref a] _ E hr.in1.in1 I.env0.in1.in1 (.cons rfl .nil) q) fun r s2 hq => ?_)))
  match r, hq with
  | .error er, hq => exact hx pins σ H s er s2 I hq
  | .ok .next, hq => exact False.elim hq
  | .ok .brk, hq => exact False.elim hq
  | .ok .cont, hq => exact False.elim hq
  | .ok (.ret u), hq =>
    obtain ⟨z, H2, I2, rz, b, rfl, qz⟩ := I.after hq
    have e : u = Value.bool b := rz
    subst e
    exact wpAny_pure ⟨.bl b, H2, I2, rfl, qz⟩
/-- a class that a variable holds, called -/
theorem pe_makeV {fd : FuncData} {ps : List Str} {ds : List Value} {dvs : List V} {te : TE} {t : TA} {fe e : Expr} {es : List Expr} {pos : Pos} (he : PE X fe te) (M : L2.Mk X.K C f) (F : FnOk X.prog X.w X.K X.mg X.base CX k f fd ps sp) (hr : Room (k + 1) X.A) (hb : Binds X.K fd ps ds) (hd : Vals dvs ds) (hx : Passes CX X E) (ha : PA X (e :: es) t)
    (hst : starEach (e :: es) X.env = (false, eval e X.env) :: starEach es X.env := by rfl) (hpl : (backTo pos (starEach es X.env)).any (·.1) = false := by rfl)
    (hev : eval (.Call fe (e :: es) [] pos) X.env = (eval fe X.env >>= fun v => callWith pos v [] (backTo pos (starEach (e :: es) X.env)) (backToKw pos (keywordEach [] X.env))) := by rfl) : PE X (.Call fe (e :: es) [] pos) (fun σ H Q => te σ H fun x H1 => x = .ref C ∧ tMake C sp dvs E t σ H1 Q) := by
  refine ⟨fun pins s σ H Q I h => ?_⟩
  rw [hev]
  refine wpAny_bind (thn (he.run pins s σ H _ I h) fun u s1 z => ?_)
  obtain ⟨x, H1, I1, rx, rfl, q⟩ := z
  have e1 : u = Value.ref C := rx
  subst e1
  exact PySem.W.callWith_K (h₀ := X.base) I1.ok.mod.kin M.kp (thn (ha.run pos pins s1 σ H1 _ I1 q) fun us s2 ⟨vs, H2, I2, r, q2⟩ => ⟨I2.kIn, run_make M F hr hb hd hx I2 r q2⟩) hst hpl
end
section
variable {X : Cx}
/-- bool of a tuple -/
theorem call_boolT : CallR X (.type "bool") (fun xs H Q => ∃ (a : Addr) (zs : List V), xs = [.ref a] ∧ SqT X.K H a zs ∧ Q (.bl (!zs.isEmpty)) H) := by
  intro pins s σ H xs us Q I r h
  obtain ⟨a, zs, rfl, hq, q⟩ := h
  obtain rfl := Vals.ref1 r
  obtain ⟨its, rv, tp, hz⟩ := I.tuple hq
  have hl := line63
  have hlen := rv.length
  refine call_bool_any (truthy_tuple tp (by simp only [List.size_toArray]; omega) ?_)
  exact ⟨.bl (!zs.isEmpty), H, I.tok _, by rw [isEmpty_of rv]; rfl, q⟩
end
section
variable {X : Cx}
/-- sorted(xs), a list of pairs -/
def rSortPL (K : PySem.W.Frag) : List V → Hp → VK → Prop := fun xs H Q => ∃ (l : Addr) (ms : List PR), xs = [V.ref l] ∧ SqL K H l (ms.map fun m => V.ref m.2) ∧ (∀ m ∈ ms, Pair2 K H m) ∧ ms.length ≤ 100000 ∧
  ∀ (ns : List PR) (p : Addr), ns.Perm ms → ns.Pairwise (fun x y => LeP x.1 y.1) → H p = none → Q (.ref p) (upd H p (.lst (ns.map fun m => V.ref m.2)))
theorem cr_sortPL (hu : X.A.units + 64 < cLine) : CallR X (.builtin "sorted") (rSortPL X.K) := by
  intro pins s σ H vs us Q I r h
  obtain ⟨l, ms, rfl, hl, hk, few, q⟩ := h
  rw [Vals.ref1 r]
  obtain ⟨its, rv, pl, _⟩ := I.list hl
  have ei : its = ms.map fun m => Value.ref m.2 := by
    have z := refs_vals rv
    rw [z, List.map_map]
    rfl
  subst ei
  have rd : ∀ m ∈ ms, Reads s.heap (.ref m.2) (encM m) [] := fun m mm => by
    obtain ⟨u, jts, n, e1, e2, e3, e4⟩ := tk_told I (hk m mm)
    exact reads_pair ⟨u, n, e1, e2, e3⟩ e4
  have ek : ∀ l : List PR, (∀ m ∈ l, m ∈ ms) → PySem.W.EachIs (fun (v : Value) (m : PR) => v = .ref m.2) (l.map fun m => Value.ref m.2) l ∧ PySem.W.EachIs (fun (v : Value) (m : PR) => ∃ as, Reads s.heap v (encM m) as) (l.map fun m => Value.ref m.2) l := by
    intro l
    induction l with
    | nil => exact fun _ => ⟨.nil, .nil⟩
    | cons m l ih =>
      intro hl
      obtain ⟨i1, i2⟩ := ih fun x mx => hl x (List.mem_cons_of_mem _ mx)
      exact ⟨.cons rfl i1, .cons ⟨[], rd m (hl m (by simp))⟩ i2⟩
  obtain ⟨ek1, ek2⟩ := ek ms fun _ h => h
  have out1 : ∀ {out : List Value} {l : List PR}, PySem.W.EachIs (fun (v : Value) (m : PR) => v = .ref m.2) out l → out = l.map fun m => Value.ref m.2 := by
    intro out l h
    induction h with
    | nil => rfl
    | cons e _ ih => rw [e, ih]; rfl
  obtain ⟨sp1, sp2⟩ := sort_encM ms
  refine PySem.W.sorted_data (enc := encM) pl.isList ek1 ek2 (PySem.W.AllAlike.of fun x y => by simp [encM, PySem.W.alike, PySem.W.alikeAll]) (PySem.W.Sortable.tuples fun m => ⟨_, _, rfl⟩) (by rw [sizeLine_eq]; omega) (fun m _ => ?_) fun out ol oe => ?_
  · have e : (encM m).depth ≤ 2 := by
      unfold encM
      simp [PyData.depth, PyData.depthAll]
    omega
  have eo := out1 oe
  obtain ⟨c, hc⟩ := PyProof.Rows.sortedAll_at s.heap (ms.map fun m => Value.ref m.2) out.toArray
  have hn : H (s.heap.objs.size + 1) = none := I.hok.fresh (Nat.le_succ _)
  refine ⟨.ref (s.heap.objs.size + 1), _, I.laid (t' := s.toks) (o := .lst ((ms.mergeSort (PySem.W.dataLe false encM)).map fun m => V.ref m.2)) (fun b u e => PyProof.Rows.sortedAll_old e) (Nat.le_succ _) ⟨?_, out, c, ?_, ?_⟩, rfl, q _ _ sp1 sp2 hn⟩
  · rw [List.length_map, sp1.length_eq, sizeLine_eq]
    omega
  · rw [eo]
    exact vals_refs _
  · exact hc
end
end Own

set_option Elab.async false
set_option linter.all false
set_option maxRecDepth 100000
set_option maxHeartbeats 4000000
/-! The look with tables and defs that stand anywhere: classmethods. -/
namespace Own
open PySem PySem.Spec PyProof.Rows L2
/-- a def of the text: where it stands, what else is asked, what it is -/
structure AdD where
  at_ : PySem.W.Frag → Addr
  ok : PySem.W.Frag → Bool
  val : He.FnW
def obsA (chk : PySem.W.Frag → Bool) (fn : List He.DefD) (tf : List He.Defn) (pr : List AdD) (g : Addr → Option Obj) (as : List Addr) : He.AlD := ((obsY chk fn tf g as).1 && pr.all fun d => d.ok (He.frT g as), (obsY chk fn tf g as).2 ++ pr.map fun d => fnWA (He.frT g as) (d.at_ (He.frT g as)))
def valA (fn : List He.DefD) (pr : List AdD) : He.AlD := (true, fn.map He.DefD.val ++ pr.map AdD.val)
def AdsA (pr : List AdD) (K : PySem.W.Frag) : Prop := ∀ d ∈ pr, fnWA K (d.at_ K) = d.val ∧ d.ok K = true
theorem saysA {chk : PySem.W.Frag → Bool} {fn : List He.DefD} {tf : List He.Defn} {pr : List AdD} {h : Heap} {as : List Addr} (e : obsA chk fn tf pr h.get? as = valA fn pr) : obsN chk fn (He.frT h.get? as) = He.valD fn ∧ TabsY tf (He.frT h.get? as) h ∧ AdsA pr (He.frT h.get? as) := by
  have e1 : ((obsY chk fn tf h.get? as).1 && pr.all fun d => d.ok (He.frT h.get? as)) = true := congrArg (fun z : He.AlD => z.1) e
  have e2 : (obsA chk fn tf pr h.get? as).2 = (valA fn pr).2 := congrArg (fun z : He.AlD => z.2) e
  have e3 : (obsY chk fn tf h.get? as).2 ++ (pr.map fun d => fnWA (He.frT h.get? as) (d.at_ (He.frT h.get? as))) = fn.map He.DefD.val ++ pr.map AdD.val := e2
  obtain ⟨h1, h2⟩ := He.ba e1
  have l : (obsY chk fn tf h.get? as).2.length = (fn.map He.DefD.val).length := by
    show (fn.map _).length = _
    rw [List.length_map, List.length_map]
  obtain ⟨e4, e5⟩ := List.append_inj e3 l
  obtain ⟨a, b⟩ := saysY (chk := chk) (fn := fn) (tf := tf) (h := h) (as := as) (Prod.ext h1 e4)
  refine ⟨a, b, fun d hd => ⟨?_, List.all_eq_true.mp h2 d hd⟩⟩
  exact List.map_inj_left.mp e5 d hd
def hookA (chk : PySem.W.Frag → Bool) (fn : List He.DefD) (tf : List He.Defn) (pr : List AdD) : PySem.W.Hook where
  α := He.AlD
  obs := fun s => obsA chk fn tf pr s.heap.get? (List.range s.heap.objs.size)
  val := fun _ => valA fn pr
  says := fun _ h => ∃ K : PySem.W.Frag, K.In h ∧ obsN chk fn K = He.valD fn ∧ TabsY tf K h ∧ AdsA pr K
  of := fun _ _ e => ⟨_, He.frT_in, saysA e⟩
  keeps := fun _ _ _ ⟨K, hK, c, t, p⟩ k => ⟨K, PySem.W.Frag.In.keeps hK k, c, fun p hp => ⟨(t p hp).1, (t p hp).2.1, k _ _ (t p hp).2.2⟩, p⟩
def obA (chk : PySem.W.Frag → Bool) (fn : List He.DefD) (tf : List He.Defn) (pr : List AdD) (s : PySem.W.SharedT) : He.AlD := obsA chk fn tf pr (HandSHeadRun.getT s) (List.range s.n)
theorem obA_eq {chk : PySem.W.Frag → Bool} {fn : List He.DefD} {tf : List He.Defn} {pr : List AdD} (s : PySem.W.SharedT) : obA chk fn tf pr s = (hookA chk fn tf pr).obs s.abs := by
  have look : HandSHeadRun.getT s = s.abs.heap.get? := funext (HandSHeadRun.getT_eq s)
  have size : s.n = s.abs.heap.objs.size := (PySem.W.absHeap_size s.tree s.n s.life).symm
  show obsA chk fn tf pr (HandSHeadRun.getT s) (List.range s.n) = obsA chk fn tf pr s.abs.heap.get? (List.range s.abs.heap.objs.size)
  rw [look, size]
/-- a def without defaults, its code known -/
def defOk (K : PySem.W.Frag) (a : Addr) (qual : Str) : Bool := match K.lookup a with
  | some ⟨_, _, .func fd, _⟩ => PySem.W.codeIn K fd.code qual && (match fd.defaults with
    | .none => true
    | _ => false)
  | _ => false
theorem funG_of {K : PySem.W.Frag} {a : Addr} {m qual : Str} {st : Stmt} (e : fnWA K a = some (m, qual, defArgs st, .stmts (defBody st), defScope st, mainGlobals, [], builtinsNs)) (c : defOk K a qual = true) : ∃ fd, FunG K m qual st a fd := by
  unfold defOk at c
  unfold fnWA at e
  cases q : K.lookup a with
  | none =>
    rw [q] at c
    cases c
  | some o =>
    obtain ⟨oc, od, dt, osl⟩ := o
    rw [q] at c e
    cases dt with
    | func fd =>
      obtain ⟨n1, n2, n3, n4, n5, n6, n7, n8, n9, n10, n11, n12, n13, n14, n15⟩ := fd
      have e2 : (some (n1, n2, n3, n4, n5, n6, n7, n15) : He.FnW) = some (m, qual, defArgs st, .stmts (defBody st), defScope st, mainGlobals, [], builtinsNs) := e
      simp only [Option.some.injEq, Prod.mk.injEq] at e2
      obtain ⟨rfl, rfl, rfl, rfl, rfl, rfl, rfl, rfl⟩ := e2
      obtain ⟨k1, k2⟩ := He.ba c
      cases n8 with
      | none => exact ⟨_, ⟨oc, od, n9, n10, n11, n12, n13, n14, osl, rfl, q, k1⟩⟩
      | _ => cases k2
    | _ => cases c
/-- a classmethod m of the class at C -/
structure CmT (K : PySem.W.Frag) (C : Addr) (m q : Str) (st : Stmt) where
  p : Addr
  a : Addr
  d : FuncData
  F : FunG K m q st a d
  cr : ClX.CRead K C (.type "type")
  cm : ClX.CMet K C (.type "type") m p a
def cmOk (c m qual : Str) (K : PySem.W.Frag) : Bool := He5.wrapB K (He.ga K c) "classmethod" "classmethod.__get__" m && (PySem.W.fnIn K (He5.wf K (He.ga K c) "classmethod" m) && (PySem.W.readsIn K (He.ga K c) (.type "type") && (decide (PySem.W.specialIn K (.ref (He.ga K c)) "__getattribute__" = some (some (.builtin "type.__getattribute__"))) && defOk K (He5.wf K (He.ga K c) "classmethod" m) qual)))
def cmD (c m qual : Str) (st : Stmt) : AdD := ⟨fun K => He5.wf K (He.ga K c) "classmethod" m, cmOk c m qual, some (m, qual, defArgs st, .stmts (defBody st), defScope st, mainGlobals, [], builtinsNs)⟩
theorem cmD_ok {K : PySem.W.Frag} {c m qual : Str} {st : Stmt} (e : fnWA K ((cmD c m qual st).at_ K) = (cmD c m qual st).val) (h : (cmD c m qual st).ok K = true) : Nonempty (CmT K (He.ga K c) m qual st) := by
  obtain ⟨h1, h⟩ := He.ba (show cmOk c m qual K = true from h)
  obtain ⟨h2, h⟩ := He.ba h
  obtain ⟨h3, h⟩ := He.ba h
  obtain ⟨h4, h5⟩ := He.ba h
  obtain ⟨fd, F⟩ := funG_of e h5
  exact ⟨⟨_, _, fd, F, ⟨h3, of_decide_eq_true h4⟩, He5.cmet_of h1 h2⟩⟩
/-- def m(cls, *rest) of a class -/
theorem okStar1 {P : Program} {w : World} {K : PySem.W.Frag} {mg : Str → Option Value} {base : Heap} {m qual : Str} {st : Stmt} {f : Addr} {fd : FuncData} {N : List Str} {p1 pv : Str} {k : Nat} {sp : Sp} (F : FunG K m qual st f fd) (S : FnScope N [p1, pv] (defScope st))
    (h0 : ∀ (kV doc pm : Value) (an : Option Addr) (cdv ct : Value) (a : Value), bindArgs (PySem.W.fnOf m qual (defArgs st) (defBody st) (defScope st) .none kV doc pm an cdv ct) ⟨[a], []⟩ = (newTuple [] >>= fun t => pure [(p1, a), (pv, t)]))
    (h1 : ∀ (kV doc pm : Value) (an : Option Addr) (cdv ct : Value) (a r : Value) (rs : List Value), bindArgs (PySem.W.fnOf m qual (defArgs st) (defBody st) (defScope st) .none kV doc pm an cdv ct) ⟨a :: r :: rs, []⟩ = (newTuple (r :: rs) >>= fun t => pure [(p1, a), (pv, t)]))
    (body : ∀ (cdv : Value) (A : Around) (outer : List Env) (s : Shared) (H : Hp) (vs : List V) (Q : VK) (E : XK), Room k (A.deeper (envOfC qual (defScope st) s.heap.objs.size f cdv)) → sp vs H Q E →
      ∃ t, PSs (cxOf CX0 P w K mg base N qual (defScope st) f cdv A outer s H E).nox (defBody st) t ∧ t { nx := fun _ H' => Q .non H', rt := Q } (start N vs) H) :
    FnR P w K mg base CX0 (k + 1) f (fun vs H Q E => ∃ (a : V) (rest : List V), vs = a :: rest ∧ rest.length ≤ sizeLine ∧ ∀ p, H p = none → sp [a, .ref p] (upd H p (.tup rest)) Q E) := by
  obtain ⟨oc, od, kV, doc, pm, an, cdv, ct, osl, rfl, lk, hcd⟩ := F.ex
  have z := StX.fn_star (ps := [p1]) (pv := pv) (CX := CX0) lk hcd S StX.cxUp_none (StX.bind_star1 (B := fun us => bindArgs (PySem.W.fnOf m qual (defArgs st) (defBody st) (defScope st) .none kV doc pm an cdv ct) ⟨us, []⟩) (p1 := p1) (h0 kV doc pm an cdv ct) (h1 kV doc pm an cdv ct)) fun A outer s H vs Q E hr hsp => by
    obtain ⟨t, h, q⟩ := body cdv A outer s H vs Q E hr hsp
    exact ⟨t, h.nox, q⟩
  intro A outer s H us vs Q E hr e0 r hsp
  obtain ⟨a, rest, rfl, hz, q⟩ := hsp
  exact z A outer s H us (a :: rest) Q E hr e0 r ⟨[a], rest, rfl, rfl, hz, q⟩
end Own

set_option Elab.async false
set_option linter.all false
set_option maxRecDepth 100000
set_option maxHeartbeats 4000000
/-! Words of pairs: a number's text, a colon, an identifier. -/
namespace Own
open PySem PySem.Spec PyProof.Rows L2
/-- int(x) of a text -/
def rIntT : List V → Hp → VK → Prop := fun xs H Q => ∃ (x : Str) (n : Int), xs = [.str x] ∧ x.length ≤ 640 ∧ intText? x = some n ∧ Q (.int n) H
theorem call_intT {X : Cx} : CallR X (.type "int") rIntT := by
  intro pins s σ H xs us Q I r h
  obtain ⟨x, n, rfl, hl, hn, q⟩ := h
  obtain ⟨u, rfl, t, rfl⟩ := vals1 r
  exact PySem.W.KIN.call_text hn hl ⟨.int n, H, I.tok _, ⟨_, rfl⟩, q⟩
/-- a number's text -/
def numT (n : Int) : Str := Str.ofString (toString n)
def headOf (x : Str) : Option Nat := (TL.tl x).head?
/-- a decimal number without a leading zero, of 60 digits at most -/
def isDec (x : Str) : Bool := decide (1 ≤ (TL.tl x).length) && decide ((TL.tl x).length ≤ 60) && (TL.tl x).all dgt && (decide (TL.tl x = [48]) || decide (headOf x ≠ some 48))
theorem tl_numT {n : Int} (h : 0 ≤ n) : TL.tl (numT n) = TL.numL n.toNat := by
  obtain ⟨m, rfl⟩ := Int.eq_ofNat_of_zero_le h
  exact TL.tl_num m
theorem numL_head (n : Nat) : n = 0 ∨ ∃ c r, TL.numL n = c :: r ∧ c ≠ 48 := by
  induction n using Nat.strongRecOn with
  | _ n ih =>
    by_cases h : n < 10
    · rw [TL.numL_lt h]
      by_cases z : n = 0
      · exact .inl z
      · exact .inr ⟨_, _, rfl, by omega⟩
    · rw [TL.numL_step (by omega)]
      rcases ih (n / 10) (by omega) with z | ⟨c, r, e, hc⟩
      · omega
      · rw [e]
        exact .inr ⟨c, _, rfl, hc⟩
theorem numT_len {n : Int} (h0 : 0 ≤ n) (h1 : n < limN) : (TL.tl (numT n)).length ≤ 60 := by
  rw [tl_numT h0]
  refine TL.numL_len (by decide) ?_
  have e : limN = ((10 ^ 60 : Nat) : Int) := by decide +kernel
  rw [e] at h1
  omega
theorem numT_dec {n : Int} (h0 : 0 ≤ n) (h1 : n < limN) : isDec (numT n) = true := by
  have hl := numT_len h0 h1
  have ne := TL.numL_ne n.toNat
  have l1 : 1 ≤ (TL.tl (numT n)).length := by
    rw [tl_numT h0]
    cases e : TL.numL n.toNat with
    | nil => exact absurd e ne
    | cons c r => simp
  have al : (TL.tl (numT n)).all dgt = true := by
    rw [tl_numT h0, List.all_eq_true]
    intro c hc
    have z := TL.numL_digits n.toNat c hc
    simp [dgt, z]
  unfold isDec
  rw [decide_eq_true hl, decide_eq_true l1, al]
  rcases numL_head n.toNat with z | ⟨c, r, e, hc⟩
  · have e : TL.tl (numT n) = [48] := by
      rw [tl_numT h0, z]
      rfl
    rw [decide_eq_true e]
    rfl
  · have e2 : headOf (numT n) ≠ some 48 := by
      unfold headOf
      rw [tl_numT h0, e]
      simpa using hc
    rw [decide_eq_true e2]
    simp
theorem numT_read {n : Int} (h0 : 0 ≤ n) (h1 : n < limN) : intText? (numT n) = some n := by
  have hl := numT_len h0 h1
  rw [tl_numT h0] at hl
  obtain ⟨m, rfl⟩ := Int.eq_ofNat_of_zero_le h0
  exact TL.int_num (n := m) (Nat.le_trans hl (by decide))
theorem numT_log {n : Int} (h0 : 0 ≤ n) (h1 : n < limN) : n.natAbs.log2 < 1920 := by
  have e : limN = ((10 ^ 60 : Nat) : Int) := by decide +kernel
  rw [e] at h1
  by_cases z : n.natAbs = 0
  · rw [z]
    decide
  · exact (Nat.log2_lt z).mpr (Nat.lt_of_lt_of_le (show n.natAbs < 10 ^ 60 by omega) (by decide +kernel))
/-- the word of a pair -/
def wordP (m : PI) : Str := numT m.1 ++ ":" ++ m.2
def textP (ms : List PI) : Str := Txt.join " " (ms.map wordP)
theorem tl_colon : TL.tl (":" : Str) = [58] := by decide +kernel
theorem tl_space : TL.tl (" " : Str) = [32] := by decide +kernel
theorem ident_free {x : Str} {c : Nat} (h : isIdent x = true) (hc : sgn c = false) : c ∉ TL.tl x := fun m => by
  have w : isWord x = true := by
    unfold isIdent at h
    simp only [Bool.and_eq_true] at h
    exact h.1.1
  have z := List.all_eq_true.mp (word_all w) c m
  rw [hc] at z
  cases z
theorem word_cut {m : PI} (h0 : 0 ≤ m.1) : Txt.partition (wordP m) ":" = (numT m.1, (":" : Str), m.2) := TL.partition_app tl_colon (by rw [tl_numT h0]; exact TL.numL_free (.inr (by decide)))
theorem word_space {m : PI} (h0 : 0 ≤ m.1) (hi : isIdent m.2 = true) : 32 ∉ TL.tl (wordP m) := by
  unfold wordP
  rw [TL.tl_append, TL.tl_append, tl_colon, tl_numT h0]
  intro z
  rcases List.mem_append.mp z with z | z
  · rcases List.mem_append.mp z with z | z
    · exact TL.numL_free (.inl (by decide)) z
    · simp at z
  · exact ident_free hi (by decide) z
theorem len_app2 (x y : Str) : (x ++ y).length = x.length + y.length := by rw [TL.len_tl, TL.len_tl x, TL.len_tl y, TL.tl_append, List.length_append]
theorem word_size {m : PI} (h0 : 0 ≤ m.1) (h1 : m.1 < limN) (hi : isIdent m.2 = true) : 3 ≤ (wordP m).length ∧ (wordP m).length ≤ 73 := by
  have w : isWord m.2 = true := by
    unfold isIdent at hi
    simp only [Bool.and_eq_true] at hi
    exact hi.1.1
  have a := word_len w
  have b := numT_len h0 h1
  have c : 1 ≤ (TL.tl (numT m.1)).length := by
    rw [tl_numT h0]
    cases e : TL.numL m.1.toNat with
    | nil => exact absurd e (TL.numL_ne _)
    | cons c r => simp
  unfold wordP
  rw [len_app2, len_app2, TL.len_tl (numT m.1), TL.len_tl (":" : Str), tl_colon]
  simp only [List.length_cons, List.length_nil]
  omega
theorem text_cut {ms : List PI} (ne : ms ≠ []) (ok : ∀ m ∈ ms, 0 ≤ m.1 ∧ isIdent m.2 = true) : Txt.split (textP ms) " " = ms.map wordP := by
  refine TL.split_join tl_space (by decide +kernel) (fun e => ne (List.map_eq_nil_iff.mp e)) fun p mp => ?_
  obtain ⟨m, mm, rfl⟩ := List.mem_map.mp mp
  exact word_space (ok m mm).1 (ok m mm).2
theorem join_size (S : List Nat) : ∀ (ps : List (List Nat)), (∀ p ∈ ps, p.length ≤ 73) → (TL.joinL S ps).length ≤ ps.length * (73 + S.length)
  | [], _ => by simp [TL.joinL]
  | [p], h => by
    have := h p (by simp)
    simp only [TL.joinL, List.length_cons, List.length_nil]
    omega
  | p :: q :: r, h => by
    have a := h p (by simp)
    have b := join_size S (q :: r) fun x hx => h x (List.mem_cons_of_mem _ hx)
    rw [show TL.joinL S (p :: q :: r) = p ++ (S ++ TL.joinL S (q :: r)) from rfl, List.length_append, List.length_append, List.length_cons]
    rw [Nat.succ_mul]
    omega
theorem text_size {ms : List PI} (ok : ∀ m ∈ ms, 0 ≤ m.1 ∧ m.1 < limN ∧ isIdent m.2 = true) : (textP ms).length ≤ ms.length * 74 := by
  unfold textP
  rw [TL.join_eq, TL.len_tl, TL.tl_join, tl_space]
  have z := join_size [32] ((ms.map wordP).map TL.tl) fun p mp => by
    obtain ⟨x, mx, rfl⟩ := List.mem_map.mp mp
    obtain ⟨m, mm, rfl⟩ := List.mem_map.mp mx
    have y := (word_size (ok m mm).1 (ok m mm).2.1 (ok m mm).2.2).2
    rw [TL.len_tl] at y
    exact y
  rw [List.length_map, List.length_map] at z
  exact z
theorem text_some {ms : List PI} (ne : ms ≠ []) (ok : ∀ m ∈ ms, 0 ≤ m.1 ∧ m.1 < limN ∧ isIdent m.2 = true) : textP ms ≠ "" := fun e => by
  have z := congrArg TL.tl e
  unfold textP at z
  rw [TL.join_eq, TL.tl_join] at z
  have z2 : TL.joinL (TL.tl (" " : Str)) ((ms.map wordP).map TL.tl) = [] := z
  match ms, ne, ok with
  | [m], _, ok =>
    have y := (word_size (ok m (by simp)).1 (ok m (by simp)).2.1 (ok m (by simp)).2.2).1
    rw [TL.len_tl] at y
    have z3 : TL.tl (wordP m) = [] := z2
    rw [z3] at y
    simp at y
  | m :: n :: r, _, ok =>
    have y := (word_size (ok m (by simp)).1 (ok m (by simp)).2.1 (ok m (by simp)).2.2).1
    rw [TL.len_tl] at y
    have z3 : TL.tl (wordP m) ++ (TL.tl (" " : Str) ++ TL.joinL (TL.tl (" " : Str)) (((n :: r).map wordP).map TL.tl)) = [] := z2
    rw [(List.append_eq_nil_iff.mp z3).1] at y
    simp at y
theorem text_nil : textP [] = "" := rfl
theorem text_sum {ms : List PI} (ok : ∀ m ∈ ms, 0 ≤ m.1 ∧ m.1 < limN ∧ isIdent m.2 = true) : ((ms.map wordP).map (·.length)).sum ≤ ms.length * 73 := by
  induction ms with
  | nil => simp
  | cons m ms ih =>
    have a := (word_size (ok m (by simp)).1 (ok m (by simp)).2.1 (ok m (by simp)).2.2).2
    have b := ih fun x mx => ok x (List.mem_cons_of_mem _ mx)
    rw [List.map_cons, List.map_cons, List.sum_cons, List.length_cons, Nat.succ_mul]
    omega
/-- as an f-string lays it -/
theorem word_f (m : PI) : Str.empty ++ numT m.1 ++ ":" ++ m.2 = wordP m := by
  have e : Str.empty ++ numT m.1 = numT m.1 := by
    have z : [TL.tl (Str.empty ++ numT m.1)] = [TL.tl (numT m.1)] := by
      rw [TL.tl_append]
      rfl
    have y := TL.map_tl_inj (l := [Str.empty ++ numT m.1]) (m := [numT m.1]) z
    simpa using y
  rw [e]
  rfl
section
variable {X : Cx} {CX : CXT} {k : Nat} {C f : Addr} {sp : Sp} {E : XK}
/-- a class that a variable holds, called without arguments -/
theorem pe_makeV0 {fd : FuncData} {ps : List Str} {ds : List Value} {dvs : List V} {te : TE} {fe : Expr} {pos : Pos} (he : PE X fe te) (M : L2.Mk X.K C f) (F : FnOk X.prog X.w X.K X.mg X.base CX k f fd ps sp) (hr : Room (k + 1) X.A) (hb : Binds X.K fd ps ds) (hd : Vals dvs ds) (hx : Passes CX X E)
    (hev : eval (.Call fe [] [] pos) X.env = (eval fe X.env >>= fun v => callWith pos v [] (backTo pos (starEach [] X.env)) (backToKw pos (keywordEach [] X.env))) := by rfl) : PE X (.Call fe [] [] pos) (fun σ H Q => te σ H fun x H1 => x = .ref C ∧ tMake C sp dvs E tNil σ H1 Q) := by
  refine ⟨fun pins s σ H Q I h => ?_⟩
  rw [hev]
  refine wpAny_bind (thn (he.run pins s σ H _ I h) fun u s1 z => ?_)
  obtain ⟨x, H1, I1, rx, rfl, q⟩ := z
  have e1 : u = Value.ref C := rx
  subst e1
  exact PySem.W.callWith_K0 I1.kIn M.kp (run_make (us := []) M F hr hb hd hx I1 .nil q)
end
end Own

set_option Elab.async false
set_option linter.all false
set_option maxRecDepth 100000
set_option maxHeartbeats 4000000
/-! A comprehension that an exception of a call in its element leaves. -/
namespace Own
open PySem PySem.Spec PyProof.Rows L2
/-- the frames stand on a smaller ground too -/
theorem frames_less {h B B2 : Heap} (k : ∀ b, B.get? b = none → B2.get? b = none) : ∀ {l : List Env}, h.FunFrames B l → h.FunFrames B2 l
  | [], _ => True.intro
  | _ :: _, ⟨a, ⟨L, o, f, n, g, d⟩, r⟩ => ⟨a, ⟨L, o, f, k L n, g, d⟩, frames_less k r⟩
/-- an exception that a call let out flies: it is neither new nor held here -/
theorem flies {B0 B : Heap} {l l2 : List Env} {a L : Addr} {Z Z2 : Obj → Prop} {h : Heap} (f : HandSPX.FlyingZ B0 l a Z h) (s : Sky B l2 a Z2 L h) : HandSPX.FlyingZ B l2 a Z2 h := by
  obtain ⟨_, _, _, oe, vs, T, oT, ts, g1, _, g2, g3, _, _, g4, g5, g6⟩ := f
  rcases s with ⟨_, _, _, ox, us, e1, _, e2, e3⟩ | s | ⟨_, _, _, ox, us, T2, oT2, ts2, e1, _, e2, e3, _, _, e4, e5, e6⟩
  · rw [g1] at e1
    cases e1
    rw [g2] at e2
    cases e2
    rw [g3] at e3
    cases e3
  · exact s
  · rw [g1] at e1
    cases e1
    rw [g2] at e2
    cases e2
    rw [g3] at e3
    cases e3
    rw [g4] at e4
    cases e4
    rw [g5] at e5
    cases e5
    rw [g6] at e6
    exact absurd (Option.some.inj e6) (by simp [rawInt])
/-- what a call in the block lets out leaves the comprehension -/
theorem air_out {X : Cx} {W : WX} {E : XK} {pins : List (Addr × Obj)} {σ : L2.St} {H3 : Hp} {s3 : Shared} {scope : Scope} {ce : Env} {fp : List Addr} {xe : Value → Shared → Prop} (hs : X.stack = X.env :: X.outer) (hf : X.env.frame = some X.env.locals) (tk : L2N.Takes X W) (hW : ∀ cls d σ H, E cls d H → W cls d σ H)
    (I3 : Inv X pins σ H3 s3) (f3 : ∀ b ∈ fp, FpOk X pins H3 b) (fr : ce.frame = X.env.frame) (lc : ce.locals = s3.heap.objs.size) {pi : List (Addr × Obj)} {σ1 : L2.St} {H1 : Hp} {s1 s2 : Shared} {u : Value} (J : Inv ((X.blk s3 H3 scope ce fp).tr [] xe) pi σ1 H1 s1)
    (c : L2N.CX X.prog X.w X.stack H1 s1 E u s2) : notedBy (model X.prog X.w) X.A ce (CompFails (model X.prog X.w) X.A X.xe ce) u s2 := by
  have far := L2N.XE.of_call (X := (X.blk s3 H3 scope ce fp).tr [] xe) (W := fun cls d _ H => E cls d H) J (fun _ _ _ h => h) c
  obtain ⟨a0, B0, _, cls0, d0, e0, fly0, _⟩ := c
  obtain ⟨a, B, sI, pJ, σJ, HJ, cls, d, rfl, JI, nb, up, sky, na, os, ag, hE⟩ := far
  obtain rfl : a0 = a := by
    injection e0 with z
    exact z.symm
  have fly : HandSPX.FlyingZ B X.stack a0 (L2N.Zn cls d) s2.heap := flies fly0 sky
  rw [hs] at fly
  have hfr : X.A.frames = some (X.env :: X.outer) := by rw [I3.ok.frames, hs]
  have cnot : s3.heap.get? ce.locals = none := by
    cases q : s3.heap.get? ce.locals with
    | none => rfl
    | some o => exact absurd (Heap.lt_size q) (by rw [lc]; exact Nat.lt_irrefl _)
  have cfr : ce.locals ∉ frs X.stack := fun m => by
    obtain ⟨_, o, e, _⟩ := I3.stack.mem m
    rw [cnot] at e
    cases e
  obtain ⟨mJ, nJ, _⟩ := JI.loc
  have nJ : sI.heap.Ns ce.locals mJ := nJ
  have hJC : HJ ce.locals = none := JI.free
  show wpAny (model X.prog X.w) X.A (noteFrame (.ref a0) ce) _ _ s2
  rw [noteFrame_env _ fr]
  refine PXN.looks_onZ L2N.Zn.steady hfr hf fly fun h1 hh up1 => ?_
  have n1 : h1.Ns ce.locals mJ := up1.ns (up.ns nJ)
  refine ⟨mJ, n1, fun h2 m2 n2 sb => ?_⟩
  obtain ⟨stay, ba, frm, oe, vs, T, oT, ts, he, hz, hd, hv, bT, hTe, hT, hdT, ht3⟩ := hh
  have noRec : ∀ {b : Addr} {o : Obj} {ws : Array Value}, h1.get? b = some o → o.data = .fields ws → b ≠ ce.locals := fun {b o ws} g1 g2 z => by
    obtain ⟨oC, _, _, g3, g4, _⟩ := n1
    rw [z, g3] at g1
    cases g1
    rw [g4] at g2
    cases g2
  have he2 := (sb.2 a0 (noRec he hd)).trans he
  have hT2 := (sb.2 T (noRec hT hdT)).trans hT
  obtain ⟨B2, b1, b2⟩ := restrict B fun b => !decide (b = ce.locals)
  have b1 : ∀ b, b ≠ ce.locals → B2.get? b = B.get? b := fun b n => b1 b (by simp [n])
  have b2 : B2.get? ce.locals = none := b2 _ (by simp)
  have less : ∀ b, B.get? b = none → B2.get? b = none := fun b n => by
    by_cases q : b = ce.locals
    · rw [q]
      exact b2
    · rw [b1 b q]
      exact n
  obtain ⟨G, g1, g2⟩ := restrict sI.heap fun b => !decide (b = ce.locals)
  have g1 : ∀ b, b ≠ ce.locals → G.get? b = sI.heap.get? b := fun b n => g1 b (by simp [n])
  have g2 : G.get? ce.locals = none := g2 _ (by simp)
  have old : ∀ b o, s3.heap.get? b = some o → b ≠ ce.locals := fun b o e z => by
    rw [z, cnot] at e
    cases e
  unfold PySem.passOn
  refine wpAny_bind (wpAny_field he2 hd hv ?_)
  rw [if_neg (show ¬ ((Value.ref T == Value.none) = true) from by simp), fr, hf]
  refine wpAny_bind (HandSPX.setFlight_anyZ (base := B2) (l := X.env :: X.outer) (Z := L2N.Zn cls d) (fl := rawInt X.env.locals) (fun b o e => ?_) (frames_less less (Heap.FunFrames.sameBut sb n2 frm)) ⟨oe, vs, T, oT, ts, he2, hz, hd, hv, less T bT, hTe, hT2, hdT, ht3⟩ fun h3 k1 k2 k3 k4 => wpAny_throw (tk _ _ ?_))
  · have q : b ≠ ce.locals := fun z => by
      rw [z, b2] at e
      cases e
    rw [b1 b q] at e
    exact (sb.2 b q).trans (stay b o e)
  · have un := JI.base
    refine ⟨a0, B2, { sI with heap := G }, pins, σ, HJ, cls, d, rfl, ?_, fun b o e nf => ?_, fun b o e nf => ?_, .inr (.inr (by rw [hs]; exact ⟨k1, less a0 ba, k2, k3⟩)), na, os, ag, hW _ _ _ _ hE⟩
    · refine I3.call' (ch := fp) JI.os ⟨fun b o e n nf nx => ?_, fun b o e n nf nx => ?_, fun b o e n nx => un.free b o e n nx, fun b o e nx => ?_, un.tups, un.frzs, un.tbls⟩ (fun b o e => ?_) JI.bare fun b hb => ⟨(f3 b hb).2.2.2.1, (f3 b hb).2.1, (f3 b hb).2.2.2.2.1, (f3 b hb).2.2.2.2.2⟩
      · exact (g1 b (old b o e)).trans (un.keep b o e n nf nx)
      · obtain ⟨sl, q⟩ := un.slot b o e n nf nx
        exact ⟨sl, (g1 b (old b o e)).trans q⟩
      · obtain ⟨o2, q⟩ := un.there b o e nx
        exact ⟨o2, (g1 b (old b o e)).trans q⟩
      · refine (JI.hok b o e).stay (fun b' v hb q => (g1 b' fun z => ?_).trans q) (fun _ q => q) fun _ _ q => q
        rw [z] at hb
        rcases hb with rfl | hb
        · rw [hJC] at e
          cases e
        · rw [hJC] at hb
          cases hb
    · have q : b ≠ ce.locals := fun z => by
        have e : G.get? b = some o := e
        rw [z, g2] at e
        cases e
      have e : G.get? b = some o := e
      rw [g1 b q] at e
      rw [b1 b q]
      exact nb b o e nf
    · have e : G.get? b = some o := e
      have q : b ≠ ce.locals := fun z => by
        rw [z, g2] at e
        cases e
      rw [g1 b q] at e
      obtain ⟨sl, e1⟩ := up b o e nf
      obtain ⟨sl1, e2⟩ := up1 b _ e1 nf
      obtain ⟨sl2, e3⟩ := k4 b _ ((sb.2 b q).trans e2) nf
      exact ⟨sl2, e3⟩
theorem xe_in {X : Cx} {xe : Value → Shared → Prop} {pins : List (Addr × Obj)} {σ : L2.St} {H : Hp} {s : Shared} (I : Inv X pins σ H s) : Inv (X.tr X.pn xe) pins σ H s :=
  { ok := I.ok.toTry _ _, os := I.os, bare := I.bare, base := I.base, loc := I.loc, cell := I.cell, free := I.free, freeC := I.freeC, pin := I.pin, hok := I.hok, len := I.len }
theorem xe_out {X : Cx} {xe : Value → Shared → Prop} {pins : List (Addr × Obj)} {σ : L2.St} {H : Hp} {s : Shared} (I : Inv (X.tr X.pn xe) pins σ H s) : Inv X pins σ H s :=
  { ok := I.ok.ofTry, os := I.os, bare := I.bare, base := I.base, loc := I.loc, cell := I.cell, free := I.free, freeC := I.freeC, pin := I.pin, hok := I.hok, len := I.len }
section
variable {X : Cx} {elt tg iter : Expr} {ifs : List Expr} {scope : Scope} {pos : Pos} {g : TG} {tt : TT} {te : TE} {vs : List Nat}
/-- the turns of a comprehension whose element may let an exception out -/
theorem turns_out {σ : L2.St} {pins : List (Addr × Obj)} {H3 H4 : Hp} {s3 s4 : Shared} {ce : Env} {fp : List Addr} {it D : Addr} {tn : Nat → Heap → Prop} {J : It} {R : Result → Shared → Prop} {Qd : Hp → Prop} {Wt : Nat → Nat → Hp → Prop}
    (hc : X.calm = true) (T : Turn X.prog X.w X.K tg J fp it tn) (I3 : Inv X pins σ H3 s3) (f3 : ∀ b ∈ fp, FpOk X pins H3 b) (lc : ce.locals = s3.heap.objs.size) (pg : PG (X.blk s3 H3 scope ce fp) tg g) (pt : PTs (X.blk s3 H3 scope ce fp) ifs tt)
    (pe : PE ((X.blk s3 H3 scope ce fp).tr [] (notedBy (model X.prog X.w) X.A ce fun e s => R (.error e) s)) elt te)
    (turn : ∀ i m H, Wt i m H → (J.stop i H ∧ Qd H) ∨ (J.go i H ∧ ∃ Nx : Hp → Prop, (∀ H2, Nx H2 → ∃ m2, m2 < m ∧ Wt (i + 1) m2 H2) ∧ ∀ x H2, J.yld i H x H2 → g x (wipe σ vs) H2 fun σ2 H5 => wipe σ2 vs = wipe σ vs ∧ tt σ2 H5 fun b H6 => if b = true then te σ2 H6 fun y H7 => ∃ acc, H7 D = some (.lst acc) ∧ acc.length < sizeLine ∧ Nx (upd H7 D (.lst (acc ++ [y]))) else Nx H6))
    (fin : ∀ s2 H2 m, Inv X pins σ H2 s2 → Qd H2 → s2.heap.Ns s3.heap.objs.size m → FpOk X pins H2 s3.heap.objs.size → R (.ok .next) s2)
    (m0 : Nat) (I4 : Inv (X.blk s3 H3 scope ce fp) [] (wipe σ vs) H4 s4) (t4 : tn 0 s4.heap) (n4 : ∀ b ∈ fp, H4 b = none) (w4 : Wt 0 m0 H4) : codeAny (model X.prog X.w) X.A (.compLoop (.ListComp elt [⟨tg, iter, ifs, 0⟩] scope pos) 0 (.ref it) (.ref D) ce) R s4 := by
  have its : ∀ {σ2 : L2.St} {H2 : Hp} {s2 : Shared}, Inv (X.blk s3 H3 scope ce fp) [] σ2 H2 s2 → (∀ b ∈ fp, H2 b = none) → ∀ b ∈ fp, FpOk (X.blk s3 H3 scope ce fp) [] H2 b := fun I n b hb =>
    ⟨n b hb, (I.ok.exf b hb).1, I.ok.exfs b hb, .inl hb, (I.ok.exf b hb).2, fun p hp => absurd (show p ∈ ([] : List (Addr × Obj)) from hp) (by simp)⟩
  refine compLoop_any (fun k s => ∃ i H, Inv (X.blk s3 H3 scope ce fp) [] (wipe σ vs) H s ∧ tn i s.heap ∧ (∀ b ∈ fp, H b = none) ∧ Wt i k H) (fun k s5 st => ?_) m0 ⟨0, H4, I4, t4, n4, w4⟩
  obtain ⟨i, H5, I5, t5, n5, w5⟩ := st
  rcases turn i k H5 w5 with ⟨stop, qd⟩ | ⟨go, Nx, less, step⟩
  · refine thnF (T.done (X.blk s3 H3 scope ce fp) rfl rfl rfl hc i [] s5 _ H5 (fun _ _ => False) I5 (its I5 n5) t5 stop) fun r s6 z => ?_
    obtain ⟨rfl, I6⟩ := z
    obtain ⟨m, nm, _⟩ := I6.loc
    have nm : s6.heap.Ns ce.locals m := nm
    have nC : H5 ce.locals = none := I6.free
    rw [lc] at nm nC
    exact fin s6 H5 m (I3.call' (ch := fp) I6.os I6.base I6.hok I6.bare fun b hb => ⟨(f3 b hb).2.2.2.1, (f3 b hb).2.1, (f3 b hb).2.2.2.2.1, (f3 b hb).2.2.2.2.2⟩) qd nm (I3.fpOk (Nat.le_refl _) nC)
  · refine thnF (T.item (X.blk s3 H3 scope ce fp) rfl rfl rfl hc i [] s5 _ H5 (fun _ _ => False) I5 (its I5 n5) t5 go) fun r s6 z => ?_
    obtain ⟨u, rfl, z⟩ := z
    refine thnF z fun _ s7 z7 => ?_
    obtain ⟨x, H7, I7, rx, y7, t7, n7⟩ := z7
    refine thnF (pg.run _ s7 _ H7 x u _ (I7.pinned (its I7 n7) (T.obj _ _ t7)) rx (step x H7 y7)) fun _ s8 z8 => ?_
    obtain ⟨σ8, H8, I8, w8, q8⟩ := z8
    refine thnF (pt.run _ s8 σ8 H8 _ I8 q8) fun b s9 z9 => ?_
    obtain ⟨H9, I9, q9⟩ := z9
    have again : ∀ {s2 : Shared} {H2 : Hp}, Inv (X.blk s3 H3 scope ce fp) ([] ++ pinsAt fp s7.heap) σ8 H2 s2 → Nx H2 → ∃ m, m < k ∧ ∃ i H, Inv (X.blk s3 H3 scope ce fp) [] (wipe σ vs) H s2 ∧ tn i s2.heap ∧ (∀ b ∈ fp, H b = none) ∧ Wt i m H := fun {s2 H2} I nx => by
      obtain ⟨m2, l2, w2⟩ := less H2 nx
      have kept : ∀ b ∈ fp, ∀ o, s7.heap.get? b = some o → s2.heap.get? b = some o ∧ H2 b = none := fun b hb o e => by
        have z := I.pin (b, o) (List.mem_append_right _ (List.mem_append_right _ (mem_pinsAt hb e)))
        exact ⟨z.1, z.2.1⟩
      refine ⟨m2, l2, i + 1, H2, I.unpinned.weak (by rw [← w8, wipe_length]) (fun j v e => ?_), T.keep _ _ _ t7 fun b hb o e => (kept b hb o e).1, fun b hb => ?_, w2⟩
      · rw [← w8] at e
        exact (wipe_some e).1
      · obtain ⟨o, e, _⟩ := T.obj _ _ t7 b hb
        exact (kept b hb o e).2
    by_cases hb : b = true
    · rw [if_pos hb] at q9 ⊢
      refine wpAny_mono (pe.run _ s9 σ8 H9 _ (xe_in I9) q9) (fun z s10 z10 => ?_) fun _ _ e => e
      obtain ⟨yv, H10, I10, r10, acc, d10, l10, nx⟩ := z10
      exact app_ok (X := X.blk s3 H3 scope ce fp) (xe_out I10) d10 l10 r10 fun s11 I11 => again I11 nx
    · rw [if_neg hb] at q9 ⊢
      exact again I9 q9
/-- a comprehension whose element may let an exception out -/
theorem pe_lcX {own : List (Str × Nat)} {wi : TI} {W : WX} {E : XK} (hs : X.stack = X.env :: X.outer) (hf : X.env.frame = some X.env.locals) (tk : L2N.Takes X W) (hW : ∀ cls d σ H, E cls d H → W cls d σ H) (hc : X.calm = true) (hN : X.N.Nodup) (hi : L2.PI X tg iter wi) (ok : BlkOk X.N X.env.scope scope own)
    (hg : ∀ (s : Shared) (H : Hp) (C : Addr) (cl : List (Str × Addr)) (fp : List Addr), PG (X.blk s H scope (compEnvC scope cl C X.env) fp) tg g) (ht : ∀ (s : Shared) (H : Hp) (C : Addr) (cl : List (Str × Addr)) (fp : List Addr), PTs (X.blk s H scope (compEnvC scope cl C X.env) fp) ifs tt)
    (he : ∀ (s : Shared) (H : Hp) (C : Addr) (cl : List (Str × Addr)) (fp : List Addr) (xe : Value → Shared → Prop), Passes (L2N.CX X.prog X.w) ((X.blk s H scope (compEnvC scope cl C X.env) fp).tr [] xe) E → PE ((X.blk s H scope (compEnvC scope cl C X.env) fp).tr [] xe) elt te)
    (hx : ∀ x, foldedSetIterable iter X.env x = pure x := by intro _; rfl) : PE X (.ListComp elt [⟨tg, iter, ifs, 0⟩] scope pos) (tLc wi g tt te (own.map (·.2))) := by
  refine ⟨fun pins s σ H Q I h => ?_⟩
  rw [eval_ListComp]
  have cells : ∀ y ∈ scope.names, y.2 = .free → ∃ c, X.env.cells.lookup y.1 = some c := fun y my e => I.ok.has _ ((ok.free y my e).elim .inl .inr)
  refine comprehension_at (use := none) rfl hx (closure_ok cells) ok.kind (fun y my e => by rw [ok.uniq y my, e]) (thn (hi.run pins s σ H _ I h) fun xv s1 h1 => thn h1 fun itv s2 h2 => ?_)
  obtain ⟨it, fp, tn, J, H2, rfl, I2, T, t2, f2, q⟩ := h2
  refine wpAny_newObj_type (newEnv_comp ?_) (by show 0 ≤ sizeLine; decide)
  obtain ⟨Wt, ⟨m0, w0⟩, turn⟩ := q s2.heap.objs.size (I2.hok.fresh (Nat.le_refl _))
  have grow : ∀ {b : Addr} {o : Obj}, s2.heap.get? b = some o → (s2.heap.push { cls := .type "list", data := .seq ([] : List Value).toArray }).get? b = some o := fun e => Heap.get?_push_of_some _ e
  have I3 : Inv X pins σ (upd H2 s2.heap.objs.size (.lst [])) { s2 with heap := s2.heap.push { cls := .type "list", data := .seq ([] : List Value).toArray } } :=
    I2.laid (t' := s2.toks) (fun _ _ e => grow e) (Nat.le_refl _) ⟨Nat.zero_le _, [], 0, .nil, Heap.get?_push_size _ rfl⟩
  have small : ∀ b ∈ fp, b < s2.heap.objs.size := fun b hb => by
    obtain ⟨o, e, _⟩ := T.obj _ _ t2 b hb
    exact Heap.lt_size e
  have t3 : tn 0 ({ s2 with heap := s2.heap.push { cls := .type "list", data := .seq ([] : List Value).toArray } } : Shared).heap := T.keep 0 _ _ t2 fun b _ o e => grow e
  have f3 : ∀ b ∈ fp, FpOk X pins (upd H2 s2.heap.objs.size (.lst [])) b ∧ b < ({ s2 with heap := s2.heap.push { cls := .type "list", data := .seq ([] : List Value).toArray } } : Shared).heap.objs.size := fun b hb => by
    refine ⟨⟨?_, (f2 b hb).2⟩, by show _ < (s2.heap.push _).objs.size; rw [Heap.size_push]; exact Nat.lt_succ_of_lt (small b hb)⟩
    rw [upd_ne (Nat.ne_of_lt (small b hb))]
    exact (f2 b hb).1
  generalize ({ s2 with heap := s2.heap.push { cls := .type "list", data := .seq ([] : List Value).toArray } } : Shared) = s3 at I3 t3 f3 ⊢
  generalize s2.heap.objs.size = D at I3 f3 turn w0 ⊢
  generalize upd H2 D (.lst []) = H3 at I3 f3 w0
  have I4 := block_start I3 ok hN f3
  have t4 : tn 0 (pushCells (s3.heap.push { cls := .type "dict", data := .dict #[] }) scope.names) := T.keep 0 _ _ t3 fun b _ o e => pushCells_keeps _ _ _ _ (Heap.get?_push_of_some _ e)
  have pg := hg s3 H3 s3.heap.objs.size (cellsFrom (s3.heap.objs.size + 1) scope.names (cloFrom X.env.cells scope.names [])) fp
  have pt := ht s3 H3 s3.heap.objs.size (cellsFrom (s3.heap.objs.size + 1) scope.names (cloFrom X.env.cells scope.names [])) fp
  have pe := he s3 H3 s3.heap.objs.size (cellsFrom (s3.heap.objs.size + 1) scope.names (cloFrom X.env.cells scope.names [])) fp
  have fr : (compEnvC scope (cellsFrom (s3.heap.objs.size + 1) scope.names (cloFrom X.env.cells scope.names [])) s3.heap.objs.size X.env).frame = X.env.frame := rfl
  have lc : (compEnvC scope (cellsFrom (s3.heap.objs.size + 1) scope.names (cloFrom X.env.cells scope.names [])) s3.heap.objs.size X.env).locals = s3.heap.objs.size := rfl
  show codeAny _ _ (.compStart (.ListComp elt [⟨tg, iter, ifs, 0⟩] scope pos) 0 (.ref it) (.ref D) (compEnvC scope (cellsFrom (s3.heap.objs.size + 1) scope.names (cloFrom X.env.cells scope.names [])) s3.heap.objs.size X.env)) (compEnds (model X.prog X.w) X.A X.xe none (EP X pins σ Q) (.ref D) (compEnvC scope (cellsFrom (s3.heap.objs.size + 1) scope.names (cloFrom X.env.cells scope.names [])) s3.heap.objs.size X.env)) _
  generalize compEnvC scope (cellsFrom (s3.heap.objs.size + 1) scope.names (cloFrom X.env.cells scope.names [])) s3.heap.objs.size X.env = ce at I4 pg pt pe fr lc ⊢
  have pf : ∀ b ∈ fp, FpOk X pins H3 b := fun b hb => (f3 b hb).1
  have px : PE ((X.blk s3 H3 scope ce fp).tr [] (notedBy (model X.prog X.w) X.A ce fun e s => compEnds (model X.prog X.w) X.A X.xe none (EP X pins σ Q) (.ref D) ce (.error e) s)) elt te := pe _ fun _ _ _ _ _ _ B c => air_out hs hf tk hW I3 pf fr lc B c
  have loop := turns_out (pos := pos) (iter := iter) (D := D) (R := compEnds (model X.prog X.w) X.A X.xe none (EP X pins σ Q) (.ref D) ce) hc T I3 pf lc pg pt px turn
    (fun s5 H5 m I5 q5 n5 k5 => ⟨m, by rw [lc]; exact n5, fun h6 sb => ⟨.ref D, H5, I5.turned (t' := s5.toks) (fun b o hb e => (sb.2 b (by rw [lc]; exact hb)).trans e) k5.1 k5.2.1 k5.2.2.2.1 k5.2.2.2.2.1 k5.2.2.2.2.2, rfl, q5⟩⟩) m0 I4 t4 (fun b hb => (f3 b hb).1.1) w0
  exact codeAny_compStart_list loop (T.self X.A 0 _ _ _ t4 loop)
end
end Own

set_option Elab.async false
set_option linter.all false
set_option maxRecDepth 100000
set_option maxHeartbeats 4000000
/-! A try whose first handler takes whatever comes; a classmethod that may raise. -/
namespace Own
open PySem PySem.Spec PyProof.Rows L2
/-- an exception's record is no frame -/
theorem not_frame {h B : Heap} {l : List Env} {o : Obj} {ws : Array Value} {a : Addr} (ff : h.FunFrames B l) (e : h.get? a = some o) (dd : o.data = .fields ws) : a ∉ frs l := fun m => by
  obtain ⟨_, o2, e2, nf⟩ := ff.mem m
  rw [e] at e2
  cases e2
  exact nf ws dd
/-- a class's name within an except suite -/
theorem name_at {X : Cx} {x : Str} {c : Value} {np : Pos} {a : Addr} {pn : List (Addr × Obj)} {σ : L2.St} {H : Hp} {s : Shared} {Q : Value → Shared → Prop} {E : Value → Shared → Prop} (hc : Names X x c) (S : Inv (X.suite a pn) [] σ H s) (q : Q c s) : wpAny (model X.prog X.w) (X.A.mark (some (.ref a))) (eval (.Name x np) X.env) Q E s := by
  obtain ⟨g, dbg, look⟩ := hc
  rcases look with m | ⟨m, v, nn⟩
  · exact ld_glob (X := X.suite a pn) S g m q dbg
  · exact ld_blt (X := X.suite a pn) S g m v q nn dbg
/-- what a try's handlers wish -/
abbrev caughtBy (X : Cx) (hds : List ExceptHandler) (R : Flow → Shared → Prop) : Value → Shared → Prop := fun e s =>
  wpAny (model X.prog X.w) X.A (noteFrame e X.env) (fun _ s2 => wpAny (model X.prog X.w) X.A (setFlight e none) (fun _ s3 => wpAny (model X.prog X.w) X.A (handleBy e X.env hds) R X.xe s3) X.xe s2) X.xe s
section
variable {X : Cx} {x n : Str} {c : Value} {i : Nat} {body suite : List Stmt} {b0 : Stmt} {np pos hp : Pos} {tb : WX → TS} {ts : Addr → Value → Option Addr → TS} {more : List ExceptHandler}
/-- try .. except x as n, handlers behind it that nothing reaches -/
theorem ps_try_1st (hs : X.stack = X.env :: X.outer) (hf : X.env.frame = some X.env.locals) (hN : X.N.Nodup) (hi : X.N[i]? = some n) (hln : X.env.kindOf n = some .local) (hc : Names X x c)
    (hb : ∀ (W : WX) (pn : List (Addr × Obj)) (xe : Value → Shared → Prop), L2N.Takes (X.tr pn xe) W → PassesOwn (model X.prog X.w) X.A X.env xe → PSs (X.tr pn xe) body (tb W))
    (hsu : ∀ (a : Addr) (oe : Obj) (cls : Value) (d : Option Addr) (pn : List (Addr × Obj)), L2N.Zn cls d oe → (∃ vs, oe.data = .fields vs) → PSs (X.suite a ((a, oe) :: pn)) (b0 :: suite) (ts a cls d)) :
    PS X (.Try body (.ExceptHandler (some (.Name x np)) (some n) (b0 :: suite) hp :: more) [] [] pos) (fun D σ H => tb (wAs X.K c i ts (fun _ _ _ _ => False) D) D σ H) := by
  refine ⟨fun pins s σ H D I h => wpAny_Try_except ?_⟩
  have frames : X.A.frames = some (X.env :: X.outer) := by rw [I.ok.frames, hs]
  have run := (hb (wAs X.K c i ts (fun _ _ _ _ => False) D) (X.pn ++ pins) (caughtBy X (.ExceptHandler (some (.Name x np)) (some n) (b0 :: suite) hp :: more) (SP X pins D)) (fun u s2 xx => ?_) PassesOwn.looking).run [] s σ H D (I.toTry _) h
  · refine wpAny_mono run (fun f s1 q => ?_) fun _ _ y => y
    match f, q with
    | .next, q =>
      obtain ⟨σ2, H2, J, q⟩ := q
      exact wpAny_execs_nil ⟨σ2, H2, J.ofTry I.ok, q⟩
    | .brk, q =>
      obtain ⟨σ2, H2, J, q⟩ := q
      exact ⟨σ2, H2, J.ofTry I.ok, q⟩
    | .cont, q =>
      obtain ⟨σ2, H2, J, q⟩ := q
      exact ⟨σ2, H2, J.ofTry I.ok, q⟩
    | .ret u, q =>
      obtain ⟨v, σ2, H2, J, r, q⟩ := q
      exact ⟨v, σ2, H2, J.ofTry I.ok, r, q⟩
  · obtain ⟨a, B, sI, p2, σ2, H2, cls, d, rfl, J2, nb, up, sky, na, os, ag, b, hb1, yes, no⟩ := xx
    cases b with
    | false => exact (no rfl).elim
    | true =>
      have J := J2.ofTry I.ok
      have sky : Sky B (X.env :: X.outer) a (L2N.Zn cls d) X.env.locals s2.heap := by
        rw [← hs]
        exact sky
      refine L2N.Sky.land L2N.Zn.steady frames hf sky fun h3 fl3 up3 => ?_
      obtain ⟨oe, ws, he, hz, hd⟩ := fl3.there
      have nfr := not_frame fl3.2.2.1 he hd
      have nL : a ≠ X.env.locals := fun z => nfr (by
        rw [z]
        exact List.mem_filterMap.mpr ⟨X.env, List.mem_cons_self, hf⟩)
      have nF : a ∉ X.fs := fun m => nfr (by
        obtain ⟨v, mv, q⟩ := List.mem_filterMap.mp m
        exact List.mem_filterMap.mpr ⟨v, List.mem_cons_of_mem _ mv, q⟩)
      have J3 : Inv X pins σ2 H2 { s2 with heap := h3 } := J.landed nb fl3.1 (up.trans up3) os ag
      have S3 := J3.suite he hd na nL nF
      refine wpAny_handleBy_cons (codeAny_handlers_test (name_at hc S3 ?_)) (by intro q; cases q)
      refine (PySem.W.exm_one (M := model X.prog X.w) J3.kIn (fun A Q E s k q => wpAny_typeOf_ref (k _ _ he) (by rw [hz.1]; exact q)) hb1).here ?_
      refine codeAny_handlers_suite_as (HandSPX.lands_againZ fl3 fun h4 fl4 up4 => ?_)
      obtain ⟨oe4, ws4, he4, hz4, hd4⟩ := fl4.there
      have J4 : Inv X pins σ2 H2 { s2 with heap := h4 } := J.landed nb fl4.1 ((up.trans up3).trans up4) os ag
      have S4 := J4.suite he4 hd4 na nL nF
      refine store_ok (X := X.suite a ((a, oe4) :: (X.pn ++ pins))) (v := .ref a) S4 hN hi (.inl hln) rfl (fun s5 S5 => ?_) (.inr hln)
      refine wpAny_mono ((hsu a oe4 cls d (X.pn ++ pins) hz4 ⟨_, hd4⟩).run [] s5 _ H2 _ S5 (yes rfl a na)) (fun f s6 q => ?_) fun _ _ z => z.elim
      have out : ∀ {σ6 : L2.St} {H6 : Hp} {R : Shared → Prop}, Inv (X.suite a ((a, oe4) :: (X.pn ++ pins))) [] σ6 H6 s6 → (∀ s7, Inv X pins (σ6.set i none) H6 s7 → R s7) → wpAny (model X.prog X.w) X.A (do bindName X.env n .none; unbindBehindTheSuite X.env n hp) (fun _ s7 => R s7) X.xe s6 :=
        fun S6 r => gone_ok (S6.unsuite I.ok) hN hi hln r
      match f, q with
      | .next, ⟨σ6, H6, S6, q6⟩ => exact out S6 fun s7 J7 => ⟨_, _, J7, q6⟩
      | .brk, ⟨σ6, H6, S6, q6⟩ => exact out S6 fun s7 J7 => ⟨_, _, J7, q6⟩
      | .cont, ⟨σ6, H6, S6, q6⟩ => exact out S6 fun s7 J7 => ⟨_, _, J7, q6⟩
      | .ret u, ⟨v6, σ6, H6, S6, r6, q6⟩ => exact out S6 fun s7 J7 => ⟨_, _, _, J7, r6, q6⟩
end
/-- C.m(..), a classmethod that may raise, told with the slots -/
def tCMethX (C : Addr) (sp : Sp) (E : L2.St → XK) (ta : TE) (t : TA) : TE := fun σ H Q => ta σ H fun x H1 => x = .ref C ∧ t σ H1 fun vs H2 => sp (.ref C :: vs) H2 Q (E σ)
section
variable {X : Cx} {CX : CXT} {k : Nat} {C p g : Addr} {mc : Value} {sp : Sp} {E : L2.St → XK} {o e : Expr} {es : List Expr} {m : Str} {pos apos : Pos} {ta : TE} {t : TA} {pl : Sem Bool}
theorem pe_cmethX (he : PE X o ta) (r : ClX.CRead X.K C mc) (c : ClX.CMet X.K C mc m p g) (F : FnR X.prog X.w X.K X.mg X.base CX k g sp) (hr : Room k X.A) (hx : ∀ σ, PassesAt CX X σ (E σ)) (ha : PA X (e :: es) t)
    (hst : starEach (e :: es) X.env = (false, eval e X.env) :: starEach es X.env := by rfl) (hpl : (backTo pos (starEach es X.env)).any (·.1) = false := by rfl)
    (hev : eval (.Call (.Attribute o m apos) (e :: es) [] pos) X.env = (do
      let ov ← eval o X.env
      standAt apos.atName
      let (f, first) ← holding [ov] (getMethod ov m pl)
      callWith pos f first (backTo pos (starEach (e :: es) X.env)) (backToKw pos (keywordEach [] X.env))) := by rfl) : PE X (.Call (.Attribute o m apos) (e :: es) [] pos) (tCMethX C sp E ta t) := by
  refine ⟨fun pins s σ H Q I h => PySem.W.methodCall_KW (pl := pl) (thn (he.run pins s σ H _ I h) fun u s1 z => ?_) hev⟩
  obtain ⟨x, H1, I1, rx, rfl, q⟩ := z
  have e1 : u = Value.ref C := rx
  subst e1
  refine ClX.getmethcm_ok I1 r c fun s2 I2 => ClX.callwith_cm I2 (ClX.base_none I1 (Nat.le_refl _)) c.fi (thn (ha.run pos _ s2 σ H1 _ I2 q) fun us s3 z => ?_) hst hpl
  obtain ⟨vs, H2, I3, rv, q2⟩ := z
  refine ⟨⟨ClX.pin_at I3, I3.kIn⟩, ?_⟩
  have gone : wpAny (model X.prog X.w) X.A (call (.ref s1.heap.objs.size) us) (EP X ((s1.heap.objs.size, PySem.W.methodObj (.ref g) (.ref C)) :: pins) σ Q) X.xe s3 := by
    refine wpAny_call (PySem.W.method_call (ClX.pin_at I3) (codeAny_mono (F X.A X.stack s3 H2 (.ref C :: us) (.ref C :: vs) Q (E σ) hr I3.env0 (.cons rfl rv) q2) fun r s4 hq => ?_))
    match r, hq with
    | .error er, hq => exact hx σ _ H2 s3 er s4 I3 hq
    | .ok .next, hq => exact False.elim hq
    | .ok .brk, hq => exact False.elim hq
    | .ok .cont, hq => exact False.elim hq
    | .ok (.ret w), hq => exact I3.after hq
  exact thn gone fun _ _ y => ClX.unpinE y
end
/-- a classmethod without a star that may raise -/
theorem okGX {P : Program} {w : World} {K : PySem.W.Frag} {mg : Str → Option Value} {base : Heap} {m qual : Str} {st : Stmt} {f : Addr} {fd : FuncData} {N ps : List Str} {k : Nat} {sp : Sp} (F : FunG K m qual st f fd) (S : FnScope N ps (defScope st)) (len : ∀ vs H Q E, sp vs H Q E → vs.length = ps.length)
    (body : ∀ (cdv : Value) (A : Around) (outer : List Env) (s : Shared) (H : Hp) (vs : List V) (Q : VK) (E : XK), Room k (A.deeper (envOfC qual (defScope st) s.heap.objs.size f cdv)) → sp vs H Q E →
      ∃ t, PSs (cxOf (L2N.CX P w) P w K mg base N qual (defScope st) f cdv A outer s H E) (defBody st) t ∧ t { nx := fun _ H2 => Q .non H2, rt := Q } (start N vs) H) : FnOk P w K mg base (L2N.CX P w) (k + 1) f fd ps sp := by
  obtain ⟨oc, od, kV, doc, pm, an, cdv, ct, osl, rfl, lk, hcd⟩ := F.ex
  exact fn_of lk hcd S len fun A outer s H vs Q E hr hsp => body cdv A outer s H vs Q E hr hsp
end Own

set_option Elab.async false
set_option linter.all false
set_option maxRecDepth 100000
set_option maxHeartbeats 4000000
/-! A def that is handed the exception that a suite handles. -/
namespace Own
open PySem PySem.Spec PyProof.Rows L2
/-- a promise that knows the handled exception -/
abbrev SpX : Type := Addr → Value → Option Addr → Sp
/-- .. kept -/
def FnX (P : Program) (w : World) (K : PySem.W.Frag) (mg : Str → Option Value) (base : Heap) (CX : CXT) (k : Nat) (f : Addr) (fd : FuncData) (ps : List Str) (sp : SpX) : Prop :=
  (∀ a c d vs H Q E, sp a c d vs H Q E → vs.length = ps.length) ∧
  ∀ (p : Addr × Obj) (c : Value) (d : Option Addr), (p.2.cls = c ∧ p.2.dict = d) → (∃ ws, p.2.data = .fields ws) → ∀ (A : Around) (outer : List Env) (s : Shared) (H : Hp) (args : Args) (us : List Value) (vs : List V) (Q : VK) (E : XK), L2H.RoomH k A → L2H.Hot1 A p → L2H.PinOk outer H s p → Env0 P w K mg base A outer s H → BindsTo s fd args (ps.zip us) → Vals vs us → sp p.1 c d vs H Q E →
    codeAny (model P w) A (.call (.ref f) args) (CR CX outer P w H s Q E) s
/-- by its body -/
theorem okFX {P : Program} {w : World} {K : PySem.W.Frag} {mg : Str → Option Value} {base : Heap} {CX : CXT} {x qual : Str} {st : Stmt} {f : Addr} {fd : FuncData} {N ps : List Str} {k : Nat} {sp : SpX} (F : Fun K x qual st f fd) (S : FnScope N ps (defScope st)) (len : ∀ a c d vs H Q E, sp a c d vs H Q E → vs.length = ps.length)
    (body : ∀ (cdv : Value) (p : Addr × Obj) (c : Value) (d : Option Addr), (p.2.cls = c ∧ p.2.dict = d) → (∃ ws, p.2.data = .fields ws) → ∀ (A : Around) (outer : List Env) (s : Shared) (H : Hp) (vs : List V) (Q : VK) (E : XK), L2H.Hot1 A p → L2H.RoomH k (A.deeper (envOfC qual (defScope st) s.heap.objs.size f cdv)) → sp p.1 c d vs H Q E →
      ∃ t, PSs (L2H.cxH CX P w K mg base N qual (defScope st) f cdv A outer s H E p) (defBody st) t ∧ t { nx := fun _ H2 => Q .non H2, rt := Q } (start N vs) H) : FnX P w K mg base CX (k + 1) f fd ps sp := by
  obtain ⟨oc, od, kV, doc, pm, an, cdv, ct, osl, rfl, lk, hcd⟩ := F.ex
  refine ⟨len, fun p c d hz hf A outer s H args us vs Q E room hot pin e0 bind rel hsp => ?_⟩
  have here : ∀ b o, base.get? b = some o → s.heap.get? b = some o := fun b o e => (e0.bs b o e).1
  have kin : K.In s.heap := e0.mod.kin.keeps here
  have sized : us.length = ps.length := by
    rw [← rel.length]
    exact len _ _ _ vs H Q E hsp
  refine codeAny_call_function room.depth (kin _ _ lk) rfl S.co S.gen rfl (PySem.W.codeRec_of kin hcd) (bind _ _ _ _ ?_)
  refine wpAny_newFunctionEnv_cells S.kind (fun y my => ?_) fun env ee s1 inn => ?_
  · obtain ⟨n, v⟩ := y
    exact (S.par n (List.of_mem_zip my).1).imp id fun q => ⟨q, PySem.W.cellsFrom_some _ _ _ (.inl q)⟩
  · subst ee
    obtain ⟨t, ht, hq⟩ := body cdv p c d hz hf A outer s H vs Q E hot (room.deeper _) hsp
    have I0 := L2H.inv_startH (CX := CX) (E := E) (P := P) (w := w) (K := K) (mg := mg) (base := base) (f := f) (cd := cdv) (qual := qual) S pin e0 (len _ _ _ vs H Q E hsp) rel inn
    refine ⟨(e0.mod.nolimit.keeps here).keeps inn.toInCall.keep, codeAny_func (wpAny_mono (ht.run [] s1 (L2.start N vs) H _ I0 hq) (fun fl s2 z => ?_) fun _ _ z => z)⟩
    match fl, z with
    | .ret u, ⟨v, σ2, H2, J, rv, q⟩ => exact ⟨v, H2, J.os, J.bare, J.base, J.hok, rv, q⟩
    | .next, ⟨σ2, H2, J, q⟩ => exact ⟨.non, H2, J.os, J.bare, J.base, J.hok, rfl, q⟩
    | .brk, ⟨_, _, _, q⟩ => exact q.elim
    | .cont, ⟨_, _, _, q⟩ => exact q.elim
section
variable {X : Cx} {CX : CXT} {k : Nat} {f : Addr} {fd : FuncData} {ps : List Str} {sp : SpX} {x : Str} {q pos : Pos} {e : Expr} {es : List Expr} {t : TA}
/-- f(e, ..) where the exception p is handled -/
theorem pe_callFX {p : Addr × Obj} {c : Value} {d : Option Addr} (hz : p.2.cls = c ∧ p.2.dict = d) (hf : ∃ ws, p.2.data = .fields ws) (hot : L2H.Hot1 X.A p) (hp : p ∈ X.pn) (F : FnX X.prog X.w X.K X.mg X.base CX k f fd ps sp) (hr : L2H.RoomH k X.A) (hg : Gl X x) (hm : X.mg x = some (.ref f)) (hk : PySem.W.keepIn X.K (.ref f) = true) (hb : Binds X.K fd ps []) (hx : Passes CX X E0)
    (ha : PA X (e :: es) t) (hdb : (x == ("__debug__" : Str)) = false := by decide) (hst : starEach (e :: es) X.env = (false, eval e X.env) :: starEach es X.env := by rfl) (hpl : (backTo pos (starEach es X.env)).any (·.1) = false := by rfl) :
    PE X (.Call (.Name x q) (e :: es) [] pos) (fun σ H Q => t σ H fun vs H1 => sp p.1 c d vs H1 Q E0) := by
  refine ⟨fun pins s σ H Q I h => wpAny_Call_Name_kw (ld_glob I hg hm (PySem.W.callWith_K (h₀ := X.base) I.ok.mod.kin hk (thn (ha.run pos pins s σ H _ I h) fun us s1 z => ?_) hst hpl) hdb)⟩
  obtain ⟨vs, H1, I1, r, q1⟩ := z
  have sized : us.length = ps.length := by
    rw [← r.length]
    exact F.1 _ _ _ vs H1 Q E0 q1
  have bd := hb s1 us I1.kIn (by rw [List.append_nil]; exact sized)
  rw [List.append_nil] at bd
  have pk := I1.pin p (List.mem_append_left _ hp)
  have off : p.1 ∉ frs X.stack := fun m => (List.mem_cons.mp (I1.stkSub p.1 m)).elim pk.2.2.1 pk.2.2.2.1
  refine ⟨I1.kIn, wpAny_call (codeAny_mono (F.2 p c d hz hf X.A X.stack s1 H1 ⟨us, []⟩ us vs Q E0 hr hot ⟨pk.1, pk.2.1, off, pk.2.2.2.2⟩ I1.env0 bd r q1) fun res s2 z => ?_)⟩
  match res, z with
  | .error er, z => exact hx pins σ H1 s1 er s2 I1 z
  | .ok (.ret u), z => exact I1.after z
  | .ok .next, z => exact False.elim z
  | .ok .brk, z => exact False.elim z
  | .ok .cont, z => exact False.elim z
end
/-- isinstance(e, c), e the exception that is pinned -/
theorem call_isPn {X : Cx} {a : Addr} {oe : Obj} {cls : Value} {d : Option Addr} (hp : (a, oe) ∈ X.pn) (hz : oe.cls = cls ∧ oe.dict = d) (hf : ∃ vs, oe.data = .fields vs) : CallR X (.builtin "isinstance") (rIsX X.K a cls d) := by
  intro pins s σ H xs us Q I r h
  obtain ⟨D, dd, fs, c, cv, b, rfl, ec, ed, hd, C, hcv, ek, q⟩ := h
  obtain ⟨u1, u2, rfl, r1, r2⟩ := vals2 r
  obtain rfl : u1 = Value.ref a := r1
  obtain rfl := hcv u2 r2
  have cl : (PySem.W.clsIn X.K D).isSome = true := by
    obtain ⟨cd, hc, _⟩ := PySem.W.any_some C.hd
    rw [hc]
    rfl
  obtain ⟨ws, hv⟩ := hf
  obtain ⟨mA, hns, _⟩ := (show ObjOk X.prog X.w H s.heap dd (.xd fs) from I.hok dd _ hd)
  obtain ⟨od, hod, _⟩ := lookIn_ns hns
  have J : PySem.W.InstAt s.heap a oe D (some od) := by
    refine ⟨(I.pin (a, oe) (List.mem_append_left _ hp)).1, hz.1.trans ec, ?_, ?_⟩
    · unfold PySem.W.notCls
      rw [hv] <;> rfl
    · rw [hz.2, ed]
      exact hod
  exact PySem.W.kia_one (PySem.W.kitx_exc cl C.hg C.hk C.hs C.ha C.hn C.ht C.hm) I.kIn J ek (fun z => nomatch z) fun tk => ⟨.bl b, H, I.tok tk, rfl, q⟩
end Own

set_option Elab.async false
set_option linter.all false
set_option maxRecDepth 100000
set_option maxHeartbeats 4000000
/-! Words that stand for a pair or for none; texts that are cut at spaces. -/
namespace Own
open PySem PySem.Spec PyProof.Rows L2
theorem hot1N {X : Cx} {a : Addr} {oe : Obj} {cls : Value} {d : Option Addr} {pn : List (Addr × Obj)} (hz : L2N.Zn cls d oe) (hf : ∃ vs, oe.data = .fields vs) : L2H.Hot1 (X.suite a pn).A (a, oe) := by
  obtain ⟨vs, hd⟩ := hf
  exact ⟨rfl, vs, hd, hz.2.2 vs hd⟩
/-- f(e, ..) in an except suite, f told of the exception -/
theorem pe_callFS {X : Cx} {CX : CXT} {k : Nat} {f a : Addr} {fd : FuncData} {ps : List Str} {sp : SpX} {x : Str} {q pos : Pos} {e : Expr} {es : List Expr} {t : TA} {oe : Obj} {cls : Value} {d : Option Addr} {pn : List (Addr × Obj)} (hz : L2N.Zn cls d oe) (hf : ∃ vs, oe.data = .fields vs) (F : FnX X.prog X.w X.K X.mg X.base CX k f fd ps sp) (hr : L2H.RoomH k (X.A.mark (some (.ref a))))
    (hg : Gl (X.suite a ((a, oe) :: pn)) x) (hm : X.mg x = some (.ref f)) (hk : PySem.W.keepIn X.K (.ref f) = true) (hb : Binds X.K fd ps []) (hx : Passes CX (X.suite a ((a, oe) :: pn)) E0) (ha : PA (X.suite a ((a, oe) :: pn)) (e :: es) t) (hdb : (x == ("__debug__" : Str)) = false := by decide)
    (hst : starEach (e :: es) X.env = (false, eval e X.env) :: starEach es X.env := by rfl) (hpl : (backTo pos (starEach es X.env)).any (·.1) = false := by rfl) : PE (X.suite a ((a, oe) :: pn)) (.Call (.Name x q) (e :: es) [] pos) (fun σ H Q => t σ H fun vs H1 => sp a cls d vs H1 Q E0) :=
  pe_callFX (p := (a, oe)) ⟨hz.1, hz.2.1⟩ hf (hot1N hz hf) List.mem_cons_self F hr hg hm hk hb hx ha hdb hst hpl
def goodW (x : Str) : Bool := isDec (Txt.partition x ":").1 && isIdent (Txt.partition x ":").2.2
def valW (x : Str) : PI := (((NumText.digitsVal (TL.tl (Txt.partition x ":").1) : Nat) : Int), (Txt.partition x ":").2.2)
theorem dec_digits {x : Str} (h : isDec x = true) : NumText.AllDigits (TL.tl x) ∧ TL.tl x ≠ [] ∧ (TL.tl x).length ≤ 60 := by
  simp only [isDec, Bool.and_eq_true, decide_eq_true_eq, List.all_eq_true] at h
  refine ⟨fun c hc => ?_, fun e => ?_, h.1.1.2⟩
  · have z := h.1.2 c hc
    simpa [dgt] using z
  · rw [e] at h
    simp at h
theorem digits_lt : ∀ (cs : List Nat) (acc : Nat), NumText.AllDigits cs → cs.foldl (fun acc c => acc * 10 + (c - 48)) acc < (acc + 1) * 10 ^ cs.length
  | [], acc, _ => by simp
  | c :: cs, acc, h => by
    have hc := h.head
    have z := digits_lt cs (acc * 10 + (c - 48)) h.tail
    rw [List.foldl_cons]
    refine Nat.lt_of_lt_of_le z ?_
    rw [List.length_cons, Nat.pow_succ, ← Nat.mul_assoc, Nat.mul_right_comm]
    exact Nat.mul_le_mul_right _ (by omega)
theorem dec_read {x : Str} (h : isDec x = true) : intText? x = some ((NumText.digitsVal (TL.tl x) : Nat) : Int) ∧ ((NumText.digitsVal (TL.tl x) : Nat) : Int) < limN := by
  obtain ⟨a, b, c⟩ := dec_digits h
  refine ⟨intText_digits a b (by rw [TL.len_tl]; omega), ?_⟩
  have z := digits_lt (TL.tl x) 0 a
  have y : 10 ^ (TL.tl x).length ≤ 10 ^ 60 := Nat.pow_le_pow_right (by decide) c
  have e : limN = ((10 ^ 60 : Nat) : Int) := by decide +kernel
  rw [e]
  unfold NumText.digitsVal
  omega
theorem good_parts {x : Str} (h : goodW x = true) : isDec (Txt.partition x ":").1 = true ∧ isIdent (Txt.partition x ":").2.2 = true := by
  simpa [goodW] using h
theorem good_val {x : Str} (h : goodW x = true) : 0 ≤ (valW x).1 ∧ (valW x).1 < limN ∧ isIdent (valW x).2 = true :=
  ⟨Int.natCast_nonneg _, (dec_read (good_parts h).1).2, (good_parts h).2⟩
theorem good_colon {x : Str} (h : goodW x = true) : 58 ∈ TL.tl x := by
  by_cases m : 58 ∈ TL.tl x
  · exact m
  · have e := TL.partition_none tl_colon m
    have z := (good_parts h).2
    rw [e] at z
    exact absurd (show isIdent Str.empty = true from z) (by decide +kernel)
theorem parts_size (x : Str) : (Txt.partition x ":").1.length ≤ x.length ∧ (Txt.partition x ":").2.2.length ≤ x.length := ⟨(fact_partition x ":").1, (fact_partition x ":").2.2⟩
/-! ### a text cut at its spaces -/
abbrev segs (l : List Nat) : List (List Nat) := TL.spl [32] 0 [] l
theorem seg_hit (acc r : List Nat) : TL.spl [32] 0 acc (32 :: r) = acc :: TL.spl [32] 0 [] r := TL.spl_hit (by simp [TL.pre])
theorem seg_miss {acc r : List Nat} {c : Nat} (h : c ≠ 32) : TL.spl [32] 0 acc (c :: r) = TL.spl [32] 0 (acc ++ [c]) r := TL.spl_miss (by simp [TL.pre]; omega)
theorem seg_app (b : List Nat) : ∀ (a acc : List Nat), TL.spl [32] 0 acc (a ++ 32 :: b) = TL.spl [32] 0 acc a ++ segs b
  | [], acc => by
    rw [List.nil_append, seg_hit, TL.spl_nil]
    rfl
  | c :: a, acc => by
    by_cases h : c = 32
    · subst h
      rw [List.cons_append, seg_hit, seg_hit, seg_app b a []]
      rfl
    · rw [List.cons_append, seg_miss h, seg_miss h, seg_app b a (acc ++ [c])]
theorem seg_join : ∀ (ps : List (List Nat)), ps ≠ [] → segs (TL.joinL [32] ps) = ps.flatMap segs
  | [], h => absurd rfl h
  | [p], _ => by simp [TL.joinL]
  | p :: q :: r, _ => by
    show TL.spl [32] 0 [] (p ++ 32 :: TL.joinL [32] (q :: r)) = _
    rw [seg_app, seg_join (q :: r) (by simp)]
    rfl
theorem seg_many : ∀ (l acc : List Nat), (TL.spl [32] 0 acc l).length = l.count 32 + 1
  | [], acc => by rw [TL.spl_nil]; rfl
  | c :: l, acc => by
    by_cases h : c = 32
    · subst h
      rw [seg_hit, List.length_cons, seg_many l [], List.count_cons_self]
    · rw [seg_miss h, seg_many l (acc ++ [c]), List.count_cons_of_ne h]
theorem seg_colons : ∀ (l acc : List Nat), ((TL.spl [32] 0 acc l).map (List.count 58)).sum = acc.count 58 + l.count 58
  | [], acc => by rw [TL.spl_nil]; simp
  | c :: l, acc => by
    by_cases h : c = 32
    · subst h
      rw [seg_hit, List.map_cons, List.sum_cons, seg_colons l [], List.count_cons_of_ne (by decide)]
      simp
    · rw [seg_miss h, seg_colons l (acc ++ [c]), List.count_append, List.count_cons, List.count_cons, List.count_nil]
      omega
/-- what the law draws: no space, or one of them and one colon at most -/
def OkD (x : Str) : Prop := (TL.tl x).count 32 = 0 ∨ (TL.tl x).count 58 ≤ 1
theorem sum_ge {l : List (List Nat)} (h : ∀ p ∈ l, 1 ≤ p.count 58) : l.length ≤ (l.map (List.count 58)).sum := by
  induction l with
  | nil => simp
  | cons p l ih =>
    have a := h p (by simp)
    have b := ih fun x hx => h x (List.mem_cons_of_mem _ hx)
    rw [List.map_cons, List.sum_cons, List.length_cons]
    omega
theorem seg_one {x : Str} (ok : OkD x) (h : ∀ p ∈ segs (TL.tl x), 1 ≤ p.count 58) : (segs (TL.tl x)).length = 1 := by
  have a := sum_ge h
  have b := seg_colons (TL.tl x) []
  have c : (segs (TL.tl x)).length = (TL.tl x).count 32 + 1 := seg_many (TL.tl x) []
  have a2 : (segs (TL.tl x)).length ≤ (TL.tl x).count 58 := by
    have z : ((segs (TL.tl x)).map (List.count 58)).sum = (TL.tl x).count 58 := by
      rw [b]
      simp
    omega
  rcases ok with z | z <;> omega
theorem cut_words (ds : List Str) (ne : ds ≠ []) : (Txt.split (Txt.join " " ds) " ").map TL.tl = (ds.map TL.tl).flatMap segs := by
  rw [TL.split_spl _ _ (by rw [tl_space]; simp) (TL.kind_ok (by decide +kernel)), TL.join_eq, TL.tl_join, tl_space]
  exact seg_join _ (fun e => ne (List.map_eq_nil_iff.mp e))
/-- all words good: as many as were drawn -/
theorem good_many {ds : List Str} (ne : ds ≠ []) (ok : ∀ d ∈ ds, OkD d) (h : ∀ x ∈ Txt.split (Txt.join " " ds) " ", goodW x = true) : (Txt.split (Txt.join " " ds) " ").length = ds.length := by
  have e := cut_words ds ne
  have el := congrArg List.length e
  rw [List.length_map] at el
  rw [el]
  have all : ∀ p ∈ (ds.map TL.tl).flatMap segs, 1 ≤ p.count 58 := fun p mp => by
    rw [← e] at mp
    obtain ⟨x, mx, rfl⟩ := List.mem_map.mp mp
    exact List.count_pos_iff.mpr (good_colon (h x mx))
  clear e el h ne
  induction ds with
  | nil => rfl
  | cons d ds ih =>
    rw [List.map_cons, List.flatMap_cons] at all ⊢
    rw [List.length_append, seg_one (ok d (by simp)) fun p mp => all p (List.mem_append_left _ mp), ih (fun x hx => ok x (List.mem_cons_of_mem _ hx)) fun p mp => all p (List.mem_append_right _ mp), List.length_cons]
    omega
theorem signs_l : TL.tl signsS = List.range' 97 26 ++ List.range' 48 10 := by decide +kernel
theorem in_signs {c : Nat} : decide (c ∈ signsS.cps.toList) = sgn c := by
  have e : signsS.cps.toList = TL.tl signsS := rfl
  rw [e, signs_l]
  unfold sgn ltr dgt
  simp only [List.mem_append, List.mem_range'_1]
  by_cases a : 97 ≤ c ∧ c < 97 + 26 <;> by_cases b : 48 ≤ c ∧ c < 48 + 10 <;> simp [a, b] <;> omega
/-- [c for c in x if b], x a text -/
theorem lcStrF_go {tl : TE} {j : Nat} {tt : TT} {te : TE} {σ : L2.St} {H : Hp} {Q : VK} {x : Str} (b : Nat → Bool) (ht : ∀ Q : VK, Q (.str x) H → tl σ H Q) (hz : x.length ≤ 100000)
    (htt : ∀ (c : Nat) H2 (R : Bool → Hp → Prop), R (b c) H2 → tt ((wipe σ [j]).set j (some (.str ⟨#[c]⟩))) H2 R) (he : ∀ (c : Nat) H2 (R : VK), R (.str ⟨#[c]⟩) H2 → te ((wipe σ [j]).set j (some (.str ⟨#[c]⟩))) H2 R)
    (q : ∀ D H2, H D = none → Same H H2 → H2 D = some (.lst (((TL.tl x).filter b).map fun c => V.str ⟨#[c]⟩)) → Q (.ref D) H2) : tLc (iStr tl) (gName j) tt te [j] σ H Q := by
  refine ht _ ⟨x, rfl, fun D hD => ?_⟩
  have sz : x.cps.size = (TL.tl x).length := by show x.cps.size = x.cps.toList.length; simp
  refine ⟨fun i m H2 => m = x.cps.size - i ∧ i ≤ x.cps.size ∧ H2 = upd H D (.lst ((((TL.tl x).take i).filter b).map fun c => V.str ⟨#[c]⟩)), ⟨x.cps.size, rfl, Nat.zero_le _, rfl⟩, ?_⟩
  rintro i m H2 ⟨rfl, le, rfl⟩
  rcases Nat.lt_or_ge i x.cps.size with lt | ge
  · refine .inr ⟨lt, fun H3 => H3 = upd H D (.lst ((((TL.tl x).take (i + 1)).filter b).map fun c => V.str ⟨#[c]⟩)), fun H3 e => ⟨x.cps.size - (i + 1), by omega, rfl, lt, e⟩, ?_⟩
    rintro v H3 ⟨rfl, c, hc, rfl⟩
    have et : (TL.tl x).take (i + 1) = (TL.tl x).take i ++ [c] := by
      rw [List.take_add_one]
      have z : (TL.tl x)[i]? = some c := by
        rw [← hc]
        show x.cps.toList[i]? = x.cps[i]?
        simp
      rw [z]
      rfl
    refine ⟨wipe_set, ?_⟩
    refine htt c _ _ ?_
    by_cases hb : b c = true
    · rw [if_pos hb]
      refine he c _ _ ⟨_, upd_same, ?_, ?_⟩
      · have z := List.length_filter_le b ((TL.tl x).take i)
        rw [List.length_map]
        have y : ((TL.tl x).take i).length ≤ i := by rw [List.length_take]; omega
        have y2 : x.cps.size = x.length := rfl
        exact Nat.lt_of_le_of_lt (Nat.le_trans z y) (Nat.lt_of_lt_of_le lt (Nat.le_trans (by omega : x.cps.size ≤ 100000) (by decide)))
      · rw [upd_upd, et, List.filter_append, List.map_append, List.filter_cons, if_pos hb]
        rfl
    · rw [if_neg hb, et, List.filter_append, List.filter_cons, if_neg hb]
      simp
  · have e : i = x.cps.size := by omega
    subst e
    refine .inl ⟨ge, ?_⟩
    have z : (TL.tl x).take x.cps.size = TL.tl x := by rw [sz, List.take_length]
    rw [z]
    exact q D _ hD (same_new hD) upd_same
end Own

set_option Elab.async false
set_option linter.all false
set_option maxRecDepth 100000
set_option maxHeartbeats 4000000
/-! Sets of tuples: found, taken away, walked, merged. -/
namespace Own
open PySem PySem.Spec PyProof.Rows L2
section
variable {P : Program} {w : World} {A : Around} {E : Value → Shared → Prop} {s : Shared} {h h' : Heap} {a b c : Addr} {k k' : List Key} {D D' : SD3} {L L' : List (List Key × Addr)}
theorem map_erase {α β : Type} (f : α → β) (l : List α) (i : Nat) : (l.eraseIdx i).map f = (l.map f).eraseIdx i := by
  rw [List.eraseIdx_eq_take_drop_succ, List.eraseIdx_eq_take_drop_succ, List.map_append, List.map_take, List.map_drop]
/-- whether it is there, and where -/
theorem find_at (S : PSet P w s.heap a L D) (m : Tk P w s.heap k b) (hu : A.units < cLine) {Q : Option Nat → Shared → Prop} (yes : ∀ i p, L[i]? = some p → p.1 = k → Q (some i) s) (no : k ∉ L.map (·.1) → Q none s) : wpAny (model P w) A (setFind a (.ref b) (hsT P w k)) Q E s := by
  obtain ⟨o, ho, hx, od⟩ := S.own
  unfold setFind
  rw [show (100000 : Nat) = 99999 + 1 from rfl]
  unfold setFindIn
  refine wpAny_bind (wpAny_setState_of ho od S.fits (wp_if_neg (by simp [byScan, Value.scannable]) ?_))
  refine wpAny_bind (look_at S m hu (fun i p ei ek => ?_) fun Z j dm nk _ _ _ _ => ?_)
  · exact wpAny_pure (yes i p ei ek)
  · exact wpAny_pure (no nk)
theorem nodup_erase {α β : Type} {f : α → β} {l : List α} {i : Nat} {p : α} (nd : (l.map f).Nodup) (e : l[i]? = some p) : ∀ y, y ∈ (l.eraseIdx i).map f ↔ y ∈ l.map f ∧ y ≠ f p := by
  intro y
  have e2 : (l.map f)[i]? = some (f p) := by rw [List.getElem?_map, e]; rfl
  rw [map_erase]
  constructor
  · intro m
    refine ⟨List.mem_of_mem_eraseIdx m, fun z => ?_⟩
    rw [z, List.eraseIdx_eq_take_drop_succ, List.mem_append] at m
    have pw := List.pairwise_iff_getElem.mp nd
    have il := (List.getElem?_eq_some_iff.mp e2).1
    rcases m with m | m
    · obtain ⟨j, ej⟩ := List.mem_iff_getElem?.mp m
      rw [List.getElem?_take] at ej
      split at ej
      · next c =>
        obtain ⟨jl, ej⟩ := List.getElem?_eq_some_iff.mp ej
        obtain ⟨il, ei⟩ := List.getElem?_eq_some_iff.mp e2
        exact pw j i jl il c (by rw [ej, ei])
      · cases ej
    · obtain ⟨j, ej⟩ := List.mem_iff_getElem?.mp m
      rw [List.getElem?_drop] at ej
      obtain ⟨jl, ej⟩ := List.getElem?_eq_some_iff.mp ej
      obtain ⟨il, ei⟩ := List.getElem?_eq_some_iff.mp e2
      exact pw i (i + 1 + j) il jl (by omega) (by rw [ej, ei])
  · exact fun m => mem_eraseIdx_of e2 m.1 m.2
/-- one is taken away -/
theorem discard_one (S : PSet P w s.heap a L D) (m : Tk P w s.heap k b) (hu : A.units < cLine) {Q : Bool → Shared → Prop} (no : k ∉ L.map (·.1) → Q false s)
    (yes : ∀ i p h2 D2, L[i]? = some p → p.1 = k → Heap.SameBut a s.heap h2 → PSet P w h2 a (L.eraseIdx i) D2 → Q true { s with heap := h2 }) : wpAny (model P w) A (setDiscardHashed a (.ref b) (hsT P w k)) Q E s := by
  obtain ⟨o, ho, hx, od⟩ := S.own
  unfold setDiscardHashed
  refine wpAny_bind (find_at S m hu (fun i p ei ek => ?_) fun nk => wpAny_pure (no nk))
  dsimp only
  have il : i < L.length := (List.getElem?_eq_some_iff.mp ei).1
  have e1 : (SetTable.eraseAt D.1 i).toList = (L.eraseIdx i).map (ent P w) := by
    rw [erase_list, S.rows, map_erase]
  have len : (L.eraseIdx i).length = L.length - 1 := List.length_eraseIdx_of_lt il
  have few := S.few
  refine wpAny_bind (wpAny_setState_of ho od S.fits ?_)
  refine wpAny_bind (wpAny_storeSet_of ho od ?_ (by rw [← Array.length_toList, e1, List.length_map, len, sizeLine_eq]; omega))
  have sb : Heap.SameBut a s.heap (s.heap.update a (Obj.putSet (SetTable.eraseAt D.1 i) (D.2.2.drop i))) := Heap.SameBut.update ..
  refine wpAny_bind (wpAny_point (wpAny_pure (yes i p _ (SetTable.eraseAt D.1 i, D.2.1 + 1, D.2.2.drop i) ei ek sb ?_)))
  obtain ⟨g1, g2, g3, g4⟩ := S.good.drop (i := i) (by rw [List.length_map]; exact il)
  refine ⟨⟨_, store_at ho od, ⟨hx.1, hx.2.1, hx.2.2⟩, rfl⟩, e1, ?_, ?_, fun q mq => (S.here q (List.mem_of_mem_eraseIdx mq)).but ho od sb, ?_, ?_⟩
  · rw [map_erase]
    exact g1
  · exact List.Pairwise.sublist ((List.eraseIdx_sublist L i).map _) S.dist
  · exact S.vis.imp id fun z => g3.trans z
  · show (D.2.2.drop i).fill * 5 < (D.2.2.drop i).mask * 3
    rw [g2, g4]
    exact S.spare
/-- tidied up -/
theorem tidy_one (S : PSet P w s.heap a L D) (few : L.length ≤ 127) {Q : Unit → Shared → Prop} (q : ∀ h2 L2 D2, Heap.SameBut a s.heap h2 → PSet P w h2 a L2 D2 → L2.Perm L → Q () { s with heap := h2 }) : wpAny (model P w) A (setTidy a) Q E s := by
  obtain ⟨o, ho, hx, od⟩ := S.own
  unfold setTidy
  refine wpAny_bind (wpAny_setState_of ho od S.fits ?_)
  by_cases c : D.2.2.tooManyDummies = true
  · refine wp_if_pos c ?_
    rw [S.count]
    have gr : SetTable.grown L.length = L.length * 4 := by
      unfold SetTable.grown
      rw [if_neg (by omega)]
    rw [gr]
    exact lay_anew ho hx od S.rows S.fits S.dist S.here S.vis (by omega) (by omega) fun h2 L2 D2 sb S2 pm _ _ => q h2 L2 D2 sb S2 pm
  · exact wp_if_neg c (wpAny_pure (q s.heap L D (Heap.SameBut.refl a s.heap) S (.refl _)))
theorem perm_ent {L : List (List Key × Addr)} {vs : List (Int × Value)} (pm : vs.Perm (L.map (ent P w))) : ∃ L2 : List (List Key × Addr), vs = L2.map (ent P w) ∧ L2.Perm L := by
  have key : ∀ (L : List (List Key × Addr)) (vs : List (Int × Value)), vs.Perm (L.map (ent P w)) → ∃ L2 : List (List Key × Addr), vs = L2.map (ent P w) ∧ L2.Perm L := by
    intro L
    induction L with
    | nil => exact fun vs h => ⟨[], List.perm_nil.mp h, .refl _⟩
    | cons m L ih =>
      intro vs h
      obtain ⟨l1, l2, rfl⟩ := List.append_of_mem (h.symm.subset (show ent P w m ∈ (m :: L).map (ent P w) by simp))
      obtain ⟨ns, e, p⟩ := ih _ (List.Perm.cons_inv (List.perm_middle.symm.trans h))
      obtain ⟨n1, n2, rfl, e1, e2⟩ := List.map_eq_append_iff.mp e.symm
      exact ⟨n1 ++ m :: n2, by rw [List.map_append, List.map_cons, e1, e2], List.perm_middle.trans (p.cons m)⟩
  exact key L vs pm
/-- a walk gives them all, in some order -/
theorem walk_of (S : PSet P w s.heap a L D) {Q : Array (Int × Value) → Shared → Prop} (q : ∀ (L2 : List (List Key × Addr)) d, L2.Perm L → ∀ xs : Array (Int × Value), xs.toList = L2.map (ent P w) → Q xs { s with drawn := d }) : wpAny (model P w) A (setWalk a) Q E s := by
  obtain ⟨o, ho, hx, od⟩ := S.own
  have now : ∀ xs : Array (Int × Value), xs.toList.Perm D.1.toList → Q xs s := fun xs pm => by
    rw [S.rows] at pm
    obtain ⟨L2, e, p⟩ := perm_ent pm
    exact q L2 s.drawn p xs e
  unfold setWalk
  refine wpAny_bind (wpAny_setState_of ho od S.fits ?_)
  dsimp only
  refine wpAny_bind (wpAny_byText ?_)
  by_cases bt : w.params.followText "set-order" = true
  · refine wp_if_pos bt ?_
    exact wpAny_bind (wpAny_askSetting (wpAny_pure (now _ (pick_perm _ _))))
  refine wp_if_neg bt ?_
  have led : D.2.2.led = true := S.vis.resolve_left bt
  by_cases dr : (!D.2.2.plain && decide (D.1.size > 1)) = true
  · refine wp_if_pos dr ?_
    refine wpAny_bind (drawOrder_at _ _ _ _ (Nat.le_of_eq Array.length_toList) fun ys d pm => wpAny_pure ?_)
    rw [S.rows] at pm
    obtain ⟨L2, e, p⟩ := perm_ent pm
    exact q L2 d p _ (by rw [← e])
  · refine wp_if_neg dr ?_
    refine wpAny_bind (m := (if (!D.2.2.led && decide (D.1.size > 1)) = true then _ else pure ())) ?_
    exact wp_if_neg (by rw [led]; simp) (wpAny_pure (wpAny_pure (now _ (.refl _))))
/-- .. that nobody sees, or so it would be -/
theorem walk_unseen (S : PSet P w s.heap a L D) (others : List Addr) (filled : Option Addr) {Q : Array (Int × Value) → Shared → Prop} (q : ∀ (L2 : List (List Key × Addr)) d, L2.Perm L → ∀ xs : Array (Int × Value), xs.toList = L2.map (ent P w) → Q xs { s with drawn := d }) : wpAny (model P w) A (setWalkUnseen a others filled) Q E s := by
  obtain ⟨o, ho, hx, od⟩ := S.own
  unfold setWalkUnseen
  refine wpAny_bind (wpAny_setState_of ho od S.fits ?_)
  dsimp only
  refine wpAny_bind (wpAny_byText ?_)
  by_cases c : (w.params.followText "set-order" || D.2.2.led && D.2.2.plain || decide (D.1.size ≤ 1)) = true
  · refine wp_if_pos c ?_
    exact walk_of S q
  refine wp_if_neg c ?_
  have big : ∃ p L3, L = p :: L3 := by
    cases L with
    | nil =>
      have z := S.count
      simp only [Bool.or_eq_true, decide_eq_true_eq, not_or] at c
      rw [z] at c
      exact absurd (Nat.zero_le 1) c.2
    | cons p L3 => exact ⟨p, L3, rfl⟩
  obtain ⟨p, L3, rfl⟩ := big
  have er := S.rows
  rw [List.map_cons] at er
  have tp := S.here p (by simp)
  refine wpAny_bind ?_
  unfold setsQuiet
  refine wpAny_bind ?_
  rw [List.forIn_cons]
  refine wpAny_bind (wpAny_bind (m := setEntries a) ?_)
  unfold setEntries
  refine wpAny_bind (wpAny_setState_of ho od S.fits (wpAny_pure ?_))
  refine wpAny_bind ?_
  rw [← Array.forIn_toList, er, List.forIn_cons]
  refine wpAny_bind ?_
  show wpAny _ _ (specialOf (.ref p.2) "__eq__" >>= _) _ _ _
  refine wpAny_bind (wpAny_specialOf tp.typeIs F.slot_tuple_eq.lookup ?_)
  refine wp_if_pos (by decide) ?_
  refine wpAny_pure ?_
  refine wpAny_pure ?_
  refine wpAny_pure ?_
  refine wpAny_pure ?_
  refine wpAny_pure ?_
  exact wp_if_pos (by decide) (walk_of S q)
end
end Own

set_option Elab.async false
set_option linter.all false
set_option maxRecDepth 100000
set_option maxHeartbeats 4000000
/-! Sets of tuples: merged, copied, cut. -/
namespace Own
open PySem PySem.Spec PyProof.Rows L2
/-- the rows of a set -/
abbrev Rws : Type := List (List Key × Addr)
abbrev ks (L : Rws) : List (List Key) := L.map (·.1)
/-- what a set made of two has -/
structure Made (φ : Prop → Prop → Prop) (L1 L2 L : Rws) : Prop where
  sub : ∀ p ∈ L, p ∈ L1 ∨ p ∈ L2
  key : ∀ k, k ∈ ks L ↔ φ (k ∈ ks L1) (k ∈ ks L2)
section
variable {P : Program} {w : World} {A : Around} {E : Value → Shared → Prop} {s : Shared} {h h' : Heap} {a b c r o : Addr} {k k' : List Key} {D D' D1 D2 : SD3} {L L' L1 L2 Lw : Rws} {n : Nat}
theorem Made.perm {φ : Prop → Prop → Prop} (m : Made φ L1 L' L) (p : L'.Perm L2) : Made φ L1 L2 L :=
  ⟨fun q mq => (m.sub q mq).imp id fun z => p.mem_iff.mp z, fun k => by rw [m.key k, (p.map (·.1)).mem_iff]⟩
theorem Made.permL {φ : Prop → Prop → Prop} (m : Made φ L' L2 L) (p : L'.Perm L1) : Made φ L1 L2 L :=
  ⟨fun q mq => (m.sub q mq).imp (fun z => p.mem_iff.mp z) id, fun k => by rw [m.key k, (p.map (·.1)).mem_iff]⟩
theorem Made.permR {φ : Prop → Prop → Prop} (m : Made φ L1 L2 L') (p : L.Perm L') : Made φ L1 L2 L :=
  ⟨fun q mq => m.sub q (p.mem_iff.mp mq), fun k => by rw [(p.map (·.1)).mem_iff, m.key k]⟩
theorem Made.swap {φ ψ : Prop → Prop → Prop} (m : Made φ L1 L2 L) (e : ∀ a b, φ a b ↔ ψ b a) : Made ψ L2 L1 L := ⟨fun q mq => (m.sub q mq).symm, fun k => (m.key k).trans (e _ _)⟩
theorem Made.len {φ : Prop → Prop → Prop} (m : Made φ L1 L2 L) (nd : (ks L).Nodup) : L.length ≤ L1.length + L2.length := by
  have z := List.Nodup.length_le_of_subset nd (l₂ := ks L1 ++ ks L2) fun k mk => by
    obtain ⟨p, mp, rfl⟩ := List.mem_map.mp mk
    exact List.mem_append.mpr ((m.sub p mp).imp (fun z => List.mem_map.mpr ⟨p, z, rfl⟩) fun z => List.mem_map.mpr ⟨p, z, rfl⟩)
  simpa using z
theorem PSet.but (S : PSet P w h a L D) (Sr : PSet P w h r L1 D1) (ne : a ≠ r) (sb : Heap.SameBut r h h') : PSet P w h' a L D := by
  obtain ⟨o, ho, _, od⟩ := Sr.own
  exact S.keep (fun u e => (sb.2 a ne).trans e) fun p mp => (S.here p mp).but ho od sb
theorem Tk.butS (m : Tk P w h k b) (Sr : PSet P w h r L1 D1) (sb : Heap.SameBut r h h') : Tk P w h' k b := by
  obtain ⟨o, ho, _, od⟩ := Sr.own
  exact m.but ho od sb
/-- a loop over the rows of a walk -/
theorem rows_loop {f : Int × Value → PUnit → Sem (ForInStep PUnit)} (J : Rws → Shared → Prop) {Q : PUnit → Shared → Prop}
    (turn : ∀ Ld p Lr s1, Lw = Ld ++ p :: Lr → J Ld s1 → wpAny (model P w) A (f (ent P w p) ()) (fun x s2 => x = .yield () ∧ J (Ld ++ [p]) s2) E s1) (fin : ∀ s1, J Lw s1 → Q () s1) {xs : Array (Int × Value)} (ex : xs.toList = Lw.map (ent P w)) (j : J [] s) :
    wpAny (model P w) A (forIn xs () f) Q E s := by
  rw [← Array.forIn_toList, ex]
  refine wpAny_forIn_list _ (fun l _ s1 => ∃ Ld Lr, l = Lr.map (ent P w) ∧ Lw = Ld ++ Lr ∧ J Ld s1) _ (fun x l u s1 g => ?_) (fun u s1 g => ?_) _ _ ⟨[], Lw, rfl, rfl, j⟩
  · obtain ⟨Ld, Lr, e1, e2, j1⟩ := g
    cases Lr with
    | nil => cases e1
    | cons p Lr =>
      rw [List.map_cons] at e1
      cases e1
      refine wpAny_mono (turn Ld p Lr s1 e2 j1) (fun y s2 g2 => ?_) fun _ _ z => z
      obtain ⟨rfl, j2⟩ := g2
      exact ⟨Ld ++ [p], Lr, rfl, by rw [e2, List.append_assoc]; rfl, j2⟩
  · obtain ⟨Ld, Lr, e1, e2, j1⟩ := g
    cases Lr with
    | nil =>
      rw [List.append_nil] at e2
      rw [e2] at fin
      exact fin s1 j1
    | cons p Lr => cases e1
/-- room is made -/
theorem room_for (S : PSet P w s.heap a L D) (few : (L.length + n) * 2 < 512) {Q : Unit → Shared → Prop} (q : ∀ h2 L2 D2, Heap.SameBut a s.heap h2 → PSet P w h2 a L2 D2 → L2.Perm L → n * 5 < D2.2.2.mask * 3 → Q () { s with heap := h2 }) : wpAny (model P w) A (setRoomFor a n) Q E s := by
  obtain ⟨o, ho, hx, od⟩ := S.own
  have pl := S.places
  rw [Array.length_toList] at pl
  unfold setRoomFor
  refine wpAny_bind (wpAny_setState_of ho od S.fits ?_)
  dsimp only
  by_cases c : (D.2.2.fill + n) * 5 ≥ D.2.2.mask * 3
  · have e : D.2.2.roomFor n = some ((L.length + n) * 2) := by
      unfold SetTable.roomFor
      rw [if_pos c, pl]
    rw [e]
    refine lay_anew ho hx od S.rows S.fits S.dist S.here S.vis few (by omega) fun h2 L2 D2 sb S2 pm _ le => q h2 L2 D2 sb S2 pm ?_
    have m7 := S2.good.mok.ge
    omega
  · have e : D.2.2.roomFor n = none := by
      unfold SetTable.roomFor
      rw [if_neg c]
    rw [e]
    exact wpAny_pure (q s.heap L D (Heap.SameBut.refl a s.heap) S (.refl _) (by omega))
theorem setMerge_eq (r o : Addr) (each : Sem Unit) : setMerge r o each = (do
    if r == o then return
    let (eo, epoch, to) ← setState o
    if eo.isEmpty then return
    setRoomFor r eo.size
    let (_, _, ts) ← setState r
    match ts.road to with
    | .slotForSlot => storeSet r eo { to with finger := ts.finger, led := ts.led && to.led, moves := ts.moves, plain := ts.plain && to.plain }
    | .clean =>
      let (es, t) ← (do
        let some (t, order) := SetTable.laid ts.mask ts.finger ts.moves (led := ts.led && to.led) (plain := ts.plain && to.plain) (eo.map (·.1)) | unsupported "internal:set-table-without-room"
        let es' := order.filterMap (eo[·]?)
        if es'.size != eo.size then unsupported "internal:set-table-lost-an-element"
        pure (es', t) : Sem (Array (Int × Value) × SetTable))
      storeSet r es t
    | .oneByOne =>
      for (h, x) in ← setWalkUnseen o [r] (some r) do
        let _ ← holding [x] (setAddHashed r x h)
        each
        if (← setState o).2.1 != epoch then unsupported "set.changed-during-merge") := by rfl
theorem vis_both {t1 t2 : SetTable} (v1 : w.params.followText "set-order" = true ∨ t1.led = true) (v2 : w.params.followText "set-order" = true ∨ t2.led = true) : w.params.followText "set-order" = true ∨ (t1.led && t2.led) = true := by
  rcases v1 with v | v
  · exact .inl v
  · rcases v2 with v2 | v2
    · exact .inl v2
    · exact .inr (by rw [v, v2]; rfl)
abbrev OrF : Prop → Prop → Prop := fun a b => a ∨ b
theorem ks_add {p : List Key × Addr} {Ld : Rws} : k ∈ ks (Ld ++ [p]) ↔ k ∈ ks Ld ∨ k = p.1 := by
  unfold ks
  rw [List.map_append, List.mem_append, List.map_cons, List.map_nil, List.mem_singleton]
theorem or_nilL {k : List Key} {x : Prop} : x ↔ OrF (k ∈ ks []) x := ⟨fun z => .inr z, fun z => z.elim (fun y => by cases y) id⟩
theorem or_nilR {k : List Key} {x : Prop} : x ↔ OrF x (k ∈ ks []) := ⟨fun z => .inl z, fun z => z.elim id fun y => by cases y⟩
/-- one set takes all of another -/
theorem merge_tk (Sr : PSet P w s.heap r L1 D1) (So : PSet P w s.heap o L2 D2) (ne : o ≠ r) (few : L1.length + L2.length ≤ 126) (hu : A.units < cLine) {each : Sem Unit}
    (ea : ∀ (s2 : Shared) (Q2 : Unit → Shared → Prop), PSet P w s2.heap o L2 D2 → Q2 () s2 → wpAny (model P w) A each Q2 E s2) {Q : Unit → Shared → Prop}
    (q : ∀ h2 d L D, Heap.SameBut r s.heap h2 → PSet P w h2 r L D → Made OrF L1 L2 L → Q () { s with heap := h2, drawn := d }) : wpAny (model P w) A (setMerge r o each) Q E s := by
  obtain ⟨oo, hoo, hxo, odo⟩ := So.own
  have co := So.count
  rw [setMerge_eq]
  refine wp_if_neg (by simp [Ne.symm ne]) ?_
  refine wpAny_bind (wpAny_setState_of hoo odo So.fits ?_)
  dsimp only
  by_cases em : D2.1.isEmpty = true
  · refine wp_if_pos em (wpAny_pure ?_)
    have z : L2 = [] := by
      rw [Array.isEmpty_iff_size_eq_zero, co] at em
      exact List.eq_nil_of_length_eq_zero em
    subst z
    exact q s.heap s.drawn L1 D1 (Heap.SameBut.refl r s.heap) Sr ⟨fun p mp => .inl mp, fun k => or_nilR⟩
  refine wp_if_neg em ?_
  rw [co]
  refine wpAny_bind (room_for Sr (by omega) fun h2 Lr Dr sb2 Sr2 pm sp => ?_)
  obtain ⟨orr, hor, hxr, odr⟩ := Sr2.own
  have So2 : PSet P w h2 o L2 D2 := So.but Sr ne sb2
  refine wpAny_bind (wpAny_setState_of hor odr Sr2.fits ?_)
  dsimp only
  have vis := vis_both Sr2.vis So2.vis
  have z0 : Dr.2.2.fill = 0 → L1 = [] := fun e => by
    have z := Sr2.fill_ge
    rw [pm.length_eq] at z
    exact List.eq_nil_of_length_eq_zero (by omega)
  by_cases cf : Dr.2.2.fill = 0
  · obtain rfl := z0 cf
    have done : ∀ (es : Array (Int × Value)) (t : SetTable) (L3 : Rws), L3.Perm L2 → es.toList = L3.map (ent P w) → TabD t (L3.map fun p => hsT P w p.1) → t.led = (Dr.2.2.led && D2.2.2.led) → t.fill * 5 < t.mask * 3 → wpAny (model P w) A (storeSet r es t) Q E { s with heap := h2 } := by
      intro es t L3 p3 e3 g3 l3 s3
      have cn : es.size = L2.length := by rw [← Array.length_toList, e3, List.length_map, p3.length_eq]
      refine wpAny_storeSet_of hor odr ?_ (by rw [cn, sizeLine_eq]; omega)
      have sb : Heap.SameBut r h2 (h2.update r (Obj.putSet es t)) := Heap.SameBut.update ..
      refine q _ s.drawn L3 (es, Dr.2.1 + 1, t) (sb2.trans sb) ⟨⟨_, store_at hor odr, ⟨hxr.1, hxr.2.1, hxr.2.2⟩, rfl⟩, e3, g3, (p3.map (·.1)).nodup_iff.mpr So.dist, fun p mp => (So2.here p (p3.mem_iff.mp mp)).but hor odr sb, ?_, s3⟩ ⟨fun p mp => .inr (p3.mem_iff.mp mp), fun k => (p3.map (·.1)).mem_iff.trans or_nilL⟩
      rw [l3]
      exact vis
    have rd : Dr.2.2.road D2.2.2 = .slotForSlot ∨ Dr.2.2.road D2.2.2 = .clean := by
      unfold SetTable.road
      rw [cf]
      by_cases c : (Dr.2.2.mask == D2.2.2.mask && D2.2.2.dummies.isEmpty) = true
      · exact .inl (by rw [if_neg (by simp)]; exact if_pos c)
      · exact .inr (by rw [if_neg (by simp)]; exact if_neg c)
    rcases rd with rd | rd
    · rw [rd]
      exact done D2.1 _ L2 (.refl _) So2.rows (So2.good.same rfl rfl rfl) rfl So2.spare
    · rw [rd]
      dsimp only
      have m511 := Sr2.good.mok.le
      obtain ⟨t2, od2, e, po, good, em2, el, _, ed⟩ := laid_ok (hs := D2.1.map (·.1)) Sr2.good.mok Dr.2.2.finger Dr.2.2.moves (Dr.2.2.led && D2.2.2.led) (Dr.2.2.plain && D2.2.2.plain) (by rw [Array.size_map, co]; omega)
      rw [Array.size_map, co] at po
      obtain ⟨L3, r1, r2, r3⟩ := rows_order So2.rows po
      rw [← r3] at good
      have c2 : (od2.filterMap (D2.1[·]?)).size = D2.1.size := by rw [← Array.length_toList, r1, List.length_map, r2.length_eq, co]
      rw [e]
      refine wpAny_bind (wp_if_neg (by simp [c2, co]) (wpAny_pure ?_))
      refine done _ t2 L3 r2 r1 good el ?_
      have fl : t2.fill = L2.length := by
        have z := good.sz
        rw [List.length_map, Array.length_toList, r2.length_eq] at z
        unfold SetTable.fill
        rw [ed, z]
        rfl
      rw [fl, em2]
      exact sp
  · have rd : Dr.2.2.road D2.2.2 = .oneByOne := by
      unfold SetTable.road
      rw [if_pos (by simpa using cf)]
    rw [rd]
    dsimp only
    refine wpAny_bind (walk_unseen (s := { s with heap := h2 }) So2 [r] (some r) fun Lw d pw xs ex => ?_)
    refine wpAny_bind (rows_loop (Lw := Lw) (fun Ld s2 => ∃ h3 L D, s2 = { s with heap := h3, drawn := d } ∧ Heap.SameBut r s.heap h3 ∧ PSet P w h3 r L D ∧ Made OrF L1 Ld L) (fun Ld p Lx s2 ew j => ?_) (fun s2 j => ?_) ex ⟨h2, Lr, Dr, rfl, sb2, Sr2, fun p mp => .inl (pm.mem_iff.mp mp), fun k => (pm.map (·.1)).mem_iff.trans or_nilR⟩)
    · obtain ⟨h3, L, D, rfl, sb3, S3, mk⟩ := j
      have mp : p ∈ L2 := pw.mem_iff.mp (by rw [ew]; simp)
      have So3 : PSet P w h3 o L2 D2 := So.but Sr ne sb3
      have lw : Ld.length < L2.length := by
        rw [← pw.length_eq, ew, List.length_append, List.length_cons]
        omega
      have ln := mk.len S3.dist
      refine wpAny_bind (wpAny_holding ?_)
      refine put_one (s := { s with heap := h3, drawn := d }) S3 (So3.here p mp) hu (by omega) fun y h4 L4 D4 sb4 S4 c1 c2 => ?_
      have So4 : PSet P w h4 o L2 D2 := So3.but S3 ne sb4
      refine wpAny_bind (ea _ _ So4 ?_)
      obtain ⟨u, hu4, _, ou4⟩ := So4.own
      refine wpAny_bind (wpAny_setState_of hu4 ou4 So4.fits (wp_if_neg (by simp) (wpAny_pure ⟨rfl, h4, L4, D4, rfl, sb3.trans sb4, S4, ?_⟩)))
      by_cases c : p.1 ∈ ks L
      · rw [c1 c]
        refine ⟨fun x mx => (mk.sub x mx).imp id fun z => List.mem_append_left _ z, fun k => ?_⟩
        rw [mk.key k]
        show _ ↔ _ ∨ k ∈ ks (Ld ++ [p])
        rw [ks_add]
        constructor
        · exact fun z => z.imp id .inl
        · rintro (z | z | z)
          · exact .inl z
          · exact .inr z
          · rw [z]
            exact (mk.key p.1).mp c
      · refine ⟨fun x mx => ?_, fun k => ?_⟩
        · rcases List.mem_cons.mp ((c2 c).mem_iff.mp mx) with rfl | z
          · exact .inr (List.mem_append_right _ (by simp))
          · exact (mk.sub x z).imp id fun z => List.mem_append_left _ z
        · rw [((c2 c).map (·.1)).mem_iff, List.map_cons, List.mem_cons, show k ∈ L.map (·.1) ↔ _ from mk.key k]
          show _ ↔ _ ∨ k ∈ ks (Ld ++ [p])
          rw [ks_add]
          constructor
          · rintro (z | z | z)
            · exact .inr (.inr z)
            · exact .inl z
            · exact .inr (.inl z)
          · rintro (z | z | z)
            · exact .inr (.inl z)
            · exact .inr (.inr z)
            · exact .inl z
    · obtain ⟨h3, L, D, rfl, sb3, S3, mk⟩ := j
      exact wpAny_pure (q h3 d L D sb3 S3 (mk.perm pw))
/-- a set is made -/
theorem new_set {Q : Value → Shared → Prop} (q : Q (.ref s.heap.objs.size) { s with heap := s.heap.push (freshSet w) }) : wpAny (model P w) A (newSet (.type "set")) Q E s := by
  unfold newSet
  refine wpAny_bind (m := setsByText) (wpAny_byText ?_)
  exact wpAny_newObj_type q
theorem base_of (S : PSet P w s.heap a L D) {Q : Value → Shared → Prop} (q : Q (.type "set") s) : wpAny (model P w) A (Builtin.Frozenset.baseOf a) Q E s := by
  obtain ⟨o, ho, hx, od⟩ := S.own
  unfold Builtin.Frozenset.baseOf
  exact wpAny_bind (wpAny_isInstance (b := true) ⟨o, ho, hx.1⟩ sub_set_self (wpAny_pure q))
theorem PSet.push (S : PSet P w h a L D) (o : Obj) : PSet P w (h.push o) a L D := S.keep (fun _ e => Heap.get?_push_of_some _ e) fun p mp => (S.here p mp).keep fun _ _ e => Heap.get?_push_of_some _ e
theorem PSet.lt (S : PSet P w h a L D) : a < h.objs.size := by
  obtain ⟨o, ho, _⟩ := S.own
  exact Heap.lt_size ho
theorem PSet.typeIs (S : PSet P w s.heap a L D) : s.TypeIs (.ref a) "set" := by
  obtain ⟨o, ho, hx, _⟩ := S.own
  exact ⟨o, ho, hx.1⟩
/-- what came out of making a set: all old objects stay -/
structure NewSet (P : Program) (w : World) (h h2 : Heap) (L : Rws) (D : SD3) : Prop where
  set : PSet P w h2 h.objs.size L D
  old : ∀ b u, h.get? b = some u → h2.get? b = some u
theorem push_same {h h2 : Heap} {u : Obj} (sb : Heap.SameBut h.objs.size (h.push u) h2) : ∀ b v, h.get? b = some v → h2.get? b = some v := fun b v e => (sb.2 b (Nat.ne_of_lt (Heap.lt_size e))).trans (Heap.get?_push_of_some _ e)
/-- a copy -/
theorem copy_tk (S : PSet P w s.heap a L D) (few : L.length ≤ 126) (hu : A.units < cLine) {Q : Value → Shared → Prop}
    (q : ∀ h2 d L2 D2, NewSet P w s.heap h2 L2 D2 → L2.length = L.length → Made OrF [] L L2 → Q (.ref s.heap.objs.size) { s with heap := h2, drawn := d }) : wpAny (model P w) A (Builtin.Frozenset.copyOf a) Q E s := by
  unfold Builtin.Frozenset.copyOf
  refine wpAny_bind (base_of S (wpAny_bind (new_set (wpAny_bind (m := Builtin.Frozenset.addrOf _) (wpAny_pure ?_)))))
  have S0 : PSet P w (s.heap.push (freshSet w)) s.heap.objs.size [] _ := pset_new (Heap.get?_push_size _ rfl)
  refine wpAny_bind (merge_tk (s := { s with heap := s.heap.push (freshSet w) }) S0 (S.push _) (Nat.ne_of_lt S.lt) (by simpa using few) hu (fun s2 Q2 _ z => wpAny_pure z) fun h2 d L2 D2 sb S2 mk => ?_)
  refine wpAny_pure (q h2 d L2 D2 ⟨S2, push_same sb⟩ ?_ mk)
  have e : (ks L2).Perm (ks L) := (List.perm_ext_iff_of_nodup S2.dist S.dist).mpr fun k => by simpa using mk.key k
  simpa using e.length_eq
theorem anySet_of (S : PSet P w s.heap a L D) {Q : Bool → Shared → Prop} (q : Q true s) : wpAny (model P w) A (Builtin.Frozenset.isAnySet (.ref a)) Q E s := by
  unfold Builtin.Frozenset.isAnySet
  refine wpAny_bind (wpAny_isInstance (b := true) S.typeIs sub_set_self ?_)
  exact wpAny_pure q
theorem size_of (S : PSet P w s.heap a L D) {Q : Nat → Shared → Prop} (q : Q L.length s) : wpAny (model P w) A (Builtin.Frozenset.sizeOf a) Q E s := by
  obtain ⟨o, ho, hx, od⟩ := S.own
  unfold Builtin.Frozenset.sizeOf
  refine wpAny_bind (wpAny_setEntries_of ho od S.fits (wpAny_pure ?_))
  rw [S.count]
  exact q
theorem epoch_of (S : PSet P w s.heap a L D) {Q : Nat → Shared → Prop} (q : Q D.2.1 s) : wpAny (model P w) A (setEpoch a) Q E s := by
  obtain ⟨o, ho, hx, od⟩ := S.own
  exact wpAny_setEpoch_of ho od S.fits q
theorem unch_of (S : PSet P w s.heap a L D) {id : String} {Q : Unit → Shared → Prop} (q : Q () s) : wpAny (model P w) A (Builtin.Frozenset.unchanged id a D.2.1) Q E s := by
  unfold Builtin.Frozenset.unchanged
  exact wpAny_bind (epoch_of S (wp_if_neg (by simp) (wpAny_pure q)))
/-- update -/
theorem update_tk {id : String} (Sr : PSet P w s.heap r L1 D1) (So : PSet P w s.heap o L2 D2) (ne : o ≠ r) (few : L1.length + L2.length ≤ 126) (hu : A.units < cLine) {Q : Unit → Shared → Prop}
    (q : ∀ h2 d L D, Heap.SameBut r s.heap h2 → PSet P w h2 r L D → Made OrF L1 L2 L → Q () { s with heap := h2, drawn := d }) : wpAny (model P w) A (Builtin.Frozenset.updateFrom id r (.ref o)) Q E s := by
  unfold Builtin.Frozenset.updateFrom
  refine wpAny_bind (anySet_of So (wp_if_pos rfl ?_))
  refine wpAny_bind (m := Builtin.Frozenset.addrOf _) (wpAny_pure ?_)
  unfold Builtin.Frozenset.merge
  refine wpAny_bind (epoch_of So ?_)
  exact merge_tk Sr So ne few hu (fun s2 Q2 S2 z => unch_of S2 z) q
end
end Own

set_option Elab.async false
set_option linter.all false
set_option maxRecDepth 100000
set_option maxHeartbeats 4000000
/-! Sets of tuples: the operators. -/
namespace Own
open PySem PySem.Spec PyProof.Rows L2
abbrev AndF : Prop → Prop → Prop := fun a b => a ∧ b
abbrev SubF : Prop → Prop → Prop := fun a b => a ∧ ¬ b
abbrev XorF : Prop → Prop → Prop := fun a b => (a ∧ ¬ b) ∨ (¬ a ∧ b)
theorem entry_set_or : entryFor table "set.__or__" = some Builtin.«frozenset.__or__» := entryFor_alias (id' := "frozenset.__or__") (by kernel_rfl) rfl (by decide +kernel) (by kernel_rfl)
theorem entry_set_and : entryFor table "set.__and__" = some Builtin.«frozenset.__and__» := entryFor_alias (id' := "frozenset.__and__") (by kernel_rfl) rfl (by decide +kernel) (by kernel_rfl)
theorem entry_set_sub : entryFor table "set.__sub__" = some Builtin.«frozenset.__sub__» := entryFor_alias (id' := "frozenset.__sub__") (by kernel_rfl) rfl (by decide +kernel) (by kernel_rfl)
theorem entry_set_xor : entryFor table "set.__xor__" = some Builtin.«frozenset.__xor__» := entryFor_alias (id' := "frozenset.__xor__") (by kernel_rfl) rfl (by decide +kernel) (by kernel_rfl)
section
variable {P : Program} {w : World} {A : Around} {E : Value → Shared → Prop} {s : Shared} {h h' : Heap} {a b c r o : Addr} {k k' : List Key} {D D' D1 D2 : SD3} {L L' L1 L2 L4 Lw Ld : Rws} {n : Nat} {p : List Key × Addr}
/-- one may have come in -/
structure Grow (L : Rws) (p : List Key × Addr) (L4 : Rws) : Prop where
  sub : ∀ x ∈ L4, x ∈ L ∨ x = p
  key : ∀ k, k ∈ ks L4 ↔ k ∈ ks L ∨ k = p.1
theorem Grow.of (c1 : p.1 ∈ ks L → L4 = L) (c2 : p.1 ∉ ks L → L4.Perm (p :: L)) : Grow L p L4 := by
  by_cases c : p.1 ∈ ks L
  · rw [c1 c]
    exact ⟨fun x m => .inl m, fun k => ⟨.inl, fun z => z.elim id fun e => e ▸ c⟩⟩
  · refine ⟨fun x m => ?_, fun k => ?_⟩
    · rcases List.mem_cons.mp ((c2 c).mem_iff.mp m) with e | e
      · exact .inr e
      · exact .inl e
    · have z := ((c2 c).map (·.1)).mem_iff (a := k)
      rw [List.map_cons, List.mem_cons] at z
      exact z.trans or_comm
/-- one is out -/
structure Cut1 (L : Rws) (p : List Key × Addr) (L4 : Rws) : Prop where
  sub : ∀ x ∈ L4, x ∈ L
  key : ∀ k, k ∈ ks L4 ↔ k ∈ ks L ∧ k ≠ p.1
theorem Cut1.of {i : Nat} {q : List Key × Addr} (nd : (ks L).Nodup) (e : L[i]? = some q) (eq : q.1 = p.1) : Cut1 L p (L.eraseIdx i) :=
  ⟨fun x m => List.mem_of_mem_eraseIdx m, fun k => by rw [show k ∈ ks (L.eraseIdx i) ↔ _ from nodup_erase nd e k, eq]⟩
theorem Cut1.none (c : p.1 ∉ ks L) : Cut1 L p L := ⟨fun x m => m, fun k => ⟨fun z => ⟨z, fun e => c (e ▸ z)⟩, fun z => z.1⟩⟩
/-- in a walk each comes once -/
theorem fresh_key (nd : (ks Lw).Nodup) {Lx : Rws} (e : Lw = Ld ++ p :: Lx) : p.1 ∉ ks Ld := fun m => by
  subst e
  rw [show ks (Ld ++ p :: Lx) = ks Ld ++ p.1 :: ks Lx from by simp [ks]] at nd
  exact (List.nodup_append.mp nd).2.2 _ m _ (by simp) rfl
theorem nodup_perm (S : PSet P w h a L D) (pm : Lw.Perm L) : (ks Lw).Nodup := (pm.map (·.1)).nodup_iff.mpr S.dist
/-- what both have -/
theorem inter_tk {id : String} (S1 : PSet P w s.heap a L1 D1) (S2 : PSet P w s.heap b L2 D2) (ne : b ≠ a) (few : L1.length ≤ 126) (few2 : L2.length ≤ 126) (hu : A.units < cLine) {Q : Value → Shared → Prop}
    (q : ∀ h2 d L D, NewSet P w s.heap h2 L D → Made AndF L1 L2 L → Q (.ref s.heap.objs.size) { s with heap := h2, drawn := d }) : wpAny (model P w) A (Builtin.Frozenset.intersection id a (.ref b)) Q E s := by
  unfold Builtin.Frozenset.intersection
  refine wp_if_neg (by simp [ne]) ?_
  refine wpAny_bind (base_of S1 (wpAny_bind (new_set (wpAny_bind (m := Builtin.Frozenset.addrOf _) (wpAny_pure ?_)))))
  have S0 : PSet P w (s.heap.push (freshSet w)) s.heap.objs.size [] _ := pset_new (Heap.get?_push_size _ rfl)
  have na := Nat.ne_of_lt S1.lt
  have nb := Nat.ne_of_lt S2.lt
  have T1 := S1.push (freshSet w)
  have T2 := S2.push (freshSet w)
  refine wpAny_bind (wpAny_holding ?_)
  refine wpAny_bind (anySet_of (s := { s with heap := s.heap.push (freshSet w) }) T2 (wp_if_pos rfl ?_))
  refine wpAny_bind (m := Builtin.Frozenset.addrOf _) (wpAny_pure ?_)
  refine wpAny_bind (size_of (s := { s with heap := s.heap.push (freshSet w) }) T2 ?_)
  refine wpAny_bind (size_of (s := { s with heap := s.heap.push (freshSet w) }) T1 ?_)
  have main : ∀ (x y : Addr) (Lx Ly : Rws) (Dx Dy : SD3), PSet P w (s.heap.push (freshSet w)) x Lx Dx → PSet P w (s.heap.push (freshSet w)) y Ly Dy → x ≠ s.heap.objs.size → y ≠ s.heap.objs.size → Lx.length ≤ 126 →
      (∀ L, Made AndF Lx Ly L → Made AndF L1 L2 L) →
      wpAny (model P w) A (do
        let was ← setEpoch x
        for (h, v) in ← setWalkUnseen x [y, s.heap.objs.size] (some s.heap.objs.size) do
          holding [v] do
            if (← setFind y v h).isSome then
              let _ ← setAddHashed s.heap.objs.size v h
          Builtin.Frozenset.unchanged id x was) (fun _ s1 => wpAny (model P w) A (pure (Value.ref s.heap.objs.size)) Q E s1) E { s with heap := s.heap.push (freshSet w) } := by
    intro x y Lx Ly Dx Dy Sx Sy nx ny fx turn
    refine wpAny_bind (epoch_of (s := { s with heap := s.heap.push (freshSet w) }) Sx ?_)
    refine wpAny_bind (walk_unseen (s := { s with heap := s.heap.push (freshSet w) }) Sx _ _ fun Lw d pw xs ex => ?_)
    have nd := nodup_perm Sx pw
    refine wpAny_bind (rows_loop (Lw := Lw) (fun Ld s2 => ∃ h3 L D, s2 = { s with heap := h3, drawn := d } ∧ Heap.SameBut s.heap.objs.size (s.heap.push (freshSet w)) h3 ∧ PSet P w h3 s.heap.objs.size L D ∧ (∀ p ∈ L, p ∈ Ld) ∧ ∀ k, k ∈ ks L ↔ k ∈ ks Ld ∧ k ∈ ks Ly) (fun Ld p Lr s2 ew j => ?_) (fun s2 j => ?_) ex ⟨_, [], _, rfl, Heap.SameBut.refl _ _, S0, fun p m => (by cases m), fun k => ⟨fun z => (by cases z), fun z => (by cases z.1)⟩⟩)
    · obtain ⟨h3, L, D, rfl, sb3, S3, g1, g2⟩ := j
      have mp : p ∈ Lx := pw.mem_iff.mp (by rw [ew]; simp)
      have Sx3 := Sx.but S0 nx sb3
      have Sy3 := Sy.but S0 ny sb3
      have lw : Ld.length < Lx.length := by
        rw [← pw.length_eq, ew, List.length_append, List.length_cons]
        omega
      have ln : L.length ≤ Ld.length := by
        have z := List.Nodup.length_le_of_subset S3.dist (l₂ := ks Ld) fun k mk => ((g2 k).mp mk).1
        simpa using z
      refine wpAny_bind (wpAny_holding (wpAny_bind ?_))
      have miss : p.1 ∉ ks Ly → ∃ h3' L D, ({ s with heap := h3, drawn := d } : Shared) = { s with heap := h3', drawn := d } ∧ Heap.SameBut s.heap.objs.size (s.heap.push (freshSet w)) h3' ∧ PSet P w h3' s.heap.objs.size L D ∧ (∀ q ∈ L, q ∈ Ld ++ [p]) ∧ ∀ k, k ∈ ks L ↔ k ∈ ks (Ld ++ [p]) ∧ k ∈ ks Ly := fun c => by
        refine ⟨h3, L, D, rfl, sb3, S3, fun q mq => List.mem_append_left _ (g1 q mq), fun k => ?_⟩
        rw [g2, ks_add]
        constructor
        · exact fun z => ⟨.inl z.1, z.2⟩
        · rintro ⟨z | z, z2⟩
          · exact ⟨z, z2⟩
          · exact absurd (z ▸ z2) c
      refine find_at (s := { s with heap := h3, drawn := d }) Sy3 (Sx3.here p mp) hu (fun i p2 ei ek => ?_) fun c => ?_
      · have c : p.1 ∈ ks Ly := List.mem_map.mpr ⟨p2, List.mem_of_getElem? ei, ek⟩
        refine wp_if_pos rfl ?_
        refine wpAny_bind (put_one (s := { s with heap := h3, drawn := d }) S3 (Sx3.here p mp) hu (by omega) fun y h4 L4 D4 sb4 S4 c1 c2 => ?_)
        have gr := Grow.of c1 c2
        refine wpAny_pure ?_
        refine wpAny_bind (unch_of (s := { s with heap := h4, drawn := d }) (Sx3.but S3 nx sb4) (wpAny_pure ⟨rfl, h4, L4, D4, rfl, sb3.trans sb4, S4, fun q mq => ?_, fun k => ?_⟩))
        · rcases gr.sub q mq with z | z
          · exact List.mem_append_left _ (g1 q z)
          · rw [z]
            simp
        · rw [gr.key, g2, ks_add]
          constructor
          · rintro (z | z)
            · exact ⟨.inl z.1, z.2⟩
            · exact ⟨.inr z, z ▸ c⟩
          · rintro ⟨z | z, z2⟩
            · exact .inl ⟨z, z2⟩
            · exact .inr z
      · refine wp_if_neg (by simp) (wpAny_pure ?_)
        exact wpAny_bind (unch_of (s := { s with heap := h3, drawn := d }) Sx3 (wpAny_pure ⟨rfl, miss c⟩))
    · obtain ⟨h3, L, D, rfl, sb3, S3, g1, g2⟩ := j
      refine wpAny_pure (wpAny_pure (q h3 d L D ⟨S3, push_same sb3⟩ (turn L ⟨fun p mp => .inl (pw.mem_iff.mp (g1 p mp)), fun k => ?_⟩)))
      rw [g2, (pw.map (·.1)).mem_iff]
  by_cases c : L2.length > L1.length
  · rw [if_pos c]
    exact main a b L1 L2 D1 D2 T1 T2 na nb few fun L m => m
  · rw [if_neg c]
    exact main b a L2 L1 D2 D1 T2 T1 nb na few2 fun L m => m.swap fun a b => and_comm
/-- what the other one lacks -/
theorem diff_tk {id : String} (S1 : PSet P w s.heap a L1 D1) (S2 : PSet P w s.heap b L2 D2) (ne : b ≠ a) (few : L1.length ≤ 126) (few2 : L2.length ≤ 126) (hu : A.units < cLine) {Q : Value → Shared → Prop}
    (q : ∀ h2 d L D, NewSet P w s.heap h2 L D → Made SubF L1 L2 L → Q (.ref s.heap.objs.size) { s with heap := h2, drawn := d }) : wpAny (model P w) A (Builtin.Frozenset.difference id a (.ref b)) Q E s := by
  have na := Nat.ne_of_lt S1.lt
  have nb := Nat.ne_of_lt S2.lt
  unfold Builtin.Frozenset.difference
  dsimp only
  refine wpAny_bind (anySet_of S2 ?_)
  refine wp_if_neg (by simp) ?_
  refine wpAny_bind (m := Builtin.Frozenset.addrOf _) (wpAny_pure ?_)
  refine wp_if_neg (by simp) ?_
  refine wpAny_bind (size_of S2 ?_)
  refine wpAny_bind (size_of S1 ?_)
  by_cases big : L1.length / 4 > L2.length
  · refine wp_if_pos big ?_
    refine wpAny_bind (wpAny_rule ?_)
    refine wpAny_bind (copy_tk S1 few hu fun h2 d0 L0 D0 N len mk => ?_)
    have e0 : ∀ k, k ∈ ks L0 ↔ k ∈ ks L1 := fun k => by rw [mk.key]; exact or_nilL.symm
    have sub0 : ∀ p ∈ L0, p ∈ L1 := fun p mp => (mk.sub p mp).elim (fun z => by cases z) fun z => z
    have S2' : PSet P w h2 b L2 D2 := S2.keep (fun u e => N.old b u e) fun p mp => (S2.here p mp).keep N.old
    refine wpAny_bind (m := Builtin.Frozenset.addrOf _) (wpAny_pure ?_)
    refine wpAny_bind (wpAny_holding ?_)
    unfold Builtin.Frozenset.differenceUpdate
    refine wp_if_neg (by simp [nb]) ?_
    refine wpAny_bind (anySet_of (s := { s with heap := h2, drawn := d0 }) S2' (wp_if_pos rfl ?_))
    refine wpAny_bind (m := Builtin.Frozenset.addrOf _) (wpAny_pure ?_)
    refine wpAny_bind (size_of (s := { s with heap := h2, drawn := d0 }) S2' ?_)
    refine wpAny_bind (size_of (s := { s with heap := h2, drawn := d0 }) N.set ?_)
    refine wp_if_neg (by rw [len]; omega) ?_
    refine wpAny_bind (epoch_of (s := { s with heap := h2, drawn := d0 }) S2' ?_)
    refine wpAny_bind (wpAny_holding ?_)
    refine wpAny_bind (walk_unseen (s := { s with heap := h2, drawn := d0 }) S2' _ _ fun Lw d pw xs ex => ?_)
    have nd := nodup_perm S2' pw
    refine wpAny_bind (rows_loop (Lw := Lw) (fun Ld s2 => ∃ h3 L D, s2 = { s with heap := h3, drawn := d } ∧ Heap.SameBut s.heap.objs.size h2 h3 ∧ PSet P w h3 s.heap.objs.size L D ∧ (∀ p ∈ L, p ∈ L1) ∧ L.length ≤ L0.length ∧ ∀ k, k ∈ ks L ↔ k ∈ ks L1 ∧ ¬ k ∈ ks Ld) (fun Ld p Lr s2 ew j => ?_) (fun s2 j => ?_) ex ⟨h2, L0, D0, rfl, Heap.SameBut.refl _ _, N.set, sub0, Nat.le_refl _, fun k => by rw [e0]; exact ⟨fun z => ⟨z, fun y => (by cases y)⟩, fun z => z.1⟩⟩)
    · obtain ⟨h3, L, D, rfl, sb3, S3, g1, gl, g2⟩ := j
      have mp : p ∈ L2 := pw.mem_iff.mp (by rw [ew]; simp)
      have S23 : PSet P w h3 b L2 D2 := S2'.but N.set nb sb3
      refine wpAny_bind (wpAny_holding ?_)
      refine discard_one (s := { s with heap := h3, drawn := d }) S3 (S23.here p mp) hu (fun c => ?_) fun i p2 h4 D4 ei ek sb4 S4 => ?_
      · refine wpAny_bind (unch_of (s := { s with heap := h3, drawn := d }) S23 (wpAny_pure ⟨rfl, h3, L, D, rfl, sb3, S3, g1, gl, fun k => ?_⟩))
        rw [g2, ks_add, not_or]
        refine ⟨fun z => ⟨z.1, z.2, fun e => c ((g2 _).mpr (e ▸ z))⟩, fun z => ⟨z.1, z.2.1⟩⟩
      · have ct := Cut1.of (p := p) S3.dist ei ek
        have il := (List.getElem?_eq_some_iff.mp ei).1
        refine wpAny_bind (unch_of (s := { s with heap := h4, drawn := d }) (S23.but S3 nb sb4) (wpAny_pure ⟨rfl, h4, L.eraseIdx i, D4, rfl, sb3.trans sb4, S4, fun q mq => g1 q (ct.sub q mq), by rw [List.length_eraseIdx_of_lt il]; omega, fun k => ?_⟩))
        rw [ct.key, g2, ks_add, not_or]
        exact and_assoc
    · obtain ⟨h3, L, D, rfl, sb3, S3, g1, gl, g2⟩ := j
      refine wpAny_pure ?_
      refine tidy_one (s := { s with heap := h3, drawn := d }) S3 (by omega) fun h4 L4 D4 sb4 S4 pm => ?_
      refine wpAny_pure (q h4 d L4 D4 ⟨S4, fun x u e => ?_⟩ ⟨fun p mp => .inl (g1 p (pm.mem_iff.mp mp)), fun k => ?_⟩)
      · have ne := Nat.ne_of_lt (Heap.lt_size e)
        rw [sb4.2 x ne, sb3.2 x ne]
        exact N.old x u e
      · rw [(pm.map (·.1)).mem_iff, show k ∈ L.map (·.1) ↔ _ from g2 k, (pw.map (·.1)).mem_iff]
  · refine wp_if_neg big ?_
    refine wpAny_bind (base_of S1 (wpAny_bind (new_set (wpAny_bind (m := Builtin.Frozenset.addrOf _) (wpAny_pure ?_)))))
    have S0 : PSet P w (s.heap.push (freshSet w)) s.heap.objs.size [] _ := pset_new (Heap.get?_push_size _ rfl)
    have T1 := S1.push (freshSet w)
    have T2 := S2.push (freshSet w)
    refine wpAny_bind (epoch_of (s := { s with heap := s.heap.push (freshSet w) }) T1 ?_)
    refine wpAny_bind (wpAny_holding ?_)
    refine wpAny_bind (wp_if_pos rfl (walk_unseen (s := { s with heap := s.heap.push (freshSet w) }) T1 _ _ fun Lw d pw xs ex => ?_))
    have nd := nodup_perm T1 pw
    refine wpAny_bind (rows_loop (Lw := Lw) (fun Ld s2 => ∃ h3 L D, s2 = { s with heap := h3, drawn := d } ∧ Heap.SameBut s.heap.objs.size (s.heap.push (freshSet w)) h3 ∧ PSet P w h3 s.heap.objs.size L D ∧ (∀ p ∈ L, p ∈ Ld) ∧ ∀ k, k ∈ ks L ↔ k ∈ ks Ld ∧ ¬ k ∈ ks L2) (fun Ld p Lr s2 ew j => ?_) (fun s2 j => ?_) ex ⟨_, [], _, rfl, Heap.SameBut.refl _ _, S0, fun p m => (by cases m), fun k => ⟨fun z => (by cases z), fun z => (by cases z.1)⟩⟩)
    · obtain ⟨h3, L, D, rfl, sb3, S3, g1, g2⟩ := j
      have mp : p ∈ L1 := pw.mem_iff.mp (by rw [ew]; simp)
      have Sx3 := T1.but S0 na sb3
      have Sy3 := T2.but S0 nb sb3
      have lw : Ld.length < L1.length := by
        rw [← pw.length_eq, ew, List.length_append, List.length_cons]
        omega
      have ln : L.length ≤ Ld.length := by
        have z := List.Nodup.length_le_of_subset S3.dist (l₂ := ks Ld) fun k mk => ((g2 k).mp mk).1
        simpa using z
      refine wpAny_bind (wpAny_holding (wp_if_pos rfl (wpAny_bind ?_)))
      refine find_at (s := { s with heap := h3, drawn := d }) Sy3 (Sx3.here p mp) hu (fun i p2 ei ek => ?_) fun c => ?_
      · have c : p.1 ∈ ks L2 := List.mem_map.mpr ⟨p2, List.mem_of_getElem? ei, ek⟩
        refine wpAny_bind (wpAny_pure (wp_if_neg (by simp) (wpAny_pure ?_)))
        refine wpAny_bind (unch_of (s := { s with heap := h3, drawn := d }) Sx3 (wpAny_pure ⟨rfl, h3, L, D, rfl, sb3, S3, fun q mq => List.mem_append_left _ (g1 q mq), fun k => ?_⟩))
        rw [g2, ks_add]
        refine ⟨fun z => ⟨.inl z.1, z.2⟩, ?_⟩
        rintro ⟨z | z, z2⟩
        · exact ⟨z, z2⟩
        · exact absurd (z ▸ c) z2
      · refine wpAny_bind (wpAny_pure (wp_if_pos (by simp) ?_))
        refine wpAny_bind (put_one (s := { s with heap := h3, drawn := d }) S3 (Sx3.here p mp) hu (by omega) fun y h4 L4 D4 sb4 S4 c1 c2 => ?_)
        have gr := Grow.of c1 c2
        refine wpAny_pure ?_
        refine wpAny_bind (unch_of (s := { s with heap := h4, drawn := d }) (Sx3.but S3 na sb4) (wpAny_pure ⟨rfl, h4, L4, D4, rfl, sb3.trans sb4, S4, fun q mq => ?_, fun k => ?_⟩))
        · rcases gr.sub q mq with z | z
          · exact List.mem_append_left _ (g1 q z)
          · rw [z]
            simp
        · rw [gr.key, g2, ks_add]
          constructor
          · rintro (z | z)
            · exact ⟨.inl z.1, z.2⟩
            · exact ⟨.inr z, z ▸ c⟩
          · rintro ⟨z | z, z2⟩
            · exact .inl ⟨z, z2⟩
            · exact .inr z
    · obtain ⟨h3, L, D, rfl, sb3, S3, g1, g2⟩ := j
      refine wpAny_pure (wpAny_pure (q h3 d L D ⟨S3, push_same sb3⟩ ⟨fun p mp => .inl (pw.mem_iff.mp (g1 p mp)), fun k => ?_⟩))
      rw [g2, (pw.map (·.1)).mem_iff]
end
end Own

set_option Elab.async false
set_option linter.all false
set_option maxRecDepth 100000
set_option maxHeartbeats 4000000
namespace Own
open PySem PySem.Spec PyProof.Rows L2
section
variable {P : Program} {w : World} {A : Around} {E : Value → Shared → Prop} {s : Shared} {h h' : Heap} {a b c r o : Addr} {k k' : List Key} {D D' D1 D2 : SD3} {L L' L1 L2 L4 Lw Ld : Rws} {n : Nat} {p : List Key × Addr}
/-- what is in one only -/
theorem flip_tk {id : String} (S1 : PSet P w s.heap a L1 D1) (S2 : PSet P w s.heap b L2 D2) (ne : b ≠ a) (few : L1.length + L2.length ≤ 126) (hu : A.units < cLine) {Q : Unit → Shared → Prop}
    (q : ∀ h2 d L D, Heap.SameBut a s.heap h2 → PSet P w h2 a L D → Made XorF L1 L2 L → Q () { s with heap := h2, drawn := d }) : wpAny (model P w) A (Builtin.Frozenset.symmetricDifferenceUpdate id a (.ref b)) Q E s := by
  unfold Builtin.Frozenset.symmetricDifferenceUpdate
  refine wp_if_neg (by simp [ne]) ?_
  dsimp only
  refine wpAny_bind (wpAny_typeOf S2.typeIs ?_)
  refine wp_if_neg (by decide) ?_
  refine wpAny_bind (anySet_of S2 (wp_if_pos rfl ?_))
  refine wpAny_bind (wpAny_pure ?_)
  refine wpAny_bind (m := Builtin.Frozenset.addrOf _) (wpAny_pure ?_)
  refine wpAny_bind (epoch_of S2 ?_)
  refine wpAny_holding ?_
  refine wpAny_bind (walk_unseen S2 _ _ fun Lw d pw xs ex => ?_)
  have nd := nodup_perm S2 pw
  refine wpAny_bind (rows_loop (Lw := Lw) (fun Ld s2 => ∃ h3 L D, s2 = { s with heap := h3, drawn := d } ∧ Heap.SameBut a s.heap h3 ∧ PSet P w h3 a L D ∧ Made XorF L1 Ld L) (fun Ld p Lr s2 ew j => ?_) (fun s2 j => ?_) ex ⟨s.heap, L1, D1, rfl, Heap.SameBut.refl _ _, S1, fun p m => .inl m, fun k => ⟨fun z => .inl ⟨z, fun y => (by cases y)⟩, fun z => z.elim (fun y => y.1) fun y => (by cases y.2)⟩⟩)
  · obtain ⟨h3, L, D, rfl, sb3, S3, mk⟩ := j
    have mp : p ∈ L2 := pw.mem_iff.mp (by rw [ew]; simp)
    have fr : p.1 ∉ ks Ld := fresh_key nd ew
    have S23 : PSet P w h3 b L2 D2 := S2.but S1 ne sb3
    have lw : Ld.length < L2.length := by
      rw [← pw.length_eq, ew, List.length_append, List.length_cons]
      omega
    have ln := mk.len S3.dist
    refine wpAny_bind (wpAny_holding (wpAny_bind ?_))
    refine discard_one (s := { s with heap := h3, drawn := d }) S3 (S23.here p mp) hu (fun c => ?_) fun i p2 h4 D4 ei ek sb4 S4 => ?_
    · refine wp_if_pos (by simp) ?_
      refine wpAny_bind (put_one (s := { s with heap := h3, drawn := d }) S3 (S23.here p mp) hu (by omega) fun y h4 L4 D4 sb4 S4 c1 c2 => ?_)
      have gr := Grow.of c1 c2
      refine wpAny_pure ?_
      refine wpAny_bind (unch_of (s := { s with heap := h4, drawn := d }) (S23.but S3 ne sb4) (wpAny_pure ⟨rfl, h4, L4, D4, rfl, sb3.trans sb4, S4, fun q mq => ?_, fun k => ?_⟩))
      · rcases gr.sub q mq with z | z
        · exact (mk.sub q z).imp (fun y => y) fun y => List.mem_append_left _ y
        · rw [z]
          exact .inr (by simp)
      · rw [gr.key, mk.key]
        show _ ↔ (_ ∧ ¬ k ∈ ks (Ld ++ [p])) ∨ (_ ∧ k ∈ ks (Ld ++ [p]))
        rw [ks_add]
        have c2 := c
        rw [show p.1 ∈ L.map (·.1) ↔ _ from mk.key p.1] at c2
        by_cases e : k = p.1
        · subst e
          have n1 : p.1 ∉ ks L1 := fun z => c2 (.inl ⟨z, fr⟩)
          exact ⟨fun _ => .inr ⟨n1, .inr rfl⟩, fun _ => .inr rfl⟩
        · simp only [e, or_false]
    · have ct := Cut1.of (p := p) S3.dist ei ek
      refine wp_if_neg (by simp) (wpAny_pure ?_)
      refine wpAny_bind (unch_of (s := { s with heap := h4, drawn := d }) (S23.but S3 ne sb4) (wpAny_pure ⟨rfl, h4, L.eraseIdx i, D4, rfl, sb3.trans sb4, S4, fun q mq => (mk.sub q (ct.sub q mq)).imp (fun y => y) fun y => List.mem_append_left _ y, fun k => ?_⟩))
      have c2 : p.1 ∈ ks L := List.mem_map.mpr ⟨p2, List.mem_of_getElem? ei, ek⟩
      rw [mk.key] at c2
      rw [ct.key, mk.key]
      show _ ↔ (_ ∧ ¬ k ∈ ks (Ld ++ [p])) ∨ (_ ∧ k ∈ ks (Ld ++ [p]))
      rw [ks_add]
      by_cases e : k = p.1
      · subst e
        have y1 : p.1 ∈ ks L1 := c2.elim (fun z => z.1) fun z => absurd z.2 fr
        simp [y1]
      · simp only [e, or_false, ne_eq, not_false_eq_true, and_true]
  · obtain ⟨h3, L, D, rfl, sb3, S3, mk⟩ := j
    exact wpAny_pure (q h3 d L D sb3 S3 (mk.perm pw))
theorem or_eq (a b : Value) : Builtin.«frozenset.__or__» ⟨[a, b], []⟩ = (do
    if !(← (Builtin.Frozenset.isAnySet a <&&> Builtin.Frozenset.isAnySet b)) then
      rule "frozenset.__or__.declined"
      return ← ret .notImplemented
    let l ← Builtin.Frozenset.addrOf a
    let v ← (do
      let result ← Builtin.Frozenset.copyOf l
      if b != .ref l then holding [result] (Builtin.Frozenset.updateFrom "frozenset.__or__" (← Builtin.Frozenset.addrOf result) b)
      return result)
    ret v) := by rfl
theorem and_eq (a b : Value) : Builtin.«frozenset.__and__» ⟨[a, b], []⟩ = (do
    if !(← (Builtin.Frozenset.isAnySet a <&&> Builtin.Frozenset.isAnySet b)) then
      rule "frozenset.__and__.declined"
      return ← ret .notImplemented
    let l ← Builtin.Frozenset.addrOf a
    let v ← Builtin.Frozenset.intersection "frozenset.__and__" l b
    ret v) := by rfl
theorem sub_eq (a b : Value) : Builtin.«frozenset.__sub__» ⟨[a, b], []⟩ = (do
    if !(← (Builtin.Frozenset.isAnySet a <&&> Builtin.Frozenset.isAnySet b)) then
      rule "frozenset.__sub__.declined"
      return ← ret .notImplemented
    let l ← Builtin.Frozenset.addrOf a
    let v ← Builtin.Frozenset.difference "frozenset.__sub__" l b
    ret v) := by rfl
theorem xor_eq (a b : Value) : Builtin.«frozenset.__xor__» ⟨[a, b], []⟩ = (do
    if !(← (Builtin.Frozenset.isAnySet a <&&> Builtin.Frozenset.isAnySet b)) then
      rule "frozenset.__xor__.declined"
      return ← ret .notImplemented
    let l ← Builtin.Frozenset.addrOf a
    let v ← (do
      let result ← Builtin.Frozenset.newFrom "frozenset.__xor__" (← Builtin.Frozenset.baseOf l) b
      holding [result] (Builtin.Frozenset.symmetricDifferenceUpdate "frozenset.__xor__" (← Builtin.Frozenset.addrOf result) (.ref l))
      return result)
    ret v) := by rfl
/-- the four operators -/
def opF : Operator → Option (Prop → Prop → Prop)
  | .BitOr => some OrF
  | .BitAnd => some AndF
  | .Sub => some SubF
  | .BitXor => some XorF
  | _ => none
theorem two_sets (S1 : PSet P w s.heap a L1 D1) (S2 : PSet P w s.heap b L2 D2) {Q : Bool → Shared → Prop} (q : Q true s) : wpAny (model P w) A (Builtin.Frozenset.isAnySet (.ref a) <&&> Builtin.Frozenset.isAnySet (.ref b)) Q E s := by
  refine wpAny_bind (anySet_of S1 ?_)
  exact anySet_of S2 q
theorem op_tk {op : Operator} {φ : Prop → Prop → Prop} (eo : opF op = some φ) (S1 : PSet P w s.heap a L1 D1) (S2 : PSet P w s.heap b L2 D2) (ne : b ≠ a) (few : L1.length + L2.length ≤ 126) (hu : A.units + 8 < cLine) {Q : Value → Shared → Prop}
    (q : ∀ h2 d L D, NewSet P w s.heap h2 L D → Made φ L1 L2 L → Q (.ref s.heap.objs.size) { s with heap := h2, drawn := d }) : wpAny (model P w) A (binaryOp op (.ref a) (.ref b)) Q E s := by
  have hu1 : A.in1.units < cLine := by
    have e2 : A.in1.units ≤ A.units + 1 := by simp
    omega
  have t1 := S1.typeIs
  have t2 := S2.typeIs
  have na := Nat.ne_of_lt S1.lt
  have nb := Nat.ne_of_lt S2.lt
  have done : ∀ {h2 : Heap} {d : Drawn} {L : Rws} {D : SD3}, NewSet P w s.heap h2 L D → Made φ L1 L2 L → wpAny (model P w) A.in1 (ret (.ref s.heap.objs.size)) (fun fin s' => ∃ r, fin = .done (.ret r) ∧ r ≠ .notImplemented ∧ Q r s') E { s with heap := h2, drawn := d } := fun N m => wpAny_pure ⟨_, rfl, (fun z => by cases z), q _ _ _ _ N m⟩
  cases op <;> first | (cases eo; done) | skip
  · cases eo
    refine wpAny_binaryOp_same t1 t2 F.fills_set_sub F.slot_set_sub (wpAny_call_entry F.slot_set_sub t1 entry_set_sub ?_ (F.args_set_sub_2 _ _))
    rw [sub_eq]
    refine wpAny_bind (two_sets S1 S2 (wp_if_neg (by simp) ?_))
    refine wpAny_bind (m := Builtin.Frozenset.addrOf _) (wpAny_pure ?_)
    exact wpAny_bind (diff_tk S1 S2 ne (by omega) (by omega) hu1 fun h2 d L D N m => done N m)
  · cases eo
    refine wpAny_binaryOp_same t1 t2 F.fills_set_or F.slot_set_or (wpAny_call_entry F.slot_set_or t1 entry_set_or ?_ (F.args_set_or_2 _ _))
    rw [or_eq]
    refine wpAny_bind (two_sets S1 S2 (wp_if_neg (by simp) ?_))
    refine wpAny_bind (m := Builtin.Frozenset.addrOf _) (wpAny_pure ?_)
    refine wpAny_bind (wpAny_bind (copy_tk S1 (by omega) hu1 fun h2 d0 L0 D0 N len mk => ?_))
    have e0 : ∀ k, k ∈ ks L0 ↔ k ∈ ks L1 := fun k => by rw [mk.key]; exact or_nilL.symm
    have sub0 : ∀ p ∈ L0, p ∈ L1 := fun p mp => (mk.sub p mp).elim (fun z => by cases z) fun z => z
    have S2' : PSet P w h2 b L2 D2 := S2.keep (fun u e => N.old b u e) fun p mp => (S2.here p mp).keep N.old
    refine wp_if_pos (by simp [ne]) ?_
    refine wpAny_bind (m := Builtin.Frozenset.addrOf _) (wpAny_pure ?_)
    refine wpAny_bind (wpAny_holding ?_)
    refine update_tk (s := { s with heap := h2, drawn := d0 }) N.set S2' nb (by omega) hu1 fun h4 d4 L4 D4 sb4 S4 mk4 => ?_
    refine wpAny_pure (done ⟨S4, fun x u e => ?_⟩ ⟨fun p mp => (mk4.sub p mp).imp (sub0 p) fun z => z, fun k => ?_⟩)
    · rw [sb4.2 x (Nat.ne_of_lt (Heap.lt_size e))]
      exact N.old x u e
    · rw [mk4.key]
      show _ ∨ _ ↔ _ ∨ _
      rw [e0]
  · cases eo
    refine wpAny_binaryOp_same t1 t2 F.fills_set_xor F.slot_set_xor (wpAny_call_entry F.slot_set_xor t1 entry_set_xor ?_ (F.args_set_xor_2 _ _))
    rw [xor_eq]
    refine wpAny_bind (two_sets S1 S2 (wp_if_neg (by simp) ?_))
    refine wpAny_bind (m := Builtin.Frozenset.addrOf _) (wpAny_pure ?_)
    refine wpAny_bind (wpAny_bind (base_of S1 ?_))
    unfold Builtin.Frozenset.newFrom
    refine wpAny_bind (wpAny_bind (new_set ?_))
    refine wpAny_bind (m := Builtin.Frozenset.addrOf _) (wpAny_pure ?_)
    have S0 : PSet P w (s.heap.push (freshSet w)) s.heap.objs.size [] _ := pset_new (Heap.get?_push_size _ rfl)
    refine wpAny_bind (wpAny_holding ?_)
    refine update_tk (s := { s with heap := s.heap.push (freshSet w) }) S0 (S2.push _) nb (by simp; omega) hu1 fun h2 d0 L0 D0 sb2 N mk => ?_
    have old2 := push_same sb2
    have e0 : ∀ k, k ∈ ks L0 ↔ k ∈ ks L2 := fun k => by rw [mk.key]; exact or_nilL.symm
    have sub0 : ∀ p ∈ L0, p ∈ L2 := fun p mp => (mk.sub p mp).elim (fun z => by cases z) fun z => z
    have len0 : L0.length ≤ L2.length := by
      have z := mk.len N.dist
      simpa using z
    have S1' : PSet P w h2 a L1 D1 := S1.keep (fun u e => old2 a u e) fun p mp => (S1.here p mp).keep old2
    refine wpAny_pure (wpAny_bind (m := Builtin.Frozenset.addrOf _) (wpAny_pure ?_))
    refine wpAny_bind (wpAny_holding ?_)
    refine flip_tk (s := { s with heap := h2, drawn := d0 }) N S1' na (by omega) hu1 fun h4 d4 L4 D4 sb4 S4 mk4 => ?_
    refine wpAny_pure (done ⟨S4, fun x u e => ?_⟩ ⟨fun p mp => (mk4.sub p mp).symm.imp (fun z => z) (sub0 p), fun k => ?_⟩)
    · rw [sb4.2 x (Nat.ne_of_lt (Heap.lt_size e))]
      exact old2 x u e
    · rw [mk4.key]
      show (_ ∧ ¬ _) ∨ (¬ _ ∧ _) ↔ (_ ∧ ¬ _) ∨ (¬ _ ∧ _)
      rw [e0]
      exact ⟨fun z => z.elim (fun y => .inr y.symm) fun y => .inl y.symm, fun z => z.elim (fun y => .inr y.symm) fun y => .inl y.symm⟩
  · cases eo
    refine wpAny_binaryOp_same t1 t2 F.fills_set_and F.slot_set_and (wpAny_call_entry F.slot_set_and t1 entry_set_and ?_ (F.args_set_and_2 _ _))
    rw [and_eq]
    refine wpAny_bind (two_sets S1 S2 (wp_if_neg (by simp) ?_))
    refine wpAny_bind (m := Builtin.Frozenset.addrOf _) (wpAny_pure ?_)
    exact wpAny_bind (inter_tk S1 S2 ne (by omega) (by omega) hu1 fun h2 d L D N m => done N m)
end
end Own

set_option Elab.async false
set_option linter.all false
set_option maxRecDepth 100000
set_option maxHeartbeats 4000000
/-! Operators of sets of pairs, in a def. -/
namespace Own
open PySem PySem.Spec PyProof.Rows L2
section
variable {X : Cx} {pins : List (Addr × Obj)} {σ : L2.St} {H : Hp} {s : Shared}
theorem ks_rows (ms : List PR) (p : PI) : kp p ∈ ks (ms.map rowP) ↔ p ∈ ms.map (·.1) := by
  constructor
  · intro m
    obtain ⟨r, mr, e⟩ := List.mem_map.mp m
    obtain ⟨m2, mm, rfl⟩ := List.mem_map.mp mr
    exact List.mem_map.mpr ⟨m2, mm, kp_inj e⟩
  · intro m
    obtain ⟨m2, mm, rfl⟩ := List.mem_map.mp m
    exact List.mem_map.mpr ⟨rowP m2, List.mem_map.mpr ⟨m2, mm, rfl⟩, rfl⟩
/-- x op y of two sets of pairs -/
def rSetOp (K : PySem.W.Frag) (P : Program) (w : World) (φ : Prop → Prop → Prop) : R2 := fun x y H Q => ∃ (a b : Addr) (ms ns : List PR), x = .ref a ∧ y = .ref b ∧ b ≠ a ∧ H a = some (SetO P w a ms) ∧ H b = some (SetO P w b ns) ∧ (∀ m ∈ ms, Pair2 K H m) ∧ (∀ m ∈ ns, Pair2 K H m) ∧ ms.length + ns.length ≤ 126 ∧
  ∀ c ls, H c = none → (∀ m ∈ ls, m ∈ ms ∨ m ∈ ns) → (∀ p : PI, p ∈ ls.map (·.1) ↔ φ (p ∈ ms.map (·.1)) (p ∈ ns.map (·.1))) → (ls.map (·.1)).Nodup → Q (.ref c) (upd H c (SetO P w c ls))
theorem op_setP {op : Operator} {φ : Prop → Prop → Prop} (eo : opF op = some φ) (hu : X.A.units + 64 < cLine) : OpR X (binaryOp op) (rSetOp X.K X.prog X.w φ) := by
  intro pins s σ H x y v u Q I rx ry h
  obtain ⟨a, b, ms, ns, rfl, rfl, ne, ha, hb, hm, hn, few, q⟩ := h
  cases rx
  cases ry
  obtain ⟨D1, S1⟩ := PSet0.full (I.hok a _ ha).1 fun m mm => tk_told I (hm m mm)
  obtain ⟨D2, S2⟩ := PSet0.full (I.hok b _ hb).1 fun m mm => tk_told I (hn m mm)
  refine op_tk eo S1 S2 ne (by rw [List.length_map, List.length_map]; exact few) (by omega) fun h2 d L D N mk => ?_
  have hf : H s.heap.objs.size = none := I.hok.fresh (Nat.le_refl _)
  obtain ⟨ls, rfl, sub⟩ := rows_of (ms := ms ++ ns) (L := L) fun p mp => by
    rcases mk.sub p mp with m | m
    · obtain ⟨m2, mm, rfl⟩ := List.mem_map.mp m
      exact ⟨m2, List.mem_append_left _ mm, rfl⟩
    · obtain ⟨m2, mm, rfl⟩ := List.mem_map.mp m
      exact ⟨m2, List.mem_append_right _ mm, rfl⟩
  have J : Inv X pins σ (upd H s.heap.objs.size (SetO X.prog X.w s.heap.objs.size ls)) { s with heap := h2, drawn := d } :=
    I.call (ch := []) (Un.laid N.old (Nat.le_refl _) hf) (I.hok.laid N.old (Nat.le_refl _) (setO_ok N.set.bare)) I.bare (fun _ z => nomatch z)
  refine ⟨.ref s.heap.objs.size, _, J, rfl, q _ ls hf (fun m mm => List.mem_append.mp (sub m mm)) (fun p => ?_) ?_⟩
  · have z := mk.key (kp p)
    rw [ks_rows, ks_rows, ks_rows] at z
    exact z
  · have z := N.set.dist
    rw [List.map_map] at z
    refine List.pairwise_map.mpr (List.Pairwise.imp (fun {x y} ne e => ne ?_) (List.pairwise_map.mp z))
    show kp x.1 = kp y.1
    rw [e]
/-- len(set) -/
def rLenS (K : PySem.W.Frag) (P : Program) (w : World) : List V → Hp → VK → Prop := fun xs H Q => ∃ (a : Addr) (ms : List PR), xs = [V.ref a] ∧ H a = some (SetO P w a ms) ∧ (∀ m ∈ ms, Pair2 K H m) ∧ Q (.int ms.length) H
theorem cr_lenS (hc : X.calm = true) : CallR X (.builtin "len") (rLenS X.K X.prog X.w) := by
  intro pins s σ H xs us Q I r h
  obtain ⟨a, ms, rfl, ha, hm, q⟩ := h
  obtain ⟨D, S⟩ := PSet0.full (I.hok a _ ha).1 fun m mm => tk_told I (hm m mm)
  rw [Vals.ref1 r]
  obtain ⟨o, ho, hx, od⟩ := S.own
  have cn := S.count
  have fe := S.few
  rw [List.length_map] at cn fe
  refine Calls.call_function_entry kind_len plain_len entry_len (args_len1 _) ?_
  refine wpAny_len_body_set ho hx od S.fits (by rw [cn]; omega) ?_
  rw [cn]
  exact ⟨.int ms.length, H, (I.tok _).tok _, ⟨_, rfl⟩, q⟩
end
end Own

set_option Elab.async false
set_option linter.all false
set_option maxRecDepth 100000
set_option maxHeartbeats 4000000
/-! | & - ^ of an own class, with instances, lists and tuples on the other side. -/
namespace Own
open PySem PySem.Spec PyProof.Rows L2
/-- a list or a tuple -/
def SeqO (K : PySem.W.Frag) (H : Hp) (b : Addr) : Prop := (∃ xs, SqL K H b xs) ∨ ∃ xs, SqT K H b xs
/-- a built-in type that has no such operator -/
structure OpT (K : PySem.W.Frag) (C : Addr) (nm T : String) : Prop where
  t1 : PySem.W.findIn K (.type T) (PySem.dunder nm) = some none
  t2 : PySem.W.findIn K (.type T) (dunderR nm) = some none
  ap : PySem.W.subIn K (.type T) (.ref C) = some false
structure Op4 (K : PySem.W.Frag) (C f g : Addr) (nm : String) : Prop where
  op : OpC K C nm f g
  l : OpT K C nm "list"
  t : OpT K C nm "tuple"
def optB (K : PySem.W.Frag) (x : Str) (nm T : String) : Bool := decide (PySem.W.findIn K (.type T) (PySem.dunder nm) = some none) && (decide (PySem.W.findIn K (.type T) (dunderR nm) = some none) && decide (PySem.W.subIn K (.type T) (.ref (He.ga K x)) = some false))
def op4B (K : PySem.W.Frag) (x m r : Str) (nm : String) : Bool := PySem.W.selfFirst K (He.ga K x) && (decide (PySem.W.findIn K (.ref (He.ga K x)) (PySem.dunder nm) = some (some (.ref (He.ma K (He.ga K x) m)))) && (PySem.W.isFn K (.ref (He.ma K (He.ga K x) m)) &&
  (decide (PySem.W.findIn K (.ref (He.ga K x)) (dunderR nm) = some (some (.ref (He.ma K (He.ga K x) r)))) && (PySem.W.isFn K (.ref (He.ma K (He.ga K x) r)) && (optB K x nm "list" && optB K x nm "tuple")))))
theorem opt_of {K : PySem.W.Frag} {x : Str} {nm T : String} (c : optB K x nm T = true) : OpT K (He.ga K x) nm T := by
  simp only [optB, Bool.and_eq_true, decide_eq_true_eq] at c
  exact ⟨c.1, c.2.1, c.2.2⟩
theorem op4_of {K : PySem.W.Frag} {x m r : Str} {nm : String} (c : op4B K x m r nm = true) : Op4 K (He.ga K x) (He.ma K (He.ga K x) m) (He.ma K (He.ga K x) r) nm := by
  simp only [op4B, Bool.and_eq_true, decide_eq_true_eq] at c
  obtain ⟨a, b, d, e, f, g, h⟩ := c
  exact ⟨⟨a, b, d, e, f⟩, opt_of g, opt_of h⟩
section
variable {X : Cx} {pins : List (Addr × Obj)} {σ : L2.St} {H : Hp} {s : Shared} {CX : CXT} {k : Nat} {C f g : Addr} {spF spG : Sp} {E : XK} {op : Operator} {sym nm : String}
theorem seqO_type {b : Addr} (I : Inv X pins σ H s) (h : SeqO X.K H b) (o : Op4 X.K C f g nm) : ∃ T, OpT X.K C nm T ∧ PySem.W.Looks (model X.prog X.w) s.heap (typeOf (.ref b)) (.type T) := by
  rcases h with ⟨xs, h⟩ | ⟨xs, h⟩
  · obtain ⟨its, r, ⟨ob, nb, gb, cb, _, db⟩, _⟩ := I.list h
    refine ⟨_, o.l, ?_⟩
    have z := type_ref (M := model X.prog X.w) gb
    rw [cb] at z
    exact z
  · obtain ⟨its, r, ⟨ob, gb, cb, nb, db⟩, _⟩ := I.tuple h
    refine ⟨_, o.t, ?_⟩
    have z := type_ref (M := model X.prog X.w) gb
    rw [cb] at z
    exact z
/-- x op y: x an instance of the class, y another one, a list or a tuple; or y the instance -/
def rOp4 (K : PySem.W.Frag) (C : Addr) (spF spG : Sp) (E : XK) : R2 := fun x y H Q => ∃ a b, x = .ref a ∧ y = .ref b ∧ (((∃ dx fs, H a = some (.ins C dx fs)) ∧ ((∃ dy gs, H b = some (.ins C dy gs)) ∨ SeqO K H b) ∧ spF [x, y] H Q E) ∨
  (SeqO K H a ∧ (∃ dy gs, H b = some (.ins C dy gs)) ∧ spG [y, x] H Q E))
theorem op_4 (hop : op.info = (sym, nm)) (o : Op4 X.K C f g nm) (F : FnR X.prog X.w X.K X.mg X.base CX k f spF) (G : FnR X.prog X.w X.K X.mg X.base CX k g spG) (hr : Room k X.A) (hx : Passes CX X E) : OpR X (binaryOp op) (rOp4 X.K C spF spG E) := by
  intro pins s σ H x y v u Q I rx ry h
  obtain ⟨a, b, rfl, rfl, h⟩ := h
  cases rx; cases ry
  rcases h with ⟨⟨dx, fs, ha⟩, hb, q⟩ | ⟨ha, ⟨dy, gs, hb⟩, q⟩
  · obtain ⟨ox, od, J⟩ := ins_at I ha
    rcases hb with ⟨dy, gs, hb⟩ | hb
    · obtain ⟨oy, oe, J'⟩ := ins_at I hb
      obtain ⟨m, hF⟩ := I.fr
      refine PySem.W.binop_K (op := op) hF I.ok.mod.kin J J'.type o.op.first (by rw [hop]; exact o.op.own) o.op.ofn ?_
      refine thn (wpAny_call (run_fnR (us := [.ref a, .ref b]) (vs := [.ref a, .ref b]) F hr hx I (.cons rfl (.cons rfl .nil)) q)) fun v t z => ?_
      obtain ⟨z', H', I', rz, qz⟩ := z
      exact SlX.cmpback rz ⟨z', H', I', rz, qz⟩
    · obtain ⟨T, t, ty⟩ := seqO_type I hb o
      exact bin_left (op := op) (nm := nm) hop I.kIn J o.op ty t.t1 t.t2 t.ap (call_told (vs := [.ref a, .ref b]) F hr hx I (.cons rfl (.cons rfl .nil)) q)
  · obtain ⟨oy, oe, J⟩ := ins_at I hb
    obtain ⟨T, t, ty⟩ := seqO_type I ha o
    exact bin_right0 (op := op) (nm := nm) hop I.kIn J o.op ty t.t1 t.t2 (call_told (vs := [.ref b, .ref a]) G hr hx I (.cons rfl (.cons rfl .nil)) q)
/-- min of three ints -/
theorem call_min3 (hc : X.calm = true) : CallR X (.builtin "min") (fun xs H Q => ∃ i j n : Int, xs = [.int i, .int j, .int n] ∧ Q (.int (if n < (if j < i then j else i) then n else (if j < i then j else i))) H) := by
  intro pins s σ H xs us Q I r h
  obtain ⟨i, j, n, rfl, q⟩ := h
  refine call_min3Nu hc pins s σ H _ us Q I r ⟨_, _, _, _, rfl, ?_, q⟩
  unfold nuMin3 nuMin2 nuLt nuCB
  by_cases h1 : j < i
  · by_cases h2 : n < j <;> simp [h1, h2]
  · by_cases h2 : n < i <;> simp [h1, h2]
end
section
variable {X : Cx} {s : Shared} {H : Hp} {scope : Scope} {cenv : Env} {fp : List Addr}
theorem opB_inD (hu : X.A.units + 65 < cLine) : OpR (X.blk s H scope cenv fp) (compareOp .In) (rInD X.K) := op_inD hu
theorem opB_notInD (hu : X.A.units + 65 < cLine) : OpR (X.blk s H scope cenv fp) (compareOp .NotIn) (rNotInD X.K) := op_notInD hu
theorem ty_lstP {K : PySem.W.Frag} {H : Hp} {a : Addr} {xs : List V} (h : SqL K H a xs) : TyX K H (.ref a) (.type "list") := by
  rcases h with (h | ⟨o, h⟩) | ⟨o, its, n, h1, h2, _⟩
  · exact .base (.lst h)
  · exact .base (.frz h)
  · exact .kList h1 h2
end
end Own

set_option Elab.async false
set_option linter.all false
set_option maxRecDepth 100000
set_option maxHeartbeats 4000000
/-! x in a tuple of data; == of an own class with any value; list(reversed(a list)). -/
namespace Own
open PySem PySem.Spec PyProof.Rows L2
section
variable {X : Cx}
def rInTD (K : PySem.W.Frag) : R2 := fun x y H Q => ∃ d ds, Dp K H x d ∧ Dp K H y (.tuple ds) ∧ SeqAt.shaped d = true ∧ SeqAt.shaped (.tuple ds) = true ∧ Q (.bl (ds.any fun z => PyData.eqv z d)) H
theorem op_inTD (hu : X.A.units + 65 < cLine) : OpR X (compareOp .In) (rInTD X.K) := by
  rintro pins s σ H x y v u Q I rx ry ⟨d, ds, hd, he, sd, se, q⟩
  obtain ⟨as, r1⟩ := Dp.reads I d x v hd rx
  obtain ⟨bs, r2⟩ := Dp.reads I (.tuple ds) y u he ry
  exact SeqAt.in_tuple_reads r2 r1 (SeqAt.canLay_of_shaped se) (SeqAt.canLay_of_shaped sd) (room_in_shaped sd hu) ⟨.bl _, H, I, rfl, q⟩
end
section
variable {X : Cx} {CX : CXT} {k : Nat} {C f : Addr} {sp : Sp} {E : XK}
/-- another instance of the class, or a value of a built-in type -/
def EqRt (K : PySem.W.Frag) (C : Addr) (H : Hp) (y : V) : Prop := (∃ b dy gs, y = .ref b ∧ H b = some (.ins C dy gs)) ∨ ∃ T : String, TyX K H y (.type T) ∧ PySem.W.subIn K (.type T) (.ref C) = some false
def rEqX (K : PySem.W.Frag) (C : Addr) (sp : Sp) (E : XK) : R2 := fun x y H Q => ∃ a dx fs, x = .ref a ∧ H a = some (.ins C dx fs) ∧ EqRt K C H y ∧ sp [x, y] H (fun v H' => ∃ r, v = .bl r ∧ Q (.bl r) H') E
theorem op_eqX (e : EqC X.K C f) (F : FnR X.prog X.w X.K X.mg X.base CX k f sp) (hr : Room k X.A) (hx : Passes CX X E) : OpR X (compareOp .Eq) (rEqX X.K C sp E) := by
  rintro pins s σ H x y v u Q I rx ry ⟨a, dx, fs, rfl, ha, hy, q⟩
  cases rx
  obtain ⟨ox, od, J⟩ := ins_at I ha
  obtain ⟨m, hF⟩ := I.fr
  obtain ⟨tb, ty, nf⟩ : ∃ tb, PySem.W.Looks (model X.prog X.w) s.heap (typeOf u) tb ∧ PySem.W.notFirst X.K C tb = true := by
    rcases hy with ⟨b, dy, gs, rfl, hb⟩ | ⟨T, ht, hs⟩
    · cases ry
      obtain ⟨oy, oe, J'⟩ := ins_at I hb
      exact ⟨_, J'.type, by simp [PySem.W.notFirst]⟩
    · obtain ⟨P0, kt, hp, _⟩ := kit_of I ry ht
      exact ⟨_, kt.ty _ _ I.kIn hp, by simp [PySem.W.notFirst, hs]⟩
  show wpAny _ _ (richCompare .Eq (.ref a) u) _ _ _
  refine PySem.W.cmp_K (op := .Eq) (tb := tb) hr.units0 hF I.ok.mod.kin J ty nf e.eq e.fn (thn (wpAny_call (run_fnR (us := [.ref a, u]) (vs := [.ref a, y]) F hr hx I (.cons rfl (.cons ry .nil)) q)) fun v t z => ?_)
  obtain ⟨z', H', I', rz, r, ez, qz⟩ := z
  subst ez
  cases rz
  exact ⟨.bl r, H', I', rfl, qz⟩
end
/-! ### list(reversed(a list)) -/
section
variable {prog : Program} {w : World} {A : Around} {E : Value → Shared → Prop} {s : Shared} {R : Result → Shared → Prop} {it l S : Addr} {items : Array Value}
/-- what is known when the list is full -/
def RevFull (it S : Addr) (items : Array Value) (h : Heap) (s : Shared) (Q : Shared → Prop) : Prop := ∀ (h' : Heap) (tk : Nat) (acc : Array Value) (c : Nat), (∀ b o, b ≠ it → b ≠ S → h.get? b = some o → h'.get? b = some o) → h'.get? S = some { cls := .type "list", dict := none, data := .seq acc c, slots := #[] } →
  ItemsOf (fun i v => items[items.size - 1 - i]? = some v) acc items.size → Q { s with heap := h', toks := tk }
theorem rev_extend (hh : A.handled = none) (hit : s.heap.IsRevIter it l ((items.size : Int) - 1)) (hl : s.heap.IsList l items) (hne : l ≠ it) (hSi : S ≠ it) (hSl : S ≠ l) (hn : items.size ≤ sizeLine) {c0 : Nat}
    (hS : s.heap.get? S = some { cls := .type "list", data := .seq #[] c0 }) (q : RevFull it S items s.heap s fun s' => R (.ok (.ret .none)) s') :
    wpAny (model prog w) A.in1 (Builtin.List.listExtendWith (.ref S) (.ref it) .none) (fun fin s' => match fin with | .done f => R (.ok f) s' | .again c' => c'.quiet = true ∧ codeAny (model prog w) A c' R s') (fun e s' => R (.error e) s') s := by
  have W := (Walks.listRev (prog := prog) (w := w) (A := A.in1) hh it l hne items).toS
  have notin : S ∉ [it, l] := by simp [hSi, hSl]
  have hT := hit.typeIs
  have other : Builtin.List.listSameRef (.ref S) (.ref it) = false := by simp [Builtin.List.listSameRef, hSi]
  unfold Builtin.List.listExtendWith
  refine wpAny_bind (wpAny_typeOf hT ?_)
  rw [other, if_neg (by decide)]
  refine wpAny_bind (wpAny_pyIter_revIter hit (wpAny_bind (wpAny_holding ?_)))
  unfold Builtin.List.listLengthHint
  refine wpAny_bind (wpAny_specialOf hT RT.nolen_lri (?_ : wpAny _ A.in1 (specialOf (Value.ref it) (Str.ofString "__length_hint__") >>= _) _ _ _))
  refine wpAny_bind (wpAny_specialOf hT RT.hint_lri ?_)
  generalize hid : ("list_reverseiterator.__length_hint__" : String) = id0
  wp_delta
  rw [show splitId id0 = some ("list_reverseiterator", "__length_hint__") from by subst hid; decide +kernel]
  subst hid
  refine wpAny_bind (wpAny_isInstance (b := true) hT (by rw [isSubtype_type]; kernel_rfl) (wpAny_pure ?_))
  rw [if_neg (by decide)]
  have e0 : ((items.size : Nat) : Int) - 1 - ((0 : Nat) : Int) = (items.size : Int) - 1 := by omega
  refine wpAny_pure ⟨plainId_quiet F.plain_extend_loop _, codeAny_extend_loopS W hn S notin .none items.size 0 s #[] c0 rfl (Nat.zero_le _) ⟨Nat.zero_le _, by rw [e0]; exact hit, hl⟩ hS (ItemsOf.nil _) fun s' acc' c' hm hS' hacc => ?_⟩
  rw [Moved.eq_with hm]
  refine q _ _ acc' c' (fun b o h1 h2 e => hm.heap b o (fun z => ?_) e) hS' hacc
  rcases List.mem_cons.mp z with z | z
  · exact h2 z
  · exact h1 (List.mem_singleton.mp z)
theorem rev_init (hh : A.handled = none) (hit : s.heap.IsRevIter it l ((items.size : Int) - 1)) (hl : s.heap.IsList l items) (hne : l ≠ it) (hSi : S ≠ it) (hSl : S ≠ l) (hn : items.size ≤ sizeLine)
    (hS : s.heap.get? S = some { cls := .type "list", data := .seq #[] }) (q : RevFull it S items s.heap s fun s' => R (.ok (.ret .none)) s') :
    wpAny (model prog w) A.in1 (Builtin.«list.__init__» ⟨[.ref S, .ref it], []⟩) (fun fin s' => match fin with | .done f => R (.ok f) s' | .again c' => c'.quiet = true ∧ codeAny (model prog w) A c' R s') (fun e s' => R (.error e) s') s := by
  have e : Builtin.«list.__init__» ⟨[.ref S, .ref it], []⟩ = (do let old ← Builtin.List.listItems (.ref S); Builtin.List.listUpdate (.ref S) (fun _ => #[]); letGo old.toList.reverse; Builtin.List.listExtendWith (.ref S) (.ref it) .none) := rfl
  rw [e]
  refine wpAny_bind ?_
  unfold Builtin.List.listItems
  refine wpAny_bind (wpAny_seqItems hS rfl (wpAny_pure (wpAny_bind (m := updateSeq S fun _ => #[]) (wpAny_updateSeq hS rfl (wpAny_bind (wpAny_letGo ?_))))))
  have far : ∀ b o, b ≠ S → s.heap.get? b = some o → (s.heap.update S (Obj.mapSeq (fun _ => (#[] : Array Value)))).get? b = some o := fun b o hb e => by rw [Heap.get?_update_other _ _ (Ne.symm hb)]; exact e
  refine rev_extend (s := { s with heap := s.heap.update S (Obj.mapSeq fun _ => (#[] : Array Value)) }) hh (hit.at fun o e => far it o (Ne.symm hSi) e) ?_ hne hSi hSl hn (Heap.get?_update_self (Obj.mapSeq fun _ => (#[] : Array Value)) hS rfl) fun h' tk acc c k hS' hi => q h' tk acc c (fun b o h1 h2 e => k b o h1 h2 (far b o h2 e)) hS' hi
  obtain ⟨o, ho, x⟩ := hl
  exact ⟨o, far l o (Ne.symm hSl) ho, x⟩
theorem call_listRev {Q : Value → Shared → Prop} (hh : A.handled = none) (hit : s.heap.IsRevIter it l ((items.size : Int) - 1)) (hl : s.heap.IsList l items) (hne : l ≠ it) (hn : items.size ≤ sizeLine)
    (q : RevFull it s.heap.objs.size items s.heap s fun s' => Q (.ref s.heap.objs.size) s') : wpAny (model prog w) A (call (.type "list") [.ref it]) Q E s := by
  refine callType_codes (Q₁ := fun v t => v = .ref s.heap.objs.size ∧ t = { s with heap := s.heap.push { cls := .type "list", data := .seq #[] } }) F.called_list (F.typeCall_list_1 _) F.entry_list_init (code_list_new _ ⟨rfl, rfl⟩) fun v t h => ?_
  obtain ⟨rfl, rfl⟩ := h
  have hS : (s.heap.push { cls := .type "list", data := .seq #[] }).get? s.heap.objs.size = some { cls := .type "list", data := .seq #[] } := Heap.get?_push_size _ rfl
  have hi : it < s.heap.objs.size := by
    obtain ⟨o, ho, _⟩ := hit
    exact Heap.lt_size ho
  have hl' : l < s.heap.objs.size := by
    obtain ⟨o, ho, _⟩ := hl
    exact Heap.lt_size ho
  refine ⟨⟨_, hS, rfl⟩, F.args_list_init_2 _ _, rev_init (s := { s with heap := s.heap.push { cls := .type "list", data := .seq #[] } }) (A := A.in1) hh (hit.at fun o e => Heap.get?_push_of_some _ e) (hl.push _) hne (Nat.ne_of_gt hi) (Nat.ne_of_gt hl') hn hS fun h' tk acc c k hS' hi => ?_⟩
  exact ⟨rfl, q h' tk acc c (fun b o h1 h2 e => k b o h1 h2 (Heap.get?_push_of_some _ e)) hS' hi⟩
end
section
variable {X : Cx}
/-- list(reversed(x)), x a list: a new list -/
def tListRev (K : PySem.W.Frag) (te : TE) : TE := fun σ H Q => te σ H fun v H1 => ∃ (a : Addr) (xs : List V), v = .ref a ∧ SqL K H1 a xs ∧ ∀ q, H1 q = none → Q (.ref q) (upd H1 q (.lst xs.reverse))
theorem pe_listRev {e : Expr} {te : TE} {p p2 pos pos2 : Pos} (hc : X.calm = true) (hg : Gl X "list") (hm : X.mg "list" = none) (hg2 : Gl X "reversed") (hm2 : X.mg "reversed" = none) (he : PE X e te)
    (hs : starEach [e] X.env = (false, eval e X.env) :: starEach [] X.env := by rfl)
    (hs2 : starEach [.Call (.Name "reversed" p2) [e] [] pos2] X.env = (false, eval (.Call (.Name "reversed" p2) [e] [] pos2) X.env) :: starEach [] X.env := by rfl) :
    PE X (.Call (.Name "list" p) [.Call (.Name "reversed" p2) [e] [] pos2] [] pos) (tListRev X.K te) := by
  refine ⟨fun pins s σ H Q I h => Call_ (ld_blt I hg hm boot_list (PyProof.Rows.callWith_type1 (args_cons (Call_ (ld_blt I hg2 hm2 PyProof.Rows.boot_reversed (PyProof.Rows.callWith_type1 (args_cons (thn (he.run pins s σ H _ I h) fun u s1 ⟨v, H1, I1, r1, q1⟩ => args_nil ?_) hs) hs rfl))) hs2) hs2 rfl))⟩
  obtain ⟨a, xs, rfl, hq, q⟩ := q1
  cases r1
  obtain ⟨its, rv, p', hz⟩ := I1.list hq
  refine call_reversed_list p'.isList (args_nil ?_)
  obtain ⟨ol, hol, _⟩ := id p'.isList
  have hn : its.toArray.size ≤ sizeLine := by rw [List.size_toArray, ← rv.length]; exact hz
  refine call_listRev (s := { s1 with heap := s1.heap.push (revObj a ((its.toArray.size : Int) - 1)) }) (I1.ok.hd hc) ⟨_, Heap.get?_push_size _ rfl, rfl, rfl⟩ (p'.isList.push _) (Nat.ne_of_lt (Heap.lt_size hol)) hn fun h' tk acc c hk hS hi => ?_
  have sz : (s1.heap.push (revObj a ((its.toArray.size : Int) - 1))).objs.size = s1.heap.objs.size + 1 := Heap.size_push _ _
  have hfr : H1 (s1.heap.objs.size + 1) = none := I1.hok.fresh (Nat.le_succ _)
  dsimp only at hS
  rw [sz] at hS
  refine ⟨.ref (s1.heap.objs.size + 1), upd H1 (s1.heap.objs.size + 1) (.lst xs.reverse), I1.laid (t' := tk) (fun b o e => ?_) (Nat.le_succ _) ⟨by rw [List.length_reverse]; exact hz, acc.toList, c, RT.vals_rev rv hi, ?_⟩, ?_, q _ hfr⟩
  · have lt := Heap.lt_size e
    exact hk b o (Nat.ne_of_lt lt) (fun z => Nat.ne_of_lt (Nat.lt_succ_of_lt lt) (z.trans sz)) (Heap.get?_push_of_some _ e)
  · rw [Array.toArray_toList]
    exact hS
  · show Value.ref _ = Value.ref _
    dsimp only
    rw [sz]
end
end Own

set_option Elab.async false
set_option linter.all false
set_option maxRecDepth 100000
set_option maxHeartbeats 4000000
namespace Own
open PySem PySem.Spec PyProof.Rows L2
def topS (i : Nat) : Stmt := PySem.Challenge.pw_bindspan_k06_captures_compare.main.body.getD i (.Pass ⟨0, 0, 0, 0⟩)
abbrev s_is_word : Stmt := topS 10
theorem sc_is_word : FnScope ["value", "sign"] ["value"] (defScope s_is_word) := ⟨rfl, rfl, rfl, by decide +kernel, rfl, by decide +kernel, by decide +kernel⟩
abbrev s_is_ident : Stmt := topS 11
theorem sc_is_ident : FnScope ["value"] ["value"] (defScope s_is_ident) := ⟨rfl, rfl, rfl, by decide +kernel, rfl, by decide +kernel, by decide +kernel⟩
abbrev s_own_pairs : Stmt := topS 16
theorem sc_own_pairs : FnScope ["pairs", "item"] ["pairs"] (defScope s_own_pairs) := ⟨rfl, rfl, rfl, by decide +kernel, rfl, by decide +kernel, by decide +kernel⟩
abbrev s_is_pair : Stmt := topS 18
theorem sc_is_pair : FnScope ["value"] ["value"] (defScope s_is_pair) := ⟨rfl, rfl, rfl, by decide +kernel, rfl, by decide +kernel, by decide +kernel⟩
abbrev s_is_number : Stmt := topS 19
theorem sc_is_number : FnScope ["value"] ["value"] (defScope s_is_number) := ⟨rfl, rfl, rfl, by decide +kernel, rfl, by decide +kernel, by decide +kernel⟩
abbrev s_l_tape : Stmt := topS 23
theorem sc_l_tape : FnScope ["_law_script", "_law_k", "_law_cell"] ["_law_script", "_law_k"] (defScope s_l_tape) := ⟨rfl, rfl, rfl, by decide +kernel, rfl, by decide +kernel, by decide +kernel⟩
abbrev s_l_draw : Stmt := topS 24
theorem sc_l_draw : FnScope ["_law_tape_here", "_law_many", "_law_digit", "_law_prime", "_law_base", "_law_mixed"] ["_law_tape_here", "_law_many"] (defScope s_l_draw) := ⟨rfl, rfl, rfl, by decide +kernel, rfl, by decide +kernel, by decide +kernel⟩
abbrev s_l_kept : Stmt := topS 25
theorem sc_l_kept : FnScope ["_law_text"] [] (defScope s_l_kept) := ⟨rfl, rfl, rfl, by decide +kernel, rfl, by decide +kernel, by decide +kernel⟩
abbrev s_l_signs : Stmt := topS 26
theorem sc_l_signs : FnScope [] [] (defScope s_l_signs) := ⟨rfl, rfl, rfl, by decide +kernel, rfl, by decide +kernel, by decide +kernel⟩
abbrev s_l_spelled : Stmt := topS 27
theorem sc_l_spelled : FnScope ["_law_tape_here", "_law_used", "_law_shape", "_law_size", "_law_word", "_law_place"] ["_law_tape_here", "_law_used"] (defScope s_l_spelled) := ⟨rfl, rfl, rfl, by decide +kernel, rfl, by decide +kernel, by decide +kernel⟩
abbrev s_l_ident : Stmt := topS 28
theorem sc_l_ident : FnScope ["_law_tape_here", "_law_used", "_law_word", "_law_number_here"] ["_law_tape_here", "_law_used"] (defScope s_l_ident) := ⟨rfl, rfl, rfl, by decide +kernel, rfl, by decide +kernel, by decide +kernel⟩
abbrev s_l_number : Stmt := topS 29
theorem sc_l_number : FnScope ["_law_tape_here"] ["_law_tape_here"] (defScope s_l_number) := ⟨rfl, rfl, rfl, by decide +kernel, rfl, by decide +kernel, by decide +kernel⟩
abbrev s_l_pairs : Stmt := topS 30
theorem sc_l_pairs : FnScope ["_law_script", "_law_first", "_law_last", "_law_pairs_here", "_law_k", "_law_tape_here", "_law_again", "_law_pair", "_law_old"] ["_law_script", "_law_first", "_law_last"] (defScope s_l_pairs) := ⟨rfl, rfl, rfl, by decide +kernel, rfl, by decide +kernel, by decide +kernel⟩
abbrev s_l_ascending : Stmt := topS 31
theorem sc_l_ascending : FnScope ["_law_pairs_here", "_law_found", "_law_pair"] ["_law_pairs_here"] (defScope s_l_ascending) := ⟨rfl, rfl, rfl, by decide +kernel, rfl, by decide +kernel, by decide +kernel⟩
abbrev s_l_subset : Stmt := topS 32
theorem sc_l_subset : FnScope ["_law_first", "_law_second_here", "_law_pair"] ["_law_first", "_law_second_here"] (defScope s_l_subset) := ⟨rfl, rfl, rfl, by decide +kernel, rfl, by decide +kernel, by decide +kernel⟩
abbrev s_l_second : Stmt := topS 33
theorem sc_l_second : FnScope ["_law_tape_here", "_law_pairs_here", "_law_shape", "_law_fresh", "_law_place", "_law_pair"] ["_law_tape_here", "_law_pairs_here"] (defScope s_l_second) := ⟨rfl, rfl, rfl, by decide +kernel, rfl, by decide +kernel, by decide +kernel⟩
abbrev s_l_members : Stmt := topS 34
theorem sc_l_members : FnScope ["_law_made", "_law_due", "_law_others", "_law_pair"] ["_law_made", "_law_due", "_law_others"] (defScope s_l_members) := ⟨rfl, rfl, rfl, by decide +kernel, rfl, by decide +kernel, by decide +kernel⟩
abbrev s_law : Stmt := topS 35
theorem sc_law : FnScope ["_law_script", "_law_pairs_here", "_law_second_here", "_law_made", "_law_other"] ["_law_script"] (defScope s_law) := ⟨rfl, rfl, rfl, by decide +kernel, rfl, by decide +kernel, by decide +kernel⟩
abbrev s_Captures_init : Stmt := inClass (topS 15) 0
theorem sc_Captures_init : FnScope ["self", "pairs"] ["self", "pairs"] (defScope s_Captures_init) := ⟨rfl, rfl, rfl, by decide +kernel, rfl, by decide +kernel, by decide +kernel⟩
abbrev s_Captures_str : Stmt := inClass (topS 15) 3
theorem sc_Captures_str : FnScope ["self", "number", "ident"] ["self"] (defScope s_Captures_str) := ⟨rfl, rfl, rfl, by decide +kernel, rfl, by decide +kernel, by decide +kernel⟩
abbrev s_Captures_within : Stmt := inClass (topS 15) 12
theorem sc_Captures_within : FnScope ["self", "other"] ["self", "other"] (defScope s_Captures_within) := ⟨rfl, rfl, rfl, by decide +kernel, rfl, by decide +kernel, by decide +kernel⟩
abbrev s_Captures_eq : Stmt := inClass (topS 15) 13
theorem sc_Captures_eq : FnScope ["self", "other"] ["self", "other"] (defScope s_Captures_eq) := ⟨rfl, rfl, rfl, by decide +kernel, rfl, by decide +kernel, by decide +kernel⟩
abbrev s_Captures_contains : Stmt := inClass (topS 15) 14
theorem sc_Captures_contains : FnScope ["self", "x"] ["self", "x"] (defScope s_Captures_contains) := ⟨rfl, rfl, rfl, by decide +kernel, rfl, by decide +kernel, by decide +kernel⟩
abbrev s_BadPair : Stmt := inClass (topS 4) 0
theorem sc_BadPair : FnScope ["self", "pair"] ["self", "pair"] (defScope s_BadPair) := ⟨rfl, rfl, rfl, by decide +kernel, rfl, by decide +kernel, by decide +kernel⟩
structure Txt (K : PySem.W.Frag) (mg : Str → Option Value) where
  c_BadPair : ClT K mg "BadPair" "BadPair.__init__" s_BadPair ["self", "pair"] ["pair"]
  a_pairs : Addr
  e_Captures : CnT K mg "Captures"
  i_Captures_init : MtD K e_Captures.C "__init__" "Captures.__init__" s_Captures_init ["self", "pairs"] [.ref a_pairs]
  i_Captures_str : MtT K e_Captures.C "__str__" "Captures.__str__" s_Captures_str ["self"]
  i_Captures_within : MtT K e_Captures.C "within" "Captures.within" s_Captures_within ["self", "other"]
  i_Captures_eq : MtT K e_Captures.C "__eq__" "Captures.__eq__" s_Captures_eq ["self", "other"]
  i_Captures_contains : MtT K e_Captures.C "__contains__" "Captures.__contains__" s_Captures_contains ["self", "x"]
  n_Captures_pairs : NoAttr K e_Captures.C "pairs"
  str_Captures : StrC K e_Captures.C i_Captures_str.a
  eq_Captures : EqC K e_Captures.C i_Captures_eq.a
  in_Captures : InC K e_Captures.C i_Captures_contains.a
  su_Captures_list : PySem.W.subIn K (.type "list") (.ref e_Captures.C) = some false
  su_Captures_tuple : PySem.W.subIn K (.type "tuple") (.ref e_Captures.C) = some false
  su_Captures_str : PySem.W.subIn K (.type "str") (.ref e_Captures.C) = some false
  d_is_word : DfT K mg "is_word" s_is_word ["value"]
  d_is_ident : DfT K mg "is_ident" s_is_ident ["value"]
  d_own_pairs : DfT K mg "_own_pairs" s_own_pairs ["pairs"]
  d_is_pair : DfT K mg "_is_pair" s_is_pair ["value"]
  d_is_number : DfT K mg "_is_number" s_is_number ["value"]
  d_l_tape : DfT K mg "_law_tape" s_l_tape ["_law_script", "_law_k"]
  d_l_draw : DfT K mg "_law_draw" s_l_draw ["_law_tape_here", "_law_many"]
  d_l_kept : DfT K mg "_law_kept" s_l_kept []
  d_l_signs : DfT K mg "_law_signs" s_l_signs []
  d_l_spelled : DfT K mg "_law_spelled" s_l_spelled ["_law_tape_here", "_law_used"]
  d_l_ident : DfT K mg "_law_ident" s_l_ident ["_law_tape_here", "_law_used"]
  d_l_number : DfT K mg "_law_number" s_l_number ["_law_tape_here"]
  d_l_pairs : DfT K mg "_law_pairs" s_l_pairs ["_law_script", "_law_first", "_law_last"]
  d_l_ascending : DfT K mg "_law_ascending" s_l_ascending ["_law_pairs_here"]
  d_l_subset : DfT K mg "_law_subset" s_l_subset ["_law_first", "_law_second_here"]
  d_l_second : DfT K mg "_law_second" s_l_second ["_law_tape_here", "_law_pairs_here"]
  d_l_members : DfT K mg "_law_members" s_l_members ["_law_made", "_law_due", "_law_others"]
  d_law : DfT K mg "law" s_law ["_law_script"]
  z_isinstance : mg "isinstance" = none
  z_list : mg "list" = none
  z_sorted : mg "sorted" = none
  z_all : mg "all" = none
  z_range : mg "range" = none
  z_len : mg "len" = none
  z_int : mg "int" = none
  z_str : mg "str" = none
  z_bool : mg "bool" = none
  z_tuple : mg "tuple" = none
  z_min : mg "min" = none
  z_max : mg "max" = none
  z_set : mg "set" = none
  z_reversed : mg "reversed" = none
  t_LETTERS : Tok
  m_LETTERS : mg "LETTERS" = some (.str lettersS t_LETTERS)
  t_DIGITS : Tok
  m_DIGITS : mg "DIGITS" = some (.str digitsS t_DIGITS)
  t_LONGEST_WORD : Tok
  m_LONGEST_WORD : mg "LONGEST_WORD" = some (.int 12 t_LONGEST_WORD)
  k_KEPT_WORDS : Addr
  m_KEPT_WORDS : mg "KEPT_WORDS" = some (.ref k_KEPT_WORDS)
  s_KEPT_WORDS : ∀ H, SqT K H k_KEPT_WORDS (keptW.map V.str)
  t_NUMBER_LIMIT : Tok
  m_NUMBER_LIMIT : mg "NUMBER_LIMIT" = some (.int limN t_NUMBER_LIMIT)
  q_str_str : PySem.W.kitOne K (.type "str") (.type "str") = some true
  q_int_int : PySem.W.kitOne K (.type "int") (.type "int") = some true
  q_int_bool : PySem.W.kitOne K (.type "int") (.type "bool") = some false
  q_tup_tup : PySem.W.kitOne K (.type "tuple") (.type "tuple") = some true
  q_tup_Cap : PySem.W.kitOne K (.type "tuple") (.ref e_Captures.C) = some false
  q_lst_Cap : PySem.W.kitOne K (.type "list") (.ref e_Captures.C) = some false
  q_str_Cap : PySem.W.kitOne K (.type "str") (.ref e_Captures.C) = some false
section
variable {P : Program} {w : World} {K : PySem.W.Frag} {mg : Str → Option Value} {base : Heap}
theorem ok_BadPair (T : Txt K mg) : FnOk P w K mg base CX0 1 T.c_BadPair.f T.c_BadPair.d ["self", "pair"] (spE1 T.c_BadPair.C "pair") := by
  refine T.c_BadPair.F.ok sc_BadPair (fun vs H Q E h => ?_) (fun cdv A outer s H vs Q E hr h => ?_)
  · obtain ⟨a, v, rfl, _⟩ := h
    rfl
  · obtain ⟨a, v, rfl, ha, q⟩ := h
    exact ⟨_, pss_one (ps_ost (pv 0) (pv 1)), ⟨v, rfl, .ref a, rfl, a, T.c_BadPair.C, rfl, T.c_BadPair.e.ox, T.c_BadPair.n.no _ (by simp), .inl ⟨ha, fun dx h1 h2 => q dx h1 h2⟩⟩⟩
end
end Own

set_option Elab.async false
set_option linter.all false
set_option maxRecDepth 100000
set_option maxHeartbeats 4000000
namespace Own
open PySem PySem.Spec PyProof.Rows L2
section
variable {P : Program} {w : World} {K : PySem.W.Frag} {mg : Str → Option Value} {base : Heap}
theorem ok_l_draw (T : Txt K mg) : FnOk P w K mg base CX0 1 T.d_l_draw.a T.d_l_draw.d ["_law_tape_here", "_law_many"] spDraw := by
  refine T.d_l_draw.F.ok sc_l_draw (fun vs H Q E h => ?_) (fun cdv A outer s H vs Q E hr h => ?_)
  · obtain ⟨t, n, m, rfl, _⟩ := h
    rfl
  · obtain ⟨t, n, m, rfl, ⟨c, j, f, k, ht, ok⟩, m0, mb, q⟩ := h
    refine ⟨_, (pss_cons (ps_augS (pv 0) pe_int pget_list pe_int ip_add set_list)
      (pss_cons (ps_if (pt_cmpR op_eq (pe_ix ix_list (pv 0) pe_int (fun _ _ => rfl)) pe_int (nomark _)) (pss_cons (ps_set (i := 2) sc_l_draw.nd rfl (Or.inl rfl) (pe_op op_modN (pe_callTy call_intI (by rfl) T.z_int (by decide +kernel) (pa_cons (pe_ix ix_list (pv 0) pe_int (fun _ _ => rfl)) pa_nil)) (pv 1)))
      (pss_cons (ps_asg (pe_op op_fdivW (pe_callTy call_intI (by rfl) T.z_int (by decide +kernel) (pa_cons (pe_ix ix_list (pv 0) pe_int (fun _ _ => rfl)) pa_nil)) (pv 1)) (pg_sub (pv 0) pe_int set_list))
      (pss_one (ps_ret (pv 2))))) pss_nil)
      (pss_cons (ps_set (i := 3) sc_l_draw.nd rfl (Or.inl rfl) (pe_ix ix_list (pe_lst (pa_cons pe_int (pa_cons pe_int (pa_cons pe_int (pa_cons pe_int (pa_cons pe_int pa_nil)))))) (pe_op op_modN (pe_callTy call_intI (by rfl) T.z_int (by decide +kernel) (pa_cons (pe_ix ix_list (pv 0) pe_int (fun _ _ => rfl)) pa_nil)) pe_int) (fun _ _ => rfl)))
      (pss_cons (ps_set (i := 4) sc_l_draw.nd rfl (Or.inl rfl) (pe_op op_add (pe_ix ix_list (pv 0) pe_int (fun _ _ => rfl)) (pe_op op_mul (pe_ix ix_list (pv 0) pe_int (fun _ _ => rfl)) pe_int)))
      (pss_cons (ps_set (i := 5) sc_l_draw.nd rfl (Or.inl rfl) (pe_op op_modN (pe_callTy call_intI (by rfl) T.z_int (by decide +kernel) (pa_cons (pe_op op_pow (pe_op op_add (pe_op op_add (pv 4) (pe_op op_mul (pe_ix ix_list (pv 0) pe_int (fun _ _ => rfl)) pe_int)) pe_int) pe_int) pa_nil)) (pv 3)))
      (pss_one (ps_ret (pe_op op_modN (pe_callTy call_intI (by rfl) T.z_int (by decide +kernel) (pa_cons (pe_op op_fdivN (pv 5) pe_int) pa_nil)) (pv 1))))))))), ?_⟩
    (try simp only [tIxO, rIsB, rNotB, tSeq, tIfS, tTest, tB, tOp, tUn, tVar, tC, tAsg, gName, tRet, tRetN, tCB, tCons, tNil, tLst, tTup, tNext, tPar, tM0, tM1, tSl, tNoPart, tPart, rSlS, tAug, tAugS, tExf_eq, ipI, tChain, tCall, tDrop, tBM, tAnd, tOr, tNot, tAndV, tOrV, tNotV, tIf, tIsN, tNotN, rI, rI0, rU, rEq, rNe, gSub, cx_K, cx_K2, L2.start, wipe, scal_ii, scal_ss, scal_bb, scal_is, scal_si, scal_nn, List.map_cons, List.map_nil, List.length_cons, List.length_nil, List.cons_append, List.nil_append, List.append_nil, List.replicate, List.getElem?_cons_zero, List.getElem?_cons_succ, Option.some.injEq, exists_and_left, exists_eq_left', exists_eq_left, exists_eq, exists_eq', V.int.injEq, V.ref.injEq, V.str.injEq, V.bl.injEq, List.cons.injEq, and_true, true_and, false_and, exists_false, or_false, false_or, reduceCtorEq, List.set_cons_zero, List.set_cons_succ, Nat.reduceAdd, Nat.reduceSub, Int.reduceToNat, decide_eq_true_eq, if_true, if_false, Bool.false_eq_true, Bool.not_true, Bool.not_false, Bool.true_eq_false, ite_false, ite_true, ne_eq, not_false_eq_true, Int.reduceEq])
    refine getL_go ht rfl ?_
    (try simp only [tIxO, rIsB, rNotB, tSeq, tIfS, tTest, tB, tOp, tUn, tVar, tC, tAsg, gName, tRet, tRetN, tCB, tCons, tNil, tLst, tTup, tNext, tPar, tM0, tM1, tSl, tNoPart, tPart, rSlS, tAug, tAugS, tExf_eq, ipI, tChain, tCall, tDrop, tBM, tAnd, tOr, tNot, tAndV, tOrV, tNotV, tIf, tIsN, tNotN, rI, rI0, rU, rEq, rNe, gSub, cx_K, cx_K2, L2.start, wipe, scal_ii, scal_ss, scal_bb, scal_is, scal_si, scal_nn, List.map_cons, List.map_nil, List.length_cons, List.length_nil, List.cons_append, List.nil_append, List.append_nil, List.replicate, List.getElem?_cons_zero, List.getElem?_cons_succ, Option.some.injEq, exists_and_left, exists_eq_left', exists_eq_left, exists_eq, exists_eq', V.int.injEq, V.ref.injEq, V.str.injEq, V.bl.injEq, List.cons.injEq, and_true, true_and, false_and, exists_false, or_false, false_or, reduceCtorEq, List.set_cons_zero, List.set_cons_succ, Nat.reduceAdd, Nat.reduceSub, Int.reduceToNat, decide_eq_true_eq, if_true, if_false, Bool.false_eq_true, Bool.not_true, Bool.not_false, Bool.true_eq_false, ite_false, ite_true, ne_eq, not_false_eq_true, Int.reduceEq])
    refine setL_go ht rfl ?_
    (try simp only [tIxO, rIsB, rNotB, tSeq, tIfS, tTest, tB, tOp, tUn, tVar, tC, tAsg, gName, tRet, tRetN, tCB, tCons, tNil, tLst, tTup, tNext, tPar, tM0, tM1, tSl, tNoPart, tPart, rSlS, tAug, tAugS, tExf_eq, ipI, tChain, tCall, tDrop, tBM, tAnd, tOr, tNot, tAndV, tOrV, tNotV, tIf, tIsN, tNotN, rI, rI0, rU, rEq, rNe, gSub, cx_K, cx_K2, L2.start, wipe, scal_ii, scal_ss, scal_bb, scal_is, scal_si, scal_nn, List.map_cons, List.map_nil, List.length_cons, List.length_nil, List.cons_append, List.nil_append, List.append_nil, List.replicate, List.getElem?_cons_zero, List.getElem?_cons_succ, Option.some.injEq, exists_and_left, exists_eq_left', exists_eq_left, exists_eq, exists_eq', V.int.injEq, V.ref.injEq, V.str.injEq, V.bl.injEq, List.cons.injEq, and_true, true_and, false_and, exists_false, or_false, false_or, reduceCtorEq, List.set_cons_zero, List.set_cons_succ, Nat.reduceAdd, Nat.reduceSub, Int.reduceToNat, decide_eq_true_eq, if_true, if_false, Bool.false_eq_true, Bool.not_true, Bool.not_false, Bool.true_eq_false, ite_false, ite_true, ne_eq, not_false_eq_true, Int.reduceEq])
    refine ixM_go upd_same rfl ?_
    (try simp only [tIxO, rIsB, rNotB, tSeq, tIfS, tTest, tB, tOp, tUn, tVar, tC, tAsg, gName, tRet, tRetN, tCB, tCons, tNil, tLst, tTup, tNext, tPar, tM0, tM1, tSl, tNoPart, tPart, rSlS, tAug, tAugS, tExf_eq, ipI, tChain, tCall, tDrop, tBM, tAnd, tOr, tNot, tAndV, tOrV, tNotV, tIf, tIsN, tNotN, rI, rI0, rU, rEq, rNe, gSub, cx_K, cx_K2, L2.start, wipe, scal_ii, scal_ss, scal_bb, scal_is, scal_si, scal_nn, List.map_cons, List.map_nil, List.length_cons, List.length_nil, List.cons_append, List.nil_append, List.append_nil, List.replicate, List.getElem?_cons_zero, List.getElem?_cons_succ, Option.some.injEq, exists_and_left, exists_eq_left', exists_eq_left, exists_eq, exists_eq', V.int.injEq, V.ref.injEq, V.str.injEq, V.bl.injEq, List.cons.injEq, and_true, true_and, false_and, exists_false, or_false, false_or, reduceCtorEq, List.set_cons_zero, List.set_cons_succ, Nat.reduceAdd, Nat.reduceSub, Int.reduceToNat, decide_eq_true_eq, if_true, if_false, Bool.false_eq_true, Bool.not_true, Bool.not_false, Bool.true_eq_false, ite_false, ite_true, ne_eq, not_false_eq_true, Int.reduceEq])
    refine ite2 (fun h0 => ?_) (fun h0 => ?_)
    · refine ixM_go upd_same rfl ?_
      (try simp only [tIxO, rIsB, rNotB, tSeq, tIfS, tTest, tB, tOp, tUn, tVar, tC, tAsg, gName, tRet, tRetN, tCB, tCons, tNil, tLst, tTup, tNext, tPar, tM0, tM1, tSl, tNoPart, tPart, rSlS, tAug, tAugS, tExf_eq, ipI, tChain, tCall, tDrop, tBM, tAnd, tOr, tNot, tAndV, tOrV, tNotV, tIf, tIsN, tNotN, rI, rI0, rU, rEq, rNe, gSub, cx_K, cx_K2, L2.start, wipe, scal_ii, scal_ss, scal_bb, scal_is, scal_si, scal_nn, List.map_cons, List.map_nil, List.length_cons, List.length_nil, List.cons_append, List.nil_append, List.append_nil, List.replicate, List.getElem?_cons_zero, List.getElem?_cons_succ, Option.some.injEq, exists_and_left, exists_eq_left', exists_eq_left, exists_eq, exists_eq', V.int.injEq, V.ref.injEq, V.str.injEq, V.bl.injEq, List.cons.injEq, and_true, true_and, false_and, exists_false, or_false, false_or, reduceCtorEq, List.set_cons_zero, List.set_cons_succ, Nat.reduceAdd, Nat.reduceSub, Int.reduceToNat, decide_eq_true_eq, if_true, if_false, Bool.false_eq_true, Bool.not_true, Bool.not_false, Bool.true_eq_false, ite_false, ite_true, ne_eq, not_false_eq_true, Int.reduceEq])
      refine ⟨by omega, ixM_go upd_same rfl ?_⟩
      (try simp only [tIxO, rIsB, rNotB, tSeq, tIfS, tTest, tB, tOp, tUn, tVar, tC, tAsg, gName, tRet, tRetN, tCB, tCons, tNil, tLst, tTup, tNext, tPar, tM0, tM1, tSl, tNoPart, tPart, rSlS, tAug, tAugS, tExf_eq, ipI, tChain, tCall, tDrop, tBM, tAnd, tOr, tNot, tAndV, tOrV, tNotV, tIf, tIsN, tNotN, rI, rI0, rU, rEq, rNe, gSub, cx_K, cx_K2, L2.start, wipe, scal_ii, scal_ss, scal_bb, scal_is, scal_si, scal_nn, List.map_cons, List.map_nil, List.length_cons, List.length_nil, List.cons_append, List.nil_append, List.append_nil, List.replicate, List.getElem?_cons_zero, List.getElem?_cons_succ, Option.some.injEq, exists_and_left, exists_eq_left', exists_eq_left, exists_eq, exists_eq', V.int.injEq, V.ref.injEq, V.str.injEq, V.bl.injEq, List.cons.injEq, and_true, true_and, false_and, exists_false, or_false, false_or, reduceCtorEq, List.set_cons_zero, List.set_cons_succ, Nat.reduceAdd, Nat.reduceSub, Int.reduceToNat, decide_eq_true_eq, if_true, if_false, Bool.false_eq_true, Bool.not_true, Bool.not_false, Bool.true_eq_false, ite_false, ite_true, ne_eq, not_false_eq_true, Int.reduceEq])
      refine ⟨wide_div m0 mb (by decide) (by decide), setL_go upd_same rfl ?_⟩
      (try simp only [tIxO, rIsB, rNotB, tSeq, tIfS, tTest, tB, tOp, tUn, tVar, tC, tAsg, gName, tRet, tRetN, tCB, tCons, tNil, tLst, tTup, tNext, tPar, tM0, tM1, tSl, tNoPart, tPart, rSlS, tAug, tAugS, tExf_eq, ipI, tChain, tCall, tDrop, tBM, tAnd, tOr, tNot, tAndV, tOrV, tNotV, tIf, tIsN, tNotN, rI, rI0, rU, rEq, rNe, gSub, cx_K, cx_K2, L2.start, wipe, scal_ii, scal_ss, scal_bb, scal_is, scal_si, scal_nn, List.map_cons, List.map_nil, List.length_cons, List.length_nil, List.cons_append, List.nil_append, List.append_nil, List.replicate, List.getElem?_cons_zero, List.getElem?_cons_succ, Option.some.injEq, exists_and_left, exists_eq_left', exists_eq_left, exists_eq, exists_eq', V.int.injEq, V.ref.injEq, V.str.injEq, V.bl.injEq, List.cons.injEq, and_true, true_and, false_and, exists_false, or_false, false_or, reduceCtorEq, List.set_cons_zero, List.set_cons_succ, Nat.reduceAdd, Nat.reduceSub, Int.reduceToNat, decide_eq_true_eq, if_true, if_false, Bool.false_eq_true, Bool.not_true, Bool.not_false, Bool.true_eq_false, ite_false, ite_true, ne_eq, not_false_eq_true, Int.reduceEq, upd_upd])
      have b := fmod_bd (x := c) m0
      refine q _ _ b.1 b.2 ⟨c / m, j + 1, f, k, upd_same, ⟨.inl h0, ?_, ?_, ok.klo, ok.khi⟩⟩ fun b o hb e => by rw [upd_ne hb]; exact e
      · have := ok.lo; omega
      · have := ok.hi; omega
    · have hs : f = 1 ∧ 0 ≤ c ∧ c < 10 ^ 18 := ok.small.elim (fun z => absurd z h0) id
      obtain ⟨rfl, c0, c1⟩ := hs
      refine ⟨(by decide), fun p hp => ?_⟩
      have hpt : t ≠ p := fun z => by
        rw [← z, upd_same] at hp
        cases hp
      refine ixM_go (by rw [upd_ne hpt, upd_same]) rfl ?_
      (try simp only [tIxO, rIsB, rNotB, tSeq, tIfS, tTest, tB, tOp, tUn, tVar, tC, tAsg, gName, tRet, tRetN, tCB, tCons, tNil, tLst, tTup, tNext, tPar, tM0, tM1, tSl, tNoPart, tPart, rSlS, tAug, tAugS, tExf_eq, ipI, tChain, tCall, tDrop, tBM, tAnd, tOr, tNot, tAndV, tOrV, tNotV, tIf, tIsN, tNotN, rI, rI0, rU, rEq, rNe, gSub, cx_K, cx_K2, L2.start, wipe, scal_ii, scal_ss, scal_bb, scal_is, scal_si, scal_nn, List.map_cons, List.map_nil, List.length_cons, List.length_nil, List.cons_append, List.nil_append, List.append_nil, List.replicate, List.getElem?_cons_zero, List.getElem?_cons_succ, Option.some.injEq, exists_and_left, exists_eq_left', exists_eq_left, exists_eq, exists_eq', V.int.injEq, V.ref.injEq, V.str.injEq, V.bl.injEq, List.cons.injEq, and_true, true_and, false_and, exists_false, or_false, false_or, reduceCtorEq, List.set_cons_zero, List.set_cons_succ, Nat.reduceAdd, Nat.reduceSub, Int.reduceToNat, decide_eq_true_eq, if_true, if_false, Bool.false_eq_true, Bool.not_true, Bool.not_false, Bool.true_eq_false, ite_false, ite_true, ne_eq, not_false_eq_true, Int.reduceEq])
      have b5 := fmod_bd (x := j + 1) (m := 5) (by decide)
      obtain ⟨pr, hpr, hp1, hp2⟩ : ∃ pr : Int, atI [V.int 2147483647, V.int 2147483629, V.int 2147483587, V.int 2147483579, V.int 2147483563] ((j + 1).fmod 5) = some (V.int pr) ∧ 0 < pr ∧ pr < 2 ^ 32 := by
        generalize (j + 1).fmod 5 = z at b5
        have : z = 0 ∨ z = 1 ∨ z = 2 ∨ z = 3 ∨ z = 4 := by omega
        rcases this with rfl | rfl | rfl | rfl | rfl
        all_goals exact ⟨_, rfl, by decide, by decide⟩
      refine ixM_go upd_same hpr ?_
      (try simp only [tIxO, rIsB, rNotB, tSeq, tIfS, tTest, tB, tOp, tUn, tVar, tC, tAsg, gName, tRet, tRetN, tCB, tCons, tNil, tLst, tTup, tNext, tPar, tM0, tM1, tSl, tNoPart, tPart, rSlS, tAug, tAugS, tExf_eq, ipI, tChain, tCall, tDrop, tBM, tAnd, tOr, tNot, tAndV, tOrV, tNotV, tIf, tIsN, tNotN, rI, rI0, rU, rEq, rNe, gSub, cx_K, cx_K2, L2.start, wipe, scal_ii, scal_ss, scal_bb, scal_is, scal_si, scal_nn, List.map_cons, List.map_nil, List.length_cons, List.length_nil, List.cons_append, List.nil_append, List.append_nil, List.replicate, List.getElem?_cons_zero, List.getElem?_cons_succ, Option.some.injEq, exists_and_left, exists_eq_left', exists_eq_left, exists_eq, exists_eq', V.int.injEq, V.ref.injEq, V.str.injEq, V.bl.injEq, List.cons.injEq, and_true, true_and, false_and, exists_false, or_false, false_or, reduceCtorEq, List.set_cons_zero, List.set_cons_succ, Nat.reduceAdd, Nat.reduceSub, Int.reduceToNat, decide_eq_true_eq, if_true, if_false, Bool.false_eq_true, Bool.not_true, Bool.not_false, Bool.true_eq_false, ite_false, ite_true, ne_eq, not_false_eq_true, Int.reduceEq])
      refine ixM_go (by rw [upd_ne hpt, upd_same]) rfl (ixM_go (by rw [upd_ne hpt, upd_same]) rfl ?_)
      (try simp only [tIxO, rIsB, rNotB, tSeq, tIfS, tTest, tB, tOp, tUn, tVar, tC, tAsg, gName, tRet, tRetN, tCB, tCons, tNil, tLst, tTup, tNext, tPar, tM0, tM1, tSl, tNoPart, tPart, rSlS, tAug, tAugS, tExf_eq, ipI, tChain, tCall, tDrop, tBM, tAnd, tOr, tNot, tAndV, tOrV, tNotV, tIf, tIsN, tNotN, rI, rI0, rU, rEq, rNe, gSub, cx_K, cx_K2, L2.start, wipe, scal_ii, scal_ss, scal_bb, scal_is, scal_si, scal_nn, List.map_cons, List.map_nil, List.length_cons, List.length_nil, List.cons_append, List.nil_append, List.append_nil, List.replicate, List.getElem?_cons_zero, List.getElem?_cons_succ, Option.some.injEq, exists_and_left, exists_eq_left', exists_eq_left, exists_eq, exists_eq', V.int.injEq, V.ref.injEq, V.str.injEq, V.bl.injEq, List.cons.injEq, and_true, true_and, false_and, exists_false, or_false, false_or, reduceCtorEq, List.set_cons_zero, List.set_cons_succ, Nat.reduceAdd, Nat.reduceSub, Int.reduceToNat, decide_eq_true_eq, if_true, if_false, Bool.false_eq_true, Bool.not_true, Bool.not_false, Bool.true_eq_false, ite_false, ite_true, ne_eq, not_false_eq_true, Int.reduceEq])
      refine ⟨.inr (by decide), ixM_go (by rw [upd_ne hpt, upd_same]) rfl ?_⟩
      (try simp only [tIxO, rIsB, rNotB, tSeq, tIfS, tTest, tB, tOp, tUn, tVar, tC, tAsg, gName, tRet, tRetN, tCB, tCons, tNil, tLst, tTup, tNext, tPar, tM0, tM1, tSl, tNoPart, tPart, rSlS, tAug, tAugS, tExf_eq, ipI, tChain, tCall, tDrop, tBM, tAnd, tOr, tNot, tAndV, tOrV, tNotV, tIf, tIsN, tNotN, rI, rI0, rU, rEq, rNe, gSub, cx_K, cx_K2, L2.start, wipe, scal_ii, scal_ss, scal_bb, scal_is, scal_si, scal_nn, List.map_cons, List.map_nil, List.length_cons, List.length_nil, List.cons_append, List.nil_append, List.append_nil, List.replicate, List.getElem?_cons_zero, List.getElem?_cons_succ, Option.some.injEq, exists_and_left, exists_eq_left', exists_eq_left, exists_eq, exists_eq', V.int.injEq, V.ref.injEq, V.str.injEq, V.bl.injEq, List.cons.injEq, and_true, true_and, false_and, exists_false, or_false, false_or, reduceCtorEq, List.set_cons_zero, List.set_cons_succ, Nat.reduceAdd, Nat.reduceSub, Int.reduceToNat, decide_eq_true_eq, if_true, if_false, Bool.false_eq_true, Bool.not_true, Bool.not_false, Bool.true_eq_false, ite_false, ite_true, ne_eq, not_false_eq_true, Int.reduceEq])
      have hb : 0 ≤ c + (j + 1) * 48271 + k * 104729 + 40692 ∧ c + (j + 1) * 48271 + k * 104729 + 40692 < 2 ^ 62 := by
        have h1 := ok.lo; have h2 := ok.hi; have h3 := ok.klo; have h4 := ok.khi
        omega
      refine ⟨.inr (by decide), ⟨by decide, by decide, by omega⟩, by omega, ⟨by decide, by decide⟩, by omega, ?_⟩
      refine q _ _ (fmod_bd m0).1 (fmod_bd m0).2 ⟨c, j + 1, 1, k, by rw [upd_ne hpt, upd_same], ⟨.inr ⟨rfl, c0, c1⟩, ?_, ?_, ok.klo, ok.khi⟩⟩ fun b o hb e => ?_
      · have := ok.lo; omega
      · have := ok.hi; omega
      · have hbp : b ≠ p := fun z => by
          rw [z] at e
          rw [upd_ne (Ne.symm hpt), e] at hp
          cases hp
        rw [upd_ne hbp, upd_ne hb]
        exact e
theorem ok_l_tape (T : Txt K mg) : FnOk P w K mg base CX0 1 T.d_l_tape.a T.d_l_tape.d ["_law_script", "_law_k"] (spTape K) := by
  refine T.d_l_tape.F.ok sc_l_tape (fun vs H Q E h => ?_) (fun cdv A outer s H vs Q E hr h => ?_)
  · obtain ⟨t, n, m, rfl, _⟩ := h
    rfl
  · obtain ⟨a, ns, k, rfl, hs, k0, k1, q⟩ := h
    refine ⟨_, (pss_cons (ps_set (i := 2) sc_l_tape.nd rfl (Or.inl rfl) pe_int)
      (pss_cons (ps_if (pt_cmpR op_lt (pv 1) (pe_callB call_lenL (by rfl) T.z_len (by decide +kernel) (pa_cons (pv 0) pa_nil)) (nomark _)) (pss_one (ps_set (i := 2) sc_l_tape.nd rfl (Or.inl rfl) (pe_callTy call_intI (by rfl) T.z_int (by decide +kernel) (pa_cons (pe_ix ix_list (pv 0) (pv 1) (fun _ _ => rfl)) pa_nil)))) pss_nil)
      (pss_one (ps_ret (pe_lst (pa_cons (pv 2) (pa_cons pe_int (pa_cons (pe_callTy call_intB (by rfl) T.z_int (by decide +kernel) (pa_cons (pe_chain op_le op_lt pe_int (pv 2) (pe_op op_pow pe_int pe_int)) pa_nil)) (pa_cons (pv 1) pa_nil))))))))), ?_⟩
    (try simp only [tIxO, rIsB, rNotB, tSeq, tIfS, tTest, tB, tOp, tUn, tVar, tC, tAsg, gName, tRet, tRetN, tCB, tCons, tNil, tLst, tTup, tNext, tPar, tM0, tM1, tSl, tNoPart, tPart, rSlS, tAug, tAugS, tExf_eq, ipI, tChain, tCall, tDrop, tBM, tAnd, tOr, tNot, tAndV, tOrV, tNotV, tIf, tIsN, tNotN, rI, rI0, rU, rEq, rNe, gSub, cx_K, cx_K2, L2.start, wipe, scal_ii, scal_ss, scal_bb, scal_is, scal_si, scal_nn, List.map_cons, List.map_nil, List.length_cons, List.length_nil, List.cons_append, List.nil_append, List.append_nil, List.replicate, List.getElem?_cons_zero, List.getElem?_cons_succ, Option.some.injEq, exists_and_left, exists_eq_left', exists_eq_left, exists_eq, exists_eq', V.int.injEq, V.ref.injEq, V.str.injEq, V.bl.injEq, List.cons.injEq, and_true, true_and, false_and, exists_false, or_false, false_or, reduceCtorEq, List.set_cons_zero, List.set_cons_succ, Nat.reduceAdd, Nat.reduceSub, Int.reduceToNat, decide_eq_true_eq, if_true, if_false, Bool.false_eq_true, Bool.not_true, Bool.not_false, Bool.true_eq_false, ite_false, ite_true, ne_eq, not_false_eq_true, Int.reduceEq])
    have fin : ∀ c : Int, if 0 ≤ c then CPow 10 18 ∧ 4 ≤ sizeLine ∧ ∀ p, H p = none → Q (V.ref p) (upd H p (HO.lst [V.int c, V.int 0, V.int (if c < 10 ^ 18 then 1 else 0), V.int k]))
        else 4 ≤ sizeLine ∧ ∀ p, H p = none → Q (V.ref p) (upd H p (HO.lst [V.int c, V.int 0, V.int 0, V.int k])) := by
      intro c
      refine ite2 (fun h0 => ⟨⟨by decide, by decide, by decide⟩, by decide, fun p hp => ?_⟩) (fun h0 => ⟨by decide, fun p hp => ?_⟩)
      · refine q p _ hp ⟨c, 0, if c < 10 ^ 18 then 1 else 0, k, upd_same, ⟨?_, by decide, by decide, k0, k1⟩⟩ (same_new hp)
        by_cases h1 : c < 10 ^ 18
        · rw [if_pos h1]
          exact .inr ⟨rfl, h0, h1⟩
        · rw [if_neg h1]
          exact .inl rfl
      · exact q p _ hp ⟨c, 0, 0, k, upd_same, ⟨.inl rfl, by decide, by decide, k0, k1⟩⟩ (same_new hp)
    refine ⟨_, hs, ite2 (fun h1 => ?_) (fun _ => fin 0)⟩
    obtain ⟨j, rfl⟩ : ∃ j : Nat, k = (j : Int) := ⟨k.toNat, by omega⟩
    rw [List.length_map] at h1
    have hj : j < ns.length := by omega
    refine ixL_go hs (atI_nat (by rw [List.getElem?_map, List.getElem?_eq_getElem hj] <;> rfl)) ?_
    (try simp only [tIxO, rIsB, rNotB, tSeq, tIfS, tTest, tB, tOp, tUn, tVar, tC, tAsg, gName, tRet, tRetN, tCB, tCons, tNil, tLst, tTup, tNext, tPar, tM0, tM1, tSl, tNoPart, tPart, rSlS, tAug, tAugS, tExf_eq, ipI, tChain, tCall, tDrop, tBM, tAnd, tOr, tNot, tAndV, tOrV, tNotV, tIf, tIsN, tNotN, rI, rI0, rU, rEq, rNe, gSub, cx_K, cx_K2, L2.start, wipe, scal_ii, scal_ss, scal_bb, scal_is, scal_si, scal_nn, List.map_cons, List.map_nil, List.length_cons, List.length_nil, List.cons_append, List.nil_append, List.append_nil, List.replicate, List.getElem?_cons_zero, List.getElem?_cons_succ, Option.some.injEq, exists_and_left, exists_eq_left', exists_eq_left, exists_eq, exists_eq', V.int.injEq, V.ref.injEq, V.str.injEq, V.bl.injEq, List.cons.injEq, and_true, true_and, false_and, exists_false, or_false, false_or, reduceCtorEq, List.set_cons_zero, List.set_cons_succ, Nat.reduceAdd, Nat.reduceSub, Int.reduceToNat, decide_eq_true_eq, if_true, if_false, Bool.false_eq_true, Bool.not_true, Bool.not_false, Bool.true_eq_false, ite_false, ite_true, ne_eq, not_false_eq_true, Int.reduceEq])
    exact fin _
def spKept : Sp := fun vs H Q _ => vs = [] ∧ ∀ p H', H p = none → Same H H' → H' p = some (.lst (keptS.map V.str)) → Q (.ref p) H'
theorem kept_split : Txt.split (("name flag slot func open own look bind call keep take shift run drop " : Str) ++ ("apart when held fail guard else after end with of on off" : Str)) " " = keptS := by decide +kernel
theorem ok_l_kept (T : Txt K mg) : FnOk P w K mg base CX0 1 T.d_l_kept.a T.d_l_kept.d [] spKept := by
  refine T.d_l_kept.F.ok sc_l_kept (fun vs H Q E h => ?_) (fun cdv A outer s H vs Q E hr h => ?_)
  · rw [h.1]; rfl
  · obtain ⟨rfl, q⟩ := h
    refine ⟨_, (pss_cons (ps_set (i := 0) sc_l_kept.nd rfl (Or.inl rfl) pe_str)
      (pss_one (ps_ret (pe_split (pe_op op_add_str (pv 0) pe_str) pe_str)))), ?_⟩
    (try simp only [tIxO, rIsB, rNotB, tSeq, tIfS, tTest, tB, tOp, tUn, tVar, tC, tAsg, gName, tRet, tRetN, tCB, tCons, tNil, tLst_eq, tTup_eq, tDNewK_eq, tNext, tPar, tM0, tM1, tSl, tNoPart, tPart, rSlS, tAug, tAugS, tExf_eq, ipI, tChain, tCall, tDrop, tBM, tAnd, tOr, tNot, tAndV, tOrV, tNotV, tIf, tIsN, tNotN, rI, rI0, rU, rEq, rNe, gSub, cx_K, cx_K2, L2.start, wipe, scal_ii, scal_ss, scal_bb, scal_is, scal_si, scal_nn, List.map_cons, List.map_nil, List.length_cons, List.length_nil, List.cons_append, List.nil_append, List.append_nil, List.replicate, List.getElem?_cons_zero, List.getElem?_cons_succ, Option.some.injEq, exists_and_left, exists_eq_left', exists_eq_left, exists_eq, exists_eq', V.int.injEq, V.ref.injEq, V.str.injEq, V.bl.injEq, List.cons.injEq, and_true, true_and, false_and, exists_false, or_false, false_or, reduceCtorEq, List.set_cons_zero, List.set_cons_succ, Nat.reduceAdd, Nat.reduceSub, Int.reduceToNat, decide_eq_true_eq, if_true, if_false, Bool.false_eq_true, Bool.not_true, Bool.not_false, Bool.true_eq_false, ite_false, ite_true, ne_eq, not_false_eq_true, Int.reduceEq])
    refine ⟨by decide, rfl, by decide, ?_⟩
    rw [kept_split]
    exact newS_go fun p H' n s r => q p H' n s r
def spSigns : Sp := fun vs H Q _ => vs = [] ∧ Q (.str signsS) H
theorem ok_l_signs (T : Txt K mg) : FnOk P w K mg base CX0 1 T.d_l_signs.a T.d_l_signs.d [] spSigns := by
  refine T.d_l_signs.F.ok sc_l_signs (fun vs H Q E h => ?_) (fun cdv A outer s H vs Q E hr h => ?_)
  · rw [h.1]; rfl
  · obtain ⟨rfl, q⟩ := h
    refine ⟨_, (pss_one (ps_ret pe_str)), ?_⟩
    (try simp only [tIxO, rIsB, rNotB, tSeq, tIfS, tTest, tB, tOp, tUn, tVar, tC, tAsg, gName, tRet, tRetN, tCB, tCons, tNil, tLst_eq, tTup_eq, tDNewK_eq, tNext, tPar, tM0, tM1, tSl, tNoPart, tPart, rSlS, tAug, tAugS, tExf_eq, ipI, tChain, tCall, tDrop, tBM, tAnd, tOr, tNot, tAndV, tOrV, tNotV, tIf, tIsN, tNotN, rI, rI0, rU, rEq, rNe, gSub, cx_K, cx_K2, L2.start, wipe, scal_ii, scal_ss, scal_bb, scal_is, scal_si, scal_nn, List.map_cons, List.map_nil, List.length_cons, List.length_nil, List.cons_append, List.nil_append, List.append_nil, List.replicate, List.getElem?_cons_zero, List.getElem?_cons_succ, Option.some.injEq, exists_and_left, exists_eq_left', exists_eq_left, exists_eq, exists_eq', V.int.injEq, V.ref.injEq, V.str.injEq, V.bl.injEq, List.cons.injEq, and_true, true_and, false_and, exists_false, or_false, false_or, reduceCtorEq, List.set_cons_zero, List.set_cons_succ, Nat.reduceAdd, Nat.reduceSub, Int.reduceToNat, decide_eq_true_eq, if_true, if_false, Bool.false_eq_true, Bool.not_true, Bool.not_false, Bool.true_eq_false, ite_false, ite_true, ne_eq, not_false_eq_true, Int.reduceEq])
    exact q
def spSpelled : Sp := fun vs H Q _ => ∃ (t u : Addr) (n : Nat) (us : List Str), vs = [.ref t, .ref u] ∧ Tape H t (n + 20) ∧ H u = some (.lst (us.map V.str)) ∧ u ≠ t ∧ us.length ≤ 100000 ∧ (∀ x ∈ us, Spell x) ∧ ∀ x H', Spell x → Tape H' t n → ExT t H H' → Q (.str x) H'
theorem ok_l_spelled (T : Txt K mg) : FnOk P w K mg base CX0 2 T.d_l_spelled.a T.d_l_spelled.d ["_law_tape_here", "_law_used"] spSpelled := by
  refine T.d_l_spelled.F.ok sc_l_spelled (fun vs H Q E h => ?_) (fun cdv A outer s H vs Q E hr h => ?_)
  · obtain ⟨t, u, n, us, rfl, _⟩ := h
    rfl
  · obtain ⟨t, u, n, us, rfl, ht, hu', hut, hul, hus, q⟩ := h
    have hu := hr.units
    refine ⟨_, (pss_cons (ps_set (i := 2) sc_l_spelled.nd rfl (Or.inl rfl) (pe_call (ok_l_draw T) (hr.mono (by decide)) (by rfl) T.d_l_draw.g T.d_l_draw.F.kp T.d_l_draw.b .nil pass0 (pa_cons (pv 0) (pa_cons pe_int pa_nil))))
      (pss_cons (ps_set (i := 3) sc_l_spelled.nd rfl (Or.inl rfl) (pe_op op_add pe_int (pe_call (ok_l_draw T) (hr.mono (by decide)) (by rfl) T.d_l_draw.g T.d_l_draw.F.kp T.d_l_draw.b .nil pass0 (pa_cons (pv 0) (pa_cons pe_int pa_nil)))))
      (Evl.pss_cut (ps_if (pt_cmpR op_eq (pv 2) pe_int (nomark _)) (pss_one (ps_set (i := 3) sc_l_spelled.nd rfl (Or.inl rfl) pe_int)) pss_nil)
      (pss_cons (ps_if (pt_cmpR op_eq (pv 2) pe_int (nomark _)) (pss_one (ps_ret (pe_op op_add_str (pe_ix ix_list (pe_call0 (ok_l_kept T) (hr.mono (by decide)) (by rfl) T.d_l_kept.g T.d_l_kept.F.kp T.d_l_kept.b .nil pass0) (pe_call (ok_l_draw T) (hr.mono (by decide)) (by rfl) T.d_l_draw.g T.d_l_draw.F.kp T.d_l_draw.b .nil pass0 (pa_cons (pv 0) (pa_cons pe_int pa_nil))) (fun _ _ => rfl)) (pe_ix ix_str (pe_call0 (ok_l_signs T) (hr.mono (by decide)) (by rfl) T.d_l_signs.g T.d_l_signs.F.kp T.d_l_signs.b .nil pass0) (pe_call (ok_l_draw T) (hr.mono (by decide)) (by rfl) T.d_l_draw.g T.d_l_draw.F.kp T.d_l_draw.b .nil pass0 (pa_cons (pv 0) (pa_cons pe_int pa_nil))) (fun _ _ => rfl))))) pss_nil)
      (Evl.pss_cut (ps_if (PW.pt (pw_and (pt_cmpR op_eq (pv 2) pe_int (nomark _)) (pw_and1 (pt_cmpR (op_neD hu) (pv 1) (pe_lst pa_nil) (nomark _))))) (pss_cons (ps_set (i := 4) sc_l_spelled.nd rfl (Or.inl rfl) (pe_ix ix_list (pv 1) (pe_call (ok_l_draw T) (hr.mono (by decide)) (by rfl) T.d_l_draw.g T.d_l_draw.F.kp T.d_l_draw.b .nil pass0 (pa_cons (pv 0) (pa_cons (pe_callB call_lenL (by rfl) T.z_len (by decide +kernel) (pa_cons (pv 1) pa_nil)) pa_nil))) (fun _ _ => rfl)))
      (pss_cons (ps_set (i := 5) sc_l_spelled.nd rfl (Or.inl rfl) (pe_call (ok_l_draw T) (hr.mono (by decide)) (by rfl) T.d_l_draw.g T.d_l_draw.F.kp T.d_l_draw.b .nil pass0 (pa_cons (pv 0) (pa_cons (pe_callB call_len_str (by rfl) T.z_len (by decide +kernel) (pa_cons (pv 4) pa_nil)) pa_nil))))
      (pss_one (ps_ret (pe_op op_add_str (pe_op op_add_str (pe_slice sl_str (pv 4) po_none (po_some (pv 5))) (pe_ix ix_str (pe_call0 (ok_l_signs T) (hr.mono (by decide)) (by rfl) T.d_l_signs.g T.d_l_signs.F.kp T.d_l_signs.b .nil pass0) (pe_call (ok_l_draw T) (hr.mono (by decide)) (by rfl) T.d_l_draw.g T.d_l_draw.F.kp T.d_l_draw.b .nil pass0 (pa_cons (pv 0) (pa_cons pe_int pa_nil))) (fun _ _ => rfl))) (pe_slice sl_str (pv 4) (po_some (pe_op op_add (pv 5) pe_int)) po_none)))))) pss_nil)
      (pss_cons (ps_set (i := 4) sc_l_spelled.nd rfl (Or.inl rfl) (pe_ix ix_str (pe_call0 (ok_l_signs T) (hr.mono (by decide)) (by rfl) T.d_l_signs.g T.d_l_signs.F.kp T.d_l_signs.b .nil pass0) (pe_call (ok_l_draw T) (hr.mono (by decide)) (by rfl) T.d_l_draw.g T.d_l_draw.F.kp T.d_l_draw.b .nil pass0 (pa_cons (pv 0) (pa_cons pe_int pa_nil))) (fun _ _ => rfl)))
      (pss_cons (ps_for PassesOwn.never rfl (pi_range1 (by rfl) T.z_range (pa_cons (pe_op op_sub (pv 3) pe_int) pa_nil)) (pg_name (i := 5) sc_l_spelled.nd rfl (Or.inl rfl)) (pss_one (ps_set (i := 4) sc_l_spelled.nd rfl (Or.inl rfl) (pe_op op_add_str (pv 4) (pe_ix ix_str (pe_call0 (ok_l_signs T) (hr.mono (by decide)) (by rfl) T.d_l_signs.g T.d_l_signs.F.kp T.d_l_signs.b .nil pass0) (pe_call (ok_l_draw T) (hr.mono (by decide)) (by rfl) T.d_l_draw.g T.d_l_draw.F.kp T.d_l_draw.b .nil pass0 (pa_cons (pv 0) (pa_cons pe_int pa_nil))) (fun _ _ => rfl))))))
      (pss_one (ps_ret (pv 4)))))))))), ?_⟩
    (try simp only [tIxO, rIsB, rNotB, tSeq, tIfS, tTest, tB, tOp, tUn, tVar, tC, tAsg, gName, tRet, tRetN, tCB, tCons, tNil, tLst_eq, tTup_eq, tDNewK_eq, tNext, tPar, tM0, tM1, tSl, tNoPart, tPart, rSlS, tAug, tAugS, tExf_eq, ipI, tChain, tCall, tDrop, tBM, tAnd, tOr, tNot, tAndV, tOrV, tNotV, tIf, tIsN, tNotN, rI, rI0, rU, rEq, rNe, gSub, cx_K, cx_K2, L2.start, wipe, scal_ii, scal_ss, scal_bb, scal_is, scal_si, scal_nn, List.map_cons, List.map_nil, List.length_cons, List.length_nil, List.cons_append, List.nil_append, List.append_nil, List.replicate, List.getElem?_cons_zero, List.getElem?_cons_succ, Option.some.injEq, exists_and_left, exists_eq_left', exists_eq_left, exists_eq, exists_eq', V.int.injEq, V.ref.injEq, V.str.injEq, V.bl.injEq, List.cons.injEq, and_true, true_and, false_and, exists_false, or_false, false_or, reduceCtorEq, List.set_cons_zero, List.set_cons_succ, Nat.reduceAdd, Nat.reduceSub, Int.reduceToNat, decide_eq_true_eq, if_true, if_false, Bool.false_eq_true, Bool.not_true, Bool.not_false, Bool.true_eq_false, ite_false, ite_true, ne_eq, not_false_eq_true, Int.reduceEq])
    refine draw_go (ht.mono (m := (n + 19) + 1) (by omega)) (by decide) (by decide) fun sh H1 _ _ T1 v1 => ?_
    (try simp only [tIxO, rIsB, rNotB, tSeq, tIfS, tTest, tB, tOp, tUn, tVar, tC, tAsg, gName, tRet, tRetN, tCB, tCons, tNil, tLst_eq, tTup_eq, tDNewK_eq, tNext, tPar, tM0, tM1, tSl, tNoPart, tPart, rSlS, tAug, tAugS, tExf_eq, ipI, tChain, tCall, tDrop, tBM, tAnd, tOr, tNot, tAndV, tOrV, tNotV, tIf, tIsN, tNotN, rI, rI0, rU, rEq, rNe, gSub, cx_K, cx_K2, L2.start, wipe, scal_ii, scal_ss, scal_bb, scal_is, scal_si, scal_nn, List.map_cons, List.map_nil, List.length_cons, List.length_nil, List.cons_append, List.nil_append, List.append_nil, List.replicate, List.getElem?_cons_zero, List.getElem?_cons_succ, Option.some.injEq, exists_and_left, exists_eq_left', exists_eq_left, exists_eq, exists_eq', V.int.injEq, V.ref.injEq, V.str.injEq, V.bl.injEq, List.cons.injEq, and_true, true_and, false_and, exists_false, or_false, false_or, reduceCtorEq, List.set_cons_zero, List.set_cons_succ, Nat.reduceAdd, Nat.reduceSub, Int.reduceToNat, decide_eq_true_eq, if_true, if_false, Bool.false_eq_true, Bool.not_true, Bool.not_false, Bool.true_eq_false, ite_false, ite_true, ne_eq, not_false_eq_true, Int.reduceEq])
    refine draw_go (T1.mono (m := (n + 18) + 1) (by omega)) (by decide) (by decide) fun sz H2 sz0 sz1 T2 v2 => ?_
    (try simp only [tIxO, rIsB, rNotB, tSeq, tIfS, tTest, tB, tOp, tUn, tVar, tC, tAsg, gName, tRet, tRetN, tCB, tCons, tNil, tLst_eq, tTup_eq, tDNewK_eq, tNext, tPar, tM0, tM1, tSl, tNoPart, tPart, rSlS, tAug, tAugS, tExf_eq, ipI, tChain, tCall, tDrop, tBM, tAnd, tOr, tNot, tAndV, tOrV, tNotV, tIf, tIsN, tNotN, rI, rI0, rU, rEq, rNe, gSub, cx_K, cx_K2, L2.start, wipe, scal_ii, scal_ss, scal_bb, scal_is, scal_si, scal_nn, List.map_cons, List.map_nil, List.length_cons, List.length_nil, List.cons_append, List.nil_append, List.append_nil, List.replicate, List.getElem?_cons_zero, List.getElem?_cons_succ, Option.some.injEq, exists_and_left, exists_eq_left', exists_eq_left, exists_eq, exists_eq', V.int.injEq, V.ref.injEq, V.str.injEq, V.bl.injEq, List.cons.injEq, and_true, true_and, false_and, exists_false, or_false, false_or, reduceCtorEq, List.set_cons_zero, List.set_cons_succ, Nat.reduceAdd, Nat.reduceSub, Int.reduceToNat, decide_eq_true_eq, if_true, if_false, Bool.false_eq_true, Bool.not_true, Bool.not_false, Bool.true_eq_false, ite_false, ite_true, ne_eq, not_false_eq_true, Int.reduceEq])
    refine cut_go (fun σ' H' => H' = H2 ∧ ∃ z : Int, 1 ≤ z ∧ z ≤ 12 ∧ σ' = [some (.ref t), some (.ref u), some (.int sh), some (.int z), none, none]) ?_ ?_
    · (try simp only [tIxO, rIsB, rNotB, tSeq, tIfS, tTest, tB, tOp, tUn, tVar, tC, tAsg, gName, tRet, tRetN, tCB, tCons, tNil, tLst_eq, tTup_eq, tDNewK_eq, tNext, tPar, tM0, tM1, tSl, tNoPart, tPart, rSlS, tAug, tAugS, tExf_eq, ipI, tChain, tCall, tDrop, tBM, tAnd, tOr, tNot, tAndV, tOrV, tNotV, tIf, tIsN, tNotN, rI, rI0, rU, rEq, rNe, gSub, cx_K, cx_K2, L2.start, wipe, scal_ii, scal_ss, scal_bb, scal_is, scal_si, scal_nn, List.map_cons, List.map_nil, List.length_cons, List.length_nil, List.cons_append, List.nil_append, List.append_nil, List.replicate, List.getElem?_cons_zero, List.getElem?_cons_succ, Option.some.injEq, exists_and_left, exists_eq_left', exists_eq_left, exists_eq, exists_eq', V.int.injEq, V.ref.injEq, V.str.injEq, V.bl.injEq, List.cons.injEq, and_true, true_and, false_and, exists_false, or_false, false_or, reduceCtorEq, List.set_cons_zero, List.set_cons_succ, Nat.reduceAdd, Nat.reduceSub, Int.reduceToNat, decide_eq_true_eq, if_true, if_false, Bool.false_eq_true, Bool.not_true, Bool.not_false, Bool.true_eq_false, ite_false, ite_true, ne_eq, not_false_eq_true, Int.reduceEq])
      refine ite2 (fun _ => ?_) (fun _ => ?_)
      · exact ⟨_, by omega, by omega, rfl⟩
      · exact ⟨_, by omega, by omega, rfl⟩
    · rintro σ' H' ⟨rfl, z, z0, z1, rfl⟩
      have v12 := v1.trans v2
      have ru := v12 _ _ hut hu'
      (try simp only [tIxO, rIsB, rNotB, tSeq, tIfS, tTest, tB, tOp, tUn, tVar, tC, tAsg, gName, tRet, tRetN, tCB, tCons, tNil, tLst_eq, tTup_eq, tDNewK_eq, tNext, tPar, tM0, tM1, tSl, tNoPart, tPart, rSlS, tAug, tAugS, tExf_eq, ipI, tChain, tCall, tDrop, tBM, tAnd, tOr, tNot, tAndV, tOrV, tNotV, tIf, tIsN, tNotN, rI, rI0, rU, rEq, rNe, gSub, cx_K, cx_K2, L2.start, wipe, scal_ii, scal_ss, scal_bb, scal_is, scal_si, scal_nn, List.map_cons, List.map_nil, List.length_cons, List.length_nil, List.cons_append, List.nil_append, List.append_nil, List.replicate, List.getElem?_cons_zero, List.getElem?_cons_succ, Option.some.injEq, exists_and_left, exists_eq_left', exists_eq_left, exists_eq, exists_eq', V.int.injEq, V.ref.injEq, V.str.injEq, V.bl.injEq, List.cons.injEq, and_true, true_and, false_and, exists_false, or_false, false_or, reduceCtorEq, List.set_cons_zero, List.set_cons_succ, Nat.reduceAdd, Nat.reduceSub, Int.reduceToNat, decide_eq_true_eq, if_true, if_false, Bool.false_eq_true, Bool.not_true, Bool.not_false, Bool.true_eq_false, ite_false, ite_true, ne_eq, not_false_eq_true, Int.reduceEq])
      refine ite2 (fun _ => ?_) (fun _ => ?_)
      · -- kept()[..] + signs()[..]
        refine ⟨rfl, fun p1 H3 n3 s3 r3 => ?_⟩
        have T3 := T2.same s3
        refine draw_go (T3.mono (m := (n + 17) + 1) (by omega)) (by decide) (by decide) fun x1 H4 a0 a1 T4 v4 => ?_
        have r4 := v4 _ _ (T2.ne n3) r3
        obtain ⟨kw, hk, ek⟩ := atI_ex (l := keptS) a0 (show x1 < ((keptS.length : Nat) : Int) from a1)
        refine ixM_go r4 (atI_map (f := V.str) ek) ?_
        refine ⟨rfl, ?_⟩
        refine draw_go (T4.mono (m := (n + 16) + 1) (by omega)) (by decide) (by decide) fun x2 H5 b0 b1 T5 v5 => ?_
        obtain ⟨c, ec, hc, _⟩ := signs_at b0 b1
        refine ixS_go (by decide) ec ?_
        (try simp only [tIxO, rIsB, rNotB, tSeq, tIfS, tTest, tB, tOp, tUn, tVar, tC, tAsg, gName, tRet, tRetN, tCB, tCons, tNil, tLst_eq, tTup_eq, tDNewK_eq, tNext, tPar, tM0, tM1, tSl, tNoPart, tPart, rSlS, tAug, tAugS, tExf_eq, ipI, tChain, tCall, tDrop, tBM, tAnd, tOr, tNot, tAndV, tOrV, tNotV, tIf, tIsN, tNotN, rI, rI0, rU, rEq, rNe, gSub, cx_K, cx_K2, L2.start, wipe, scal_ii, scal_ss, scal_bb, scal_is, scal_si, scal_nn, List.map_cons, List.map_nil, List.length_cons, List.length_nil, List.cons_append, List.nil_append, List.append_nil, List.replicate, List.getElem?_cons_zero, List.getElem?_cons_succ, Option.some.injEq, exists_and_left, exists_eq_left', exists_eq_left, exists_eq, exists_eq', V.int.injEq, V.ref.injEq, V.str.injEq, V.bl.injEq, List.cons.injEq, and_true, true_and, false_and, exists_false, or_false, false_or, reduceCtorEq, List.set_cons_zero, List.set_cons_succ, Nat.reduceAdd, Nat.reduceSub, Int.reduceToNat, decide_eq_true_eq, if_true, if_false, Bool.false_eq_true, Bool.not_true, Bool.not_false, Bool.true_eq_false, ite_false, ite_true, ne_eq, not_false_eq_true, Int.reduceEq])
        obtain ⟨k1, k2, k3⟩ := kept_spell kw hk
        refine ⟨Nat.le_trans (show kw.length + 1 ≤ 6 by omega) (by decide), q _ _ (spell_snoc ⟨k1, k2⟩ (by omega) hc) (T5.mono (by omega)) ?_⟩
        exact ((v12.same s3).trans v4).trans v5
      · refine cut_go (fun σ' H' => Tape H' t (n + 13) ∧ ExT t H H' ∧ σ' = [some (.ref t), some (.ref u), some (.int sh), some (.int z), none, none]) ?_ ?_
        · (try simp only [tIxO, rIsB, rNotB, tSeq, tIfS, tTest, tB, tOp, tUn, tVar, tC, tAsg, gName, tRet, tRetN, tCB, tCons, tNil, tLst_eq, tTup_eq, tDNewK_eq, tNext, tPar, tM0, tM1, tSl, tNoPart, tPart, rSlS, tAug, tAugS, tExf_eq, ipI, tChain, tCall, tDrop, tBM, tAnd, tOr, tNot, tAndV, tOrV, tNotV, tIf, tIsN, tNotN, rI, rI0, rU, rEq, rNe, gSub, cx_K, cx_K2, L2.start, wipe, scal_ii, scal_ss, scal_bb, scal_is, scal_si, scal_nn, List.map_cons, List.map_nil, List.length_cons, List.length_nil, List.cons_append, List.nil_append, List.append_nil, List.replicate, List.getElem?_cons_zero, List.getElem?_cons_succ, Option.some.injEq, exists_and_left, exists_eq_left', exists_eq_left, exists_eq, exists_eq', V.int.injEq, V.ref.injEq, V.str.injEq, V.bl.injEq, List.cons.injEq, and_true, true_and, false_and, exists_false, or_false, false_or, reduceCtorEq, List.set_cons_zero, List.set_cons_succ, Nat.reduceAdd, Nat.reduceSub, Int.reduceToNat, decide_eq_true_eq, if_true, if_false, Bool.false_eq_true, Bool.not_true, Bool.not_false, Bool.true_eq_false, ite_false, ite_true, ne_eq, not_false_eq_true, Int.reduceEq])
          refine ite2 (fun _ => ?_) (fun _ => ?_)
          · refine newL_go fun e H3 n3 s3 r3 => ?_
            have ru3 := s3 _ _ ru
            have T3 := T2.same s3
            refine neNil_go (.inl (.inl ru3)) (.inl (.inl r3)) (fun x hx => word_ok (hus x hx).1) ?_
            refine ⟨_, rfl, ?_⟩
            cases us with
            | nil => exact ⟨T3.mono (by omega), v12.same s3⟩
            | cons u0 ur =>
              have hlen : ((u0 :: ur).map V.str).length ≤ 100000 := by rw [List.length_map]; exact hul
              refine ite2 (fun _ => ?_) (fun c => absurd rfl c)
              refine ⟨_, .inl (.inl ru3), ?_⟩
              refine draw_go (T3.mono (m := (n + 17) + 1) (by omega)) (by simp) (Nat.lt_of_le_of_lt (by rw [Int.natAbs_natCast]; exact hlen) (show 100000 < 2 ^ 1000 by decide +kernel)) fun x1 H4 a0 a1 T4 v4 => ?_
              obtain ⟨wd, hk, ek⟩ := atI_ex (l := u0 :: ur) a0 (by rw [List.length_map] at a1; exact a1)
              have ru4 := v4 _ _ hut ru3
              refine ixM_go ru4 (atI_map (f := V.str) ek) ?_
              have sw := hus wd hk
              obtain ⟨w1, w2⟩ := word_len sw.1
              refine ⟨_, rfl, Nat.le_trans w2 (by decide), ?_⟩
              refine draw_go (T4.mono (m := (n + 16) + 1) (by omega)) (by omega) (Nat.lt_of_le_of_lt (by rw [Int.natAbs_natCast]; exact w2) (show 12 < 2 ^ 1000 by decide +kernel)) fun x2 H5 b0 b1 T5 v5 => ?_
              obtain ⟨j, rfl⟩ := Int.eq_ofNat_of_zero_le b0
              refine ⟨_, rfl, _, rfl, Nat.le_trans w2 (by decide), ?_⟩
              refine ⟨rfl, ?_⟩
              refine draw_go (T5.mono (m := (n + 15) + 1) (by omega)) (by decide) (by decide) fun x3 H6 c0 c1 T6 v6 => ?_
              obtain ⟨c, ec, hc, hl⟩ := signs_at c0 (by omega)
              refine ixS_go (by decide) ec ?_
              have sp := spell_put sw (j := j) (by omega) (hl c1)
              obtain ⟨p1, p2⟩ := word_len sp.1
              have p3 := p2
              rw [len_app] at p3
              have p4 : (cutS wd none (some (j : Int)) ++ (⟨#[c]⟩ : Str)).length ≤ 12 := by omega
              rw [len_app] at p4
              refine ⟨_, rfl, Nat.le_trans p4 (by decide), _, rfl, _, rfl, Nat.le_trans w2 (by decide), Nat.le_trans p3 (by decide), ?_⟩
              exact q _ _ sp (T6.mono (by omega)) ((((v12.same s3).trans v4).trans v5).trans v6)
          · exact ⟨T2.mono (by omega), v12⟩
        · rintro σ' H3 ⟨T3, v3, rfl⟩
          (try simp only [tIxO, rIsB, rNotB, tSeq, tIfS, tTest, tB, tOp, tUn, tVar, tC, tAsg, gName, tRet, tRetN, tCB, tCons, tNil, tLst_eq, tTup_eq, tDNewK_eq, tNext, tPar, tM0, tM1, tSl, tNoPart, tPart, rSlS, tAug, tAugS, tExf_eq, ipI, tChain, tCall, tDrop, tBM, tAnd, tOr, tNot, tAndV, tOrV, tNotV, tIf, tIsN, tNotN, rI, rI0, rU, rEq, rNe, gSub, cx_K, cx_K2, L2.start, wipe, scal_ii, scal_ss, scal_bb, scal_is, scal_si, scal_nn, List.map_cons, List.map_nil, List.length_cons, List.length_nil, List.cons_append, List.nil_append, List.append_nil, List.replicate, List.getElem?_cons_zero, List.getElem?_cons_succ, Option.some.injEq, exists_and_left, exists_eq_left', exists_eq_left, exists_eq, exists_eq', V.int.injEq, V.ref.injEq, V.str.injEq, V.bl.injEq, List.cons.injEq, and_true, true_and, false_and, exists_false, or_false, false_or, reduceCtorEq, List.set_cons_zero, List.set_cons_succ, Nat.reduceAdd, Nat.reduceSub, Int.reduceToNat, decide_eq_true_eq, if_true, if_false, Bool.false_eq_true, Bool.not_true, Bool.not_false, Bool.true_eq_false, ite_false, ite_true, ne_eq, not_false_eq_true, Int.reduceEq])
          refine ⟨rfl, ?_⟩
          refine draw_go (T3.mono (m := (n + 12) + 1) (by omega)) (by decide) (by decide) fun x1 H4 a0 a1 T4 v4 => ?_
          obtain ⟨c, ec, hc, hl⟩ := signs_at a0 (by omega)
          refine ixS_go (by decide) ec ?_
          refine forR_go (n := (z - 1).toNat) (fun R r => ?_) (by omega) (fun i σ H' => ∃ (x : Str) (o : Option V), Spell x ∧ x.length = i + 1 ∧ Tape H' t (n + (12 - i)) ∧ ExT t H H' ∧ σ = [some (.ref t), some (.ref u), some (.int sh), some (.int z), some (.str x), o]) ⟨_, _, spell_one (hl a1), len_one c, T4, v3.trans v4, rfl⟩ ?_ ?_
          · (try simp only [tIxO, rIsB, rNotB, tSeq, tIfS, tTest, tB, tOp, tUn, tVar, tC, tAsg, gName, tRet, tRetN, tCB, tCons, tNil, tLst_eq, tTup_eq, tDNewK_eq, tNext, tPar, tM0, tM1, tSl, tNoPart, tPart, rSlS, tAug, tAugS, tExf_eq, ipI, tChain, tCall, tDrop, tBM, tAnd, tOr, tNot, tAndV, tOrV, tNotV, tIf, tIsN, tNotN, rI, rI0, rU, rEq, rNe, gSub, cx_K, cx_K2, L2.start, wipe, scal_ii, scal_ss, scal_bb, scal_is, scal_si, scal_nn, List.map_cons, List.map_nil, List.length_cons, List.length_nil, List.cons_append, List.nil_append, List.append_nil, List.replicate, List.getElem?_cons_zero, List.getElem?_cons_succ, Option.some.injEq, exists_and_left, exists_eq_left', exists_eq_left, exists_eq, exists_eq', V.int.injEq, V.ref.injEq, V.str.injEq, V.bl.injEq, List.cons.injEq, and_true, true_and, false_and, exists_false, or_false, false_or, reduceCtorEq, List.set_cons_zero, List.set_cons_succ, Nat.reduceAdd, Nat.reduceSub, Int.reduceToNat, decide_eq_true_eq, if_true, if_false, Bool.false_eq_true, Bool.not_true, Bool.not_false, Bool.true_eq_false, ite_false, ite_true, ne_eq, not_false_eq_true, Int.reduceEq])
            rw [show z - 1 = (((z - 1).toNat : Nat) : Int) by omega]
            exact r
          · rintro i σ' H5 hi ⟨x, o, sx, lx, T5, v5, rfl⟩
            (try simp only [tIxO, rIsB, rNotB, tSeq, tIfS, tTest, tB, tOp, tUn, tVar, tC, tAsg, gName, tRet, tRetN, tCB, tCons, tNil, tLst_eq, tTup_eq, tDNewK_eq, tNext, tPar, tM0, tM1, tSl, tNoPart, tPart, rSlS, tAug, tAugS, tExf_eq, ipI, tChain, tCall, tDrop, tBM, tAnd, tOr, tNot, tAndV, tOrV, tNotV, tIf, tIsN, tNotN, rI, rI0, rU, rEq, rNe, gSub, cx_K, cx_K2, L2.start, wipe, scal_ii, scal_ss, scal_bb, scal_is, scal_si, scal_nn, List.map_cons, List.map_nil, List.length_cons, List.length_nil, List.cons_append, List.nil_append, List.append_nil, List.replicate, List.getElem?_cons_zero, List.getElem?_cons_succ, Option.some.injEq, exists_and_left, exists_eq_left', exists_eq_left, exists_eq, exists_eq', V.int.injEq, V.ref.injEq, V.str.injEq, V.bl.injEq, List.cons.injEq, and_true, true_and, false_and, exists_false, or_false, false_or, reduceCtorEq, List.set_cons_zero, List.set_cons_succ, Nat.reduceAdd, Nat.reduceSub, Int.reduceToNat, decide_eq_true_eq, if_true, if_false, Bool.false_eq_true, Bool.not_true, Bool.not_false, Bool.true_eq_false, ite_false, ite_true, ne_eq, not_false_eq_true, Int.reduceEq])
            refine ⟨rfl, ?_⟩
            refine draw_go (T5.mono (m := (n + (11 - i)) + 1) (by omega)) (by decide) (by decide) fun x1 H6 a0 a1 T6 v6 => ?_
            obtain ⟨c, ec, hc, _⟩ := signs_at a0 a1
            refine ixS_go (by decide) ec ?_
            have l1 := len_app x (⟨#[c]⟩ : Str)
            rw [len_one] at l1
            refine ⟨_, rfl, Nat.le_trans (show x.length + 1 ≤ 12 by omega) (by decide), ?_⟩
            exact ⟨_, spell_snoc sx (by omega) hc, by omega, T6.mono (by omega), v5.trans v6, rfl⟩
          · rintro σ' H5 ⟨x, o, sx, lx, T5, v5, rfl⟩
            (try simp only [tIxO, rIsB, rNotB, tSeq, tIfS, tTest, tB, tOp, tUn, tVar, tC, tAsg, gName, tRet, tRetN, tCB, tCons, tNil, tLst_eq, tTup_eq, tDNewK_eq, tNext, tPar, tM0, tM1, tSl, tNoPart, tPart, rSlS, tAug, tAugS, tExf_eq, ipI, tChain, tCall, tDrop, tBM, tAnd, tOr, tNot, tAndV, tOrV, tNotV, tIf, tIsN, tNotN, rI, rI0, rU, rEq, rNe, gSub, cx_K, cx_K2, L2.start, wipe, scal_ii, scal_ss, scal_bb, scal_is, scal_si, scal_nn, List.map_cons, List.map_nil, List.length_cons, List.length_nil, List.cons_append, List.nil_append, List.append_nil, List.replicate, List.getElem?_cons_zero, List.getElem?_cons_succ, Option.some.injEq, exists_and_left, exists_eq_left', exists_eq_left, exists_eq, exists_eq', V.int.injEq, V.ref.injEq, V.str.injEq, V.bl.injEq, List.cons.injEq, and_true, true_and, false_and, exists_false, or_false, false_or, reduceCtorEq, List.set_cons_zero, List.set_cons_succ, Nat.reduceAdd, Nat.reduceSub, Int.reduceToNat, decide_eq_true_eq, if_true, if_false, Bool.false_eq_true, Bool.not_true, Bool.not_false, Bool.true_eq_false, ite_false, ite_true, ne_eq, not_false_eq_true, Int.reduceEq])
            exact q _ _ sx (T5.mono (by omega)) v5

end
end Own

set_option Elab.async false
set_option linter.all false
set_option maxRecDepth 100000
set_option maxHeartbeats 4000000
namespace Own
open PySem PySem.Spec PyProof.Rows L2
section
variable {P : Program} {w : World} {K : PySem.W.Frag} {mg : Str → Option Value} {base : Heap}
theorem stem_free {x : Str} {us : List Str} (hul : us.length ≤ 90) (h : ∀ i < us.length + 1, us.contains (stemS x i) = true) : False := by
  have z := pig (l := (List.range (us.length + 1)).map (stemS x)) (m := us) (by
    rw [List.Nodup, List.pairwise_map]
    refine List.Pairwise.imp_of_mem (fun {a b} ha hb hne => fun e => hne (stem_inj (by have := List.mem_range.mp ha; omega) (by have := List.mem_range.mp hb; omega) e)) List.nodup_range) (by
    intro y hy
    obtain ⟨i, hi, rfl⟩ := List.mem_map.mp hy
    exact List.contains_iff_mem.mp (h i (List.mem_range.mp hi)))
  rw [List.length_map, List.length_range] at z
  omega
def spIdent : Sp := fun vs H Q _ => ∃ (t u : Addr) (n : Nat) (us : List Str), vs = [.ref t, .ref u] ∧ Tape H t (n + 20) ∧ H u = some (.lst (us.map V.str)) ∧ u ≠ t ∧ us.length ≤ 90 ∧ (∀ x ∈ us, Spell x) ∧ ∀ x H', isIdent x = true → us.contains x = false → Tape H' t n → ExT t H H' → Q (.str x) H'
theorem ok_l_ident (T : Txt K mg) : FnOk P w K mg base CX0 3 T.d_l_ident.a T.d_l_ident.d ["_law_tape_here", "_law_used"] spIdent := by
  refine T.d_l_ident.F.ok sc_l_ident (fun vs H Q E h => ?_) (fun cdv A outer s H vs Q E hr h => ?_)
  · obtain ⟨t, u, n, us, rfl, _⟩ := h
    rfl
  · obtain ⟨t, u, n, us, rfl, ht, hu', hut, hul, hus, q⟩ := h
    have hu := hr.units
    refine ⟨_, (pss_cons (ps_set (i := 2) sc_l_ident.nd rfl (Or.inl rfl) (pe_call (ok_l_spelled T) (hr.mono (by decide)) (by rfl) T.d_l_spelled.g T.d_l_spelled.F.kp T.d_l_spelled.b .nil pass0 (pa_cons (pv 0) (pa_cons (pv 1) pa_nil))))
      (Evl.pss_cut (ps_if (PW.pt (pw_and (pt_cmpR op_notIn_seq (pv 2) (pv 1) (by rfl)) (pw_and1 (pt_cmpR op_notIn_seq (pv 2) (pe_call0 (ok_l_kept T) (hr.mono (by decide)) (by rfl) T.d_l_kept.g T.d_l_kept.F.kp T.d_l_kept.b .nil pass0) (by rfl))))) (pss_one (ps_ret (pv 2))) pss_nil)
      (pss_cons (ps_for PassesOwn.never rfl (pi_range1 (by rfl) T.z_range (pa_cons (pe_op op_add (pe_callB call_lenL (by rfl) T.z_len (by decide +kernel) (pa_cons (pv 1) pa_nil)) pe_int) pa_nil)) (pg_name (i := 3) sc_l_ident.nd rfl (Or.inl rfl)) (pss_one (ps_if (pt_cmpR op_notIn_seq (pe_op op_add_str (pe_slice sl_str (pv 2) po_none (po_some pe_int)) (pe_callTy call_str_int (by rfl) T.z_str (by decide +kernel) (pa_cons (pv 3) pa_nil))) (pv 1) (by rfl)) (pss_one (ps_ret (pe_op op_add_str (pe_slice sl_str (pv 2) po_none (po_some pe_int)) (pe_callTy call_str_int (by rfl) T.z_str (by decide +kernel) (pa_cons (pv 3) pa_nil))))) pss_nil)))
      (pss_one (ps_ret (pv 2)))))), ?_⟩
    (try simp only [tIxO, rIsB, rNotB, tSeq, tIfS, tTest, tB, tOp, tUn, tVar, tC, tAsg, gName, tRet, tRetN, tCB, tCons, tNil, tLst_eq, tTup_eq, tDNewK_eq, tNext, tPar, tM0, tM1, tSl, tNoPart, tPart, rSlS, tAug, tAugS, tExf_eq, ipI, tChain, tCall, tDrop, tBM, tAnd, tOr, tNot, tAndV, tOrV, tNotV, tIf, tIsN, tNotN, rI, rI0, rU, rEq, rNe, gSub, cx_K, cx_K2, L2.start, wipe, scal_ii, scal_ss, scal_bb, scal_is, scal_si, scal_nn, List.map_cons, List.map_nil, List.length_cons, List.length_nil, List.cons_append, List.nil_append, List.append_nil, List.replicate, List.getElem?_cons_zero, List.getElem?_cons_succ, Option.some.injEq, exists_and_left, exists_eq_left', exists_eq_left, exists_eq, exists_eq', V.int.injEq, V.ref.injEq, V.str.injEq, V.bl.injEq, List.cons.injEq, and_true, true_and, false_and, exists_false, or_false, false_or, reduceCtorEq, List.set_cons_zero, List.set_cons_succ, Nat.reduceAdd, Nat.reduceSub, Int.reduceToNat, decide_eq_true_eq, if_true, if_false, Bool.false_eq_true, Bool.not_true, Bool.not_false, Bool.true_eq_false, ite_false, ite_true, ne_eq, not_false_eq_true, Int.reduceEq])
    refine ⟨t, u, n, us, rfl, ht, hu', hut, Nat.le_trans hul (by decide), hus, fun x H1 sx T1 v1 => ?_⟩
    have ru := v1 _ _ hut hu'
    (try simp only [tIxO, rIsB, rNotB, tSeq, tIfS, tTest, tB, tOp, tUn, tVar, tC, tAsg, gName, tRet, tRetN, tCB, tCons, tNil, tLst_eq, tTup_eq, tDNewK_eq, tNext, tPar, tM0, tM1, tSl, tNoPart, tPart, rSlS, tAug, tAugS, tExf_eq, ipI, tChain, tCall, tDrop, tBM, tAnd, tOr, tNot, tAndV, tOrV, tNotV, tIf, tIsN, tNotN, rI, rI0, rU, rEq, rNe, gSub, cx_K, cx_K2, L2.start, wipe, scal_ii, scal_ss, scal_bb, scal_is, scal_si, scal_nn, List.map_cons, List.map_nil, List.length_cons, List.length_nil, List.cons_append, List.nil_append, List.append_nil, List.replicate, List.getElem?_cons_zero, List.getElem?_cons_succ, Option.some.injEq, exists_and_left, exists_eq_left', exists_eq_left, exists_eq, exists_eq', V.int.injEq, V.ref.injEq, V.str.injEq, V.bl.injEq, List.cons.injEq, and_true, true_and, false_and, exists_false, or_false, false_or, reduceCtorEq, List.set_cons_zero, List.set_cons_succ, Nat.reduceAdd, Nat.reduceSub, Int.reduceToNat, decide_eq_true_eq, if_true, if_false, Bool.false_eq_true, Bool.not_true, Bool.not_false, Bool.true_eq_false, ite_false, ite_true, ne_eq, not_false_eq_true, Int.reduceEq])
    refine cut_go (fun σ' H' => Tape H' t n ∧ ExT t H H' ∧ H' u = some (.lst (us.map V.str)) ∧ σ' = [some (.ref t), some (.ref u), some (.str x), none]) ?_ ?_
    · (try simp only [tIxO, rIsB, rNotB, tSeq, tIfS, tTest, tB, tOp, tUn, tVar, tC, tAsg, gName, tRet, tRetN, tCB, tCons, tNil, tLst_eq, tTup_eq, tDNewK_eq, tNext, tPar, tM0, tM1, tSl, tNoPart, tPart, rSlS, tAug, tAugS, tExf_eq, ipI, tChain, tCall, tDrop, tBM, tAnd, tOr, tNot, tAndV, tOrV, tNotV, tIf, tIsN, tNotN, rI, rI0, rU, rEq, rNe, gSub, cx_K, cx_K2, L2.start, wipe, scal_ii, scal_ss, scal_bb, scal_is, scal_si, scal_nn, List.map_cons, List.map_nil, List.length_cons, List.length_nil, List.cons_append, List.nil_append, List.append_nil, List.replicate, List.getElem?_cons_zero, List.getElem?_cons_succ, Option.some.injEq, exists_and_left, exists_eq_left', exists_eq_left, exists_eq, exists_eq', V.int.injEq, V.ref.injEq, V.str.injEq, V.bl.injEq, List.cons.injEq, and_true, true_and, false_and, exists_false, or_false, false_or, reduceCtorEq, List.set_cons_zero, List.set_cons_succ, Nat.reduceAdd, Nat.reduceSub, Int.reduceToNat, decide_eq_true_eq, if_true, if_false, Bool.false_eq_true, Bool.not_true, Bool.not_false, Bool.true_eq_false, ite_false, ite_true, ne_eq, not_false_eq_true, Int.reduceEq])
      refine inS_go (.inl (.inl ru)) ?_
      (try simp only [tIxO, rIsB, rNotB, tSeq, tIfS, tTest, tB, tOp, tUn, tVar, tC, tAsg, gName, tRet, tRetN, tCB, tCons, tNil, tLst_eq, tTup_eq, tDNewK_eq, tNext, tPar, tM0, tM1, tSl, tNoPart, tPart, rSlS, tAug, tAugS, tExf_eq, ipI, tChain, tCall, tDrop, tBM, tAnd, tOr, tNot, tAndV, tOrV, tNotV, tIf, tIsN, tNotN, rI, rI0, rU, rEq, rNe, gSub, cx_K, cx_K2, L2.start, wipe, scal_ii, scal_ss, scal_bb, scal_is, scal_si, scal_nn, List.map_cons, List.map_nil, List.length_cons, List.length_nil, List.cons_append, List.nil_append, List.append_nil, List.replicate, List.getElem?_cons_zero, List.getElem?_cons_succ, Option.some.injEq, exists_and_left, exists_eq_left', exists_eq_left, exists_eq, exists_eq', V.int.injEq, V.ref.injEq, V.str.injEq, V.bl.injEq, List.cons.injEq, and_true, true_and, false_and, exists_false, or_false, false_or, reduceCtorEq, List.set_cons_zero, List.set_cons_succ, Nat.reduceAdd, Nat.reduceSub, Int.reduceToNat, decide_eq_true_eq, if_true, if_false, Bool.false_eq_true, Bool.not_true, Bool.not_false, Bool.true_eq_false, ite_false, ite_true, ne_eq, not_false_eq_true, Int.reduceEq])
      refine ite2 (fun c1 => ?_) (fun _ => ?_)
      · refine ⟨rfl, fun p H2 n2 s2 r2 => ?_⟩
        refine inS_go (.inl (.inl r2)) ?_
        refine ⟨_, rfl, ?_⟩
        refine ite2 (fun c2 => ?_) (fun _ => ?_)
        · have d1 : us.contains x = false := by simpa using c1
          have d2 : keptS.contains x = false := by simpa using c2
          refine q _ _ ?_ d1 (T1.same s2) (v1.same s2)
          unfold isIdent
          rw [sx.1, sx.2, d2]
          rfl
        · exact ⟨T1.same s2, v1.same s2, s2 _ _ ru⟩
      · exact ⟨T1, v1, ru⟩
    · rintro σ' H2 ⟨T2, v2, r2, rfl⟩
      refine forR_go (n := us.length + 1) (fun R r => ?_) (by omega) (fun i σ H' => ∃ (o : Option V), Tape H' t n ∧ ExT t H H' ∧ H' u = some (.lst (us.map V.str)) ∧ (∀ j < i, us.contains (stemS x j) = true) ∧ σ = [some (.ref t), some (.ref u), some (.str x), o]) ⟨_, T2, v2, r2, fun j hj => absurd hj (by omega), rfl⟩ ?_ ?_
      · (try simp only [tIxO, rIsB, rNotB, tSeq, tIfS, tTest, tB, tOp, tUn, tVar, tC, tAsg, gName, tRet, tRetN, tCB, tCons, tNil, tLst_eq, tTup_eq, tDNewK_eq, tNext, tPar, tM0, tM1, tSl, tNoPart, tPart, rSlS, tAug, tAugS, tExf_eq, ipI, tChain, tCall, tDrop, tBM, tAnd, tOr, tNot, tAndV, tOrV, tNotV, tIf, tIsN, tNotN, rI, rI0, rU, rEq, rNe, gSub, cx_K, cx_K2, L2.start, wipe, scal_ii, scal_ss, scal_bb, scal_is, scal_si, scal_nn, List.map_cons, List.map_nil, List.length_cons, List.length_nil, List.cons_append, List.nil_append, List.append_nil, List.replicate, List.getElem?_cons_zero, List.getElem?_cons_succ, Option.some.injEq, exists_and_left, exists_eq_left', exists_eq_left, exists_eq, exists_eq', V.int.injEq, V.ref.injEq, V.str.injEq, V.bl.injEq, List.cons.injEq, and_true, true_and, false_and, exists_false, or_false, false_or, reduceCtorEq, List.set_cons_zero, List.set_cons_succ, Nat.reduceAdd, Nat.reduceSub, Int.reduceToNat, decide_eq_true_eq, if_true, if_false, Bool.false_eq_true, Bool.not_true, Bool.not_false, Bool.true_eq_false, ite_false, ite_true, ne_eq, not_false_eq_true, Int.reduceEq])
        refine ⟨_, .inl (.inl r2), ?_⟩
        rw [List.length_map]
        exact r
      · rintro i σ' H3 hi ⟨o, T3, v3, r3, hc, rfl⟩
        (try simp only [tIxO, rIsB, rNotB, tSeq, tIfS, tTest, tB, tOp, tUn, tVar, tC, tAsg, gName, tRet, tRetN, tCB, tCons, tNil, tLst_eq, tTup_eq, tDNewK_eq, tNext, tPar, tM0, tM1, tSl, tNoPart, tPart, rSlS, tAug, tAugS, tExf_eq, ipI, tChain, tCall, tDrop, tBM, tAnd, tOr, tNot, tAndV, tOrV, tNotV, tIf, tIsN, tNotN, rI, rI0, rU, rEq, rNe, gSub, cx_K, cx_K2, L2.start, wipe, scal_ii, scal_ss, scal_bb, scal_is, scal_si, scal_nn, List.map_cons, List.map_nil, List.length_cons, List.length_nil, List.cons_append, List.nil_append, List.append_nil, List.replicate, List.getElem?_cons_zero, List.getElem?_cons_succ, Option.some.injEq, exists_and_left, exists_eq_left', exists_eq_left, exists_eq, exists_eq', V.int.injEq, V.ref.injEq, V.str.injEq, V.bl.injEq, List.cons.injEq, and_true, true_and, false_and, exists_false, or_false, false_or, reduceCtorEq, List.set_cons_zero, List.set_cons_succ, Nat.reduceAdd, Nat.reduceSub, Int.reduceToNat, decide_eq_true_eq, if_true, if_false, Bool.false_eq_true, Bool.not_true, Bool.not_false, Bool.true_eq_false, ite_false, ite_true, ne_eq, not_false_eq_true, Int.reduceEq])
        obtain ⟨w1, w2⟩ := word_len sx.1
        have si := stem_ident sx (i := i) (by omega)
        have e1 : isWord (stemS x i) = true := by
          unfold isIdent at si
          simp only [Bool.and_eq_true] at si
          exact si.1.1
        have e2 := (word_len e1).2
        unfold stemS at e2
        rw [len_app] at e2
        have a1 : x.length ≤ sizeLine := Nat.le_trans w2 (by decide)
        have a2 : ((i : Nat) : Int).natAbs.log2 < 1920 := by
          rw [Int.natAbs_natCast]
          exact Nat.lt_of_le_of_lt (Nat.log2_le_self i) (by omega)
        have a3 : (cutS x none (some 9)).length + (Str.ofString (toString ((i : Nat) : Int))).length ≤ sizeLine := Nat.le_trans e2 (by decide)
        refine ⟨a1, a2, a3, ?_⟩
        refine inS_go (x := stemS x i) (.inl (.inl r3)) ?_
        refine ⟨_, rfl, ?_⟩
        refine ite2 (fun c => ?_) (fun c => ?_)
        · exact ⟨a1, a2, a3, q (stemS x i) _ si (by simpa using c) T3 v3⟩
        · refine ⟨T3, v3, r3, fun j hj => ?_⟩
          rcases Nat.lt_succ_iff_lt_or_eq.mp hj with h | rfl
          · exact hc j h
          · simpa using c
      · rintro σ' H3 ⟨o, T3, v3, r3, hc, rfl⟩
        exact (stem_free hul hc).elim
def spNumber : Sp := fun vs H Q _ => ∃ (t : Addr) (n : Nat), vs = [.ref t] ∧ Tape H t (n + 3) ∧ ∀ (x : Int) H', 0 ≤ x → x < limN → Tape H' t n → ExT t H H' → Q (.int x) H'
theorem ok_l_number (T : Txt K mg) : FnOk P w K mg base CX0 2 T.d_l_number.a T.d_l_number.d ["_law_tape_here"] spNumber := by
  refine T.d_l_number.F.ok sc_l_number (fun vs H Q E h => ?_) (fun cdv A outer s H vs Q E hr h => ?_)
  · obtain ⟨t, n, rfl, _⟩ := h
    rfl
  · obtain ⟨t, n, rfl, ht, q⟩ := h
    have hu := hr.units
    refine ⟨_, (pss_cons (ps_if (pt_cmpR op_eq (pe_call (ok_l_draw T) (hr.mono (by decide)) (by rfl) T.d_l_draw.g T.d_l_draw.F.kp T.d_l_draw.b .nil pass0 (pa_cons (pv 0) (pa_cons pe_int pa_nil))) pe_int (nomark _)) (pss_one (ps_ret (pe_call (ok_l_draw T) (hr.mono (by decide)) (by rfl) T.d_l_draw.g T.d_l_draw.F.kp T.d_l_draw.b .nil pass0 (pa_cons (pv 0) (pa_cons (pe_op op_pow pe_int pe_int) pa_nil))))) pss_nil)
      (pss_one (ps_ret (pe_call (ok_l_draw T) (hr.mono (by decide)) (by rfl) T.d_l_draw.g T.d_l_draw.F.kp T.d_l_draw.b .nil pass0 (pa_cons (pv 0) (pa_cons pe_int pa_nil)))))), ?_⟩
    (try simp only [tIxO, rIsB, rNotB, tSeq, tIfS, tTest, tB, tOp, tUn, tVar, tC, tAsg, gName, tRet, tRetN, tCB, tCons, tNil, tLst_eq, tTup_eq, tDNewK_eq, tNext, tPar, tM0, tM1, tSl, tNoPart, tPart, rSlS, tAug, tAugS, tExf_eq, ipI, tChain, tCall, tDrop, tBM, tAnd, tOr, tNot, tAndV, tOrV, tNotV, tIf, tIsN, tNotN, rI, rI0, rU, rEq, rNe, gSub, cx_K, cx_K2, L2.start, wipe, scal_ii, scal_ss, scal_bb, scal_is, scal_si, scal_nn, List.map_cons, List.map_nil, List.length_cons, List.length_nil, List.cons_append, List.nil_append, List.append_nil, List.replicate, List.getElem?_cons_zero, List.getElem?_cons_succ, Option.some.injEq, exists_and_left, exists_eq_left', exists_eq_left, exists_eq, exists_eq', V.int.injEq, V.ref.injEq, V.str.injEq, V.bl.injEq, List.cons.injEq, and_true, true_and, false_and, exists_false, or_false, false_or, reduceCtorEq, List.set_cons_zero, List.set_cons_succ, Nat.reduceAdd, Nat.reduceSub, Int.reduceToNat, decide_eq_true_eq, if_true, if_false, Bool.false_eq_true, Bool.not_true, Bool.not_false, Bool.true_eq_false, ite_false, ite_true, ne_eq, not_false_eq_true, Int.reduceEq])
    refine draw_go (ht.mono (m := (n + 2) + 1) (by omega)) (by decide) (by decide) fun w1 H1 _ _ T1 v1 => ⟨by simp [scal], ite2 (fun _ => ⟨⟨by decide, by decide, by decide⟩, ?_⟩) (fun _ => ?_)⟩
    · refine draw_go (T1.mono (m := (n + 1) + 1) (by omega)) (by decide) (by decide) fun x H2 a0 a1 T2 v2 => ?_
      exact q x H2 a0 a1 (T2.mono (by omega)) (v1.trans v2)
    · refine draw_go (T1.mono (m := (n + 1) + 1) (by omega)) (by decide) (by decide) fun x H2 a0 a1 T2 v2 => ?_
      exact q x H2 a0 (Int.lt_of_lt_of_le a1 (by decide)) (T2.mono (by omega)) (v1.trans v2)

end
end Own

set_option Elab.async false
set_option linter.all false
set_option maxRecDepth 100000
set_option maxHeartbeats 4000000
namespace Own
open PySem PySem.Spec PyProof.Rows L2
section
variable {P : Program} {w : World} {K : PySem.W.Frag} {mg : Str → Option Value} {base : Heap}
/-- the pairs drawn so far -/
def GoodP (m : PI) : Prop := 0 ≤ m.1 ∧ m.1 < limN ∧ isIdent m.2 = true
structure Prs (H : Hp) (ms : List PR) : Prop where
  at_ : ∀ m ∈ ms, H m.2 = some (.tup [.int m.1.1, .str m.1.2])
  ok : ∀ m ∈ ms, GoodP m.1
theorem Prs.ext {H H' : Hp} {t : Addr} {ms : List PR} {xs : List V} (h : Prs H ms) (ht : H t = some (.lst xs)) (v : ExT t H H') : Prs H' ms := ⟨fun m mm => v _ _ (fun z => by have y := h.at_ m mm; rw [z, ht] at y; cases y) (h.at_ m mm), h.ok⟩
theorem Prs.same {H H' : Hp} {ms : List PR} (h : Prs H ms) (s : Same H H') : Prs H' ms := ⟨fun m mm => s _ _ (h.at_ m mm), h.ok⟩
theorem ident_word {x : Str} (h : isIdent x = true) : isWord x = true := by
  unfold isIdent at h
  simp only [Bool.and_eq_true] at h
  exact h.1.1
def encP (m : PI) : PyData := .tuple [.int m.1, .str m.2]
theorem encP_eqv {a b : PI} : PyData.eqv (encP a) (encP b) = decide (a = b) := by
  obtain ⟨a1, a2⟩ := a
  obtain ⟨b1, b2⟩ := b
  unfold encP
  by_cases h1 : a1 = b1 <;> by_cases h2 : a2 = b2 <;> simp [PyData.eqv, PyData.eqvAll, h1, h2]
theorem encP_ok {m : PI} (h : GoodP m) : (encP m).canLay0 = true ∧ (encP m).depth ≤ 1 := by
  refine ⟨?_, ?_⟩
  · show PyData.canLayAll0 [.int m.1, .str m.2] = true
    simp [PyData.canLayAll0, PyData.canLay0, word_ok (ident_word h.2.2)]
  · unfold encP
    simp [PyData.depth, PyData.depthAll]
theorem encP_shaped {m : PI} (h : GoodP m) : SeqAt.shaped (encP m) = true := by
  obtain ⟨a, b⟩ := encP_ok h
  unfold SeqAt.shaped
  rw [a, decide_eq_true (show (encP m).depth ≤ 64 by omega)]
  rfl
theorem encPs {ps : List PI} (h : ∀ m ∈ ps, GoodP m) : PyData.canLayAll0 (ps.map encP) = true ∧ PyData.depthAll (ps.map encP) ≤ 1 := by
  induction ps with
  | nil => exact ⟨rfl, by simp [PyData.depthAll]⟩
  | cons m ps ih =>
    obtain ⟨i1, i2⟩ := ih fun x mx => h x (List.mem_cons_of_mem _ mx)
    obtain ⟨j1, j2⟩ := encP_ok (h m (by simp))
    rw [List.map_cons, PyData.canLayAll0, PyData.depthAll, i1, j1]
    exact ⟨rfl, by omega⟩
theorem listP_shaped {ps : List PI} (h : ∀ m ∈ ps, GoodP m) : SeqAt.shaped (.list (ps.map encP)) = true ∧ SeqAt.shaped (.tuple (ps.map encP)) = true := by
  obtain ⟨a, b⟩ := encPs h
  unfold SeqAt.shaped
  refine ⟨?_, ?_⟩
  · show (PyData.canLayAll0 _ && decide (PyData.depth (.list (ps.map encP)) ≤ 64)) = true
    rw [a, decide_eq_true (show PyData.depth (.list (ps.map encP)) ≤ 64 by simp only [PyData.depth]; omega)]
    rfl
  · show (PyData.canLayAll0 _ && decide (PyData.depth (.tuple (ps.map encP)) ≤ 64)) = true
    rw [a, decide_eq_true (show PyData.depth (.tuple (ps.map encP)) ≤ 64 by simp only [PyData.depth]; omega)]
    rfl
theorem dp_pair {K : PySem.W.Frag} {H : Hp} {m : PR} (h : Pair2 K H m) : Dp K H (.ref m.2) (encP m.1) := .tup h (.cons (.int _) (.cons (.str _) .nil))
theorem dp_pairs {K : PySem.W.Frag} {H : Hp} : ∀ {ms : List PR}, (∀ m ∈ ms, Pair2 K H m) → DpAll K H (ms.map fun m => V.ref m.2) ((ms.map (·.1)).map encP)
  | [], _ => .nil
  | m :: ms, h => .cons (dp_pair (h m (by simp))) (dp_pairs fun x mx => h x (List.mem_cons_of_mem _ mx))
theorem Prs.told {K : PySem.W.Frag} {H : Hp} {ms : List PR} (h : Prs H ms) : ∀ m ∈ ms, Pair2 K H m := fun m mm => .inl (.inl (h.at_ m mm))
theorem Prs.oks {H : Hp} {ms : List PR} (h : Prs H ms) : ∀ x ∈ ms.map (·.1), GoodP x := fun x mx => by
  obtain ⟨m, mm, rfl⟩ := List.mem_map.mp mx
  exact h.ok m mm
theorem ixT_go {K : PySem.W.Frag} {p : Addr} {xs : List V} {i : Int} {v : V} {H : Hp} {Q : VK} (h : H p = some (.tup xs)) (e : atI xs i = some v) (q : Q v H) : rIxT K (.ref p) (.int i) H Q := ⟨p, xs, i, v, rfl, rfl, .inl (.inl h), e, q⟩
theorem forR2_go {ta : TA} {j : Nat} {tb : TS} {D : Ends} {σ : L2.St} {H : Hp} {lo hi : Int} (ht : ∀ R : List V → Hp → Prop, R [.int lo, .int hi] H → ta σ H R) (b : 0 ≤ lo ∧ lo ≤ 100000 ∧ 0 ≤ hi ∧ hi ≤ 100000) (Pv : Nat → L2.St → Hp → Prop) (h0 : Pv 0 σ H)
    (hs : ∀ (i : Nat) σ' H', i < (hi - lo).toNat → Pv i σ' H' → tb { D with nx := Pv (i + 1), ct := Pv (i + 1), bk := D.nx } (σ'.set j (some (.int (lo + i)))) H') (hd : ∀ σ' H', Pv (hi - lo).toNat σ' H' → D.nx σ' H') : tFor (iRng2 ta) (gName j) tb D σ H := by
  refine ht _ ⟨lo, hi, rfl, ⟨by omega, by omega, by omega, by omega⟩, ?_⟩
  exact for_range (lo := lo) (n := (hi - lo).toNat) Pv h0 (fun i σ' H' h p => hs i σ' H' h p) hd
def spPairs (K : PySem.W.Frag) : Sp := fun vs H Q _ => ∃ (a : Addr) (ns : List Int) (i j : Nat), vs = [.ref a, .int i, .int j] ∧ SqL K H a (ns.map V.int) ∧ i ≤ 100 ∧ j ≤ 100 ∧ ∀ (p : Addr) (ms : List PR) H', H p = none → Same H H' → H' p = some (.lst (ms.map fun m => V.ref m.2)) → Prs H' ms → ms.length ≤ j - i → (i < j → ms ≠ []) → Q (.ref p) H'
theorem ok_l_pairs (T : Txt K mg) : FnOk P w K mg base CX0 4 T.d_l_pairs.a T.d_l_pairs.d ["_law_script", "_law_first", "_law_last"] (spPairs K) := by
  refine T.d_l_pairs.F.ok sc_l_pairs (fun vs H Q E h => ?_) (fun cdv A outer s H vs Q E hr h => ?_)
  · obtain ⟨_, _, _, _, rfl, _⟩ := h
    rfl
  · obtain ⟨a, ns, i, j, rfl, hs, hi, hj, q⟩ := h
    have hu := hr.units
    refine ⟨_, (pss_cons (ps_set (i := 3) sc_l_pairs.nd rfl (Or.inl rfl) (pe_lst pa_nil))
      (pss_cons (ps_for PassesOwn.never rfl (pi_range2 (by rfl) T.z_range (pa_cons (pv 1) (pa_cons (pv 2) pa_nil))) (pg_name (i := 4) sc_l_pairs.nd rfl (Or.inl rfl)) (pss_cons (ps_set (i := 5) sc_l_pairs.nd rfl (Or.inl rfl) (pe_call (ok_l_tape T) (hr.mono (by decide)) (by rfl) T.d_l_tape.g T.d_l_tape.F.kp T.d_l_tape.b .nil pass0 (pa_cons (pv 0) (pa_cons (pv 4) pa_nil))))
      (pss_cons (ps_set (i := 6) sc_l_pairs.nd rfl (Or.inl rfl) (pe_call (ok_l_draw T) (hr.mono (by decide)) (by rfl) T.d_l_draw.g T.d_l_draw.F.kp T.d_l_draw.b .nil pass0 (pa_cons (pv 5) (pa_cons pe_int pa_nil))))
      (pss_cons (ps_set (i := 7) sc_l_pairs.nd rfl (Or.inl rfl) (pe_tup (pa_cons (pe_call (ok_l_number T) (hr.mono (by decide)) (by rfl) T.d_l_number.g T.d_l_number.F.kp T.d_l_number.b .nil pass0 (pa_cons (pv 5) pa_nil)) (pa_cons (pe_call (ok_l_ident T) (hr.mono (by decide)) (by rfl) T.d_l_ident.g T.d_l_ident.F.kp T.d_l_ident.b .nil pass0 (pa_cons (pv 5) (pa_cons (pe_lst pa_nil) pa_nil))) pa_nil))))
      (Evl.pss_cut (ps_if (PW.pt (pw_and (pt_cmpR (op_neD hu) (pv 3) (pe_lst pa_nil) (nomark _)) (pw_and1 (pt_cmpR op_lt (pv 6) pe_int (nomark _))))) (pss_cons (ps_set (i := 8) sc_l_pairs.nd rfl (Or.inl rfl) (pe_ix ix_list (pv 3) (pe_call (ok_l_draw T) (hr.mono (by decide)) (by rfl) T.d_l_draw.g T.d_l_draw.F.kp T.d_l_draw.b .nil pass0 (pa_cons (pv 5) (pa_cons (pe_callB call_lenL (by rfl) T.z_len (by decide +kernel) (pa_cons (pv 3) pa_nil)) pa_nil))) (fun _ _ => rfl)))
      (pss_one (ps_set (i := 7) sc_l_pairs.nd rfl (Or.inl rfl) (pe_ix ix_list (pe_lst (pa_cons (pv 8) (pa_cons (pe_tup (pa_cons (pe_ix ix_tup (pv 8) pe_int (fun _ _ => rfl)) (pa_cons (pe_ix ix_tup (pv 7) pe_int (fun _ _ => rfl)) pa_nil))) (pa_cons (pe_tup (pa_cons (pe_ix ix_tup (pv 7) pe_int (fun _ _ => rfl)) (pa_cons (pe_ix ix_tup (pv 8) pe_int (fun _ _ => rfl)) pa_nil))) pa_nil)))) (pv 6) (fun _ _ => rfl))))) pss_nil)
      (pss_one (ps_expr (pe_bm PySem.F.plainAttrs_list PySem.F.slot_list_append PySem.F.type_list_append mt_append (pv 3) (pa_cons (pv 7) pa_nil)))))))))
      (pss_one (ps_ret (pv 3))))), ?_⟩
    (try simp only [tIxO, rIsB, rNotB, tSeq, tIfS, tTest, tB, tOp, tUn, tVar, tC, tAsg, gName, tRet, tRetN, tCB, tCons, tNil, tLst_eq, tTup_eq, tDNewK_eq, tNext, tPar, tM0, tM1, tSl, tNoPart, tPart, rSlS, tAug, tAugS, tExf_eq, ipI, tChain, tCall, tDrop, tBM, tAnd, tOr, tNot, tAndV, tOrV, tNotV, tIf, tIsN, tNotN, rI, rI0, rU, rEq, rNe, gSub, cx_K, cx_K2, L2.start, wipe, scal_ii, scal_ss, scal_bb, scal_is, scal_si, scal_nn, List.map_cons, List.map_nil, List.length_cons, List.length_nil, List.cons_append, List.nil_append, List.append_nil, List.replicate, List.getElem?_cons_zero, List.getElem?_cons_succ, Option.some.injEq, exists_and_left, exists_eq_left', exists_eq_left, exists_eq, exists_eq', V.int.injEq, V.ref.injEq, V.str.injEq, V.bl.injEq, List.cons.injEq, and_true, true_and, false_and, exists_false, or_false, false_or, reduceCtorEq, List.set_cons_zero, List.set_cons_succ, Nat.reduceAdd, Nat.reduceSub, Int.reduceToNat, decide_eq_true_eq, if_true, if_false, Bool.false_eq_true, Bool.not_true, Bool.not_false, Bool.true_eq_false, ite_false, ite_true, ne_eq, not_false_eq_true, Int.reduceEq])
    refine newL_go fun pl H1 n1 s1 r1 => ?_
    refine forR2_go (lo := (i : Int)) (hi := (j : Int)) (fun R r => ?_) (by omega) (fun c σ' H' => ∃ (ms : List PR) (o4 o5 o6 o7 o8 : Option V), H' pl = some (.lst (ms.map fun m => V.ref m.2)) ∧ Prs H' ms ∧ ms.length = c ∧ Same H H' ∧ σ' = [some (.ref a), some (.int i), some (.int j), some (.ref pl), o4, o5, o6, o7, o8]) ⟨[], _, _, _, _, _, r1, ⟨by simp, by simp⟩, rfl, s1, rfl⟩ (fun c σ' H' hc pp => ?_) (fun σ' H' pp => ?_)
    · (try simp only [tIxO, rIsB, rNotB, tSeq, tIfS, tTest, tB, tOp, tUn, tVar, tC, tAsg, gName, tRet, tRetN, tCB, tCons, tNil, tLst_eq, tTup_eq, tDNewK_eq, tNext, tPar, tM0, tM1, tSl, tNoPart, tPart, rSlS, tAug, tAugS, tExf_eq, ipI, tChain, tCall, tDrop, tBM, tAnd, tOr, tNot, tAndV, tOrV, tNotV, tIf, tIsN, tNotN, rI, rI0, rU, rEq, rNe, gSub, cx_K, cx_K2, L2.start, wipe, scal_ii, scal_ss, scal_bb, scal_is, scal_si, scal_nn, List.map_cons, List.map_nil, List.length_cons, List.length_nil, List.cons_append, List.nil_append, List.append_nil, List.replicate, List.getElem?_cons_zero, List.getElem?_cons_succ, Option.some.injEq, exists_and_left, exists_eq_left', exists_eq_left, exists_eq, exists_eq', V.int.injEq, V.ref.injEq, V.str.injEq, V.bl.injEq, List.cons.injEq, and_true, true_and, false_and, exists_false, or_false, false_or, reduceCtorEq, List.set_cons_zero, List.set_cons_succ, Nat.reduceAdd, Nat.reduceSub, Int.reduceToNat, decide_eq_true_eq, if_true, if_false, Bool.false_eq_true, Bool.not_true, Bool.not_false, Bool.true_eq_false, ite_false, ite_true, ne_eq, not_false_eq_true, Int.reduceEq])
      exact r
    · obtain ⟨ms, o4, o5, o6, o7, o8, hp, P, lc, s, rfl⟩ := pp
      (try simp only [tIxO, rIsB, rNotB, tSeq, tIfS, tTest, tB, tOp, tUn, tVar, tC, tAsg, gName, tRet, tRetN, tCB, tCons, tNil, tLst_eq, tTup_eq, tDNewK_eq, tNext, tPar, tM0, tM1, tSl, tNoPart, tPart, rSlS, tAug, tAugS, tExf_eq, ipI, tChain, tCall, tDrop, tBM, tAnd, tOr, tNot, tAndV, tOrV, tNotV, tIf, tIsN, tNotN, rI, rI0, rU, rEq, rNe, gSub, cx_K, cx_K2, L2.start, wipe, scal_ii, scal_ss, scal_bb, scal_is, scal_si, scal_nn, List.map_cons, List.map_nil, List.length_cons, List.length_nil, List.cons_append, List.nil_append, List.append_nil, List.replicate, List.getElem?_cons_zero, List.getElem?_cons_succ, Option.some.injEq, exists_and_left, exists_eq_left', exists_eq_left, exists_eq, exists_eq', V.int.injEq, V.ref.injEq, V.str.injEq, V.bl.injEq, List.cons.injEq, and_true, true_and, false_and, exists_false, or_false, false_or, reduceCtorEq, List.set_cons_zero, List.set_cons_succ, Nat.reduceAdd, Nat.reduceSub, Int.reduceToNat, decide_eq_true_eq, if_true, if_false, Bool.false_eq_true, Bool.not_true, Bool.not_false, Bool.true_eq_false, ite_false, ite_true, ne_eq, not_false_eq_true, Int.reduceEq])
      refine ⟨a, ns, (i : Int) + c, rfl, sq_same s hs, by omega, by omega, fun t H2 nt T2 s2 => ?_⟩
      (try simp only [tIxO, rIsB, rNotB, tSeq, tIfS, tTest, tB, tOp, tUn, tVar, tC, tAsg, gName, tRet, tRetN, tCB, tCons, tNil, tLst_eq, tTup_eq, tDNewK_eq, tNext, tPar, tM0, tM1, tSl, tNoPart, tPart, rSlS, tAug, tAugS, tExf_eq, ipI, tChain, tCall, tDrop, tBM, tAnd, tOr, tNot, tAndV, tOrV, tNotV, tIf, tIsN, tNotN, rI, rI0, rU, rEq, rNe, gSub, cx_K, cx_K2, L2.start, wipe, scal_ii, scal_ss, scal_bb, scal_is, scal_si, scal_nn, List.map_cons, List.map_nil, List.length_cons, List.length_nil, List.cons_append, List.nil_append, List.append_nil, List.replicate, List.getElem?_cons_zero, List.getElem?_cons_succ, Option.some.injEq, exists_and_left, exists_eq_left', exists_eq_left, exists_eq, exists_eq', V.int.injEq, V.ref.injEq, V.str.injEq, V.bl.injEq, List.cons.injEq, and_true, true_and, false_and, exists_false, or_false, false_or, reduceCtorEq, List.set_cons_zero, List.set_cons_succ, Nat.reduceAdd, Nat.reduceSub, Int.reduceToNat, decide_eq_true_eq, if_true, if_false, Bool.false_eq_true, Bool.not_true, Bool.not_false, Bool.true_eq_false, ite_false, ite_true, ne_eq, not_false_eq_true, Int.reduceEq])
      have plt : pl ≠ t := fun z => by rw [z, nt] at hp; cases hp
      have hp2 := s2 _ _ hp
      refine draw_go (T2.mono (m := 999999 + 1) (by omega)) (by decide) (by decide) fun ag H3 g0 g1 T3 v3 => ?_
      refine ⟨t, 100, rfl, T3.mono (by omega), fun x H4 x0 x1 T4 v4 => newL_go fun u H5 nu s5 ru => ?_⟩
      have T5 := T4.same s5
      have ut : u ≠ t := T4.ne nu
      refine ⟨t, u, 60, [], rfl, T5.mono (by omega), ru, ut, by simp, by simp, fun y H6 iy _ T6 v6 => newT_go fun p0 H7 n7 s7 r7 => ?_⟩
      have vv : ExT t H2 H7 := (((v3.trans v4).same s5).trans v6).same s7
      have hp7 := vv _ _ plt hp2
      have P7 : Prs H7 ms := ⟨fun m mm => vv _ _ (fun z => by have y := s2 _ _ (P.at_ m mm); obtain ⟨c1, c2, c3, c4, e1, _⟩ := T2; rw [z, e1] at y; cases y) (s2 _ _ (P.at_ m mm)), P.ok⟩
      have nt9 : H t = none := same_none s nt
      have s07 : Same H H7 := fun b o e => vv _ _ (fun z => by have y := s _ _ e; rw [z, nt] at y; cases y) (s2 _ _ (s _ _ e))
      have T7 : Tape H7 t 60 := T6.same s7
      have g7 : GoodP (x, y) := ⟨x0, x1, iy⟩
      clear T2 T3 v3 T4 v4 nu s5 ru T5 ut T6 v6 s7 vv s2 hp2 P s hp
      refine cut_go (fun σ' H' => ∃ (m : PR) (o8 : Option V), H' m.2 = some (.tup [.int m.1.1, .str m.1.2]) ∧ GoodP m.1 ∧ H' pl = some (.lst (ms.map fun m => V.ref m.2)) ∧ Prs H' ms ∧ Same H H' ∧ σ' = [some (.ref a), some (.int i), some (.int j), some (.ref pl), some (.int (i + c)), some (.ref t), some (.int ag), some (.ref m.2), o8]) ?_ ?_
      · (try simp only [tIxO, rIsB, rNotB, tSeq, tIfS, tTest, tB, tOp, tUn, tVar, tC, tAsg, gName, tRet, tRetN, tCB, tCons, tNil, tLst_eq, tTup_eq, tDNewK_eq, tNext, tPar, tM0, tM1, tSl, tNoPart, tPart, rSlS, tAug, tAugS, tExf_eq, ipI, tChain, tCall, tDrop, tBM, tAnd, tOr, tNot, tAndV, tOrV, tNotV, tIf, tIsN, tNotN, rI, rI0, rU, rEq, rNe, gSub, cx_K, cx_K2, L2.start, wipe, scal_ii, scal_ss, scal_bb, scal_is, scal_si, scal_nn, List.map_cons, List.map_nil, List.length_cons, List.length_nil, List.cons_append, List.nil_append, List.append_nil, List.replicate, List.getElem?_cons_zero, List.getElem?_cons_succ, Option.some.injEq, exists_and_left, exists_eq_left', exists_eq_left, exists_eq, exists_eq', V.int.injEq, V.ref.injEq, V.str.injEq, V.bl.injEq, List.cons.injEq, and_true, true_and, false_and, exists_false, or_false, false_or, reduceCtorEq, List.set_cons_zero, List.set_cons_succ, Nat.reduceAdd, Nat.reduceSub, Int.reduceToNat, decide_eq_true_eq, if_true, if_false, Bool.false_eq_true, Bool.not_true, Bool.not_false, Bool.true_eq_false, ite_false, ite_true, ne_eq, not_false_eq_true, Int.reduceEq])
        refine newL_go fun e H8 n8 s8 r8 => ?_
        have P8 := P7.same s8
        refine ⟨.list ((ms.map (·.1)).map encP), .list [], .lst (.inl (.inl (s8 _ _ hp7))) (dp_pairs P8.told), .lst (.inl (.inl r8)) .nil, (listP_shaped P8.oks).1, rfl, ?_⟩
        have no : ∃ m : PR, H8 m.2 = some (.tup [.int m.1.1, .str m.1.2]) ∧ GoodP m.1 ∧ H8 pl = some (.lst (ms.map fun m => V.ref m.2)) ∧ Prs H8 ms ∧ Same H H8 ∧ p0 = m.2 := ⟨((x, y), p0), s8 _ _ r7, g7, s8 _ _ hp7, P8, s07.trans s8, rfl⟩
        refine ⟨_, rfl, ite2 (fun nz => ite2 (fun a3 => ?_) (fun _ => no)) (fun _ => no)⟩
        have lne : ms ≠ [] := fun z => by rw [z] at nz; simp [PyData.eqv, PyData.eqvAll] at nz
        have lpos := List.length_pos_iff.mpr lne
        refine ⟨_, .inl (.inl (s8 _ _ hp7)), ?_⟩
        rw [List.length_map]
        refine draw_go ((T7.same s8).mono (m := 59 + 1) (by omega)) (by omega) (Nat.lt_of_le_of_lt (by rw [Int.natAbs_natCast]; exact (show ms.length ≤ 100 by omega)) (show 100 < 2 ^ 1000 by decide +kernel)) fun z H9 z0 z1 T9 v9 => ?_
        have hp9 := v9 _ _ plt (s8 _ _ hp7)
        obtain ⟨m, mm, em⟩ := atI_ex (l := ms) z0 z1
        refine ixM_go hp9 (atI_map (f := fun m => V.ref m.2) em) ?_
        have tne : ∀ {b : Addr} {xs : List V}, H8 b = some (.tup xs) → b ≠ t := fun e z => by
          obtain ⟨c1, c2, c3, c4, e1, _⟩ := T7.same s8
          rw [z, e1] at e
          cases e
        have P9 : Prs H9 ms := ⟨fun m mm => v9 _ _ (tne (P8.at_ m mm)) (P8.at_ m mm), P8.ok⟩
        have h0 := v9 _ _ (tne (s8 _ _ r7)) (s8 _ _ r7)
        have s09 : Same H H9 := fun b o e => by
          have e8 := s8 _ _ (s07 _ _ e)
          exact v9 _ _ (fun z => by rw [z, nt9] at e; cases e) e8
        refine ixT_go (P9.at_ m mm) (atI_nat (j := 0) rfl) (ixT_go h0 (atI_nat (j := 1) rfl) (newT_go fun pa Ha na sa ra => ?_))
        refine ixT_go (sa _ _ h0) (atI_nat (j := 0) rfl) (ixT_go ((P9.same sa).at_ m mm) (atI_nat (j := 1) rfl) (newT_go fun pb Hb nb' sb rb => newL_go fun pc Hc nc sc rc => ?_))
        have sA := (sa.trans sb).trans sc
        have gm := P9.ok m mm
        have PC := P9.same sA
        have hpC := sA _ _ hp9
        have sAll := s09.trans sA
        have a3' : ag = 0 ∨ ag = 1 ∨ ag = 2 := by omega
        rcases a3' with rfl | rfl | rfl
        · exact ixM_go rc (atI_nat (j := 0) rfl) ⟨m, PC.at_ m mm, gm, hpC, PC, sAll, rfl⟩
        · exact ixM_go rc (atI_nat (j := 1) rfl) ⟨((m.1.1, y), pa), sc _ _ (sb _ _ ra), ⟨gm.1, gm.2.1, iy⟩, hpC, PC, sAll, rfl⟩
        · exact ixM_go rc (atI_nat (j := 2) rfl) ⟨((x, m.1.2), pb), sc _ _ rb, ⟨x0, x1, gm.2.2⟩, hpC, PC, sAll, rfl⟩
      · rintro σ' H8 ⟨m, o8, em, gm, hp8, P8, s8, rfl⟩
        (try simp only [tIxO, rIsB, rNotB, tSeq, tIfS, tTest, tB, tOp, tUn, tVar, tC, tAsg, gName, tRet, tRetN, tCB, tCons, tNil, tLst_eq, tTup_eq, tDNewK_eq, tNext, tPar, tM0, tM1, tSl, tNoPart, tPart, rSlS, tAug, tAugS, tExf_eq, ipI, tChain, tCall, tDrop, tBM, tAnd, tOr, tNot, tAndV, tOrV, tNotV, tIf, tIsN, tNotN, rI, rI0, rU, rEq, rNe, gSub, cx_K, cx_K2, L2.start, wipe, scal_ii, scal_ss, scal_bb, scal_is, scal_si, scal_nn, List.map_cons, List.map_nil, List.length_cons, List.length_nil, List.cons_append, List.nil_append, List.append_nil, List.replicate, List.getElem?_cons_zero, List.getElem?_cons_succ, Option.some.injEq, exists_and_left, exists_eq_left', exists_eq_left, exists_eq, exists_eq', V.int.injEq, V.ref.injEq, V.str.injEq, V.bl.injEq, List.cons.injEq, and_true, true_and, false_and, exists_false, or_false, false_or, reduceCtorEq, List.set_cons_zero, List.set_cons_succ, Nat.reduceAdd, Nat.reduceSub, Int.reduceToNat, decide_eq_true_eq, if_true, if_false, Bool.false_eq_true, Bool.not_true, Bool.not_false, Bool.true_eq_false, ite_false, ite_true, ne_eq, not_false_eq_true, Int.reduceEq])
        refine ⟨.inl ⟨rfl, _, .inl (.inl hp8)⟩, pl, _, _, rfl, rfl, hp8, by rw [List.length_map]; exact Nat.lt_of_le_of_lt (show ms.length ≤ 100 by omega) (by decide), ms ++ [m], by rw [upd_same, List.map_append]; rfl, ⟨fun x mx => ?_, fun x mx => ?_⟩, by rw [List.length_append, lc]; rfl, fun b o e => ?_⟩
        · have h : H8 x.2 = some (.tup [.int x.1.1, .str x.1.2]) := (List.mem_append.mp mx).elim (P8.at_ x) fun z => by rw [List.mem_singleton.mp z]; exact em
          rw [upd_ne (fun z => by rw [z, hp8] at h; cases h)]
          exact h
        · exact (List.mem_append.mp mx).elim (P8.ok x) fun z => by rw [List.mem_singleton.mp z]; exact gm
        · rw [upd_ne (fun z => by rw [z, n1] at e; cases e)]
          exact s8 _ _ e
    · obtain ⟨ms, o4, o5, o6, o7, o8, hp, P, lc, s, rfl⟩ := pp
      (try simp only [tIxO, rIsB, rNotB, tSeq, tIfS, tTest, tB, tOp, tUn, tVar, tC, tAsg, gName, tRet, tRetN, tCB, tCons, tNil, tLst_eq, tTup_eq, tDNewK_eq, tNext, tPar, tM0, tM1, tSl, tNoPart, tPart, rSlS, tAug, tAugS, tExf_eq, ipI, tChain, tCall, tDrop, tBM, tAnd, tOr, tNot, tAndV, tOrV, tNotV, tIf, tIsN, tNotN, rI, rI0, rU, rEq, rNe, gSub, cx_K, cx_K2, L2.start, wipe, scal_ii, scal_ss, scal_bb, scal_is, scal_si, scal_nn, List.map_cons, List.map_nil, List.length_cons, List.length_nil, List.cons_append, List.nil_append, List.append_nil, List.replicate, List.getElem?_cons_zero, List.getElem?_cons_succ, Option.some.injEq, exists_and_left, exists_eq_left', exists_eq_left, exists_eq, exists_eq', V.int.injEq, V.ref.injEq, V.str.injEq, V.bl.injEq, List.cons.injEq, and_true, true_and, false_and, exists_false, or_false, false_or, reduceCtorEq, List.set_cons_zero, List.set_cons_succ, Nat.reduceAdd, Nat.reduceSub, Int.reduceToNat, decide_eq_true_eq, if_true, if_false, Bool.false_eq_true, Bool.not_true, Bool.not_false, Bool.true_eq_false, ite_false, ite_true, ne_eq, not_false_eq_true, Int.reduceEq])
      exact q pl ms H' n1 s hp P (by omega) (fun h e => by rw [e] at lc; simp at lc; omega)

end
end Own

set_option Elab.async false
set_option linter.all false
set_option maxRecDepth 100000
set_option maxHeartbeats 4000000
namespace Own
open PySem PySem.Spec PyProof.Rows L2
section
variable {P : Program} {w : World} {K : PySem.W.Frag} {mg : Str → Option Value} {base : Heap}
theorem hu65_of {k : Nat} {A : Around} (r : Room k A) : A.units + 65 < cLine := by
  have := r.un
  omega
/-- ascending, each once -/
structure Asc (ps qs : List PI) : Prop where
  srt : qs.Pairwise LeP
  nd : qs.Nodup
  mem : ∀ x, x ∈ qs ↔ x ∈ ps
theorem Asc.one {ps qs rs : List PI} (a : Asc ps qs) (b : Asc ps rs) : qs = rs := leP_one a.srt b.srt ((List.perm_ext_iff_of_nodup a.nd b.nd).mpr fun x => (a.mem x).trans (b.mem x).symm)
def spAsc (K : PySem.W.Frag) : Sp := fun vs H Q _ => ∃ (l : Addr) (ms : List PR), vs = [.ref l] ∧ H l = some (.lst (ms.map fun m => V.ref m.2)) ∧ Prs H ms ∧ ms.length ≤ 200 ∧ ∀ (p : Addr) (ns : List PR) H', H p = none → Same H H' → H' p = some (.lst (ns.map fun m => V.ref m.2)) → (∀ m ∈ ns, m ∈ ms) → Asc (ms.map (·.1)) (ns.map (·.1)) → ns.length ≤ ms.length → Q (.ref p) H'
theorem ok_l_ascending (T : Txt K mg) : FnOk P w K mg base CX0 1 T.d_l_ascending.a T.d_l_ascending.d ["_law_pairs_here"] (spAsc K) := by
  refine T.d_l_ascending.F.ok sc_l_ascending (fun vs H Q E h => ?_) (fun cdv A outer s H vs Q E hr h => ?_)
  · obtain ⟨_, _, rfl, _⟩ := h
    rfl
  · obtain ⟨l, ms, rfl, hl, P, few, q⟩ := h
    have hu := hr.units
    refine ⟨_, (pss_cons (ps_set (i := 1) sc_l_ascending.nd rfl (Or.inl rfl) (pe_lst pa_nil))
      (pss_cons (ps_for PassesOwn.never rfl (pi_list (pv 0)) (pg_name (i := 2) sc_l_ascending.nd rfl (Or.inl rfl)) (pss_one (ps_if (pt_cmpR (op_notInD (hu65_of hr)) (pv 2) (pv 1) (by rfl)) (pss_one (ps_expr (pe_bm PySem.F.plainAttrs_list PySem.F.slot_list_append PySem.F.type_list_append mt_append (pv 1) (pa_cons (pv 2) pa_nil)))) pss_nil)))
      (pss_one (ps_ret (pe_callB (cr_sortPL hu) (by rfl) T.z_sorted (by decide +kernel) (pa_cons (pv 1) pa_nil)))))), ?_⟩
    (try simp only [tIxO, rIsB, rNotB, tSeq, tIfS, tTest, tB, tOp, tUn, tVar, tC, tAsg, gName, tRet, tRetN, tCB, tCons, tNil, tLst_eq, tTup_eq, tDNewK_eq, tNext, tPar, tM0, tM1, tSl, tNoPart, tPart, rSlS, tAug, tAugS, tExf_eq, ipI, tChain, tCall, tDrop, tBM, tAnd, tOr, tNot, tAndV, tOrV, tNotV, tIf, tIsN, tNotN, rI, rI0, rU, rEq, rNe, gSub, cx_K, cx_K2, L2.start, wipe, scal_ii, scal_ss, scal_bb, scal_is, scal_si, scal_nn, List.map_cons, List.map_nil, List.length_cons, List.length_nil, List.cons_append, List.nil_append, List.append_nil, List.replicate, List.getElem?_cons_zero, List.getElem?_cons_succ, Option.some.injEq, exists_and_left, exists_eq_left', exists_eq_left, exists_eq, exists_eq', V.int.injEq, V.ref.injEq, V.str.injEq, V.bl.injEq, List.cons.injEq, and_true, true_and, false_and, exists_false, or_false, false_or, reduceCtorEq, List.set_cons_zero, List.set_cons_succ, Nat.reduceAdd, Nat.reduceSub, Int.reduceToNat, decide_eq_true_eq, if_true, if_false, Bool.false_eq_true, Bool.not_true, Bool.not_false, Bool.true_eq_false, ite_false, ite_true, ne_eq, not_false_eq_true, Int.reduceEq])
    refine newL_go fun fl H1 n1 s1 r1 => ?_
    have ne : l ≠ fl := fun z => by rw [z, n1] at hl; cases hl
    refine forL_go (K := K) (xs := ms.map fun m => V.ref m.2) (fun i σ' H' => ∃ (fs : List PR) (o2 : Option V), H' fl = some (.lst (fs.map fun m => V.ref m.2)) ∧ Same H H' ∧ (∀ m ∈ fs, m ∈ ms) ∧ (fs.map (·.1)).Nodup ∧ (∀ x, x ∈ fs.map (·.1) ↔ x ∈ (ms.take i).map (·.1)) ∧ fs.length ≤ i ∧ σ' = [some (.ref l), some (.ref fl), o2]) (fun Q q => ⟨_, rfl, q⟩) (fun i σ' H' _ p => ?_) ⟨[], _, r1, s1, by simp, by simp, by simp, Nat.le_refl _, rfl⟩ (fun i x σ' H' hx p => ?_) (fun σ' H' p => ?_)
    · obtain ⟨_, _, _, s, _⟩ := p
      exact .inl (.inl (s _ _ hl))
    · obtain ⟨fs, o2, hf, s, sub, nd, iff, lf, rfl⟩ := p
      rw [List.getElem?_map] at hx
      obtain ⟨m, hm, rfl⟩ := Option.map_eq_some_iff.mp hx
      have mm := List.mem_of_getElem? hm
      have hi := (List.getElem?_eq_some_iff.mp hm).1
      have P2 := P.same s
      have Pf : Prs H' fs := ⟨fun x mx => P2.at_ x (sub x mx), fun x mx => P.ok x (sub x mx)⟩
      (try simp only [tIxO, rIsB, rNotB, tSeq, tIfS, tTest, tB, tOp, tUn, tVar, tC, tAsg, gName, tRet, tRetN, tCB, tCons, tNil, tLst_eq, tTup_eq, tDNewK_eq, tNext, tPar, tM0, tM1, tSl, tNoPart, tPart, rSlS, tAug, tAugS, tExf_eq, ipI, tChain, tCall, tDrop, tBM, tAnd, tOr, tNot, tAndV, tOrV, tNotV, tIf, tIsN, tNotN, rI, rI0, rU, rEq, rNe, gSub, cx_K, cx_K2, L2.start, wipe, scal_ii, scal_ss, scal_bb, scal_is, scal_si, scal_nn, List.map_cons, List.map_nil, List.length_cons, List.length_nil, List.cons_append, List.nil_append, List.append_nil, List.replicate, List.getElem?_cons_zero, List.getElem?_cons_succ, Option.some.injEq, exists_and_left, exists_eq_left', exists_eq_left, exists_eq, exists_eq', V.int.injEq, V.ref.injEq, V.str.injEq, V.bl.injEq, List.cons.injEq, and_true, true_and, false_and, exists_false, or_false, false_or, reduceCtorEq, List.set_cons_zero, List.set_cons_succ, Nat.reduceAdd, Nat.reduceSub, Int.reduceToNat, decide_eq_true_eq, if_true, if_false, Bool.false_eq_true, Bool.not_true, Bool.not_false, Bool.true_eq_false, ite_false, ite_true, ne_eq, not_false_eq_true, Int.reduceEq])
      refine ⟨encP m.1, (fs.map (·.1)).map encP, dp_pair (P2.told m mm), .lst (.inl (.inl hf)) (dp_pairs Pf.told), encP_shaped (P.ok m mm), (listP_shaped Pf.oks).1, ?_⟩
      have et : ms.take (i + 1) = ms.take i ++ [m] := by rw [List.take_add_one, hm]; rfl
      have ein : (((fs.map (·.1)).map encP).any fun z => PyData.eqv z (encP m.1)) = decide (m.1 ∈ fs.map (·.1)) := by
        generalize fs.map (·.1) = ps
        induction ps with
        | nil => simp
        | cons p ps ih =>
          rw [List.map_cons, List.any_cons, ih, encP_eqv]
          by_cases h1 : p = m.1
          · simp [h1]
          · have h2 : ¬ m.1 = p := fun z => h1 z.symm
            simp [h1, h2]
      rw [ein]
      refine ⟨_, rfl, ite2 (fun z => ?_) (fun z => ?_)⟩
      · have nin : m.1 ∉ fs.map (·.1) := by simpa using z
        refine ⟨.inl ⟨rfl, _, .inl (.inl hf)⟩, fl, _, _, rfl, rfl, hf, by rw [List.length_map]; exact Nat.lt_of_le_of_lt (show fs.length ≤ 200 by omega) (by decide), fs ++ [m], by rw [upd_same, List.map_append]; rfl, fun b o e => ?_, fun x mx => ?_, ?_, fun x => ?_, by rw [List.length_append]; exact Nat.succ_le_succ lf⟩
        · rw [upd_ne (fun z => by rw [z, n1] at e; cases e)]
          exact s _ _ e
        · exact (List.mem_append.mp mx).elim (sub x) fun z => by rw [List.mem_singleton.mp z]; exact mm
        · rw [List.map_append]
          refine List.nodup_append.mpr ⟨nd, by simp, fun a ha b hb => ?_⟩
          have e : b = m.1 := by simpa using hb
          rw [e]
          exact fun z => nin (z ▸ ha)
        · rw [et, List.map_append, List.map_append, List.mem_append, List.mem_append, iff]
      · have min : m.1 ∈ fs.map (·.1) := by simpa using z
        refine ⟨fs, hf, s, sub, nd, fun x => ?_, Nat.le_succ_of_le lf⟩
        rw [et, List.map_append, List.mem_append, iff]
        refine ⟨.inl, fun h => h.elim id fun z => ?_⟩
        have e : x = m.1 := by simpa using z
        rw [e]
        exact (iff _).mp min
    · obtain ⟨fs, o2, hf, s, sub, nd, iff, lf, rfl⟩ := p
      rw [List.length_map] at lf iff
      rw [List.take_length] at iff
      have P2 := P.same s
      (try simp only [tIxO, rIsB, rNotB, tSeq, tIfS, tTest, tB, tOp, tUn, tVar, tC, tAsg, gName, tRet, tRetN, tCB, tCons, tNil, tLst_eq, tTup_eq, tDNewK_eq, tNext, tPar, tM0, tM1, tSl, tNoPart, tPart, rSlS, tAug, tAugS, tExf_eq, ipI, tChain, tCall, tDrop, tBM, tAnd, tOr, tNot, tAndV, tOrV, tNotV, tIf, tIsN, tNotN, rI, rI0, rU, rEq, rNe, gSub, cx_K, cx_K2, L2.start, wipe, scal_ii, scal_ss, scal_bb, scal_is, scal_si, scal_nn, List.map_cons, List.map_nil, List.length_cons, List.length_nil, List.cons_append, List.nil_append, List.append_nil, List.replicate, List.getElem?_cons_zero, List.getElem?_cons_succ, Option.some.injEq, exists_and_left, exists_eq_left', exists_eq_left, exists_eq, exists_eq', V.int.injEq, V.ref.injEq, V.str.injEq, V.bl.injEq, List.cons.injEq, and_true, true_and, false_and, exists_false, or_false, false_or, reduceCtorEq, List.set_cons_zero, List.set_cons_succ, Nat.reduceAdd, Nat.reduceSub, Int.reduceToNat, decide_eq_true_eq, if_true, if_false, Bool.false_eq_true, Bool.not_true, Bool.not_false, Bool.true_eq_false, ite_false, ite_true, ne_eq, not_false_eq_true, Int.reduceEq])
      refine ⟨fl, fs, rfl, .inl (.inl hf), fun m mm => P2.told m (sub m mm), by omega, fun ns p pm pw np => ?_⟩
      exact q p ns _ (same_none s np) (s.trans (same_new np)) upd_same (fun m mm => sub m (pm.mem_iff.mp mm)) ⟨List.pairwise_map.mpr pw, (pm.map (·.1)).nodup_iff.mpr nd, fun x => ((pm.map (·.1)).mem_iff).trans (iff x)⟩ (by rw [pm.length_eq]; exact lf)

end
end Own

set_option Elab.async false
set_option linter.all false
set_option maxRecDepth 100000
set_option maxHeartbeats 4000000
namespace Own
open PySem PySem.Spec PyProof.Rows L2
section
variable {P : Program} {w : World} {K : PySem.W.Frag} {mg : Str → Option Value} {base : Heap}
def spIsWord : Sp := fun vs H Q _ => ∃ x : Str, vs = [.str x] ∧ x.length ≤ 100000 ∧ ∀ H', Same H H' → Q (.bl (isWord x)) H'
theorem ok_is_word (T : Txt K mg) : FnOk P w K mg base CX0 1 T.d_is_word.a T.d_is_word.d ["value"] spIsWord := by
  refine T.d_is_word.F.ok sc_is_word (fun vs H Q E h => ?_) (fun cdv A outer s H vs Q E hr h => ?_)
  · obtain ⟨x, rfl, _⟩ := h
    rfl
  · obtain ⟨x, rfl, hl, q⟩ := h
    refine ⟨_, (pss_cons (ps_if (PW.pt (pw_or (pt_not (pt_val (pe_callB call_isi (by rfl) T.z_isinstance (by decide +kernel) (pa_cons (pv 0) (pa_cons (pe_bltn (v := .ty "str") rfl T.z_str (by decide +kernel) rfl) pa_nil))))) (pw_or1 (pt_not (pt_chain op_le op_le pe_int (pe_callB call_len_str (by rfl) T.z_len (by decide +kernel) (pa_cons (pv 0) pa_nil)) (pe_glob (v := .int 12) rfl T.m_LONGEST_WORD ⟨_, rfl⟩)))))) (pss_one (ps_ret pe_bl)) pss_nil)
      (pss_one (ps_ret (pe_callB (cr_all rfl) (by rfl) T.z_all (by decide +kernel) (pa_cons (pe_lc (own := [("sign", 1)]) (g := gName 1) (tt := tYes) (by rfl) sc_is_word.nd (pi_str (pv 0)) (blkOk_by (own := [("sign", 1)]) (N := ["value", "sign"]) (sc := defScope s_is_word) (by decide +kernel)) (fun _ _ _ _ _ => pg_name (i := 1) sc_is_word.nd rfl (Or.inl rfl)) (fun _ _ _ _ _ => pts_nil) (fun _ _ _ _ _ => (pe_or (pe_cmpR op_in_sign (pv 1) (pe_glob (v := .str lettersS) rfl T.m_LETTERS ⟨_, rfl⟩) rfl) (pe_one (pe_cmpR op_in_sign (pv 1) (pe_glob (v := .str digitsS) rfl T.m_DIGITS ⟨_, rfl⟩) rfl))))) pa_nil))))), ?_⟩
    (try simp only [tIxO, rIsB, rNotB, tSeq, tIfS, tTest, tB, tOp, tUn, tVar, tC, tAsg, gName, tRet, tRetN, tCB, tCons, tNil, tLst_eq, tTup_eq, tDNewK_eq, tNext, tPar, tM0, tM1, tSl, tNoPart, tPart, rSlS, tAug, tAugS, tExf_eq, ipI, tChain, tCall, tDrop, tBM, tAnd, tOr, tNot, tAndV, tOrV, tNotV, tIf, tIsN, tNotN, rI, rI0, rU, rEq, rNe, gSub, cx_K, cx_K2, L2.start, wipe, scal_ii, scal_ss, scal_bb, scal_is, scal_si, scal_nn, List.map_cons, List.map_nil, List.length_cons, List.length_nil, List.cons_append, List.nil_append, List.append_nil, List.replicate, List.getElem?_cons_zero, List.getElem?_cons_succ, Option.some.injEq, exists_and_left, exists_eq_left', exists_eq_left, exists_eq, exists_eq', V.int.injEq, V.ref.injEq, V.str.injEq, V.bl.injEq, List.cons.injEq, and_true, true_and, false_and, exists_false, or_false, false_or, reduceCtorEq, List.set_cons_zero, List.set_cons_succ, Nat.reduceAdd, Nat.reduceSub, Int.reduceToNat, decide_eq_true_eq, if_true, if_false, Bool.false_eq_true, Bool.not_true, Bool.not_false, Bool.true_eq_false, ite_false, ite_true, ne_eq, not_false_eq_true, Int.reduceEq])
    refine isi_go (.ty "str") (.base (.str _)) T.q_str_str ⟨_, rfl, ?_⟩
    have el : x.length = (TL.tl x).length := TL.len_tl x
    refine ite2 (fun z => by cases z) (fun _ => ⟨Nat.le_trans hl (by decide), ?_⟩)
    have no : ¬ (1 ≤ (TL.tl x).length ∧ (TL.tl x).length ≤ 12) → Q (.bl false) H := fun n => by
      have e : isWord x = false := by
        unfold isWord
        by_cases a : 1 ≤ (TL.tl x).length
        · rw [decide_eq_false (show ¬ (TL.tl x).length ≤ 12 from fun b => n ⟨a, b⟩)]
          simp
        · rw [decide_eq_false a]
          simp
      rw [← e]
      exact q H fun _ _ e => e
    refine ite2 (fun h1 => ?_) (fun h1 => no fun ⟨a, b⟩ => h1 (by omega))
    refine ite2 (fun h2 => ?_) (fun h2 => ?_)
    · refine no fun ⟨a, b⟩ => ?_
      have : ¬ ((x.length : Int) ≤ 12) := by simpa using h2
      omega
    · have h3 : (x.length : Int) ≤ 12 := by simpa using h2
      refine lcStr_go (fun c => .bl (sgn c)) (fun Q q => ⟨_, rfl, q⟩) hl (fun c H' R r => ?_) (fun D H' n s r' => ?_)
      · (try simp only [tIxO, rIsB, rNotB, tSeq, tIfS, tTest, tB, tOp, tUn, tVar, tC, tAsg, gName, tRet, tRetN, tCB, tCons, tNil, tLst_eq, tTup_eq, tDNewK_eq, tNext, tPar, tM0, tM1, tSl, tNoPart, tPart, rSlS, tAug, tAugS, tExf_eq, ipI, tChain, tCall, tDrop, tBM, tAnd, tOr, tNot, tAndV, tOrV, tNotV, tIf, tIsN, tNotN, rI, rI0, rU, rEq, rNe, gSub, cx_K, cx_K2, L2.start, wipe, scal_ii, scal_ss, scal_bb, scal_is, scal_si, scal_nn, List.map_cons, List.map_nil, List.length_cons, List.length_nil, List.cons_append, List.nil_append, List.append_nil, List.replicate, List.getElem?_cons_zero, List.getElem?_cons_succ, Option.some.injEq, exists_and_left, exists_eq_left', exists_eq_left, exists_eq, exists_eq', V.int.injEq, V.ref.injEq, V.str.injEq, V.bl.injEq, List.cons.injEq, and_true, true_and, false_and, exists_false, or_false, false_or, reduceCtorEq, List.set_cons_zero, List.set_cons_succ, Nat.reduceAdd, Nat.reduceSub, Int.reduceToNat, decide_eq_true_eq, if_true, if_false, Bool.false_eq_true, Bool.not_true, Bool.not_false, Bool.true_eq_false, ite_false, ite_true, ne_eq, not_false_eq_true, Int.reduceEq])
        refine ⟨c, rfl, ite2 (fun h => ?_) (fun h => ?_)⟩
        · have : sgn c = true := by
            have z : ltr c = true := by rw [← in_letters]; exact decide_eq_true h
            simp [sgn, z]
          rw [this] at r
          exact r
        · have z : ltr c = false := by rw [← in_letters]; exact decide_eq_false h
          have e : sgn c = decide (c ∈ digitsS.cps.toList) := by
            unfold sgn
            rw [z, in_digits]
            rfl
          rw [e] at r
          exact ⟨c, rfl, r⟩
      · obtain ⟨bs, eb, ab⟩ := all_bl (TL.tl x) sgn
        rw [eb] at r'
        refine ⟨D, bs, rfl, .inl (.inl r'), ?_⟩
        have e : isWord x = bs.all id := by
          rw [ab]
          unfold isWord
          rw [decide_eq_true (show 1 ≤ (TL.tl x).length by omega), decide_eq_true (show (TL.tl x).length ≤ 12 by omega)]
          rfl
        rw [← e]
        exact q H' s
def spIsIdent : Sp := fun vs H Q _ => ∃ x : Str, vs = [.str x] ∧ x.length ≤ 100000 ∧ ∀ H', Same H H' → Q (.bl (isIdent x)) H'
theorem ok_is_ident (T : Txt K mg) : FnOk P w K mg base CX0 2 T.d_is_ident.a T.d_is_ident.d ["value"] spIsIdent := by
  refine T.d_is_ident.F.ok sc_is_ident (fun vs H Q E h => ?_) (fun cdv A outer s H vs Q E hr h => ?_)
  · obtain ⟨x, rfl, _⟩ := h
    rfl
  · obtain ⟨x, rfl, hl, q⟩ := h
    refine ⟨_, (pss_one (ps_ret (pe_and (pe_call (ok_is_word T) (hr.mono (by decide)) (by rfl) T.d_is_word.g T.d_is_word.F.kp T.d_is_word.b .nil pass0 (pa_cons (pv 0) pa_nil)) (pe_and (pe_cmpR op_in_sign (pe_ix ix_str (pv 0) pe_int (fun _ _ => rfl)) (pe_glob (v := .str lettersS) rfl T.m_LETTERS ⟨_, rfl⟩) rfl) (pe_one (pe_cmpR op_notIn_seq (pv 0) (pe_glob (v := .ref T.k_KEPT_WORDS) rfl T.m_KEPT_WORDS rfl) (by rfl))))))), ?_⟩
    (try simp only [tIxO, rIsB, rNotB, tSeq, tIfS, tTest, tB, tOp, tUn, tVar, tC, tAsg, gName, tRet, tRetN, tCB, tCons, tNil, tLst_eq, tTup_eq, tDNewK_eq, tNext, tPar, tM0, tM1, tSl, tNoPart, tPart, rSlS, tAug, tAugS, tExf_eq, ipI, tChain, tCall, tDrop, tBM, tAnd, tOr, tNot, tAndV, tOrV, tNotV, tIf, tIsN, tNotN, rI, rI0, rU, rEq, rNe, gSub, cx_K, cx_K2, L2.start, wipe, scal_ii, scal_ss, scal_bb, scal_is, scal_si, scal_nn, List.map_cons, List.map_nil, List.length_cons, List.length_nil, List.cons_append, List.nil_append, List.append_nil, List.replicate, List.getElem?_cons_zero, List.getElem?_cons_succ, Option.some.injEq, exists_and_left, exists_eq_left', exists_eq_left, exists_eq, exists_eq', V.int.injEq, V.ref.injEq, V.str.injEq, V.bl.injEq, List.cons.injEq, and_true, true_and, false_and, exists_false, or_false, false_or, reduceCtorEq, List.set_cons_zero, List.set_cons_succ, Nat.reduceAdd, Nat.reduceSub, Int.reduceToNat, decide_eq_true_eq, if_true, if_false, Bool.false_eq_true, Bool.not_true, Bool.not_false, Bool.true_eq_false, ite_false, ite_true, ne_eq, not_false_eq_true, Int.reduceEq])
    refine ⟨x, rfl, hl, fun H1 s1 => ?_⟩
    (try simp only [tIxO, rIsB, rNotB, tSeq, tIfS, tTest, tB, tOp, tUn, tVar, tC, tAsg, gName, tRet, tRetN, tCB, tCons, tNil, tLst_eq, tTup_eq, tDNewK_eq, tNext, tPar, tM0, tM1, tSl, tNoPart, tPart, rSlS, tAug, tAugS, tExf_eq, ipI, tChain, tCall, tDrop, tBM, tAnd, tOr, tNot, tAndV, tOrV, tNotV, tIf, tIsN, tNotN, rI, rI0, rU, rEq, rNe, gSub, cx_K, cx_K2, L2.start, wipe, scal_ii, scal_ss, scal_bb, scal_is, scal_si, scal_nn, List.map_cons, List.map_nil, List.length_cons, List.length_nil, List.cons_append, List.nil_append, List.append_nil, List.replicate, List.getElem?_cons_zero, List.getElem?_cons_succ, Option.some.injEq, exists_and_left, exists_eq_left', exists_eq_left, exists_eq, exists_eq', V.int.injEq, V.ref.injEq, V.str.injEq, V.bl.injEq, List.cons.injEq, and_true, true_and, false_and, exists_false, or_false, false_or, reduceCtorEq, List.set_cons_zero, List.set_cons_succ, Nat.reduceAdd, Nat.reduceSub, Int.reduceToNat, decide_eq_true_eq, if_true, if_false, Bool.false_eq_true, Bool.not_true, Bool.not_false, Bool.true_eq_false, ite_false, ite_true, ne_eq, not_false_eq_true, Int.reduceEq])
    refine ite2 (fun h => ?_) (fun h => ?_)
    · have w := word_len h
      have el : x.length = (TL.tl x).length := TL.len_tl x
      cases e : TL.tl x with
      | nil => rw [e] at el; simp at el; omega
      | cons c cs =>
        refine ixS_go (Nat.le_trans w.2 (by decide)) (c := c) (show atI (TL.tl x) ((0 : Nat) : Int) = _ by rw [e]; exact atI_nat rfl) ?_
        (try simp only [tIxO, rIsB, rNotB, tSeq, tIfS, tTest, tB, tOp, tUn, tVar, tC, tAsg, gName, tRet, tRetN, tCB, tCons, tNil, tLst_eq, tTup_eq, tDNewK_eq, tNext, tPar, tM0, tM1, tSl, tNoPart, tPart, rSlS, tAug, tAugS, tExf_eq, ipI, tChain, tCall, tDrop, tBM, tAnd, tOr, tNot, tAndV, tOrV, tNotV, tIf, tIsN, tNotN, rI, rI0, rU, rEq, rNe, gSub, cx_K, cx_K2, L2.start, wipe, scal_ii, scal_ss, scal_bb, scal_is, scal_si, scal_nn, List.map_cons, List.map_nil, List.length_cons, List.length_nil, List.cons_append, List.nil_append, List.append_nil, List.replicate, List.getElem?_cons_zero, List.getElem?_cons_succ, Option.some.injEq, exists_and_left, exists_eq_left', exists_eq_left, exists_eq, exists_eq', V.int.injEq, V.ref.injEq, V.str.injEq, V.bl.injEq, List.cons.injEq, and_true, true_and, false_and, exists_false, or_false, false_or, reduceCtorEq, List.set_cons_zero, List.set_cons_succ, Nat.reduceAdd, Nat.reduceSub, Int.reduceToNat, decide_eq_true_eq, if_true, if_false, Bool.false_eq_true, Bool.not_true, Bool.not_false, Bool.true_eq_false, ite_false, ite_true, ne_eq, not_false_eq_true, Int.reduceEq])
        have hh : headLtr x = ltr c := by
          unfold headLtr
          rw [e]
        refine ⟨c, rfl, ite2 (fun h2 => ?_) (fun h2 => ?_)⟩
        · have z : ltr c = true := by rw [← in_letters]; exact decide_eq_true h2
          refine inT_go (T.s_KEPT_WORDS _) ?_
          have ei : isIdent x = (if true then !keptW.contains x else keptW.contains x) := by
            unfold isIdent
            rw [h, hh, z]
            rfl
          rw [← ei]
          exact q H1 s1
        · have z : ltr c = false := by rw [← in_letters]; exact decide_eq_false h2
          have ei : isIdent x = false := by
            unfold isIdent
            rw [hh, z]
            simp
          rw [← ei]
          exact q H1 s1
    · have ei : isIdent x = false := by
        unfold isIdent
        rw [Bool.eq_false_iff.mpr h]
        rfl
      rw [← ei]
      exact q H1 s1
def spIsNum : Sp := fun vs H Q _ => ∃ n : Int, vs = [.int n] ∧ ∀ H', Same H H' → Q (.bl (decide (0 ≤ n ∧ n < limN))) H'
theorem ok_is_number (T : Txt K mg) : FnOk P w K mg base CX0 1 T.d_is_number.a T.d_is_number.d ["value"] spIsNum := by
  refine T.d_is_number.F.ok sc_is_number (fun vs H Q E h => ?_) (fun cdv A outer s H vs Q E hr h => ?_)
  · obtain ⟨_, rfl, _⟩ := h
    rfl
  · obtain ⟨n, rfl, q⟩ := h
    have hu := hr.units
    refine ⟨_, (pss_cons (ps_if (PW.pt (pw_or (pt_not (pt_val (pe_callB call_isi (by rfl) T.z_isinstance (by decide +kernel) (pa_cons (pv 0) (pa_cons (pe_bltn (v := .ty "int") rfl T.z_int (by decide +kernel) rfl) pa_nil))))) (pw_or1 (pt_val (pe_callB call_isi (by rfl) T.z_isinstance (by decide +kernel) (pa_cons (pv 0) (pa_cons (pe_bltn (v := .ty "bool") rfl T.z_bool (by decide +kernel) rfl) pa_nil))))))) (pss_one (ps_ret pe_bl)) pss_nil)
      (pss_one (ps_ret (pe_chain op_le op_lt pe_int (pv 0) (pe_glob (v := .int limN) rfl T.m_NUMBER_LIMIT ⟨_, rfl⟩))))), ?_⟩
    (try simp only [tIxO, rIsB, rNotB, tSeq, tIfS, tTest, tB, tOp, tUn, tVar, tC, tAsg, gName, tRet, tRetN, tCB, tCons, tNil, tLst_eq, tTup_eq, tDNewK_eq, tNext, tPar, tM0, tM1, tSl, tNoPart, tPart, rSlS, tAug, tAugS, tExf_eq, ipI, tChain, tCall, tDrop, tBM, tAnd, tOr, tNot, tAndV, tOrV, tNotV, tIf, tIsN, tNotN, rI, rI0, rU, rEq, rNe, gSub, cx_K, cx_K2, L2.start, wipe, scal_ii, scal_ss, scal_bb, scal_is, scal_si, scal_nn, List.map_cons, List.map_nil, List.length_cons, List.length_nil, List.cons_append, List.nil_append, List.append_nil, List.replicate, List.getElem?_cons_zero, List.getElem?_cons_succ, Option.some.injEq, exists_and_left, exists_eq_left', exists_eq_left, exists_eq, exists_eq', V.int.injEq, V.ref.injEq, V.str.injEq, V.bl.injEq, List.cons.injEq, and_true, true_and, false_and, exists_false, or_false, false_or, reduceCtorEq, List.set_cons_zero, List.set_cons_succ, Nat.reduceAdd, Nat.reduceSub, Int.reduceToNat, decide_eq_true_eq, if_true, if_false, Bool.false_eq_true, Bool.not_true, Bool.not_false, Bool.true_eq_false, ite_false, ite_true, ne_eq, not_false_eq_true, Int.reduceEq])
    refine isi_go (.ty "int") (.base (.int _)) T.q_int_int ⟨_, rfl, ite2 (fun z => by cases z) (fun _ => ?_)⟩
    refine isi_go (.ty "bool") (.base (.int _)) T.q_int_bool ⟨_, rfl, ite2 (fun z => by cases z) (fun _ => ?_)⟩
    refine ite2 (fun h => ?_) (fun h => ?_)
    · have e : decide (n < limN) = decide (0 ≤ n ∧ n < limN) := by simp [h]
      rw [e]
      exact q H fun _ _ e => e
    · have e : false = decide (0 ≤ n ∧ n < limN) := by simp [h]
      rw [e]
      exact q H fun _ _ e => e
theorem ty_tupP {K : PySem.W.Frag} {H : Hp} {a : Addr} {xs : List V} (h : SqT K H a xs) : TyX K H (.ref a) (.type "tuple") := by
  rcases h with (h | ⟨o, h⟩) | ⟨o, its, n, h1, h2, _⟩
  · exact .base (.tup h)
  · exact .fTuple h
  · exact .kTuple h1 h2
theorem ixT2_go {K : PySem.W.Frag} {p : Addr} {xs : List V} {i : Int} {v : V} {H : Hp} {Q : VK} (h : SqT K H p xs) (e : atI xs i = some v) (q : Q v H) : rIxT K (.ref p) (.int i) H Q := ⟨p, xs, i, v, rfl, rfl, h, e, q⟩
/-- a loop over a list or a tuple -/
theorem forQ_go {K : PySem.W.Frag} {tl : TE} {j : Nat} {tb : TS} {D : Ends} {σ : L2.St} {H : Hp} {a : Addr} {xs : List V} (Pv : Nat → L2.St → Hp → Prop) (ht : ∀ Q : VK, Q (.ref a) H → tl σ H Q) (hl : (∀ i σ H, i ≤ xs.length → Pv i σ H → SqL K H a xs) ∨ ∀ i σ H, i ≤ xs.length → Pv i σ H → SqT K H a xs) (h0 : Pv 0 σ H)
    (hs : ∀ (i : Nat) (x : V) σ' H', xs[i]? = some x → Pv i σ' H' → tb { D with nx := Pv (i + 1), ct := Pv (i + 1), bk := D.nx } (σ'.set j (some x)) H') (hd : ∀ σ' H', Pv xs.length σ' H' → D.nx σ' H') : tFor (fun σ H R => iList K tl σ H R ∨ iTup K tl σ H R) (gName j) tb D σ H := by
  rcases hl with hl | hl
  · exact Or.inl (ht _ ⟨a, rfl, ⟨xs, hl 0 _ _ (Nat.zero_le _) h0⟩, for_list Pv h0 hl (fun i x σ' H' hx p => hs i x σ' H' hx p) hd⟩)
  · exact Or.inr (ht _ ⟨a, rfl, ⟨xs, hl 0 _ _ (Nat.zero_le _) h0⟩, for_tup Pv h0 hl (fun i x σ' H' hx p => hs i x σ' H' hx p) hd⟩)
theorem Pair2.same {K : PySem.W.Frag} {H H' : Hp} {m : PR} (s : Same H H') (h : Pair2 K H m) : Pair2 K H' m := sqT_same s h
theorem SqP.same {K : PySem.W.Frag} {H H' : Hp} {l : Addr} {ms : List PR} (s : Same H H') (h : SqP K H l ms) : SqP K H' l ms := h.imp (sq_same s) (sqT_same s)
def spIsPair (K : PySem.W.Frag) : Sp := fun vs H Q _ => ∃ m : PR, vs = [.ref m.2] ∧ Pair2 K H m ∧ GoodP m.1 ∧ ∀ H', Same H H' → Q (.bl true) H'
theorem ok_is_pair (T : Txt K mg) : FnOk P w K mg base CX0 3 T.d_is_pair.a T.d_is_pair.d ["value"] (spIsPair K) := by
  refine T.d_is_pair.F.ok sc_is_pair (fun vs H Q E h => ?_) (fun cdv A outer s H vs Q E hr h => ?_)
  · obtain ⟨_, rfl, _⟩ := h
    rfl
  · obtain ⟨m, rfl, hm, gm, q⟩ := h
    have hu := hr.units
    refine ⟨_, (pss_cons (ps_if (PW.pt (pw_or (pt_not (pt_val (pe_callB call_isi (by rfl) T.z_isinstance (by decide +kernel) (pa_cons (pv 0) (pa_cons (pe_bltn (v := .ty "tuple") rfl T.z_tuple (by decide +kernel) rfl) pa_nil))))) (pw_or1 (pt_cmpR op_ne (pe_callB call_lenT (by rfl) T.z_len (by decide +kernel) (pa_cons (pv 0) pa_nil)) pe_int (nomark _))))) (pss_one (ps_ret pe_bl)) pss_nil)
      (pss_one (ps_ret (pe_and (pe_call (ok_is_number T) (hr.mono (by decide)) (by rfl) T.d_is_number.g T.d_is_number.F.kp T.d_is_number.b .nil pass0 (pa_cons (pe_ix ix_tup (pv 0) pe_int (fun _ _ => rfl)) pa_nil)) (pe_one (pe_call (ok_is_ident T) (hr.mono (by decide)) (by rfl) T.d_is_ident.g T.d_is_ident.F.kp T.d_is_ident.b .nil pass0 (pa_cons (pe_ix ix_tup (pv 0) pe_int (fun _ _ => rfl)) pa_nil))))))), ?_⟩
    (try simp only [tIxO, rIsB, rNotB, tSeq, tIfS, tTest, tB, tOp, tUn, tVar, tC, tAsg, gName, tRet, tRetN, tCB, tCons, tNil, tLst_eq, tTup_eq, tDNewK_eq, tNext, tPar, tM0, tM1, tSl, tNoPart, tPart, rSlS, tAug, tAugS, tExf_eq, ipI, tChain, tCall, tDrop, tBM, tAnd, tOr, tNot, tAndV, tOrV, tNotV, tIf, tIsN, tNotN, rI, rI0, rU, rEq, rNe, gSub, cx_K, cx_K2, L2.start, wipe, scal_ii, scal_ss, scal_bb, scal_is, scal_si, scal_nn, List.map_cons, List.map_nil, List.length_cons, List.length_nil, List.cons_append, List.nil_append, List.append_nil, List.replicate, List.getElem?_cons_zero, List.getElem?_cons_succ, Option.some.injEq, exists_and_left, exists_eq_left', exists_eq_left, exists_eq, exists_eq', V.int.injEq, V.ref.injEq, V.str.injEq, V.bl.injEq, List.cons.injEq, and_true, true_and, false_and, exists_false, or_false, false_or, reduceCtorEq, List.set_cons_zero, List.set_cons_succ, Nat.reduceAdd, Nat.reduceSub, Int.reduceToNat, decide_eq_true_eq, if_true, if_false, Bool.false_eq_true, Bool.not_true, Bool.not_false, Bool.true_eq_false, ite_false, ite_true, ne_eq, not_false_eq_true, Int.reduceEq])
    refine isi_go (.ty "tuple") (ty_tupP hm) T.q_tup_tup ⟨_, rfl, ite2 (fun z => by cases z) (fun _ => ⟨_, hm, ite2 (fun z => by cases z) (fun _ => ?_)⟩)⟩
    refine ixT2_go hm (atI_nat (j := 0) rfl) ⟨m.1.1, rfl, fun H1 s1 => ⟨_, rfl, ?_⟩⟩
    have e : decide (0 ≤ m.1.1 ∧ m.1.1 < limN) = true := decide_eq_true ⟨gm.1, gm.2.1⟩
    rw [e]
    refine ite2 (fun _ => ?_) (fun z => absurd rfl z)
    have hw := ident_word gm.2.2
    refine ixT2_go (sqT_same s1 hm) (atI_nat (j := 1) rfl) ⟨m.1.2, rfl, Nat.le_trans (word_len hw).2 (by decide), fun H2 s2 => ?_⟩
    rw [gm.2.2]
    exact q H2 (s1.trans s2)
def spOwn (K : PySem.W.Frag) : Sp := fun vs H Q _ => ∃ (l : Addr) (ms : List PR), vs = [.ref l] ∧ SqP K H l ms ∧ (∀ m ∈ ms, Pair2 K H m) ∧ (∀ m ∈ ms, GoodP m.1) ∧ Few (ms.map (·.1)) ∧ ms.length ≤ 1000 ∧ ∀ (p : Addr) (ns : List PR) H', H p = none → Same H H' → H' p = some (.tup (ns.map fun m => V.ref m.2)) → (∀ m ∈ ns, m ∈ ms) → Asc (ms.map (·.1)) (ns.map (·.1)) → Q (.ref p) H'
theorem ok_own_pairs (T : Txt K mg) : FnOk P w K mg base CX0 4 T.d_own_pairs.a T.d_own_pairs.d ["pairs"] (spOwn K) := by
  refine T.d_own_pairs.F.ok sc_own_pairs (fun vs H Q E h => ?_) (fun cdv A outer s H vs Q E hr h => ?_)
  · obtain ⟨_, _, rfl, _⟩ := h
    rfl
  · obtain ⟨l, ms, rfl, hl, hm, gm, few, lm, q⟩ := h
    have hu := hr.units
    refine ⟨_, (pss_cons (ps_for PassesOwn.never rfl (pi_or (pi_list (pv 0)) (pi_tup (pv 0))) (pg_name (i := 1) sc_own_pairs.nd rfl (Or.inl rfl)) (pss_one (ps_if (pt_not (pt_val (pe_call (ok_is_pair T) (hr.mono (by decide)) (by rfl) T.d_is_pair.g T.d_is_pair.F.kp T.d_is_pair.b .nil pass0 (pa_cons (pv 1) pa_nil)))) (pss_one ps_dead) pss_nil)))
      (pss_one (ps_ret (pe_callTy call_tuple_of (by rfl) T.z_tuple (by decide +kernel) (pa_cons (pe_callB (cr_sortedP rfl hu) (by rfl) T.z_sorted (by decide +kernel) (pa_cons (pe_callTy (cr_setP rfl hu) (by rfl) T.z_set (by decide +kernel) (pa_cons (pv 0) pa_nil)) pa_nil)) pa_nil))))), ?_⟩
    (try simp only [tIxO, rIsB, rNotB, tSeq, tIfS, tTest, tB, tOp, tUn, tVar, tC, tAsg, gName, tRet, tRetN, tCB, tCons, tNil, tLst_eq, tTup_eq, tDNewK_eq, tNext, tPar, tM0, tM1, tSl, tNoPart, tPart, rSlS, tAug, tAugS, tExf_eq, ipI, tChain, tCall, tDrop, tBM, tAnd, tOr, tNot, tAndV, tOrV, tNotV, tIf, tIsN, tNotN, rI, rI0, rU, rEq, rNe, gSub, cx_K, cx_K2, L2.start, wipe, scal_ii, scal_ss, scal_bb, scal_is, scal_si, scal_nn, List.map_cons, List.map_nil, List.length_cons, List.length_nil, List.cons_append, List.nil_append, List.append_nil, List.replicate, List.getElem?_cons_zero, List.getElem?_cons_succ, Option.some.injEq, exists_and_left, exists_eq_left', exists_eq_left, exists_eq, exists_eq', V.int.injEq, V.ref.injEq, V.str.injEq, V.bl.injEq, List.cons.injEq, and_true, true_and, false_and, exists_false, or_false, false_or, reduceCtorEq, List.set_cons_zero, List.set_cons_succ, Nat.reduceAdd, Nat.reduceSub, Int.reduceToNat, decide_eq_true_eq, if_true, if_false, Bool.false_eq_true, Bool.not_true, Bool.not_false, Bool.true_eq_false, ite_false, ite_true, ne_eq, not_false_eq_true, Int.reduceEq])
    refine forQ_go (K := K) (xs := ms.map fun m => V.ref m.2) (fun i σ' H' => Same H H' ∧ ∃ o1, σ' = [some (.ref l), o1]) (fun Q q => ⟨_, rfl, q⟩) ((show SqL K H l (ms.map fun m => V.ref m.2) ∨ SqT K H l (ms.map fun m => V.ref m.2) from hl).imp (fun h i σ' H' _ p => sq_same p.1 h) fun h i σ' H' _ p => sqT_same p.1 h) ⟨fun _ _ e => e, _, rfl⟩ (fun i x σ' H' hx p => ?_) (fun σ' H' p => ?_)
    · obtain ⟨s, o1, rfl⟩ := p
      rw [List.getElem?_map] at hx
      obtain ⟨m, hm', rfl⟩ := Option.map_eq_some_iff.mp hx
      have mm := List.mem_of_getElem? hm'
      (try simp only [tIxO, rIsB, rNotB, tSeq, tIfS, tTest, tB, tOp, tUn, tVar, tC, tAsg, gName, tRet, tRetN, tCB, tCons, tNil, tLst_eq, tTup_eq, tDNewK_eq, tNext, tPar, tM0, tM1, tSl, tNoPart, tPart, rSlS, tAug, tAugS, tExf_eq, ipI, tChain, tCall, tDrop, tBM, tAnd, tOr, tNot, tAndV, tOrV, tNotV, tIf, tIsN, tNotN, rI, rI0, rU, rEq, rNe, gSub, cx_K, cx_K2, L2.start, wipe, scal_ii, scal_ss, scal_bb, scal_is, scal_si, scal_nn, List.map_cons, List.map_nil, List.length_cons, List.length_nil, List.cons_append, List.nil_append, List.append_nil, List.replicate, List.getElem?_cons_zero, List.getElem?_cons_succ, Option.some.injEq, exists_and_left, exists_eq_left', exists_eq_left, exists_eq, exists_eq', V.int.injEq, V.ref.injEq, V.str.injEq, V.bl.injEq, List.cons.injEq, and_true, true_and, false_and, exists_false, or_false, false_or, reduceCtorEq, List.set_cons_zero, List.set_cons_succ, Nat.reduceAdd, Nat.reduceSub, Int.reduceToNat, decide_eq_true_eq, if_true, if_false, Bool.false_eq_true, Bool.not_true, Bool.not_false, Bool.true_eq_false, ite_false, ite_true, ne_eq, not_false_eq_true, Int.reduceEq])
      refine ⟨m, rfl, (hm m mm).same s, gm m mm, fun H2 s2 => ⟨_, rfl, ite2 (fun z => by cases z) (fun _ => ?_)⟩⟩
      exact s.trans s2
    · obtain ⟨s, o1, rfl⟩ := p
      (try simp only [tIxO, rIsB, rNotB, tSeq, tIfS, tTest, tB, tOp, tUn, tVar, tC, tAsg, gName, tRet, tRetN, tCB, tCons, tNil, tLst_eq, tTup_eq, tDNewK_eq, tNext, tPar, tM0, tM1, tSl, tNoPart, tPart, rSlS, tAug, tAugS, tExf_eq, ipI, tChain, tCall, tDrop, tBM, tAnd, tOr, tNot, tAndV, tOrV, tNotV, tIf, tIsN, tNotN, rI, rI0, rU, rEq, rNe, gSub, cx_K, cx_K2, L2.start, wipe, scal_ii, scal_ss, scal_bb, scal_is, scal_si, scal_nn, List.map_cons, List.map_nil, List.length_cons, List.length_nil, List.cons_append, List.nil_append, List.append_nil, List.replicate, List.getElem?_cons_zero, List.getElem?_cons_succ, Option.some.injEq, exists_and_left, exists_eq_left', exists_eq_left, exists_eq, exists_eq', V.int.injEq, V.ref.injEq, V.str.injEq, V.bl.injEq, List.cons.injEq, and_true, true_and, false_and, exists_false, or_false, false_or, reduceCtorEq, List.set_cons_zero, List.set_cons_succ, Nat.reduceAdd, Nat.reduceSub, Int.reduceToNat, decide_eq_true_eq, if_true, if_false, Bool.false_eq_true, Bool.not_true, Bool.not_false, Bool.true_eq_false, ite_false, ite_true, ne_eq, not_false_eq_true, Int.reduceEq])
      refine ⟨l, ms, rfl, hl.same s, fun m mm => (hm m mm).same s, few, fun a ns na sub all nd => ?_⟩
      have sa := same_new (o := SetO P w a ns) na
      refine ⟨a, ns, rfl, upd_same, fun m mm => ((hm m (sub m mm)).same s).same sa, fun rs p pm pw _ np => ⟨p, rfl, _, .inl ⟨.inl (.inl upd_same), fun l2 n2 => ?_⟩⟩⟩
      have sp := same_new (o := .lst (rs.map fun m => V.ref m.2)) np
      have s2 := same_new (o := .tup (rs.map fun m => V.ref m.2)) n2
      refine q l2 rs _ (same_none (s.trans (sa.trans sp)) n2) (s.trans ((sa.trans sp).trans s2)) upd_same (fun m mm => sub m (pm.mem_iff.mp mm)) ⟨List.pairwise_map.mpr pw, (pm.map (·.1)).nodup_iff.mpr nd, fun x => ?_⟩
      refine ((pm.map (·.1)).mem_iff).trans ⟨fun h => ?_, fun h => ?_⟩
      · obtain ⟨m, mm, rfl⟩ := List.mem_map.mp h
        exact List.mem_map.mpr ⟨m, sub m mm, rfl⟩
      · obtain ⟨m, mm, rfl⟩ := List.mem_map.mp h
        exact all m mm

end
end Own

set_option Elab.async false
set_option linter.all false
set_option maxRecDepth 100000
set_option maxHeartbeats 4000000
namespace Own
open PySem PySem.Spec PyProof.Rows L2
section
variable {P : Program} {w : World} {K : PySem.W.Frag} {mg : Str → Option Value} {base : Heap}
def CapF (p : Addr) : List (Str × V) := [("pairs", .ref p)]
/-- a Captures of these pairs -/
structure CapAt (C : Addr) (H : Hp) (x : Addr) (ns : List PR) : Prop where
  ex : ∃ dx p, H x = some (.ins C dx (CapF p)) ∧ H p = some (.tup (ns.map fun m => V.ref m.2))
  prs : Prs H ns
theorem CapAt.same {C x : Addr} {H H' : Hp} {ns : List PR} (h : CapAt C H x ns) (s : Same H H') : CapAt C H' x ns := by
  obtain ⟨dx, p, e1, e2⟩ := h.ex
  exact ⟨⟨dx, p, s _ _ e1, s _ _ e2⟩, h.prs.same s⟩
def spCapI (K : PySem.W.Frag) (C : Addr) : Sp := fun vs H Q _ => ∃ (x dx l : Addr) (ms : List PR), vs = [.ref x, .ref l] ∧ H x = some (.ins C dx []) ∧ SqP K H l ms ∧ (∀ m ∈ ms, Pair2 K H m) ∧ (∀ m ∈ ms, GoodP m.1) ∧ Few (ms.map (·.1)) ∧ ms.length ≤ 1000 ∧ ∀ (p : Addr) (ns : List PR) H', H p = none → Same H H' → H' p = some (.tup (ns.map fun m => V.ref m.2)) → (∀ m ∈ ns, m ∈ ms) → Asc (ms.map (·.1)) (ns.map (·.1)) → Q .non (upd H' x (.ins C dx (CapF p)))
theorem ok_Captures_init (T : Txt K mg) : FnOk P w K mg base CX0 5 T.i_Captures_init.a T.i_Captures_init.d ["self", "pairs"] (spCapI K T.e_Captures.C) := by
  refine FunD.okN T.i_Captures_init.F sc_Captures_init (fun vs H Q E h => ?_) (fun cdv A outer s H vs Q E hr h => ?_)
  · obtain ⟨_, _, _, _, rfl, _⟩ := h
    rfl
  · obtain ⟨x, dx, l, ms, rfl, hx, hl, hm, gm, few, lm, q⟩ := h
    have hu := hr.units
    refine ⟨_, (pss_one (ps_fld (pv 0) (pe_call (ok_own_pairs T) (hr.mono (by decide)) (by rfl) T.d_own_pairs.g T.d_own_pairs.F.kp T.d_own_pairs.b .nil pass0 (pa_cons (pv 1) pa_nil)) rfl)), ?_⟩
    (try simp only [tIxO, rIsB, rNotB, tSeq, tIfS, tTest, tB, tOp, tUn, tVar, tC, tAsg, gName, tRet, tRetN, tCB, tCons, tNil, tLst_eq, tTup_eq, tDNewK_eq, tNext, tPar, tM0, tM1, tSl, tNoPart, tPart, rSlS, tAug, tAugS, tExf_eq, ipI, tChain, tCall, tDrop, tBM, tAnd, tOr, tNot, tAndV, tOrV, tNotV, tIf, tIsN, tNotN, rI, rI0, rU, rEq, rNe, gSub, cx_K, cx_K2, L2.start, wipe, scal_ii, scal_ss, scal_bb, scal_is, scal_si, scal_nn, List.map_cons, List.map_nil, List.length_cons, List.length_nil, List.cons_append, List.nil_append, List.append_nil, List.replicate, List.getElem?_cons_zero, List.getElem?_cons_succ, Option.some.injEq, exists_and_left, exists_eq_left', exists_eq_left, exists_eq, exists_eq', V.int.injEq, V.ref.injEq, V.str.injEq, V.bl.injEq, List.cons.injEq, and_true, true_and, false_and, exists_false, or_false, false_or, reduceCtorEq, List.set_cons_zero, List.set_cons_succ, Nat.reduceAdd, Nat.reduceSub, Int.reduceToNat, decide_eq_true_eq, if_true, if_false, Bool.false_eq_true, Bool.not_true, Bool.not_false, Bool.true_eq_false, ite_false, ite_true, ne_eq, not_false_eq_true, Int.reduceEq, sFld])
    refine ⟨l, ms, rfl, hl, hm, gm, few, lm, fun p ns H1 np s rp sub as_ => ⟨T.e_Captures.C, dx, [], s _ _ hx, T.e_Captures.c, T.n_Captures_pairs, by decide, ?_⟩⟩
    exact q p ns H1 np s rp sub as_
theorem mkCap_go {K : PySem.W.Frag} {C l : Addr} {ms : List PR} {H : Hp} {R : Addr → Hp → Prop} {E : XK} (hl : SqP K H l ms) (P : Prs H ms) (few : Few (ms.map (·.1))) (lm : ms.length ≤ 1000) (q : ∀ x ns H', H x = none → Same H H' → CapAt C H' x ns → Asc (ms.map (·.1)) (ns.map (·.1)) → (∀ m ∈ ns, m ∈ ms) → R x H') :
    ∀ x dx, H x = none → H dx = none → ¬ dx = x → spCapI K C [.ref x, .ref l] (upd (upd H dx (.own x)) x (.ins C dx [])) (fun v H2 => v = .non ∧ R x H2) E := fun x dx nx ndx ne => by
  have n1 : (upd H dx (.own x)) x = none := by rw [upd_ne (fun e => ne e.symm)]; exact nx
  have s0 : Same H (upd (upd H dx (.own x)) x (.ins C dx [])) := (same_new ndx).trans (same_new n1)
  have P0 := P.same s0
  refine ⟨x, dx, l, ms, rfl, upd_same, hl.same s0, P0.told, P0.ok, few, lm, fun p ns H1 np s rp sub as_ => ⟨rfl, ?_⟩⟩
  have P1 := P0.same s
  have hx1 := s _ _ (upd_same (H := upd H dx (.own x)) (a := x) (o := .ins C dx []))
  have kp : ∀ {b : Addr} {o : HO}, (∀ c d f, o ≠ .ins c d f) → H1 b = some o → upd H1 x (.ins C dx (CapF p)) b = some o := fun n e => by
    rw [upd_ne (fun z => by rw [z, hx1] at e; exact n _ _ _ (Option.some.inj e).symm)]
    exact e
  refine q x ns _ nx (fun b o e => ?_) ⟨⟨dx, p, upd_same, kp (fun _ _ _ z => by cases z) rp⟩, fun m mm => kp (fun _ _ _ z => by cases z) (P1.at_ m (sub m mm)), fun m mm => P.ok m (sub m mm)⟩ as_ sub
  rw [upd_ne (fun z => by rw [z, nx] at e; cases e)]
  exact s _ _ (s0 _ _ e)
theorem eqvAll_refl : ∀ {ds : List PyData}, (∀ d ∈ ds, PyData.eqv d d = true) → PyData.eqvAll ds ds = true
  | [], _ => rfl
  | d :: ds, h => by
    rw [PyData.eqvAll, h d (by simp), eqvAll_refl fun x mx => h x (List.mem_cons_of_mem _ mx)]
    rfl
theorem tupP_eqv {ps : List PI} : PyData.eqv (.tuple (ps.map encP)) (.tuple (ps.map encP)) = true := by
  rw [PyData.eqv]
  refine eqvAll_refl fun d md => ?_
  obtain ⟨m, _, rfl⟩ := List.mem_map.mp md
  rw [encP_eqv]
  simp

/-- [e for a, b in xs] over a tuple of pairs, e changing nothing -/
theorem lcPT_go {K : PySem.W.Frag} {gT : TG} {tl : TE} {te : TE} {vs : List Nat} {σ : L2.St} {H : Hp} {Q : VK} {a : Addr} (ms : List PR) (g : PR → V) (ht : ∀ Q : VK, Q (.ref a) H → tl σ H Q) (ha : SqT K H a (ms.map fun m => V.ref m.2)) (hz : ms.length ≤ 100000)
    (hs : ∀ m H2 (R : VK), m ∈ ms → Same H H2 → R (g m) H2 → gT (.ref m.2) (wipe σ vs) H2 fun σ2 H3 => wipe σ2 vs = wipe σ vs ∧ te σ2 H3 R)
    (q : ∀ D H', H D = none → Same H H' → H' D = some (.lst (ms.map g)) → Q (.ref D) H') : tLc (iTup K tl) gT tYes te vs σ H Q := by
  refine lcW_go (wi := iTup K tl) (walk_tup (K := K) (a := a) (xs := ms.map fun m => V.ref m.2)) (fun D i acc H' => acc = (ms.take i).map g ∧ ExT D H H') (fun R r => ht _ ⟨a, rfl, ⟨_, ha⟩, r⟩) (fun D i acc H' _ p hD => sqT_same (ExT.toSame hD p.2) ha) (fun D hD => ⟨rfl, exT_upd (.refl D H)⟩) (fun D i acc H' x H2 hi hD rD la p y => ?_) (fun D acc H' hD rD la p => ?_)
  · obtain ⟨rfl, v⟩ := p
    obtain ⟨rfl, hx⟩ := y
    rw [List.getElem?_map] at hx
    obtain ⟨m, hm, rfl⟩ := Option.map_eq_some_iff.mp hx
    rw [List.length_map] at hi
    have et : ms.take (i + 1) = ms.take i ++ [m] := by rw [List.take_add_one, hm]; rfl
    refine hs m _ (fun y H5 => ∃ acc', H5 D = some (.lst acc') ∧ acc'.length < sizeLine ∧ LcP (fun D i acc H' => acc = (ms.take i).map g ∧ ExT D H H') D (i + 1) (upd H5 D (.lst (acc' ++ [y])))) (List.mem_of_getElem? hm) (ExT.toSame hD v) ⟨_, rD, ?_, _, upd_same, ?_, ?_, exT_upd v⟩
    · exact Nat.lt_of_le_of_lt la (Nat.lt_of_lt_of_le hi (Nat.le_trans hz (by decide)))
    · rw [List.length_append]
      exact Nat.succ_le_succ la
    · rw [et, List.map_append]
      rfl
  · obtain ⟨rfl, v⟩ := p
    rw [List.length_map, List.take_length] at rD
    exact q D H' hD (ExT.toSame hD v) rD
theorem GoodP.fit {m : PI} (h : GoodP m) : 0 ≤ m.1 ∧ m.1 < limN ∧ isIdent m.2 = true := h
def spStrC (C : Addr) : Sp := fun vs H Q _ => ∃ (x : Addr) (ns : List PR), vs = [.ref x] ∧ CapAt C H x ns ∧ ns.length ≤ 1000 ∧ ∀ H', Same H H' → Q (.str (textP (ns.map (·.1)))) H'
theorem ok_Captures_str (T : Txt K mg) : FnOk P w K mg base CX0 1 T.i_Captures_str.a T.i_Captures_str.d ["self"] (spStrC T.e_Captures.C) := by
  refine T.i_Captures_str.F.ok sc_Captures_str (fun vs H Q E h => ?_) (fun cdv A outer s H vs Q E hr h => ?_)
  · obtain ⟨_, _, rfl, _⟩ := h
    rfl
  · obtain ⟨x, ns, rfl, h, ln, q⟩ := h
    obtain ⟨dx, p, hx, hp⟩ := h.ex
    have hu := hr.units
    refine ⟨_, (pss_one (ps_ret (pe_join pe_str (pe_lc (own := [("number", 1), ("ident", 2)]) (tt := tYes) (by rfl) sc_Captures_str.nd (pi_tup (pe_fld (pv 0) rfl)) (blkOk_by (own := [("number", 1), ("ident", 2)]) (N := ["self", "number", "ident"]) (sc := defScope s_Captures_str) (by decide +kernel)) (fun _ _ _ _ _ => (pgB_tup (n := 2) (by rfl) (pgs_cons (pg_name (i := 1) sc_Captures_str.nd rfl (Or.inl rfl)) (pgs_cons (pg_name (i := 2) sc_Captures_str.nd rfl (Or.inl rfl)) pgs_nil)))) (fun _ _ _ _ _ => pts_nil) (fun _ _ _ _ _ => (pe_joined (PJ.cons (pe_fmt (pv 1)) (PJ.cons pe_str (PJ.cons (pe_fmt (pv 2)) PJ.nil))))))))), ?_⟩
    (try simp only [tIxO, rIsB, rNotB, tSeq, tIfS, tTest, tB, tOp, tUn, tVar, tC, tAsg, gName, tRet, tRetN, tCB, tCons, tNil, tLst_eq, tTup_eq, tDNewK_eq, tNext, tPar, tM0, tM1, tSl, tNoPart, tPart, rSlS, tAug, tAugS, tExf_eq, ipI, tChain, tCall, tDrop, tBM, tAnd, tOr, tNot, tAndV, tOrV, tNotV, tIf, tIsN, tNotN, rI, rI0, rU, rEq, rNe, gSub, cx_K, cx_K2, L2.start, wipe, scal_ii, scal_ss, scal_bb, scal_is, scal_si, scal_nn, List.map_cons, List.map_nil, List.length_cons, List.length_nil, List.cons_append, List.nil_append, List.append_nil, List.replicate, List.getElem?_cons_zero, List.getElem?_cons_succ, Option.some.injEq, exists_and_left, exists_eq_left', exists_eq_left, exists_eq, exists_eq', V.int.injEq, V.ref.injEq, V.str.injEq, V.bl.injEq, List.cons.injEq, and_true, true_and, false_and, exists_false, or_false, false_or, reduceCtorEq, List.set_cons_zero, List.set_cons_succ, Nat.reduceAdd, Nat.reduceSub, Int.reduceToNat, decide_eq_true_eq, if_true, if_false, Bool.false_eq_true, Bool.not_true, Bool.not_false, Bool.true_eq_false, ite_false, ite_true, ne_eq, not_false_eq_true, Int.reduceEq, tJs, tFmt])
    have P := h.prs
    refine lcPT_go ns (fun m => .str (wordP m.1)) (fun Q q => fld_go (fun Q q => ⟨_, rfl, q⟩) hx T.e_Captures.c T.n_Captures_pairs rfl q) (.inl (.inl hp)) (by omega) (fun m H2 R mm s r => ?_) (fun D H2 nD s rD => ?_)
    · have g := P.ok m mm
      have wz := word_size g.1 g.2.1 g.2.2
      refine ⟨_, _, rfl, .inl (.inl (s _ _ (P.at_ m mm))), rfl, _, _, rfl, _, _, rfl, rfl, rfl, ?_⟩
      have l1 : (Str.empty ++ numT m.1.1 ++ ":" ++ m.1.2).length ≤ 73 := by
        rw [word_f]
        exact wz.2
      have l2 := l1
      rw [len_app2] at l2
      have l3 : (Str.empty ++ numT m.1.1 ++ ":").length ≤ 73 := by omega
      have l4 := l3
      rw [len_app2] at l4
      have l5 : (Str.empty ++ numT m.1.1).length ≤ 73 := by omega
      have up : ∀ n : Nat, n ≤ 73 → n ≤ sizeLine := fun n h => Nat.le_trans h (by decide)
      refine ⟨_, rfl, .inr ⟨_, rfl, numT_log g.1 g.2.1, up _ l5, up _ l3, _, rfl, .inl ⟨_, rfl, up _ (by omega), up _ l1, ?_⟩⟩⟩
      have r2 := r
      rw [← word_f] at r2
      exact r2
    · refine ⟨D, rfl, ns.map fun m => wordP m.1, .inl (.inl (.inl (by rw [rD, List.map_map]; rfl))), ?_, ?_⟩
      · have z := text_sum (ms := ns.map (·.1)) fun m mm => P.oks m mm
        rw [show (ns.map fun m => wordP m.1) = (ns.map (·.1)).map wordP by rw [List.map_map]; rfl]
        rw [List.length_map] at z
        rw [List.length_map, List.length_map, show (Str.ofString " ").length = 1 from rfl]
        have z2 : (List.map (fun x => x.length) ((ns.map (·.1)).map wordP)).sum ≤ ns.length * 73 := z
        omega
      · have e : (ns.map fun m => wordP m.1) = (ns.map (·.1)).map wordP := by rw [List.map_map]; rfl
        rw [e]
        exact q _ s
theorem len_sub {ns ms : List PR} (nd : (ns.map (·.1)).Nodup) (sub : ∀ x ∈ ns.map (·.1), x ∈ ms.map (·.1)) : ns.length ≤ ms.length := by
  have z := List.Nodup.length_le_of_subset nd (l₂ := ms.map (·.1)) (fun x mx => sub x mx)
  rw [List.length_map, List.length_map] at z
  exact z
theorem map_sub {ns ms : List PR} (sub : ∀ m ∈ ns, m ∈ ms) : ∀ x ∈ ns.map (·.1), x ∈ ms.map (·.1) := fun x mx => by
  obtain ⟨m, mm, rfl⟩ := List.mem_map.mp mx
  exact List.mem_map.mpr ⟨m, sub m mm, rfl⟩
theorem map_all {ns ms : List PR} (all : ∀ m ∈ ms, m.1 ∈ ns.map (·.1)) : ∀ x ∈ ms.map (·.1), x ∈ ns.map (·.1) := fun x mx => by
  obtain ⟨m, mm, rfl⟩ := List.mem_map.mp mx
  exact all m mm
theorem Prs.sub {H : Hp} {ms ns : List PR} (h : Prs H ms) (sub : ∀ m ∈ ns, m ∈ ms) : Prs H ns := ⟨fun m mm => h.at_ m (sub m mm), fun m mm => h.ok m (sub m mm)⟩
theorem any_enc (ps : List PI) (x : PI) : ((ps.map encP).any fun z => PyData.eqv z (encP x)) = decide (x ∈ ps) := by
  induction ps with
  | nil => simp
  | cons p ps ih =>
    rw [List.map_cons, List.any_cons, ih, encP_eqv]
    by_cases h1 : p = x
    · simp [h1]
    · have h2 : ¬ x = p := fun z => h1 z.symm
      simp [h1, h2]
theorem inP_go {K : PySem.W.Frag} {m : PR} {l : Addr} {fs : List PR} {H : Hp} {Q : VK} (hm : Pair2 K H m) (gm : GoodP m.1) (hl : H l = some (.lst (fs.map fun m => V.ref m.2))) (P : Prs H fs) (q : Q (.bl (decide (m.1 ∈ fs.map (·.1)))) H) : rInD K (.ref m.2) (.ref l) H Q := by
  refine ⟨encP m.1, (fs.map (·.1)).map encP, dp_pair hm, .lst (.inl (.inl hl)) (dp_pairs P.told), encP_shaped gm, (listP_shaped P.oks).1, ?_⟩
  rw [any_enc]
  exact q
theorem notInP_go {K : PySem.W.Frag} {m : PR} {l : Addr} {fs : List PR} {H : Hp} {Q : VK} (hm : Pair2 K H m) (gm : GoodP m.1) (hl : H l = some (.lst (fs.map fun m => V.ref m.2))) (P : Prs H fs) (q : Q (.bl (!decide (m.1 ∈ fs.map (·.1)))) H) : rNotInD K (.ref m.2) (.ref l) H Q := by
  refine ⟨encP m.1, (fs.map (·.1)).map encP, dp_pair hm, .lst (.inl (.inl hl)) (dp_pairs P.told), encP_shaped gm, (listP_shaped P.oks).1, ?_⟩
  rw [any_enc]
  exact q

theorem eqvAll_enc : ∀ {ps qs : List PI}, PyData.eqvAll (ps.map encP) (qs.map encP) = decide (ps = qs)
  | [], [] => by simp [PyData.eqvAll]
  | [], _ :: _ => by simp [PyData.eqvAll]
  | _ :: _, [] => by simp [PyData.eqvAll]
  | p :: ps, q :: qs => by
    rw [List.map_cons, List.map_cons, PyData.eqvAll, encP_eqv, eqvAll_enc]
    by_cases h1 : p = q <;> by_cases h2 : ps = qs <;> simp [h1, h2]
theorem tups_enc {ps qs : List PI} : PyData.eqv (.tuple (ps.map encP)) (.tuple (qs.map encP)) = decide (ps = qs) := by rw [PyData.eqv, eqvAll_enc]
theorem lsts_enc {ps qs : List PI} : PyData.eqv (.list (ps.map encP)) (.list (qs.map encP)) = decide (ps = qs) := by rw [PyData.eqv, eqvAll_enc]
def spWithin (C : Addr) : Sp := fun vs H Q _ => ∃ (x y : Addr) (ns ks : List PR), vs = [.ref x, .ref y] ∧ CapAt C H x ns ∧ CapAt C H y ks ∧ ns.length + ks.length ≤ 130 ∧ ns.length ≤ 63 ∧ ks.length ≤ 63 ∧ ∀ H', Same H H' → Q (.bl (decide (∀ p ∈ ns.map (·.1), p ∈ ks.map (·.1)))) H'
theorem ok_Captures_within (T : Txt K mg) : FnOk P w K mg base CX0 1 T.i_Captures_within.a T.i_Captures_within.d ["self", "other"] (spWithin T.e_Captures.C) := by
  refine T.i_Captures_within.F.ok sc_Captures_within (fun vs H Q E h => ?_) (fun cdv A outer s H vs Q E hr h => ?_)
  · obtain ⟨_, _, _, _, rfl, _⟩ := h
    rfl
  · obtain ⟨x, y, ns, ks, rfl, hc, hd, few, fn, fk, q⟩ := h
    obtain ⟨dx, p, hx, hp⟩ := hc.ex
    obtain ⟨dy, p', hy, hp'⟩ := hd.ex
    have hu := hr.units
    refine ⟨_, (pss_one (ps_ret (pe_cmpR op_eq (pe_callB (cr_lenS rfl) (by rfl) T.z_len (by decide +kernel) (pa_cons (pe_op (op_setP rfl hu) (pe_callTy (cr_setP rfl hu) (by rfl) T.z_set (by decide +kernel) (pa_cons (pe_fld (pv 0) rfl) pa_nil)) (pe_callTy (cr_setP rfl hu) (by rfl) T.z_set (by decide +kernel) (pa_cons (pe_fld (pv 1) rfl) pa_nil))) pa_nil)) pe_int (nomark _)))), ?_⟩
    (try simp only [tIxO, rIsB, rNotB, tSeq, tIfS, tTest, tB, tOp, tUn, tVar, tC, tAsg, gName, tRet, tRetN, tCB, tCons, tNil, tLst_eq, tTup_eq, tDNewK_eq, tNext, tPar, tM0, tM1, tSl, tNoPart, tPart, rSlS, tAug, tAugS, tExf_eq, ipI, tChain, tCall, tDrop, tBM, tAnd, tOr, tNot, tAndV, tOrV, tNotV, tIf, tIsN, tNotN, rI, rI0, rU, rEq, rNe, gSub, cx_K, cx_K2, L2.start, wipe, scal_ii, scal_ss, scal_bb, scal_is, scal_si, scal_nn, List.map_cons, List.map_nil, List.length_cons, List.length_nil, List.cons_append, List.nil_append, List.append_nil, List.replicate, List.getElem?_cons_zero, List.getElem?_cons_succ, Option.some.injEq, exists_and_left, exists_eq_left', exists_eq_left, exists_eq, exists_eq', V.int.injEq, V.ref.injEq, V.str.injEq, V.bl.injEq, List.cons.injEq, and_true, true_and, false_and, exists_false, or_false, false_or, reduceCtorEq, List.set_cons_zero, List.set_cons_succ, Nat.reduceAdd, Nat.reduceSub, Int.reduceToNat, decide_eq_true_eq, if_true, if_false, Bool.false_eq_true, Bool.not_true, Bool.not_false, Bool.true_eq_false, ite_false, ite_true, ne_eq, not_false_eq_true, Int.reduceEq])
    refine fld_go (fun Q q => ⟨_, rfl, q⟩) hx T.e_Captures.c T.n_Captures_pairs rfl ⟨p, ns, rfl, .inr (.inl (.inl hp)), hc.prs.told, Few.of (by rw [List.length_map]; omega), fun a ns1 na sub1 all1 nd1 => ?_⟩
    have s1 := same_new (o := SetO P w a ns1) na
    refine fld_go (fun Q q => ⟨_, rfl, q⟩) (s1 _ _ hy) T.e_Captures.c T.n_Captures_pairs rfl ⟨p', ks, rfl, .inr (.inl (.inl (s1 _ _ hp'))), (hd.prs.same s1).told, Few.of (by rw [List.length_map]; omega), fun b ks1 nb sub2 all2 nd2 => ?_⟩
    have s2 := same_new (o := SetO P w b ks1) nb
    have ha := s2 _ _ (upd_same (H := H) (a := a) (o := SetO P w a ns1))
    have ne : b ≠ a := fun z => by rw [z, upd_same] at nb; cases nb
    have l1 := len_sub nd1 (map_sub sub1)
    have l2 := len_sub nd2 (map_sub sub2)
    have P1 := ((hc.prs.same s1).same s2).sub sub1
    have P2 := ((hd.prs.same s1).same s2).sub sub2
    refine ⟨a, b, ns1, ks1, rfl, rfl, ne, ha, upd_same, P1.told, P2.told, by omega, fun c ls nc sub iff nd => ?_⟩
    have s3 := same_new (o := SetO P w c ls) nc
    have Pl := (P1.same s3)
    refine ⟨c, ls, rfl, upd_same, fun m mm => (sub m mm).elim ((P1.same s3).told m) ((P2.same s3).told m), ?_⟩
    have e : decide (V.int ((ls.length : Nat) : Int) = V.int 0) = decide (∀ p ∈ ns.map (·.1), p ∈ ks.map (·.1)) := by
      have e1 : ∀ y, y ∈ ns1.map (·.1) ↔ y ∈ ns.map (·.1) := fun y => ⟨map_sub sub1 y, map_all all1 y⟩
      have e2 : ∀ y, y ∈ ks1.map (·.1) ↔ y ∈ ks.map (·.1) := fun y => ⟨map_sub sub2 y, map_all all2 y⟩
      by_cases h : ls = []
      · have t : ∀ p ∈ ns.map (·.1), p ∈ ks.map (·.1) := fun p mp => Classical.byContradiction fun no => by
          have z := (iff p).mpr ⟨(e1 p).mpr mp, fun h => no ((e2 p).mp h)⟩
          rw [h] at z
          cases z
        rw [decide_eq_true t, h]
        rfl
      · obtain ⟨m, mm⟩ := List.exists_mem_of_ne_nil _ h
        have z := (iff m.1).mp (List.mem_map.mpr ⟨m, mm, rfl⟩)
        have nt : ¬ ∀ p ∈ ns.map (·.1), p ∈ ks.map (·.1) := fun t => z.2 ((e2 _).mpr (t _ ((e1 _).mp z.1)))
        rw [decide_eq_false nt]
        refine decide_eq_false fun y => ?_
        have y2 : ((ls.length : Nat) : Int) = 0 := V.int.inj y
        exact h (List.length_eq_zero_iff.mp (by omega))
    refine ⟨by simp [scal], ?_⟩
    rw [e]
    exact q _ ((s1.trans s2).trans s3)
def spEqC (K : PySem.W.Frag) (C : Addr) : Sp := fun vs H Q _ => ∃ (x : Addr) (v : V) (ns : List PR), vs = [.ref x, v] ∧ CapAt C H x ns ∧ ((∃ y ks, v = .ref y ∧ CapAt C H y ks ∧ Q (.bl (decide (ns.map (·.1) = ks.map (·.1)))) H) ∨ ∃ T : String, TyX K H v (.type T) ∧ PySem.W.kitOne K (.type T) (.ref C) = some false ∧ Q (.bl false) H)
theorem ok_Captures_eq (T : Txt K mg) : FnOk P w K mg base CX0 1 T.i_Captures_eq.a T.i_Captures_eq.d ["self", "other"] (spEqC K T.e_Captures.C) := by
  refine T.i_Captures_eq.F.ok sc_Captures_eq (fun vs H Q E h => ?_) (fun cdv A outer s H vs Q E hr h => ?_)
  · obtain ⟨_, _, _, rfl, _⟩ := h
    rfl
  · obtain ⟨x, v, ns, rfl, hc, h⟩ := h
    obtain ⟨dx, p, hx, hp⟩ := hc.ex
    have hu := hr.units
    refine ⟨_, (pss_one (ps_ret (pe_and (pe_callB call_isi (by rfl) T.z_isinstance (by decide +kernel) (pa_cons (pv 1) (pa_cons (pe_glob (v := .ref T.e_Captures.C) rfl T.e_Captures.m rfl) pa_nil))) (pe_one (pe_cmpR (op_eqD hu) (pe_fld (pv 0) rfl) (pe_fld (pv 1) rfl) (nomark _)))))), ?_⟩
    (try simp only [tIxO, rIsB, rNotB, tSeq, tIfS, tTest, tB, tOp, tUn, tVar, tC, tAsg, gName, tRet, tRetN, tCB, tCons, tNil, tLst_eq, tTup_eq, tDNewK_eq, tNext, tPar, tM0, tM1, tSl, tNoPart, tPart, rSlS, tAug, tAugS, tExf_eq, ipI, tChain, tCall, tDrop, tBM, tAnd, tOr, tNot, tAndV, tOrV, tNotV, tIf, tIsN, tNotN, rI, rI0, rU, rEq, rNe, gSub, cx_K, cx_K2, L2.start, wipe, scal_ii, scal_ss, scal_bb, scal_is, scal_si, scal_nn, List.map_cons, List.map_nil, List.length_cons, List.length_nil, List.cons_append, List.nil_append, List.append_nil, List.replicate, List.getElem?_cons_zero, List.getElem?_cons_succ, Option.some.injEq, exists_and_left, exists_eq_left', exists_eq_left, exists_eq, exists_eq', V.int.injEq, V.ref.injEq, V.str.injEq, V.bl.injEq, List.cons.injEq, and_true, true_and, false_and, exists_false, or_false, false_or, reduceCtorEq, List.set_cons_zero, List.set_cons_succ, Nat.reduceAdd, Nat.reduceSub, Int.reduceToNat, decide_eq_true_eq, if_true, if_false, Bool.false_eq_true, Bool.not_true, Bool.not_false, Bool.true_eq_false, ite_false, ite_true, ne_eq, not_false_eq_true, Int.reduceEq])
    rcases h with ⟨y, ks, rfl, hd, q⟩ | ⟨t, ty, kt, q⟩
    · obtain ⟨dy, p', hy, hp'⟩ := hd.ex
      refine isi_go (.own _) (T.e_Captures.ins hy) kit_same ⟨_, rfl, ite2 (fun _ => ?_) (fun z => absurd rfl z)⟩
      refine fld_go (fun Q q => ⟨_, rfl, q⟩) hx T.e_Captures.c T.n_Captures_pairs rfl ?_
      refine fld_go (fun Q q => ⟨_, rfl, q⟩) hy T.e_Captures.c T.n_Captures_pairs rfl ?_
      refine ⟨.tuple ((ns.map (·.1)).map encP), .tuple ((ks.map (·.1)).map encP), .tup (.inl (.inl hp)) (dp_pairs hc.prs.told), .tup (.inl (.inl hp')) (dp_pairs hd.prs.told), (listP_shaped hc.prs.oks).2, (listP_shaped hd.prs.oks).2, ?_⟩
      rw [tups_enc]
      exact q
    · exact isi_go (.own _) ty kt ⟨_, rfl, ite2 (fun z => by cases z) (fun _ => q)⟩
def spInC (K : PySem.W.Frag) (C : Addr) : Sp := fun vs H Q _ => ∃ (x : Addr) (v : V) (ns : List PR) (d : PyData), vs = [.ref x, v] ∧ CapAt C H x ns ∧ Dp K H v d ∧ SeqAt.shaped d = true ∧ Q (.bl (((ns.map (·.1)).map encP).any fun z => PyData.eqv z d)) H
theorem ok_Captures_contains (T : Txt K mg) : FnOk P w K mg base CX0 1 T.i_Captures_contains.a T.i_Captures_contains.d ["self", "x"] (spInC K T.e_Captures.C) := by
  refine T.i_Captures_contains.F.ok sc_Captures_contains (fun vs H Q E h => ?_) (fun cdv A outer s H vs Q E hr h => ?_)
  · obtain ⟨_, _, _, _, rfl, _⟩ := h
    rfl
  · obtain ⟨x, v, ns, d, rfl, hc, hd, sd, q⟩ := h
    obtain ⟨dx, p, hx, hp⟩ := hc.ex
    have hu := hr.units
    refine ⟨_, (pss_one (ps_ret (pe_cmpR (op_inTD (hu65_of hr)) (pv 1) (pe_fld (pv 0) rfl) (by rfl)))), ?_⟩
    (try simp only [tIxO, rIsB, rNotB, tSeq, tIfS, tTest, tB, tOp, tUn, tVar, tC, tAsg, gName, tRet, tRetN, tCB, tCons, tNil, tLst_eq, tTup_eq, tDNewK_eq, tNext, tPar, tM0, tM1, tSl, tNoPart, tPart, rSlS, tAug, tAugS, tExf_eq, ipI, tChain, tCall, tDrop, tBM, tAnd, tOr, tNot, tAndV, tOrV, tNotV, tIf, tIsN, tNotN, rI, rI0, rU, rEq, rNe, gSub, cx_K, cx_K2, L2.start, wipe, scal_ii, scal_ss, scal_bb, scal_is, scal_si, scal_nn, List.map_cons, List.map_nil, List.length_cons, List.length_nil, List.cons_append, List.nil_append, List.append_nil, List.replicate, List.getElem?_cons_zero, List.getElem?_cons_succ, Option.some.injEq, exists_and_left, exists_eq_left', exists_eq_left, exists_eq, exists_eq', V.int.injEq, V.ref.injEq, V.str.injEq, V.bl.injEq, List.cons.injEq, and_true, true_and, false_and, exists_false, or_false, false_or, reduceCtorEq, List.set_cons_zero, List.set_cons_succ, Nat.reduceAdd, Nat.reduceSub, Int.reduceToNat, decide_eq_true_eq, if_true, if_false, Bool.false_eq_true, Bool.not_true, Bool.not_false, Bool.true_eq_false, ite_false, ite_true, ne_eq, not_false_eq_true, Int.reduceEq])
    refine fld_go (fun Q q => ⟨_, rfl, q⟩) hx T.e_Captures.c T.n_Captures_pairs rfl ?_
    exact ⟨d, (ns.map (·.1)).map encP, hd, .tup (.inl (.inl hp)) (dp_pairs hc.prs.told), sd, (listP_shaped hc.prs.oks).2, q⟩

end
end Own

set_option Elab.async false
set_option linter.all false
set_option maxRecDepth 100000
set_option maxHeartbeats 4000000
namespace Own
open PySem PySem.Spec PyProof.Rows L2
section
variable {P : Program} {w : World} {K : PySem.W.Frag} {mg : Str → Option Value} {base : Heap}
def spSubset : Sp := fun vs H Q _ => ∃ (a b : Addr) (ms ns : List PR), vs = [.ref a, .ref b] ∧ H a = some (.lst (ms.map fun m => V.ref m.2)) ∧ H b = some (.lst (ns.map fun m => V.ref m.2)) ∧ Prs H ms ∧ Prs H ns ∧ ms.length ≤ 1000 ∧ ∀ H', Same H H' → Q (.bl (decide (∀ p ∈ ms.map (·.1), p ∈ ns.map (·.1)))) H'
theorem ok_l_subset (T : Txt K mg) : FnOk P w K mg base CX0 1 T.d_l_subset.a T.d_l_subset.d ["_law_first", "_law_second_here"] spSubset := by
  refine T.d_l_subset.F.ok sc_l_subset (fun vs H Q E h => ?_) (fun cdv A outer s H vs Q E hr h => ?_)
  · obtain ⟨_, _, _, _, rfl, _⟩ := h
    rfl
  · obtain ⟨a, b, ms, ns, rfl, ha, hb, Pm, Pn, lm, q⟩ := h
    have hu := hr.units
    refine ⟨_, (pss_one (ps_ret (pe_cmpR op_eq (pe_callB call_lenL (by rfl) T.z_len (by decide +kernel) (pa_cons (pe_lc (own := [("_law_pair", 2)]) (g := gName 2) (by rfl) sc_l_subset.nd (pi_list (pv 0)) (blkOk_by (own := [("_law_pair", 2)]) (N := ["_law_first", "_law_second_here", "_law_pair"]) (sc := defScope s_l_subset) (by decide +kernel)) (fun _ _ _ _ _ => pg_name (i := 2) sc_l_subset.nd rfl (Or.inl rfl)) (fun _ _ _ _ _ => pts_one (pt_cmpR (opB_notInD (hu65_of hr)) (pv 2) (pv 1) (by rfl))) (fun _ _ _ _ _ => (pv 2))) pa_nil)) pe_int (nomark _)))), ?_⟩
    (try simp only [tIxO, rIsB, rNotB, tSeq, tIfS, tTest, tB, tOp, tUn, tVar, tC, tAsg, gName, tRet, tRetN, tCB, tCons, tNil, tLst_eq, tTup_eq, tDNewK_eq, tNext, tPar, tM0, tM1, tSl, tNoPart, tPart, rSlS, tAug, tAugS, tExf_eq, ipI, tChain, tCall, tDrop, tBM, tAnd, tOr, tNot, tAndV, tOrV, tNotV, tIf, tIsN, tNotN, rI, rI0, rU, rEq, rNe, gSub, cx_K, cx_K2, L2.start, wipe, scal_ii, scal_ss, scal_bb, scal_is, scal_si, scal_nn, List.map_cons, List.map_nil, List.length_cons, List.length_nil, List.cons_append, List.nil_append, List.append_nil, List.replicate, List.getElem?_cons_zero, List.getElem?_cons_succ, Option.some.injEq, exists_and_left, exists_eq_left', exists_eq_left, exists_eq, exists_eq', V.int.injEq, V.ref.injEq, V.str.injEq, V.bl.injEq, List.cons.injEq, and_true, true_and, false_and, exists_false, or_false, false_or, reduceCtorEq, List.set_cons_zero, List.set_cons_succ, Nat.reduceAdd, Nat.reduceSub, Int.reduceToNat, decide_eq_true_eq, if_true, if_false, Bool.false_eq_true, Bool.not_true, Bool.not_false, Bool.true_eq_false, ite_false, ite_true, ne_eq, not_false_eq_true, Int.reduceEq])
    refine lcP_go (K := K) ms (fun m => !decide (m.1 ∈ ns.map (·.1))) (fun m => V.ref m.2) (fun Q q => ⟨_, rfl, q⟩) (.inl (.inl ha)) (by rw [List.length_map]) (by omega) (fun i y z H3 R hy hz s3 r => ?_) (fun i y z H3 R hy hz _ s3 r => ?_) (fun D H1 nD s1 r1 => ?_)
    · rw [List.getElem?_map, hz] at hy
      obtain rfl := Option.some.inj hy
      have mz := List.mem_of_getElem? hz
      (try simp only [tIxO, rIsB, rNotB, tSeq, tIfS, tTest, tB, tOp, tUn, tVar, tC, tAsg, gName, tRet, tRetN, tCB, tCons, tNil, tLst_eq, tTup_eq, tDNewK_eq, tNext, tPar, tM0, tM1, tSl, tNoPart, tPart, rSlS, tAug, tAugS, tExf_eq, ipI, tChain, tCall, tDrop, tBM, tAnd, tOr, tNot, tAndV, tOrV, tNotV, tIf, tIsN, tNotN, rI, rI0, rU, rEq, rNe, gSub, cx_K, cx_K2, L2.start, wipe, scal_ii, scal_ss, scal_bb, scal_is, scal_si, scal_nn, List.map_cons, List.map_nil, List.length_cons, List.length_nil, List.cons_append, List.nil_append, List.append_nil, List.replicate, List.getElem?_cons_zero, List.getElem?_cons_succ, Option.some.injEq, exists_and_left, exists_eq_left', exists_eq_left, exists_eq, exists_eq', V.int.injEq, V.ref.injEq, V.str.injEq, V.bl.injEq, List.cons.injEq, and_true, true_and, false_and, exists_false, or_false, false_or, reduceCtorEq, List.set_cons_zero, List.set_cons_succ, Nat.reduceAdd, Nat.reduceSub, Int.reduceToNat, decide_eq_true_eq, if_true, if_false, Bool.false_eq_true, Bool.not_true, Bool.not_false, Bool.true_eq_false, ite_false, ite_true, ne_eq, not_false_eq_true, Int.reduceEq])
      exact notInP_go ((Pm.same s3).told z mz) (Pm.ok z mz) (s3 _ _ hb) (Pn.same s3) ⟨_, rfl, r⟩
    · rw [List.getElem?_map, hz] at hy
      obtain rfl := Option.some.inj hy
      (try simp only [tIxO, rIsB, rNotB, tSeq, tIfS, tTest, tB, tOp, tUn, tVar, tC, tAsg, gName, tRet, tRetN, tCB, tCons, tNil, tLst_eq, tTup_eq, tDNewK_eq, tNext, tPar, tM0, tM1, tSl, tNoPart, tPart, rSlS, tAug, tAugS, tExf_eq, ipI, tChain, tCall, tDrop, tBM, tAnd, tOr, tNot, tAndV, tOrV, tNotV, tIf, tIsN, tNotN, rI, rI0, rU, rEq, rNe, gSub, cx_K, cx_K2, L2.start, wipe, scal_ii, scal_ss, scal_bb, scal_is, scal_si, scal_nn, List.map_cons, List.map_nil, List.length_cons, List.length_nil, List.cons_append, List.nil_append, List.append_nil, List.replicate, List.getElem?_cons_zero, List.getElem?_cons_succ, Option.some.injEq, exists_and_left, exists_eq_left', exists_eq_left, exists_eq, exists_eq', V.int.injEq, V.ref.injEq, V.str.injEq, V.bl.injEq, List.cons.injEq, and_true, true_and, false_and, exists_false, or_false, false_or, reduceCtorEq, List.set_cons_zero, List.set_cons_succ, Nat.reduceAdd, Nat.reduceSub, Int.reduceToNat, decide_eq_true_eq, if_true, if_false, Bool.false_eq_true, Bool.not_true, Bool.not_false, Bool.true_eq_false, ite_false, ite_true, ne_eq, not_false_eq_true, Int.reduceEq])
      exact r
    refine ⟨D, rfl, _, .inl (.inl r1), ?_⟩
    have e : decide (((((ms.filter fun m => !decide (m.1 ∈ ns.map (·.1))).map fun m => V.ref m.2).length : Nat) : Int) = 0) = decide (∀ p ∈ ms.map (·.1), p ∈ ns.map (·.1)) := by
      rw [List.length_map]
      by_cases h : ∀ p ∈ ms.map (·.1), p ∈ ns.map (·.1)
      · have z : (ms.filter fun m => !decide (m.1 ∈ ns.map (·.1))) = [] := List.filter_eq_nil_iff.mpr fun m mm => by
          have := h m.1 (List.mem_map.mpr ⟨m, mm, rfl⟩)
          simp only [this, decide_true, Bool.not_true]
          exact Bool.false_ne_true
        rw [z, decide_eq_true h]
        rfl
      · rw [decide_eq_false h]
        refine decide_eq_false fun y => h fun p mp => ?_
        have z : (ms.filter fun m => !decide (m.1 ∈ ns.map (·.1))) = [] := List.length_eq_zero_iff.mp (by omega)
        obtain ⟨m, mm, rfl⟩ := List.mem_map.mp mp
        have w := List.filter_eq_nil_iff.mp z m mm
        simpa using w
    rw [e]
    exact q _ s1
theorem cutV_from (xs : List V) (j : Nat) : cutV xs (some (j : Int)) none = xs.drop j := by
  have hj : ¬ ((j : Int) < 0) := by omega
  unfold cutV HT.sIx
  simp [hj]
  rcases Nat.le_total j xs.length with h | h
  · rw [Nat.min_eq_left h, List.take_of_length_le (by simp)]
  · rw [Nat.min_eq_right h, List.drop_of_length_le h]
    simp
theorem Prs.app {H : Hp} {ms ns : List PR} (h : Prs H ms) (g : Prs H ns) : Prs H (ms ++ ns) := ⟨fun m mm => (List.mem_append.mp mm).elim (h.at_ m) (g.at_ m), fun m mm => (List.mem_append.mp mm).elim (h.ok m) (g.ok m)⟩
theorem Prs.one {H : Hp} {m : PR} (h : H m.2 = some (.tup [.int m.1.1, .str m.1.2])) (g : GoodP m.1) : Prs H [m] := ⟨fun x mx => by rw [List.mem_singleton.mp mx]; exact h, fun x mx => by rw [List.mem_singleton.mp mx]; exact g⟩
def spSecond : Sp := fun vs H Q _ => ∃ (t l : Addr) (ms : List PR), vs = [.ref t, .ref l] ∧ Tape H t 1000 ∧ H l = some (.lst (ms.map fun m => V.ref m.2)) ∧ l ≠ t ∧ Prs H ms ∧ ms.length ≤ 62 ∧ ∀ (p : Addr) (ks : List PR) H', p ≠ t → ExT t H H' → H' p = some (.lst (ks.map fun m => V.ref m.2)) → Prs H' ks → ks.length ≤ 63 → Q (.ref p) H'
theorem ok_l_second (T : Txt K mg) : FnOk P w K mg base CX0 4 T.d_l_second.a T.d_l_second.d ["_law_tape_here", "_law_pairs_here"] spSecond := by
  refine T.d_l_second.F.ok sc_l_second (fun vs H Q E h => ?_) (fun cdv A outer s H vs Q E hr h => ?_)
  · obtain ⟨_, _, _, rfl, _⟩ := h
    rfl
  · obtain ⟨t, l, ms, rfl, T0, hl, lt, P0, lm, q⟩ := h
    have hu := hr.units
    refine ⟨_, (pss_cons (ps_set (i := 2) sc_l_second.nd rfl (Or.inl rfl) (pe_call (ok_l_draw T) (hr.mono (by decide)) (by rfl) T.d_l_draw.g T.d_l_draw.F.kp T.d_l_draw.b .nil pass0 (pa_cons (pv 0) (pa_cons pe_int pa_nil))))
      (pss_cons (ps_set (i := 3) sc_l_second.nd rfl (Or.inl rfl) (pe_tup (pa_cons (pe_call (ok_l_number T) (hr.mono (by decide)) (by rfl) T.d_l_number.g T.d_l_number.F.kp T.d_l_number.b .nil pass0 (pa_cons (pv 0) pa_nil)) (pa_cons (pe_call (ok_l_ident T) (hr.mono (by decide)) (by rfl) T.d_l_ident.g T.d_l_ident.F.kp T.d_l_ident.b .nil pass0 (pa_cons (pv 0) (pa_cons (pe_lst pa_nil) pa_nil))) pa_nil))))
      (pss_cons (ps_set (i := 4) sc_l_second.nd rfl (Or.inl rfl) (pe_call (ok_l_draw T) (hr.mono (by decide)) (by rfl) T.d_l_draw.g T.d_l_draw.F.kp T.d_l_draw.b .nil pass0 (pa_cons (pv 0) (pa_cons (pe_op op_add (pe_callB call_lenL (by rfl) T.z_len (by decide +kernel) (pa_cons (pv 1) pa_nil)) pe_int) pa_nil))))
      (pss_cons (ps_if (pt_cmpR op_eq (pv 2) pe_int (nomark _)) (pss_one (ps_ret (pe_listRev rfl (by rfl) T.z_list (by rfl) T.z_reversed (pe_callTy call_list_of (by rfl) T.z_list (by decide +kernel) (pa_cons (pv 1) pa_nil))))) pss_nil)
      (pss_cons (ps_if (pt_cmpR op_eq (pv 2) pe_int (nomark _)) (pss_one (ps_ret (pe_op op_cat (pe_slice sl_list (pv 1) po_none (po_some (pv 4))) (pe_slice sl_list (pv 1) (po_some (pe_op op_add (pv 4) pe_int)) po_none)))) pss_nil)
      (pss_cons (ps_if (pt_cmpR op_eq (pv 2) pe_int (nomark _)) (pss_one (ps_ret (pe_op op_cat (pv 1) (pe_lst (pa_cons (pv 3) pa_nil))))) pss_nil)
      (pss_cons (ps_if (pt_cmpR op_eq (pv 2) pe_int (nomark _)) (pss_one (ps_ret (pe_op op_cat (pe_op op_cat (pe_slice sl_list (pv 1) po_none (po_some (pv 4))) (pe_lst (pa_cons (pv 3) pa_nil))) (pe_slice sl_list (pv 1) (po_some (pe_op op_add (pv 4) pe_int)) po_none)))) pss_nil)
      (pss_one (ps_ret (pe_lc (own := [("_law_pair", 5)]) (g := gName 5) (by rfl) sc_l_second.nd (pi_list (pv 1)) (blkOk_by (own := [("_law_pair", 5)]) (N := ["_law_tape_here", "_law_pairs_here", "_law_shape", "_law_fresh", "_law_place", "_law_pair"]) (sc := defScope s_l_second) (by decide +kernel)) (fun _ _ _ _ _ => pg_name (i := 5) sc_l_second.nd rfl (Or.inl rfl)) (fun _ _ _ _ _ => pts_one (pt_cmpR op_eq (pe_call (ok_l_draw T) (hr.mono (by decide)) (by rfl) T.d_l_draw.g T.d_l_draw.F.kp T.d_l_draw.b .nil pass0 (pa_cons (pv 0) (pa_cons pe_int pa_nil))) pe_int (nomark _))) (fun _ _ _ _ _ => (pv 5)))))))))))), ?_⟩
    (try simp only [tIxO, rIsB, rNotB, tSeq, tIfS, tTest, tB, tOp, tUn, tVar, tC, tAsg, gName, tRet, tRetN, tCB, tCons, tNil, tLst_eq, tTup_eq, tDNewK_eq, tNext, tPar, tM0, tM1, tSl, tNoPart, tPart, rSlS, tAug, tAugS, tExf_eq, ipI, tChain, tCall, tDrop, tBM, tAnd, tOr, tNot, tAndV, tOrV, tNotV, tIf, tIsN, tNotN, rI, rI0, rU, rEq, rNe, gSub, cx_K, cx_K2, L2.start, wipe, scal_ii, scal_ss, scal_bb, scal_is, scal_si, scal_nn, List.map_cons, List.map_nil, List.length_cons, List.length_nil, List.cons_append, List.nil_append, List.append_nil, List.replicate, List.getElem?_cons_zero, List.getElem?_cons_succ, Option.some.injEq, exists_and_left, exists_eq_left', exists_eq_left, exists_eq, exists_eq', V.int.injEq, V.ref.injEq, V.str.injEq, V.bl.injEq, List.cons.injEq, and_true, true_and, false_and, exists_false, or_false, false_or, reduceCtorEq, List.set_cons_zero, List.set_cons_succ, Nat.reduceAdd, Nat.reduceSub, Int.reduceToNat, decide_eq_true_eq, if_true, if_false, Bool.false_eq_true, Bool.not_true, Bool.not_false, Bool.true_eq_false, ite_false, ite_true, ne_eq, not_false_eq_true, Int.reduceEq])
    refine draw_go (T0.mono (m := 999 + 1) (by omega)) (by decide) (by decide) fun sh H1 _ _ T1 v1 => ?_
    refine ⟨t, 900, rfl, T1.mono (by omega), fun x H2 x0 x1 T2 v2 => newL_go fun u H3 nu s3 ru => ?_⟩
    have T3 := T2.same s3
    have ut : u ≠ t := T2.ne nu
    refine ⟨t, u, 800, [], rfl, T3.mono (by omega), ru, ut, by simp, by simp, fun y H4 iy _ T4 v4 => newT_go fun p0 H5 n5 s5 r5 => ?_⟩
    have T5 := T4.same s5
    have vv : ExT t H H5 := (((v1.trans v2).same s3).trans v4).same s5
    have g5 : GoodP (x, y) := ⟨x0, x1, iy⟩
    have hl5 := vv _ _ lt hl
    have tp : ∀ {H H' : Hp} {n : Nat} {ks : List PR}, Tape H t n → ExT t H H' → Prs H ks → Prs H' ks := fun {H H' n ks} T v P => by
      obtain ⟨c1, c2, c3, c4, e1, _⟩ := T
      exact P.ext e1 v
    have P5 := tp T0 vv P0
    have p0t : p0 ≠ t := T4.ne n5
    clear T1 v1 T2 v2 nu s3 ru T3 ut T4 v4 s5 n5
    refine ⟨_, .inl (.inl hl5), ?_⟩
    rw [List.length_map]
    refine draw_go (T5.mono (m := 700 + 1) (by omega)) (by omega) (Nat.lt_of_le_of_lt (show ((ms.length : Int) + 1).natAbs ≤ 63 by omega) (show 63 < 2 ^ 1000 by decide +kernel)) fun pl H6 q0 q1 T6 v6 => ?_
    obtain ⟨j, rfl⟩ := Int.eq_ofNat_of_zero_le q0
    have hl6 := v6 _ _ lt hl5
    have P6 := tp T5 v6 P5
    have r6 := v6 _ _ p0t r5
    have v06 := vv.trans v6
    clear T5 v6 vv hl5 P5 r5 T0 P0 hl
    have fin : ∀ {p : Addr} {H7 : Hp} {ks : List PR}, H6 p = none → Same H6 H7 → H7 p = some (.lst (ks.map fun m => V.ref m.2)) → Prs H7 ks → ks.length ≤ 63 → Q (.ref p) H7 := fun {p H7 ks} n s r P7 l => q p ks H7 (T6.ne n) (v06.same s) r P7 l
    have one6 : ∀ {H7 : Hp}, Same H6 H7 → Prs H7 [((x, y), p0)] := fun s => Prs.one (s _ _ r6) g5
    refine ⟨by simp [scal], ite2 (fun _ => ?_) (fun _ => ⟨by simp [scal], ite2 (fun _ => ?_) (fun _ => ⟨by simp [scal], ite2 (fun _ => ?_) (fun _ => ⟨by simp [scal], ite2 (fun _ => ?_) (fun _ => ?_)⟩)⟩)⟩)⟩
    · (try simp only [tIxO, rIsB, rNotB, tSeq, tIfS, tTest, tB, tOp, tUn, tVar, tC, tAsg, gName, tRet, tRetN, tCB, tCons, tNil, tLst_eq, tTup_eq, tDNewK_eq, tNext, tPar, tM0, tM1, tSl, tNoPart, tPart, rSlS, tAug, tAugS, tExf_eq, ipI, tChain, tCall, tDrop, tBM, tAnd, tOr, tNot, tAndV, tOrV, tNotV, tIf, tIsN, tNotN, rI, rI0, rU, rEq, rNe, gSub, cx_K, cx_K2, L2.start, wipe, scal_ii, scal_ss, scal_bb, scal_is, scal_si, scal_nn, List.map_cons, List.map_nil, List.length_cons, List.length_nil, List.cons_append, List.nil_append, List.append_nil, List.replicate, List.getElem?_cons_zero, List.getElem?_cons_succ, Option.some.injEq, exists_and_left, exists_eq_left', exists_eq_left, exists_eq, exists_eq', V.int.injEq, V.ref.injEq, V.str.injEq, V.bl.injEq, List.cons.injEq, and_true, true_and, false_and, exists_false, or_false, false_or, reduceCtorEq, List.set_cons_zero, List.set_cons_succ, Nat.reduceAdd, Nat.reduceSub, Int.reduceToNat, decide_eq_true_eq, if_true, if_false, Bool.false_eq_true, Bool.not_true, Bool.not_false, Bool.true_eq_false, ite_false, ite_true, ne_eq, not_false_eq_true, Int.reduceEq, tListRev])
      refine ⟨_, .inl (.inl (.inl hl6)), fun l1 n1 => ?_⟩
      have s1 := same_new (o := .lst (ms.map fun m => V.ref m.2)) n1
      refine ⟨_, .inl (.inl upd_same), fun l2 n2 => ?_⟩
      have s2 := same_new (o := .lst (ms.map fun m => V.ref m.2).reverse) n2
      refine fin (ks := ms.reverse) (same_none s1 n2) (s1.trans s2) (by rw [upd_same, List.map_reverse]) ((P6.same (s1.trans s2)).sub fun m mm => List.mem_reverse.mp mm) (by rw [List.length_reverse]; omega)
    · refine ⟨_, rfl, l, _, rfl, .inl (.inl hl6), fun c1 n1 => ?_⟩
      have s1 := same_new (o := .lst (cutV (ms.map fun m => V.ref m.2) none (some (j : Int)))) n1
      refine ⟨_, rfl, l, _, rfl, .inl (.inl (s1 _ _ hl6)), fun c2 n2 => ?_⟩
      have s2 := same_new (o := .lst (cutV (ms.map fun m => V.ref m.2) (some ((j : Int) + 1)) none)) n2
      have e1 : cutV (ms.map fun m => V.ref m.2) none (some (j : Int)) = (ms.take j).map fun m => V.ref m.2 := by rw [cutV_to, List.map_take]
      have e2 : cutV (ms.map fun m => V.ref m.2) (some ((j : Int) + 1)) none = (ms.drop (j + 1)).map fun m => V.ref m.2 := by
        rw [show (j : Int) + 1 = ((j + 1 : Nat) : Int) by omega, cutV_from, List.map_drop]
      refine cat_go (s2 _ _ upd_same) upd_same (fun p H9 n9 s9 r9 => ?_) (by rw [e1, e2, List.length_map, List.length_map, List.length_take, List.length_drop]; omega)
      have s69 := (s1.trans s2).trans s9
      rw [e1, e2, ← List.map_append] at r9
      exact fin (same_none (s1.trans s2) n9) s69 r9 ((P6.same s69).sub fun m mm => (List.mem_append.mp mm).elim List.mem_of_mem_take List.mem_of_mem_drop) (by rw [List.length_append, List.length_take, List.length_drop]; omega)
    · refine newL_go fun c1 H7 n7 s7 r7 => cat_go (s7 _ _ hl6) r7 (fun p H9 n9 s9 r9 => ?_) (by rw [List.length_map]; simp; omega)
      have s69 := s7.trans s9
      rw [show [V.ref p0] = [((x, y), p0)].map (fun m : PR => V.ref m.2) from rfl, ← List.map_append] at r9
      exact fin (same_none s7 n9) s69 r9 ((P6.same s69).app (one6 s69)) (by rw [List.length_append]; simp; omega)
    · refine ⟨_, rfl, l, _, rfl, .inl (.inl hl6), fun c1 n1 => newL_go fun c2 H8 n8 s8 r8 => ?_⟩
      have s1 := same_new (o := .lst (cutV (ms.map fun m => V.ref m.2) none (some (j : Int)))) n1
      have e1 : cutV (ms.map fun m => V.ref m.2) none (some (j : Int)) = (ms.take j).map fun m => V.ref m.2 := by rw [cutV_to, List.map_take]
      have e2 : cutV (ms.map fun m => V.ref m.2) (some ((j : Int) + 1)) none = (ms.drop (j + 1)).map fun m => V.ref m.2 := by
        rw [show (j : Int) + 1 = ((j + 1 : Nat) : Int) by omega, cutV_from, List.map_drop]
      refine cat_go (s8 _ _ upd_same) r8 (fun c3 H9 n9 s9 r9 => ?_) (by rw [e1, List.length_map, List.length_take]; simp; omega)
      rw [e1, show [V.ref p0] = [((x, y), p0)].map (fun m : PR => V.ref m.2) from rfl, ← List.map_append] at r9
      have s19 := (s1.trans s8).trans s9
      refine ⟨_, rfl, l, _, rfl, .inl (.inl (s19 _ _ hl6)), fun c4 n4 => ?_⟩
      have s4 := same_new (o := .lst (cutV (ms.map fun m => V.ref m.2) (some ((j : Int) + 1)) none)) n4
      refine cat_go (s4 _ _ r9) upd_same (fun p H10 n10 s10 r10 => ?_) (by rw [e2, List.length_map, List.length_map, List.length_append, List.length_take, List.length_drop]; simp; omega)
      have s14 := s19.trans s4
      rw [e2, ← List.map_append] at r10
      have s69 := s14.trans s10
      refine fin (same_none s14 n10) s69 r10 ((((P6.same s69).sub fun m mm => List.mem_of_mem_take mm).app (one6 s69)).app ((P6.same s69).sub fun m mm => List.mem_of_mem_drop mm)) ?_
      rw [List.length_append, List.length_append, List.length_take, List.length_drop]
      simp
      omega
    · refine lcI_go (fun D i acc H' => ∃ fs : List PR, acc = fs.map (fun m => V.ref m.2) ∧ (∀ m ∈ fs, m ∈ ms) ∧ ExT t H6 H' ∧ Tape H' t (100 + (ms.length - i))) (fun Q q => ⟨_, rfl, q⟩) (.inl (.inl hl6)) (fun D i acc H5 _ p _ => ?_) (fun D H5 nD s5 r5 => ⟨[], rfl, by simp, fun b o _ e => s5 _ _ e, (T6.same s5).mono (by omega)⟩) (fun D i x acc H5 hx nD rD la p => ?_) (fun D H5 acc nD rD la p => ?_)
      · obtain ⟨fs, _, _, v, _⟩ := p
        exact .inl (.inl (v _ _ lt hl6))
      · obtain ⟨fs, rfl, sub, v5, T5⟩ := p
        rw [List.getElem?_map] at hx
        obtain ⟨m, hm, rfl⟩ := Option.map_eq_some_iff.mp hx
        have hi := (List.getElem?_eq_some_iff.mp hm).1
        have mm := List.mem_of_getElem? hm
        have Dt := T6.ne nD
        (try simp only [tIxO, rIsB, rNotB, tSeq, tIfS, tTest, tB, tOp, tUn, tVar, tC, tAsg, gName, tRet, tRetN, tCB, tCons, tNil, tLst_eq, tTup_eq, tDNewK_eq, tNext, tPar, tM0, tM1, tSl, tNoPart, tPart, rSlS, tAug, tAugS, tExf_eq, ipI, tChain, tCall, tDrop, tBM, tAnd, tOr, tNot, tAndV, tOrV, tNotV, tIf, tIsN, tNotN, rI, rI0, rU, rEq, rNe, gSub, cx_K, cx_K2, L2.start, wipe, scal_ii, scal_ss, scal_bb, scal_is, scal_si, scal_nn, List.map_cons, List.map_nil, List.length_cons, List.length_nil, List.cons_append, List.nil_append, List.append_nil, List.replicate, List.getElem?_cons_zero, List.getElem?_cons_succ, Option.some.injEq, exists_and_left, exists_eq_left', exists_eq_left, exists_eq, exists_eq', V.int.injEq, V.ref.injEq, V.str.injEq, V.bl.injEq, List.cons.injEq, and_true, true_and, false_and, exists_false, or_false, false_or, reduceCtorEq, List.set_cons_zero, List.set_cons_succ, Nat.reduceAdd, Nat.reduceSub, Int.reduceToNat, decide_eq_true_eq, if_true, if_false, Bool.false_eq_true, Bool.not_true, Bool.not_false, Bool.true_eq_false, ite_false, ite_true, ne_eq, not_false_eq_true, Int.reduceEq])
        refine draw_go (T5.mono (m := (100 + (ms.length - (i + 1))) + 1) (by omega)) (by decide) (by decide) fun y H7 _ _ T7 v7 => ⟨by simp [scal], ?_⟩
        have rD6 := v7 _ _ Dt rD
        have v46 := v5.trans v7
        refine ite2 (fun _ => ?_) (fun _ => ?_)
        · refine ⟨_, rD6, by rw [List.length_map]; rw [List.length_map] at la; exact Nat.lt_of_le_of_lt (show fs.length ≤ 63 by omega) (by decide), _, upd_same, by rw [List.length_append]; exact Nat.succ_le_succ la, fs ++ [m], by rw [List.map_append]; rfl, fun x mx => (List.mem_append.mp mx).elim (sub x) fun z => by rw [List.mem_singleton.mp z]; exact mm, fun b o nb e => ?_, ?_⟩
          · rw [upd_ne (fun z => by rw [z, nD] at e; cases e)]
            exact v46 _ _ nb e
          · obtain ⟨c, m2, f, k, e, ok⟩ := T7
            exact ⟨c, m2, f, k, by rw [upd_ne (fun z => Dt z.symm)]; exact e, ok⟩
        · exact ⟨_, rD6, Nat.le_succ_of_le la, fs, rfl, sub, v46, T7⟩
      · obtain ⟨fs, rfl, sub, v5, T5⟩ := p
        rw [List.length_map, List.length_map] at la
        exact q D fs H5 (T6.ne nD) (v06.trans v5) rD ((tp T6 v5 P6).sub sub) (by omega)

end
end Own

set_option Elab.async false
set_option linter.all false
set_option maxRecDepth 100000
set_option maxHeartbeats 4000000
namespace Own
open PySem PySem.Spec PyProof.Rows L2
section
variable {P : Program} {w : World} {K : PySem.W.Frag} {mg : Str → Option Value} {base : Heap}
theorem any_no (ps : List PI) (d : PyData) (h : ∀ m : PI, PyData.eqv (encP m) d = false) : ((ps.map encP).any fun z => PyData.eqv z d) = false := by
  induction ps with
  | nil => rfl
  | cons p ps ih => rw [List.map_cons, List.any_cons, h, ih]; rfl
theorem inO_go {K : PySem.W.Frag} {C x : Addr} {v : V} {ns : List PR} {d : PyData} {H : Hp} {Q : VK} {E : XK} (hc : CapAt C H x ns) (hd : Dp K H v d) (sd : SeqAt.shaped d = true) (q : Q (.bl (((ns.map (·.1)).map encP).any fun z => PyData.eqv z d)) H) : rInO C (spInC K C) E v (.ref x) H Q := by
  obtain ⟨dx, p, hx, _⟩ := id hc.ex
  exact ⟨x, dx, _, rfl, hx, x, v, ns, d, rfl, hc, hd, sd, _, rfl, q⟩
theorem sh_lst {n : Int} {x : Str} (h : isWord x = true) : SeqAt.shaped (.list [.int n, .str x]) = true := by
  simp [SeqAt.shaped, PyData.canLay0, PyData.canLayAll0, PyData.depth, PyData.depthAll, word_ok h]
theorem sh_tup2 {n : Int} {x : Str} (h : isWord x = true) : SeqAt.shaped (encP (n, x)) = true := by
  simp [encP, SeqAt.shaped, PyData.canLay0, PyData.canLayAll0, PyData.depth, PyData.depthAll, word_ok h]
theorem sh_tup3 {n : Int} {x : Str} (h : isWord x = true) : SeqAt.shaped (.tuple [.int n, .str x, .str x]) = true := by
  simp [SeqAt.shaped, PyData.canLay0, PyData.canLayAll0, PyData.depth, PyData.depthAll, word_ok h]
theorem sh_str {x : Str} (h : isWord x = true) : SeqAt.shaped (.str x) = true := by
  simp [SeqAt.shaped, PyData.canLay0, PyData.depth, word_ok h]
def spMembers (C : Addr) : Sp := fun vs H Q _ => ∃ (x a b : Addr) (ns ds os : List PR), vs = [.ref x, .ref a, .ref b] ∧ CapAt C H x ns ∧ H a = some (.lst (ds.map fun m => V.ref m.2)) ∧ H b = some (.lst (os.map fun m => V.ref m.2)) ∧ Prs H ds ∧ Prs H os ∧ ds.length ≤ 100 ∧ os.length ≤ 100 ∧ (∀ y, y ∈ ns.map (·.1) ↔ y ∈ ds.map (·.1)) ∧ ∀ H', Same H H' → Q (.bl true) H'
theorem ok_l_members (T : Txt K mg) : FnOk P w K mg base CX0 4 T.d_l_members.a T.d_l_members.d ["_law_made", "_law_due", "_law_others"] (spMembers T.e_Captures.C) := by
  refine T.d_l_members.F.ok sc_l_members (fun vs H Q E h => ?_) (fun cdv A outer s H vs Q E hr h => ?_)
  · obtain ⟨_, _, _, _, _, _, rfl, _⟩ := h
    rfl
  · obtain ⟨x, a, b, ns, ds, os, rfl, hc, ha, hb, Pd, Po, ld, lo, iff, q⟩ := h
    have hu := hr.units
    refine ⟨_, (pss_cons (ps_for PassesOwn.never rfl (pi_list (pe_op op_cat (pv 2) (pv 1))) (pg_name (i := 3) sc_l_members.nd rfl (Or.inl rfl)) (pss_cons (ps_if (pt_cmpR op_ne (pe_cmpR (op_inO T.in_Captures (okR (ok_Captures_contains T) T.i_Captures_contains.b) (hr.mono (by decide)) pass0) (pv 3) (pv 0) (by rfl)) (pe_cmpR (op_inD (hu65_of hr)) (pv 3) (pv 1) (by rfl)) (nomark _)) (pss_one (ps_ret pe_bl)) pss_nil)
      (pss_cons (ps_if (PW.pt (pw_or (pt_cmpR (op_inO T.in_Captures (okR (ok_Captures_contains T) T.i_Captures_contains.b) (hr.mono (by decide)) pass0) (pe_callTy call_list_of (by rfl) T.z_list (by decide +kernel) (pa_cons (pv 3) pa_nil)) (pv 0) (by rfl)) (pw_or (pt_cmpR (op_inO T.in_Captures (okR (ok_Captures_contains T) T.i_Captures_contains.b) (hr.mono (by decide)) pass0) (pe_tup (pa_cons (pe_ix ix_tup (pv 3) pe_int (fun _ _ => rfl)) (pa_cons (pe_ix ix_tup (pv 3) pe_int (fun _ _ => rfl)) (pa_cons (pe_ix ix_tup (pv 3) pe_int (fun _ _ => rfl)) pa_nil)))) (pv 0) (by rfl)) (pw_or1 (pt_cmpR (op_inO T.in_Captures (okR (ok_Captures_contains T) T.i_Captures_contains.b) (hr.mono (by decide)) pass0) (pe_ix ix_tup (pv 3) pe_int (fun _ _ => rfl)) (pv 0) (by rfl)))))) (pss_one (ps_ret pe_bl)) pss_nil)
      (pss_one (ps_if (PW.pt (pw_and (pt_cmpR (op_inO T.in_Captures (okR (ok_Captures_contains T) T.i_Captures_contains.b) (hr.mono (by decide)) pass0) (pe_tup (pa_cons (pe_op op_add (pe_ix ix_tup (pv 3) pe_int (fun _ _ => rfl)) pe_int) (pa_cons (pe_ix ix_tup (pv 3) pe_int (fun _ _ => rfl)) pa_nil))) (pv 0) (by rfl)) (pw_and1 (pt_cmpR (op_notInD (hu65_of hr)) (pe_tup (pa_cons (pe_op op_add (pe_ix ix_tup (pv 3) pe_int (fun _ _ => rfl)) pe_int) (pa_cons (pe_ix ix_tup (pv 3) pe_int (fun _ _ => rfl)) pa_nil))) (pv 1) (by rfl))))) (pss_one (ps_ret pe_bl)) pss_nil)))))
      (pss_one (ps_ret pe_bl))), ?_⟩
    (try simp only [tIxO, rIsB, rNotB, tSeq, tIfS, tTest, tB, tOp, tUn, tVar, tC, tAsg, gName, tRet, tRetN, tCB, tCons, tNil, tLst_eq, tTup_eq, tDNewK_eq, tNext, tPar, tM0, tM1, tSl, tNoPart, tPart, rSlS, tAug, tAugS, tExf_eq, ipI, tChain, tCall, tDrop, tBM, tAnd, tOr, tNot, tAndV, tOrV, tNotV, tIf, tIsN, tNotN, rI, rI0, rU, rEq, rNe, gSub, cx_K, cx_K2, L2.start, wipe, scal_ii, scal_ss, scal_bb, scal_is, scal_si, scal_nn, List.map_cons, List.map_nil, List.length_cons, List.length_nil, List.cons_append, List.nil_append, List.append_nil, List.replicate, List.getElem?_cons_zero, List.getElem?_cons_succ, Option.some.injEq, exists_and_left, exists_eq_left', exists_eq_left, exists_eq, exists_eq', V.int.injEq, V.ref.injEq, V.str.injEq, V.bl.injEq, List.cons.injEq, and_true, true_and, false_and, exists_false, or_false, false_or, reduceCtorEq, List.set_cons_zero, List.set_cons_succ, Nat.reduceAdd, Nat.reduceSub, Int.reduceToNat, decide_eq_true_eq, if_true, if_false, Bool.false_eq_true, Bool.not_true, Bool.not_false, Bool.true_eq_false, ite_false, ite_true, ne_eq, not_false_eq_true, Int.reduceEq])
    refine forLC_go (fun p H1 => H p = none ∧ Same H H1 ∧ H1 p = some (.lst ((os ++ ds).map fun m => V.ref m.2))) (fun R r => ?_) (fun p H1 c => ?_)
    · (try simp only [tIxO, rIsB, rNotB, tSeq, tIfS, tTest, tB, tOp, tUn, tVar, tC, tAsg, gName, tRet, tRetN, tCB, tCons, tNil, tLst_eq, tTup_eq, tDNewK_eq, tNext, tPar, tM0, tM1, tSl, tNoPart, tPart, rSlS, tAug, tAugS, tExf_eq, ipI, tChain, tCall, tDrop, tBM, tAnd, tOr, tNot, tAndV, tOrV, tNotV, tIf, tIsN, tNotN, rI, rI0, rU, rEq, rNe, gSub, cx_K, cx_K2, L2.start, wipe, scal_ii, scal_ss, scal_bb, scal_is, scal_si, scal_nn, List.map_cons, List.map_nil, List.length_cons, List.length_nil, List.cons_append, List.nil_append, List.append_nil, List.replicate, List.getElem?_cons_zero, List.getElem?_cons_succ, Option.some.injEq, exists_and_left, exists_eq_left', exists_eq_left, exists_eq, exists_eq', V.int.injEq, V.ref.injEq, V.str.injEq, V.bl.injEq, List.cons.injEq, and_true, true_and, false_and, exists_false, or_false, false_or, reduceCtorEq, List.set_cons_zero, List.set_cons_succ, Nat.reduceAdd, Nat.reduceSub, Int.reduceToNat, decide_eq_true_eq, if_true, if_false, Bool.false_eq_true, Bool.not_true, Bool.not_false, Bool.true_eq_false, ite_false, ite_true, ne_eq, not_false_eq_true, Int.reduceEq])
      refine cat_go hb ha (fun p H1 n1 s1 r1 => r p H1 ⟨n1, s1, ?_⟩)
      rw [r1, List.map_append]
    obtain ⟨n1, s1, r1⟩ := c
    have Pa : Prs H1 (os ++ ds) := ⟨fun m mm => (List.mem_append.mp mm).elim ((Po.same s1).at_ m) ((Pd.same s1).at_ m), fun m mm => (List.mem_append.mp mm).elim (Po.ok m) (Pd.ok m)⟩
    have lp : (os ++ ds).length ≤ 200 := by rw [List.length_append]; omega
    generalize os ++ ds = ps at *
    have hc1 := hc.same s1
    have ha1 := s1 _ _ ha
    have Pd1 := Pd.same s1
    refine forL_go (K := K) (xs := ps.map fun m => V.ref m.2) (fun i σ' H' => Same H1 H' ∧ ∃ o3, σ' = [some (.ref x), some (.ref a), some (.ref b), o3]) (fun Q q => q) (fun i σ' H' _ pp => .inl (.inl (pp.1 _ _ r1))) ⟨fun _ _ e => e, _, rfl⟩ (fun i y σ' H' hy pp => ?_) (fun σ' H' pp => ?_)
    · obtain ⟨s2, o3, rfl⟩ := pp
      rw [List.getElem?_map] at hy
      obtain ⟨m, hm, rfl⟩ := Option.map_eq_some_iff.mp hy
      have mm := List.mem_of_getElem? hm
      have hc2 := hc1.same s2
      have ha2 := s2 _ _ ha1
      have Pd2 := Pd1.same s2
      have Pm := (Pa.same s2).at_ m mm
      have gm := Pa.ok m mm
      (try simp only [tIxO, rIsB, rNotB, tSeq, tIfS, tTest, tB, tOp, tUn, tVar, tC, tAsg, gName, tRet, tRetN, tCB, tCons, tNil, tLst_eq, tTup_eq, tDNewK_eq, tNext, tPar, tM0, tM1, tSl, tNoPart, tPart, rSlS, tAug, tAugS, tExf_eq, ipI, tChain, tCall, tDrop, tBM, tAnd, tOr, tNot, tAndV, tOrV, tNotV, tIf, tIsN, tNotN, rI, rI0, rU, rEq, rNe, gSub, cx_K, cx_K2, L2.start, wipe, scal_ii, scal_ss, scal_bb, scal_is, scal_si, scal_nn, List.map_cons, List.map_nil, List.length_cons, List.length_nil, List.cons_append, List.nil_append, List.append_nil, List.replicate, List.getElem?_cons_zero, List.getElem?_cons_succ, Option.some.injEq, exists_and_left, exists_eq_left', exists_eq_left, exists_eq, exists_eq', V.int.injEq, V.ref.injEq, V.str.injEq, V.bl.injEq, List.cons.injEq, and_true, true_and, false_and, exists_false, or_false, false_or, reduceCtorEq, List.set_cons_zero, List.set_cons_succ, Nat.reduceAdd, Nat.reduceSub, Int.reduceToNat, decide_eq_true_eq, if_true, if_false, Bool.false_eq_true, Bool.not_true, Bool.not_false, Bool.true_eq_false, ite_false, ite_true, ne_eq, not_false_eq_true, Int.reduceEq])
      refine inO_go hc2 (dp_pair (.inl (.inl Pm))) (encP_shaped gm) ?_
      refine inP_go (.inl (.inl Pm)) gm ha2 Pd2 ?_
      rw [any_enc]
      have e : decide (m.1 ∈ ns.map (·.1)) = decide (m.1 ∈ ds.map (·.1)) := decide_eq_decide.mpr (iff m.1)
      rw [e]
      refine ⟨by simp [scal], ite2 (fun z => by simp at z) (fun _ => ?_)⟩
      have hw := ident_word gm.2.2
      refine ⟨_, .inr (.inl (.inl Pm)), fun l nl => ?_⟩
      have s3 := same_new (o := .lst [V.int m.1.1, V.str m.1.2]) nl
      refine inO_go (hc2.same s3) (d := .list [.int m.1.1, .str m.1.2]) (.lst (.inl (.inl upd_same)) (.cons (.int _) (.cons (.str _) .nil))) (sh_lst hw) ?_
      rw [any_no _ _ fun _ => rfl]
      refine ⟨_, rfl, ite2 (fun z => by cases z) (fun _ => ?_)⟩
      have Pm3 := s3 _ _ Pm
      refine ixT_go Pm3 (atI_nat (j := 0) rfl) (ixT_go Pm3 (atI_nat (j := 1) rfl) (ixT_go Pm3 (atI_nat (j := 1) rfl) (newT_go fun p3 H3 n3 s4 r3 => ?_)))
      refine inO_go ((hc2.same s3).same s4) (d := .tuple [.int m.1.1, .str m.1.2, .str m.1.2]) (.tup (.inl (.inl r3)) (.cons (.int _) (.cons (.str _) (.cons (.str _) .nil)))) (sh_tup3 hw) ?_
      rw [any_no _ _ fun z => by simp [encP, PyData.eqv, PyData.eqvAll]]
      refine ⟨_, rfl, ite2 (fun z => by cases z) (fun _ => ?_)⟩
      have s24 := s3.trans s4
      have Pm4 := s24 _ _ Pm
      refine ixT_go Pm4 (atI_nat (j := 1) rfl) ?_
      refine inO_go (hc2.same s24) (d := .str m.1.2) (.str _) (sh_str hw) ?_
      rw [any_no _ _ fun _ => rfl]
      refine ⟨_, rfl, ite2 (fun z => by cases z) (fun _ => ?_)⟩
      refine ixT_go Pm4 (atI_nat (j := 0) rfl) ⟨_, rfl, ixT_go Pm4 (atI_nat (j := 1) rfl) (newT_go fun p5 H5 n5 s5 r5 => ?_)⟩
      have s25 := s24.trans s5
      refine inO_go (hc2.same s25) (d := encP (m.1.1 + 1, m.1.2)) (.tup (.inl (.inl r5)) (.cons (.int _) (.cons (.str _) .nil))) (sh_tup2 hw) ?_
      rw [any_enc]
      refine ⟨_, rfl, ite2 (fun z => ?_) (fun _ => s2.trans s25)⟩
      have Pm5 := s25 _ _ Pm
      refine ixT_go Pm5 (atI_nat (j := 0) rfl) ⟨_, rfl, ixT_go Pm5 (atI_nat (j := 1) rfl) (newT_go fun p6 H6 n6 s6 r6 => ?_)⟩
      have s26 := s25.trans s6
      refine ⟨encP (m.1.1 + 1, m.1.2), (ds.map (·.1)).map encP, .tup (.inl (.inl r6)) (.cons (.int _) (.cons (.str _) .nil)), .lst (.inl (.inl (s26 _ _ ha2))) (dp_pairs (Pd2.same s26).told), sh_tup2 hw, (listP_shaped Pd2.oks).1, ?_⟩
      rw [any_enc, decide_eq_true ((iff _).mp (of_decide_eq_true z))]
      exact ⟨_, rfl, ite2 (fun z => by cases z) (fun _ => s2.trans s26)⟩
    · obtain ⟨s2, o3, rfl⟩ := pp
      (try simp only [tIxO, rIsB, rNotB, tSeq, tIfS, tTest, tB, tOp, tUn, tVar, tC, tAsg, gName, tRet, tRetN, tCB, tCons, tNil, tLst_eq, tTup_eq, tDNewK_eq, tNext, tPar, tM0, tM1, tSl, tNoPart, tPart, rSlS, tAug, tAugS, tExf_eq, ipI, tChain, tCall, tDrop, tBM, tAnd, tOr, tNot, tAndV, tOrV, tNotV, tIf, tIsN, tNotN, rI, rI0, rU, rEq, rNe, gSub, cx_K, cx_K2, L2.start, wipe, scal_ii, scal_ss, scal_bb, scal_is, scal_si, scal_nn, List.map_cons, List.map_nil, List.length_cons, List.length_nil, List.cons_append, List.nil_append, List.append_nil, List.replicate, List.getElem?_cons_zero, List.getElem?_cons_succ, Option.some.injEq, exists_and_left, exists_eq_left', exists_eq_left, exists_eq, exists_eq', V.int.injEq, V.ref.injEq, V.str.injEq, V.bl.injEq, List.cons.injEq, and_true, true_and, false_and, exists_false, or_false, false_or, reduceCtorEq, List.set_cons_zero, List.set_cons_succ, Nat.reduceAdd, Nat.reduceSub, Int.reduceToNat, decide_eq_true_eq, if_true, if_false, Bool.false_eq_true, Bool.not_true, Bool.not_false, Bool.true_eq_false, ite_false, ite_true, ne_eq, not_false_eq_true, Int.reduceEq])
      exact q _ (s1.trans s2)

end
end Own

set_option Elab.async false
set_option linter.all false
set_option maxRecDepth 100000
set_option maxHeartbeats 4000000
namespace Own
open PySem PySem.Spec PyProof.Rows L2
section
variable {P : Program} {w : World} {K : PySem.W.Frag} {mg : Str → Option Value} {base : Heap}
theorem good7y : GoodP (7, "y") := ⟨by decide, by decide, by decide +kernel⟩
theorem notInO_go {K : PySem.W.Frag} {C x : Addr} {v : V} {ns : List PR} {d : PyData} {H : Hp} {Q : VK} {E : XK} (hc : CapAt C H x ns) (hd : Dp K H v d) (sd : SeqAt.shaped d = true) (q : Q (.bl (!((ns.map (·.1)).map encP).any fun z => PyData.eqv z d)) H) : rNotInO C (spInC K C) E v (.ref x) H Q := by
  obtain ⟨dx, p, hx, _⟩ := id hc.ex
  exact ⟨x, dx, _, rfl, hx, x, v, ns, d, rfl, hc, hd, sd, _, rfl, q⟩
theorem eqX1 {K : PySem.W.Frag} {C x y : Addr} {ns ks : List PR} {H : Hp} {Q : VK} {E : XK} (hc : CapAt C H x ns) (hd : CapAt C H y ks) (q : Q (.bl (decide (ns.map (·.1) = ks.map (·.1)))) H) : rEqX K C (spEqC K C) E (.ref x) (.ref y) H Q := by
  obtain ⟨dx, p, hx, _⟩ := id hc.ex
  obtain ⟨dy, p', hy, _⟩ := id hd.ex
  exact ⟨x, dx, _, rfl, hx, .inl ⟨y, dy, _, rfl, hy⟩, x, .ref y, ns, rfl, hc, .inl ⟨y, ks, rfl, hd, _, rfl, q⟩⟩
theorem eqX2 {K : PySem.W.Frag} {C x : Addr} {v : V} {T : String} {ns : List PR} {H : Hp} {Q : VK} {E : XK} (hc : CapAt C H x ns) (ty : TyX K H v (.type T)) (su : PySem.W.subIn K (.type T) (.ref C) = some false) (kt : PySem.W.kitOne K (.type T) (.ref C) = some false) (q : Q (.bl false) H) : rEqX K C (spEqC K C) E (.ref x) v H Q := by
  obtain ⟨dx, p, hx, _⟩ := id hc.ex
  exact ⟨x, dx, _, rfl, hx, .inr ⟨T, ty, su⟩, x, v, ns, rfl, hc, .inr ⟨T, ty, kt, _, rfl, q⟩⟩
def spLaw (K : PySem.W.Frag) : Sp := fun vs H Q _ => ∃ (a : Addr) (ns : List Int), vs = [.ref a] ∧ SqL K H a (ns.map V.int) ∧ ns.length ≤ 63 ∧ ∀ H', Q (.bl true) H'
theorem ok_law (T : Txt K mg) : FnOk P w K mg base CX0 12 T.d_law.a T.d_law.d ["_law_script"] (spLaw K) := by
  refine T.d_law.F.ok sc_law (fun vs H Q E h => ?_) (fun cdv A outer s H vs Q E hr h => ?_)
  · obtain ⟨a, _, rfl, _⟩ := h
    rfl
  · obtain ⟨a, ns, rfl, hs, hl, q⟩ := h
    have hu := hr.units
    refine ⟨_, (pss_cons (ps_set (i := 1) sc_law.nd rfl (Or.inl rfl) (pe_call (ok_l_ascending T) (hr.mono (by decide)) (by rfl) T.d_l_ascending.g T.d_l_ascending.F.kp T.d_l_ascending.b .nil pass0 (pa_cons (pe_call (ok_l_pairs T) (hr.mono (by decide)) (by rfl) T.d_l_pairs.g T.d_l_pairs.F.kp T.d_l_pairs.b .nil pass0 (pa_cons (pv 0) (pa_cons pe_int (pa_cons (pe_callB (call_min2 rfl) (by rfl) T.z_min (by decide +kernel) (pa_cons pe_int (pa_cons (pe_callB call_lenL (by rfl) T.z_len (by decide +kernel) (pa_cons (pv 0) pa_nil)) pa_nil))) pa_nil)))) pa_nil)))
      (pss_cons (ps_set (i := 2) sc_law.nd rfl (Or.inl rfl) (pe_call (ok_l_ascending T) (hr.mono (by decide)) (by rfl) T.d_l_ascending.g T.d_l_ascending.F.kp T.d_l_ascending.b .nil pass0 (pa_cons (pe_call (ok_l_second T) (hr.mono (by decide)) (by rfl) T.d_l_second.g T.d_l_second.F.kp T.d_l_second.b .nil pass0 (pa_cons (pe_call (ok_l_tape T) (hr.mono (by decide)) (by rfl) T.d_l_tape.g T.d_l_tape.F.kp T.d_l_tape.b .nil pass0 (pa_cons (pv 0) (pa_cons pe_int pa_nil))) (pa_cons (pv 1) pa_nil))) pa_nil)))
      (pss_cons (ps_set (i := 3) sc_law.nd rfl (Or.inl rfl) (pe_make ⟨T.e_Captures.mks, T.i_Captures_init.at_, T.i_Captures_init.fn, T.e_Captures.kp⟩ (ok_Captures_init T) (hr.mono (by decide)) (by rfl) T.e_Captures.m T.i_Captures_init.b .nil pass0 (pa_cons (pe_callTy call_list_of (by rfl) T.z_list (by decide +kernel) (pa_cons (pv 1) pa_nil)) pa_nil)))
      (pss_cons (ps_set (i := 4) sc_law.nd rfl (Or.inl rfl) (pe_make ⟨T.e_Captures.mks, T.i_Captures_init.at_, T.i_Captures_init.fn, T.e_Captures.kp⟩ (ok_Captures_init T) (hr.mono (by decide)) (by rfl) T.e_Captures.m T.i_Captures_init.b .nil pass0 (pa_cons (pe_callTy call_tuple_of (by rfl) T.z_tuple (by decide +kernel) (pa_cons (pv 2) pa_nil)) pa_nil)))
      (pss_cons (ps_if (PW.pt (pw_or (pt_cmpR op_ne (pe_meth (pv 3) T.e_Captures.c ⟨T.i_Captures_within.at_, T.i_Captures_within.fn, T.i_Captures_within.F.kp⟩ (ok_Captures_within T) (hr.mono (by decide)) T.i_Captures_within.b .nil pass0 (pa_cons (pv 4) pa_nil)) (pe_call (ok_l_subset T) (hr.mono (by decide)) (by rfl) T.d_l_subset.g T.d_l_subset.F.kp T.d_l_subset.b .nil pass0 (pa_cons (pv 1) (pa_cons (pv 2) pa_nil))) (nomark _)) (pw_or1 (pt_cmpR op_ne (pe_meth (pv 4) T.e_Captures.c ⟨T.i_Captures_within.at_, T.i_Captures_within.fn, T.i_Captures_within.F.kp⟩ (ok_Captures_within T) (hr.mono (by decide)) T.i_Captures_within.b .nil pass0 (pa_cons (pv 3) pa_nil)) (pe_call (ok_l_subset T) (hr.mono (by decide)) (by rfl) T.d_l_subset.g T.d_l_subset.F.kp T.d_l_subset.b .nil pass0 (pa_cons (pv 2) (pa_cons (pv 1) pa_nil))) (nomark _))))) (pss_one (ps_ret pe_bl)) pss_nil)
      (pss_cons (ps_if (PW.pt (pw_or (pt_cmpR op_ne (pe_cmpR (op_eqX T.eq_Captures (okR (ok_Captures_eq T) T.i_Captures_eq.b) (hr.mono (by decide)) pass0) (pv 3) (pv 4) (nomark _)) (pe_cmpR (op_eqD hu) (pv 1) (pv 2) (nomark _)) (nomark _)) (pw_or1 (pt_cmpR op_ne (pe_cmpR (op_eqX T.eq_Captures (okR (ok_Captures_eq T) T.i_Captures_eq.b) (hr.mono (by decide)) pass0) (pv 4) (pv 3) (nomark _)) (pe_cmpR (op_eqD hu) (pv 1) (pv 2) (nomark _)) (nomark _))))) (pss_one (ps_ret pe_bl)) pss_nil)
      (pss_cons (ps_if (PW.pt (pw_or (pt_cmpR (op_eqX T.eq_Captures (okR (ok_Captures_eq T) T.i_Captures_eq.b) (hr.mono (by decide)) pass0) (pv 3) (pe_fld (pv 3) rfl) (nomark _)) (pw_or (pt_cmpR (op_eqX T.eq_Captures (okR (ok_Captures_eq T) T.i_Captures_eq.b) (hr.mono (by decide)) pass0) (pv 3) (pe_callTy call_list_of (by rfl) T.z_list (by decide +kernel) (pa_cons (pv 1) pa_nil)) (nomark _)) (pw_or (pt_cmpR (op_eqX T.eq_Captures (okR (ok_Captures_eq T) T.i_Captures_eq.b) (hr.mono (by decide)) pass0) (pv 3) (pe_callTy (call_strO T.str_Captures (okR (ok_Captures_str T) T.i_Captures_str.b) (hr.mono (by decide)) pass0) (by rfl) T.z_str (by decide +kernel) (pa_cons (pv 3) pa_nil)) (nomark _)) (pw_or1 (pt_not (pt_val (pe_meth (pv 3) T.e_Captures.c ⟨T.i_Captures_within.at_, T.i_Captures_within.fn, T.i_Captures_within.F.kp⟩ (ok_Captures_within T) (hr.mono (by decide)) T.i_Captures_within.b .nil pass0 (pa_cons (pv 3) pa_nil))))))))) (pss_one (ps_ret pe_bl)) pss_nil)
      (pss_cons (ps_if (PW.pt (pw_or (pt_not (pt_val (pe_call (ok_l_members T) (hr.mono (by decide)) (by rfl) T.d_l_members.g T.d_l_members.F.kp T.d_l_members.b .nil pass0 (pa_cons (pv 3) (pa_cons (pv 1) (pa_cons (pv 2) pa_nil)))))) (pw_or1 (pt_not (pt_val (pe_call (ok_l_members T) (hr.mono (by decide)) (by rfl) T.d_l_members.g T.d_l_members.F.kp T.d_l_members.b .nil pass0 (pa_cons (pv 4) (pa_cons (pv 2) (pa_cons (pv 1) pa_nil))))))))) (pss_one (ps_ret pe_bl)) pss_nil)
      (pss_one (ps_ret (pe_and (pe_cmpR (op_notInO T.in_Captures (okR (ok_Captures_contains T) T.i_Captures_contains.b) (hr.mono (by decide)) pass0) (pe_tup (pa_cons (pe_op op_pow pe_int pe_int) (pa_cons pe_str pa_nil))) (pv 3) (by rfl)) (pe_one (pe_meth (pv 3) T.e_Captures.c ⟨T.i_Captures_within.at_, T.i_Captures_within.fn, T.i_Captures_within.F.kp⟩ (ok_Captures_within T) (hr.mono (by decide)) T.i_Captures_within.b .nil pass0 (pa_cons (pe_make ⟨T.e_Captures.mks, T.i_Captures_init.at_, T.i_Captures_init.fn, T.e_Captures.kp⟩ (ok_Captures_init T) (hr.mono (by decide)) (by rfl) T.e_Captures.m T.i_Captures_init.b .nil pass0 (pa_cons (pe_op op_cat (pv 1) (pe_lst (pa_cons (pe_tup (pa_cons pe_int (pa_cons pe_str pa_nil))) pa_nil))) pa_nil)) pa_nil)))))))))))))), ?_⟩
    (try simp only [tIxO, rIsB, rNotB, tSeq, tIfS, tTest, tB, tOp, tUn, tVar, tC, tAsg, gName, tRet, tRetN, tCB, tCons, tNil, tLst_eq, tTup_eq, tDNewK_eq, tNext, tPar, tM0, tM1, tSl, tNoPart, tPart, rSlS, tAug, tAugS, tExf_eq, ipI, tChain, tCall, tDrop, tBM, tAnd, tOr, tNot, tAndV, tOrV, tNotV, tIf, tIsN, tNotN, rI, rI0, rU, rEq, rNe, gSub, cx_K, cx_K2, L2.start, wipe, scal_ii, scal_ss, scal_bb, scal_is, scal_si, scal_nn, List.map_cons, List.map_nil, List.length_cons, List.length_nil, List.cons_append, List.nil_append, List.append_nil, List.replicate, List.getElem?_cons_zero, List.getElem?_cons_succ, Option.some.injEq, exists_and_left, exists_eq_left', exists_eq_left, exists_eq, exists_eq', V.int.injEq, V.ref.injEq, V.str.injEq, V.bl.injEq, List.cons.injEq, and_true, true_and, false_and, exists_false, or_false, false_or, reduceCtorEq, List.set_cons_zero, List.set_cons_succ, Nat.reduceAdd, Nat.reduceSub, Int.reduceToNat, decide_eq_true_eq, if_true, if_false, Bool.false_eq_true, Bool.not_true, Bool.not_false, Bool.true_eq_false, ite_false, ite_true, ne_eq, not_false_eq_true, Int.reduceEq, tMake, tMeth])
    obtain ⟨j, hj, ej⟩ : ∃ j : Nat, j ≤ 63 ∧ (if ((ns.length : Nat) : Int) < 63 then ((ns.length : Nat) : Int) else 63) = (j : Int) := by
      by_cases h : ((ns.length : Nat) : Int) < 63
      · exact ⟨ns.length, hl, if_pos h⟩
      · exact ⟨63, Nat.le_refl _, if_neg h⟩
    refine ⟨_, hs, _, _, ⟨rfl, rfl⟩, ?_⟩
    rw [List.length_map, ej]
    refine ⟨a, ns, 1, j, rfl, hs, by omega, by omega, fun pl ms H1 n1 s1 r1 P1 lm _ => ?_⟩
    refine ⟨pl, ms, rfl, r1, P1, by omega, fun al as_ H2 n2 s2 r2 sub2 A2 l2 => ?_⟩
    have P2 := (P1.same s2).sub sub2
    have s02 := s1.trans s2
    refine ⟨a, ns, 0, rfl, sq_same s02 hs, by omega, by omega, fun t H3 nt T3 s3 => ?_⟩
    have alt : al ≠ t := fun z => by rw [z, nt] at r2; cases r2
    refine ⟨t, al, as_, rfl, T3.mono (by omega), s3 _ _ r2, alt, P2.same s3, by omega, fun p ks H4 pt v4 r4 P4 lk => ?_⟩
    refine ⟨p, ks, rfl, r4, P4, by omega, fun bl bs H5 n5 s5 r5 sub5 A5 l5 => ?_⟩
    have ra := s5 _ _ (v4 _ _ alt (s3 _ _ r2))
    have Pa : Prs H5 as_ := ⟨fun m mm => s5 _ _ (v4 _ _ (fun z => by have y := P2.at_ m mm; rw [z, nt] at y; cases y) (s3 _ _ (P2.at_ m mm))), P2.ok⟩
    have Pb := (P4.same s5).sub sub5
    have la : as_.length ≤ 62 := by omega
    have lb : bs.length ≤ 63 := by omega
    have nda := A2.nd
    have ndb := A5.nd
    have srta := A2.srt
    have srtb := A5.srt
    clear s1 r1 P1 s2 r2 P2 s02 s3 T3 v4 r4 P4 s5 sub2 sub5 A2 A5 n1 n2 nt n5 hs ej hj
    refine ⟨al, rfl, _, .inl (.inl (.inl ra)), fun c1 nc1 => ?_⟩
    have t1 := same_new (o := .lst (as_.map fun m => V.ref m.2)) nc1
    refine mkCap_go (.inl (.inl (.inl upd_same))) (Pa.same t1) (Few.of (by rw [List.length_map]; omega)) (by omega) fun x nx H6 _ u1 cx ax _ => ?_
    have s6 := t1.trans u1
    refine ⟨bl, rfl, _, .inl ⟨.inl (.inl (s6 _ _ r5)), fun c2 nc2 => ?_⟩⟩
    have t2 := same_new (o := .tup (bs.map fun m => V.ref m.2)) nc2
    refine mkCap_go (.inr (.inl (.inl upd_same))) ((Pb.same s6).same t2) (Few.of (by rw [List.length_map]; omega)) (by omega) fun y ny H7 _ u2 cy ay _ => ?_
    have s67 := t2.trans u2
    have s7 := s6.trans s67
    have cx7 := cx.same s67
    have Pa7 := Pa.same s7
    have Pb7 := Pb.same s7
    have ra7 := s7 _ _ ra
    have rb7 := s7 _ _ r5
    have ex : nx.map (·.1) = as_.map (·.1) := leP_one ax.srt srta ((List.perm_ext_iff_of_nodup ax.nd nda).mpr ax.mem)
    have ey : ny.map (·.1) = bs.map (·.1) := leP_one ay.srt srtb ((List.perm_ext_iff_of_nodup ay.nd ndb).mpr ay.mem)
    have lx : nx.length = as_.length := by have z := congrArg List.length ex; rw [List.length_map, List.length_map] at z; exact z
    have ly : ny.length = bs.length := by have z := congrArg List.length ey; rw [List.length_map, List.length_map] at z; exact z
    have ix := ax.mem
    have iy := ay.mem
    have lks : ks.length ≤ 63 := lk
    clear t1 u1 cx s6 t2 u2 s67 s7 Pa Pb ra r5 nc1 nc2 ax ay nda ndb srta srtb alt pt
    -- within, both ways
    have W : ∀ {H8 : Hp} (v : Same H7 H8) {Q1 : VK} {E1 : XK} (_ : ∀ H', Same H8 H' → Q1 (.bl (decide (∀ p ∈ as_.map (·.1), p ∈ bs.map (·.1)))) H'), ∃ x5 x6, H8 x = some (.ins T.e_Captures.C x5 x6) ∧ List.lookup (Str.ofString "within") x6 = none ∧ spWithin T.e_Captures.C [.ref x, .ref y] H8 Q1 E1 := by
      intro H8 v Q1 E1 q1
      obtain ⟨dx, p, hx, hp⟩ := (cx7.same v).ex
      refine ⟨dx, _, hx, rfl, x, y, nx, ny, rfl, cx7.same v, cy.same v, by omega, by omega, by omega, fun H' s => ?_⟩
      rw [ex, ey]
      exact q1 H' s
    have W2 : ∀ {H8 : Hp} (v : Same H7 H8) {Q1 : VK} {E1 : XK} (_ : ∀ H', Same H8 H' → Q1 (.bl (decide (∀ p ∈ bs.map (·.1), p ∈ as_.map (·.1)))) H'), ∃ x5 x6, H8 y = some (.ins T.e_Captures.C x5 x6) ∧ List.lookup (Str.ofString "within") x6 = none ∧ spWithin T.e_Captures.C [.ref y, .ref x] H8 Q1 E1 := by
      intro H8 v Q1 E1 q1
      obtain ⟨dx, p, hx, hp⟩ := (cy.same v).ex
      refine ⟨dx, _, hx, rfl, y, x, ny, nx, rfl, cy.same v, cx7.same v, by omega, by omega, by omega, fun H' s => ?_⟩
      rw [ex, ey]
      exact q1 H' s
    refine W (fun _ _ e => e) fun H8 v1 => ?_
    refine ⟨al, bl, as_, bs, rfl, v1 _ _ ra7, v1 _ _ rb7, Pa7.same v1, Pb7.same v1, by omega, fun H9 v2 => ⟨by simp [scal], ite2 (fun z => by simp at z) (fun _ => ?_)⟩⟩
    have w2 := v1.trans v2
    refine W2 w2 fun H10 v3 => ?_
    have w3 := w2.trans v3
    refine ⟨bl, al, bs, as_, rfl, w3 _ _ rb7, w3 _ _ ra7, Pb7.same w3, Pa7.same w3, by omega, fun H11 v4 => ⟨by simp [scal], ite2 (fun z => by simp at z) (fun _ => ?_)⟩⟩
    have w4 := w3.trans v4
    refine eqX1 (cx7.same w4) (cy.same w4) ?_
    have LE : ∀ {H8 : Hp} (v : Same H7 H8) {Q1 : VK} (_ : Q1 (.bl (decide (as_.map (·.1) = bs.map (·.1)))) H8), rEqD K (.ref al) (.ref bl) H8 Q1 := by
      intro H8 v Q1 q1
      refine ⟨.list ((as_.map (·.1)).map encP), .list ((bs.map (·.1)).map encP), .lst (.inl (.inl (v _ _ ra7))) (dp_pairs (Pa7.same v).told), .lst (.inl (.inl (v _ _ rb7))) (dp_pairs (Pb7.same v).told), (listP_shaped Pa7.oks).1, (listP_shaped Pb7.oks).1, ?_⟩
      rw [lsts_enc]
      exact q1
    refine LE w4 ?_
    rw [ex, ey]
    refine ⟨by simp [scal], ite2 (fun z => by simp at z) (fun _ => ?_)⟩
    refine eqX1 (cy.same w4) (cx7.same w4) (LE w4 ?_)
    have de : decide (bs.map (·.1) = as_.map (·.1)) = decide (as_.map (·.1) = bs.map (·.1)) := decide_eq_decide.mpr eq_comm
    rw [ex, ey, de]
    refine ⟨by simp [scal], ite2 (fun z => by simp at z) (fun _ => ?_)⟩
    obtain ⟨dx, px, hx, hpx⟩ := (cx7.same w4).ex
    refine fld_go (fun Q q => ⟨_, rfl, q⟩) hx T.e_Captures.c T.n_Captures_pairs rfl ?_
    refine eqX2 (cx7.same w4) (.base (.tup hpx)) T.su_Captures_tuple T.q_tup_Cap ⟨_, rfl, ite2 (fun z => by cases z) (fun _ => ?_)⟩
    refine ⟨al, rfl, _, .inl (.inl (.inl (w4 _ _ ra7))), fun c3 nc3 => ?_⟩
    have w5 := w4.trans (same_new (o := .lst (as_.map fun m => V.ref m.2)) nc3)
    refine eqX2 (cx7.same w5) (.base (.lst upd_same)) T.su_Captures_list T.q_lst_Cap ⟨_, rfl, ite2 (fun z => by cases z) (fun _ => ?_)⟩
    obtain ⟨dx5, px5, hx5, hpx5⟩ := (cx7.same w5).ex
    refine ⟨x, dx5, _, rfl, hx5, x, nx, rfl, cx7.same w5, by omega, fun H13 v5 => ⟨_, rfl, ?_⟩⟩
    have w6 := w5.trans v5
    refine eqX2 (cx7.same w6) (.base (.str _)) T.su_Captures_str T.q_str_Cap ⟨_, rfl, ite2 (fun z => by cases z) (fun _ => ?_)⟩
    obtain ⟨dx6, px6, hx6, hpx6⟩ := (cx7.same w6).ex
    refine ⟨dx6, _, hx6, rfl, x, x, nx, nx, rfl, cx7.same w6, cx7.same w6, by omega, by omega, by omega, fun H14 v6 => ?_⟩
    rw [decide_eq_true (show ∀ p ∈ nx.map (·.1), p ∈ nx.map (·.1) from fun _ h => h)]
    have w7 := w6.trans v6
    refine ⟨_, rfl, ite2 (fun z => by cases z) (fun _ => ?_)⟩
    refine ⟨x, al, bl, nx, as_, bs, rfl, cx7.same w7, w7 _ _ ra7, w7 _ _ rb7, Pa7.same w7, Pb7.same w7, by omega, by omega, ix, fun H15 v7 => ⟨_, rfl, ite2 (fun z => by cases z) (fun _ => ?_)⟩⟩
    have w8 := w7.trans v7
    refine ⟨y, bl, al, ny, bs, as_, rfl, cy.same w8, w8 _ _ rb7, w8 _ _ ra7, Pb7.same w8, Pa7.same w8, by omega, by omega, iy, fun H16 v8 => ⟨_, rfl, ite2 (fun z => by cases z) (fun _ => ?_)⟩⟩
    have w9 := w8.trans v8
    refine ⟨⟨by decide, by decide, by decide⟩, newT_go fun p1 H17 n1 s1 r1 => ?_⟩
    have w10 := w9.trans s1
    refine notInO_go (cx7.same w10) (d := encP (10 ^ 60, "x")) (.tup (.inl (.inl r1)) (.cons (.int _) (.cons (.str _) .nil))) (sh_tup2 (by decide +kernel)) ?_
    rw [any_enc, decide_eq_false (fun z => by
      obtain ⟨m, mm, e⟩ := List.mem_map.mp z
      have g := cx7.prs.ok m mm
      have g2 := g.2.1
      rw [show m.1.1 = 10 ^ 60 from congrArg Prod.fst e] at g2
      exact absurd g2 (by decide))]
    refine ⟨_, rfl, ite2 (fun _ => ?_) (fun z => absurd rfl z)⟩
    obtain ⟨dx7, px7, hx7, hpx7⟩ := (cx7.same w10).ex
    refine ⟨dx7, _, hx7, rfl, newT_go fun p2 H18 n2 s2 r2 => newL_go fun p3 H19 n3 s3 r3 => ?_⟩
    have s23 := s2.trans s3
    have w11 := w10.trans s23
    refine cat_go (w11 _ _ ra7) r3 (fun p4 H20 n4 s4 r4 => ?_) (by rw [List.length_map]; simp; omega)
    rw [show [V.ref p2] = [((((7 : Int), ("y" : Str)) : PI), p2)].map (fun m : PR => V.ref m.2) from rfl, ← List.map_append] at r4
    have w12 := w11.trans s4
    have P20 : Prs H20 (as_ ++ [((((7 : Int), ("y" : Str)) : PI), p2)]) := (Pa7.same w12).app (.one (s4 _ _ (s3 _ _ r2)) good7y)
    refine mkCap_go (.inl (.inl (.inl r4))) P20 (Few.of (by rw [List.length_map, List.length_append]; simp; omega)) (by rw [List.length_append]; simp; omega) fun z nz H21 _ u3 cz az _ => ?_
    have lz : nz.length ≤ 63 := by
      have y := len_sub az.nd fun x mx => (az.mem x).mp mx
      rw [List.length_append] at y
      simp at y
      omega
    refine ⟨x, z, nx, nz, rfl, cx7.same (w12.trans u3), cz, by omega, by omega, by omega, fun H22 _ => ?_⟩
    rw [decide_eq_true (show ∀ p ∈ nx.map (·.1), p ∈ nz.map (·.1) from fun p mp => (az.mem p).mpr (by rw [List.map_append]; exact List.mem_append_left _ ((ix p).mp mp)))]
    exact q H22

end
end Own

set_option Elab.async false
set_option linter.all false
set_option maxRecDepth 100000
set_option maxHeartbeats 4000000
namespace Own
open PySem PySem.Spec PyProof.Rows L2
def fn0 : List He.DefD := mtD "Captures" "__init__" "Captures.__init__" s_Captures_init [He.Dv.adr (He.dflAt ("Captures", some "__init__") 0)] :: mtD "Captures" "__str__" "Captures.__str__" s_Captures_str [] :: mtD "Captures" "within" "Captures.within" s_Captures_within [] :: mtD "Captures" "__eq__" "Captures.__eq__" s_Captures_eq [] :: mtD "Captures" "__contains__" "Captures.__contains__" s_Captures_contains [] :: mtD "BadPair" "__init__" "BadPair.__init__" s_BadPair [] :: dfD "is_word" s_is_word :: dfD "is_ident" s_is_ident :: dfD "_own_pairs" s_own_pairs :: dfD "_is_pair" s_is_pair :: dfD "_is_number" s_is_number :: dfD "_law_tape" s_l_tape :: dfD "_law_draw" s_l_draw :: dfD "_law_kept" s_l_kept :: dfD "_law_signs" s_l_signs :: dfD "_law_spelled" s_l_spelled :: dfD "_law_ident" s_l_ident :: dfD "_law_number" s_l_number :: dfD "_law_pairs" s_l_pairs :: dfD "_law_ascending" s_l_ascending :: dfD "_law_subset" s_l_subset :: dfD "_law_second" s_l_second :: dfD "_law_members" s_l_members :: dfD "law" s_law :: []
def chk0 (K : PySem.W.Frag) : Bool := exG K && (ciB K ("BadPair", ["pair"]) && (clsB K "Captures" && ((He.Fa.meth "Captures" "__init__").ok K && ((He.Fa.meth "Captures" "__str__").ok K && ((He.Fa.meth "Captures" "within").ok K && ((He.Fa.meth "Captures" "__eq__").ok K && ((He.Fa.meth "Captures" "__contains__").ok K && ((He.Fa.noat "Captures" "pairs").ok K && (strB K "Captures" && (eqB K "Captures" && (inB K "Captures" && (decide (PySem.W.subIn K (.type "list") (.ref (He.ga K "Captures")) = some false) && (decide (PySem.W.subIn K (.type "tuple") (.ref (He.ga K "Captures")) = some false) && (decide (PySem.W.subIn K (.type "str") (.ref (He.ga K "Captures")) = some false) && ((He.Fa.glo "is_word").ok K && ((He.Fa.glo "is_ident").ok K && ((He.Fa.glo "_own_pairs").ok K && ((He.Fa.glo "_is_pair").ok K && ((He.Fa.glo "_is_number").ok K && ((He.Fa.glo "_law_tape").ok K && ((He.Fa.glo "_law_draw").ok K && ((He.Fa.glo "_law_kept").ok K && ((He.Fa.glo "_law_signs").ok K && ((He.Fa.glo "_law_spelled").ok K && ((He.Fa.glo "_law_ident").ok K && ((He.Fa.glo "_law_number").ok K && ((He.Fa.glo "_law_pairs").ok K && ((He.Fa.glo "_law_ascending").ok K && ((He.Fa.glo "_law_subset").ok K && ((He.Fa.glo "_law_second").ok K && ((He.Fa.glo "_law_members").ok K && ((He.Fa.glo "law").ok K && ((He.Fa.free "isinstance").ok K && ((He.Fa.free "list").ok K && ((He.Fa.free "sorted").ok K && ((He.Fa.free "all").ok K && ((He.Fa.free "range").ok K && ((He.Fa.free "len").ok K && ((He.Fa.free "int").ok K && ((He.Fa.free "str").ok K && ((He.Fa.free "bool").ok K && ((He.Fa.free "tuple").ok K && ((He.Fa.free "min").ok K && ((He.Fa.free "max").ok K && ((He.Fa.free "set").ok K && ((He.Fa.free "reversed").ok K && ((He.Fa.str "LETTERS" lettersS).ok K && ((He.Fa.str "DIGITS" digitsS).ok K && ((He.Fa.int "LONGEST_WORD" (12)).ok K && ((He.Fa.glo "KEPT_WORDS").ok K && (He.tupB K "KEPT_WORDS" (keptW.map He.Dv.str) && ((He.Fa.int "NUMBER_LIMIT" (limN)).ok K && (decide (PySem.W.kitOne K (.type "str") (.type "str") = some true) && (decide (PySem.W.kitOne K (.type "int") (.type "int") = some true) && (decide (PySem.W.kitOne K (.type "int") (.type "bool") = some false) && (decide (PySem.W.kitOne K (.type "tuple") (.type "tuple") = some true) && (decide (PySem.W.kitOne K (.type "tuple") (.ref (He.ga K "Captures")) = some false) && (decide (PySem.W.kitOne K (.type "list") (.ref (He.ga K "Captures")) = some false) && (decide (PySem.W.kitOne K (.type "str") (.ref (He.ga K "Captures")) = some false))))))))))))))))))))))))))))))))))))))))))))))))))))))))))))
def tfA : List He.Defn := []
def adL : List AdD := []
def chkA (K : PySem.W.Frag) : Bool := chk0 K
def fnA : List He.DefD := fn0
def namesL : List Str := ("_wall" : Str) :: ("__name__" : Str) :: ("BindspanError" : Str) :: ("BadCaptures" : Str) :: ("BadPair" : Str) :: ("LETTERS" : Str) :: ("DIGITS" : Str) :: ("LONGEST_WORD" : Str) :: ("KEPT_WORDS" : Str) :: ("is_word" : Str) :: ("is_ident" : Str) :: ("MOST_DIGITS" : Str) :: ("NUMBER_LIMIT" : Str) :: ("Captures" : Str) :: ("_own_pairs" : Str) :: ("_pairs_of" : Str) :: ("_is_pair" : Str) :: ("_is_number" : Str) :: ("_read_pair" : Str) :: ("_is_decimal" : Str) :: ("_law_tape" : Str) :: ("_law_draw" : Str) :: ("_law_kept" : Str) :: ("_law_signs" : Str) :: ("_law_spelled" : Str) :: ("_law_ident" : Str) :: ("_law_number" : Str) :: ("_law_pairs" : Str) :: ("_law_ascending" : Str) :: ("_law_subset" : Str) :: ("_law_second" : Str) :: ("_law_members" : Str) :: []
abbrev R0 : PySem.W.OpenRow := PySem.W.OpenLaw.row PySem.Challenge.rw_bindspan_k06_captures_compare
set_option maxHeartbeats 0 in
theorem run0 (w : World) : HandSHeadRun.RunEq R0 (PySem.W.view R0.prog [35]) (hookA chk0 fn0 tfA adL) (obA chk0 fn0 tfA adL) 9000 namesL w := by
  intro os
  kernel_rfl
theorem run (w : World) : HandSHeadRun.RunEq R0 (PySem.W.view R0.prog [35]) (hookA chkA fnA tfA adL) (obA chkA fnA tfA adL) 9000 namesL w := run0 w
set_option maxHeartbeats 0 in
theorem facts {P : Program} {w : World} {K : PySem.W.Frag} {h : Heap} {mg : Str → Option Value} {fa : Addr} (X : K.In h) (G : h.Ns mainGlobals mg) (hfa : mg "law" = some (.ref fa)) (c : obsN chkA fnA K = He.valD fnA) (pz : AdsA adL K) :
    ∃ fd : FuncData, (∀ (s : Shared) (v : Value), BindsTo s fd ⟨[v], []⟩ [("_law_script", v)]) ∧ ∀ base : Heap, K.In base → base.Ns mainGlobals mg → FnOk P w K mg base CX0 12 fa fd ["_law_script"] (spLaw K) := by
  have k0 := (saysN_both c).1
  simp only [chkA, chk0, Bool.and_eq_true] at k0
  obtain ⟨eG, hi_BadPair, hc_Captures, hm_Captures_init, hm_Captures_str, hm_Captures_within, hm_Captures_eq, hm_Captures_contains, ho_n_Captures_pairs, ho_str_Captures, ho_eq_Captures, ho_in_Captures, ho_su_Captures_list, ho_su_Captures_tuple, ho_su_Captures_str, hg_is_word, hg_is_ident, hg_own_pairs, hg_is_pair, hg_is_number, hg_l_tape, hg_l_draw, hg_l_kept, hg_l_signs, hg_l_spelled, hg_l_ident, hg_l_number, hg_l_pairs, hg_l_ascending, hg_l_subset, hg_l_second, hg_l_members, hg_law, hz_isinstance, hz_list, hz_sorted, hz_all, hz_range, hz_len, hz_int, hz_str, hz_bool, hz_tuple, hz_min, hz_max, hz_set, hz_reversed, hv_LETTERS, hv_DIGITS, hv_LONGEST_WORD, hv_KEPT_WORDS, ht_KEPT_WORDS, hv_NUMBER_LIMIT, q_str_str, q_int_int, q_int_bool, q_tup_tup, q_tup_Cap, q_lst_Cap, q_str_Cap⟩ := k0
  obtain ⟨d_Captures_init, F_Captures_init⟩ := saysN_def c 0 rfl
  have F_Captures_init : FunD K "__init__" "Captures.__init__" (defArgs s_Captures_init) (defBody s_Captures_init) (defScope s_Captures_init) [.ref (He.dflAt ("Captures", some "__init__") 0 K)] [] (He.ma K (He.ga K "Captures") "__init__") d_Captures_init := F_Captures_init
  obtain ⟨ea_Captures_init, va_Captures_init, ba_Captures_init⟩ := F_Captures_init.binds1 (ps := ["self", "pairs"]) 2 1 (by simp) rfl (fun _ _ _ _ _ _ _ us its h1 h2 => match us, its, h1, h2 with | [_, _], [_], _, _ => ⟨_, rfl, rfl⟩)
  obtain rfl : ea_Captures_init = [] := by cases va_Captures_init; rfl
  obtain ⟨ed_Captures_init, vd_Captures_init, bd_Captures_init⟩ := F_Captures_init.binds1 (ps := ["self", "pairs"]) 1 0 (by simp) rfl (fun _ _ _ _ _ _ _ us its h1 h2 => match us, its, h1, h2 with | [_], [_], _, _ => ⟨_, rfl, rfl⟩)
  obtain ⟨d_Captures_str, F0_Captures_str⟩ := saysN_def c 1 rfl
  have F_Captures_str : Fun K "__str__" "Captures.__str__" s_Captures_str (He.ma K (He.ga K "Captures") "__str__") d_Captures_str := fun_of F0_Captures_str
  obtain ⟨d_Captures_within, F0_Captures_within⟩ := saysN_def c 2 rfl
  have F_Captures_within : Fun K "within" "Captures.within" s_Captures_within (He.ma K (He.ga K "Captures") "within") d_Captures_within := fun_of F0_Captures_within
  obtain ⟨d_Captures_eq, F0_Captures_eq⟩ := saysN_def c 3 rfl
  have F_Captures_eq : Fun K "__eq__" "Captures.__eq__" s_Captures_eq (He.ma K (He.ga K "Captures") "__eq__") d_Captures_eq := fun_of F0_Captures_eq
  obtain ⟨d_Captures_contains, F0_Captures_contains⟩ := saysN_def c 4 rfl
  have F_Captures_contains : Fun K "__contains__" "Captures.__contains__" s_Captures_contains (He.ma K (He.ga K "Captures") "__contains__") d_Captures_contains := fun_of F0_Captures_contains
  obtain ⟨d_BadPair, F0_BadPair⟩ := saysN_def c 5 rfl
  have F_BadPair : Fun K "__init__" "BadPair.__init__" s_BadPair (He.ma K (He.ga K "BadPair") "__init__") d_BadPair := fun_of F0_BadPair
  obtain ⟨g_BadPair, x_BadPair, n_BadPair, p_BadPair⟩ := and4 hi_BadPair
  obtain ⟨d_is_word, F0_is_word⟩ := saysN_def c 6 rfl
  have F_is_word : Fun K "is_word" "is_word" s_is_word (He.ga K "is_word") d_is_word := fun_of F0_is_word
  obtain ⟨d_is_ident, F0_is_ident⟩ := saysN_def c 7 rfl
  have F_is_ident : Fun K "is_ident" "is_ident" s_is_ident (He.ga K "is_ident") d_is_ident := fun_of F0_is_ident
  obtain ⟨d_own_pairs, F0_own_pairs⟩ := saysN_def c 8 rfl
  have F_own_pairs : Fun K "_own_pairs" "_own_pairs" s_own_pairs (He.ga K "_own_pairs") d_own_pairs := fun_of F0_own_pairs
  obtain ⟨d_is_pair, F0_is_pair⟩ := saysN_def c 9 rfl
  have F_is_pair : Fun K "_is_pair" "_is_pair" s_is_pair (He.ga K "_is_pair") d_is_pair := fun_of F0_is_pair
  obtain ⟨d_is_number, F0_is_number⟩ := saysN_def c 10 rfl
  have F_is_number : Fun K "_is_number" "_is_number" s_is_number (He.ga K "_is_number") d_is_number := fun_of F0_is_number
  obtain ⟨d_l_tape, F0_l_tape⟩ := saysN_def c 11 rfl
  have F_l_tape : Fun K "_law_tape" "_law_tape" s_l_tape (He.ga K "_law_tape") d_l_tape := fun_of F0_l_tape
  obtain ⟨d_l_draw, F0_l_draw⟩ := saysN_def c 12 rfl
  have F_l_draw : Fun K "_law_draw" "_law_draw" s_l_draw (He.ga K "_law_draw") d_l_draw := fun_of F0_l_draw
  obtain ⟨d_l_kept, F0_l_kept⟩ := saysN_def c 13 rfl
  have F_l_kept : Fun K "_law_kept" "_law_kept" s_l_kept (He.ga K "_law_kept") d_l_kept := fun_of F0_l_kept
  obtain ⟨d_l_signs, F0_l_signs⟩ := saysN_def c 14 rfl
  have F_l_signs : Fun K "_law_signs" "_law_signs" s_l_signs (He.ga K "_law_signs") d_l_signs := fun_of F0_l_signs
  obtain ⟨d_l_spelled, F0_l_spelled⟩ := saysN_def c 15 rfl
  have F_l_spelled : Fun K "_law_spelled" "_law_spelled" s_l_spelled (He.ga K "_law_spelled") d_l_spelled := fun_of F0_l_spelled
  obtain ⟨d_l_ident, F0_l_ident⟩ := saysN_def c 16 rfl
  have F_l_ident : Fun K "_law_ident" "_law_ident" s_l_ident (He.ga K "_law_ident") d_l_ident := fun_of F0_l_ident
  obtain ⟨d_l_number, F0_l_number⟩ := saysN_def c 17 rfl
  have F_l_number : Fun K "_law_number" "_law_number" s_l_number (He.ga K "_law_number") d_l_number := fun_of F0_l_number
  obtain ⟨d_l_pairs, F0_l_pairs⟩ := saysN_def c 18 rfl
  have F_l_pairs : Fun K "_law_pairs" "_law_pairs" s_l_pairs (He.ga K "_law_pairs") d_l_pairs := fun_of F0_l_pairs
  obtain ⟨d_l_ascending, F0_l_ascending⟩ := saysN_def c 19 rfl
  have F_l_ascending : Fun K "_law_ascending" "_law_ascending" s_l_ascending (He.ga K "_law_ascending") d_l_ascending := fun_of F0_l_ascending
  obtain ⟨d_l_subset, F0_l_subset⟩ := saysN_def c 20 rfl
  have F_l_subset : Fun K "_law_subset" "_law_subset" s_l_subset (He.ga K "_law_subset") d_l_subset := fun_of F0_l_subset
  obtain ⟨d_l_second, F0_l_second⟩ := saysN_def c 21 rfl
  have F_l_second : Fun K "_law_second" "_law_second" s_l_second (He.ga K "_law_second") d_l_second := fun_of F0_l_second
  obtain ⟨d_l_members, F0_l_members⟩ := saysN_def c 22 rfl
  have F_l_members : Fun K "_law_members" "_law_members" s_l_members (He.ga K "_law_members") d_l_members := fun_of F0_l_members
  obtain ⟨d_law, F0_law⟩ := saysN_def c 23 rfl
  have F_law : Fun K "law" "law" s_law (He.ga K "law") d_law := fun_of F0_law
  obtain ⟨t_LETTERS, m_LETTERS⟩ := He.str_ok X G hv_LETTERS
  obtain ⟨t_DIGITS, m_DIGITS⟩ := He.str_ok X G hv_DIGITS
  obtain ⟨t_LONGEST_WORD, m_LONGEST_WORD⟩ := He.int_ok X G hv_LONGEST_WORD
  obtain ⟨t_NUMBER_LIMIT, m_NUMBER_LIMIT⟩ := He.int_ok X G hv_NUMBER_LIMIT
  let T : Txt K mg := {
    a_pairs := (He.dflAt ("Captures", some "__init__") 0 K)
    c_BadPair := ⟨He.ga K "BadPair", He.ma K (He.ga K "BadPair") "__init__", d_BadPair, glo_mg X G g_BadPair, exK_of eG x_BadPair, exI_of n_BadPair, F_BadPair, F_BadPair.binds (ps := ["self", "pair"]) (fun _ _ _ _ _ _ us hl => match us, hl with | [_, _], _ => rfl)⟩
    e_Captures := cnT X G hc_Captures
    i_Captures_init := ⟨He.ma K (He.ga K "Captures") "__init__", d_Captures_init, F_Captures_init, (meth_of hm_Captures_init).1, (meth_of hm_Captures_init).2, ba_Captures_init, ed_Captures_init, vd_Captures_init, bd_Captures_init⟩
    i_Captures_str := ⟨He.ma K (He.ga K "Captures") "__str__", d_Captures_str, F_Captures_str, (meth_of hm_Captures_str).1, (meth_of hm_Captures_str).2, F_Captures_str.binds (ps := ["self"]) (fun _ _ _ _ _ _ us hl => match us, hl with | [_], _ => rfl)⟩
    i_Captures_within := ⟨He.ma K (He.ga K "Captures") "within", d_Captures_within, F_Captures_within, (meth_of hm_Captures_within).1, (meth_of hm_Captures_within).2, F_Captures_within.binds (ps := ["self", "other"]) (fun _ _ _ _ _ _ us hl => match us, hl with | [_, _], _ => rfl)⟩
    i_Captures_eq := ⟨He.ma K (He.ga K "Captures") "__eq__", d_Captures_eq, F_Captures_eq, (meth_of hm_Captures_eq).1, (meth_of hm_Captures_eq).2, F_Captures_eq.binds (ps := ["self", "other"]) (fun _ _ _ _ _ _ us hl => match us, hl with | [_, _], _ => rfl)⟩
    i_Captures_contains := ⟨He.ma K (He.ga K "Captures") "__contains__", d_Captures_contains, F_Captures_contains, (meth_of hm_Captures_contains).1, (meth_of hm_Captures_contains).2, F_Captures_contains.binds (ps := ["self", "x"]) (fun _ _ _ _ _ _ us hl => match us, hl with | [_, _], _ => rfl)⟩
    n_Captures_pairs := He.eqO_ok ho_n_Captures_pairs
    str_Captures := str_of ho_str_Captures
    eq_Captures := eq_of ho_eq_Captures
    in_Captures := in_of ho_in_Captures
    su_Captures_list := of_decide_eq_true ho_su_Captures_list
    su_Captures_tuple := of_decide_eq_true ho_su_Captures_tuple
    su_Captures_str := of_decide_eq_true ho_su_Captures_str
    d_is_word := ⟨He.ga K "is_word", d_is_word, F_is_word, He.glo_ok X G hg_is_word, F_is_word.binds (ps := ["value"]) (fun _ _ _ _ _ _ us hl => match us, hl with | [_], _ => rfl)⟩
    d_is_ident := ⟨He.ga K "is_ident", d_is_ident, F_is_ident, He.glo_ok X G hg_is_ident, F_is_ident.binds (ps := ["value"]) (fun _ _ _ _ _ _ us hl => match us, hl with | [_], _ => rfl)⟩
    d_own_pairs := ⟨He.ga K "_own_pairs", d_own_pairs, F_own_pairs, He.glo_ok X G hg_own_pairs, F_own_pairs.binds (ps := ["pairs"]) (fun _ _ _ _ _ _ us hl => match us, hl with | [_], _ => rfl)⟩
    d_is_pair := ⟨He.ga K "_is_pair", d_is_pair, F_is_pair, He.glo_ok X G hg_is_pair, F_is_pair.binds (ps := ["value"]) (fun _ _ _ _ _ _ us hl => match us, hl with | [_], _ => rfl)⟩
    d_is_number := ⟨He.ga K "_is_number", d_is_number, F_is_number, He.glo_ok X G hg_is_number, F_is_number.binds (ps := ["value"]) (fun _ _ _ _ _ _ us hl => match us, hl with | [_], _ => rfl)⟩
    d_l_tape := ⟨He.ga K "_law_tape", d_l_tape, F_l_tape, He.glo_ok X G hg_l_tape, F_l_tape.binds (ps := ["_law_script", "_law_k"]) (fun _ _ _ _ _ _ us hl => match us, hl with | [_, _], _ => rfl)⟩
    d_l_draw := ⟨He.ga K "_law_draw", d_l_draw, F_l_draw, He.glo_ok X G hg_l_draw, F_l_draw.binds (ps := ["_law_tape_here", "_law_many"]) (fun _ _ _ _ _ _ us hl => match us, hl with | [_, _], _ => rfl)⟩
    d_l_kept := ⟨He.ga K "_law_kept", d_l_kept, F_l_kept, He.glo_ok X G hg_l_kept, F_l_kept.binds (ps := []) (fun _ _ _ _ _ _ us hl => match us, hl with | [], _ => rfl)⟩
    d_l_signs := ⟨He.ga K "_law_signs", d_l_signs, F_l_signs, He.glo_ok X G hg_l_signs, F_l_signs.binds (ps := []) (fun _ _ _ _ _ _ us hl => match us, hl with | [], _ => rfl)⟩
    d_l_spelled := ⟨He.ga K "_law_spelled", d_l_spelled, F_l_spelled, He.glo_ok X G hg_l_spelled, F_l_spelled.binds (ps := ["_law_tape_here", "_law_used"]) (fun _ _ _ _ _ _ us hl => match us, hl with | [_, _], _ => rfl)⟩
    d_l_ident := ⟨He.ga K "_law_ident", d_l_ident, F_l_ident, He.glo_ok X G hg_l_ident, F_l_ident.binds (ps := ["_law_tape_here", "_law_used"]) (fun _ _ _ _ _ _ us hl => match us, hl with | [_, _], _ => rfl)⟩
    d_l_number := ⟨He.ga K "_law_number", d_l_number, F_l_number, He.glo_ok X G hg_l_number, F_l_number.binds (ps := ["_law_tape_here"]) (fun _ _ _ _ _ _ us hl => match us, hl with | [_], _ => rfl)⟩
    d_l_pairs := ⟨He.ga K "_law_pairs", d_l_pairs, F_l_pairs, He.glo_ok X G hg_l_pairs, F_l_pairs.binds (ps := ["_law_script", "_law_first", "_law_last"]) (fun _ _ _ _ _ _ us hl => match us, hl with | [_, _, _], _ => rfl)⟩
    d_l_ascending := ⟨He.ga K "_law_ascending", d_l_ascending, F_l_ascending, He.glo_ok X G hg_l_ascending, F_l_ascending.binds (ps := ["_law_pairs_here"]) (fun _ _ _ _ _ _ us hl => match us, hl with | [_], _ => rfl)⟩
    d_l_subset := ⟨He.ga K "_law_subset", d_l_subset, F_l_subset, He.glo_ok X G hg_l_subset, F_l_subset.binds (ps := ["_law_first", "_law_second_here"]) (fun _ _ _ _ _ _ us hl => match us, hl with | [_, _], _ => rfl)⟩
    d_l_second := ⟨He.ga K "_law_second", d_l_second, F_l_second, He.glo_ok X G hg_l_second, F_l_second.binds (ps := ["_law_tape_here", "_law_pairs_here"]) (fun _ _ _ _ _ _ us hl => match us, hl with | [_, _], _ => rfl)⟩
    d_l_members := ⟨He.ga K "_law_members", d_l_members, F_l_members, He.glo_ok X G hg_l_members, F_l_members.binds (ps := ["_law_made", "_law_due", "_law_others"]) (fun _ _ _ _ _ _ us hl => match us, hl with | [_, _, _], _ => rfl)⟩
    d_law := ⟨He.ga K "law", d_law, F_law, He.glo_ok X G hg_law, F_law.binds (ps := ["_law_script"]) (fun _ _ _ _ _ _ us hl => match us, hl with | [_], _ => rfl)⟩
    z_isinstance := He.free_ok X G hz_isinstance
    z_list := He.free_ok X G hz_list
    z_sorted := He.free_ok X G hz_sorted
    z_all := He.free_ok X G hz_all
    z_range := He.free_ok X G hz_range
    z_len := He.free_ok X G hz_len
    z_int := He.free_ok X G hz_int
    z_str := He.free_ok X G hz_str
    z_bool := He.free_ok X G hz_bool
    z_tuple := He.free_ok X G hz_tuple
    z_min := He.free_ok X G hz_min
    z_max := He.free_ok X G hz_max
    z_set := He.free_ok X G hz_set
    z_reversed := He.free_ok X G hz_reversed
    t_LETTERS := t_LETTERS
    m_LETTERS := m_LETTERS
    t_DIGITS := t_DIGITS
    m_DIGITS := m_DIGITS
    t_LONGEST_WORD := t_LONGEST_WORD
    m_LONGEST_WORD := m_LONGEST_WORD
    k_KEPT_WORDS := He.ga K "KEPT_WORDS"
    m_KEPT_WORDS := He.glo_ok X G hv_KEPT_WORDS
    s_KEPT_WORDS := fun H => He.tupB_ok ht_KEPT_WORDS H
    t_NUMBER_LIMIT := t_NUMBER_LIMIT
    m_NUMBER_LIMIT := m_NUMBER_LIMIT
    q_str_str := of_decide_eq_true q_str_str
    q_int_int := of_decide_eq_true q_int_int
    q_int_bool := of_decide_eq_true q_int_bool
    q_tup_tup := of_decide_eq_true q_tup_tup
    q_tup_Cap := of_decide_eq_true q_tup_Cap
    q_lst_Cap := of_decide_eq_true q_lst_Cap
    q_str_Cap := of_decide_eq_true q_str_Cap }
  have e := hfa.symm.trans T.d_law.g
  cases e
  refine ⟨d_law, fun s v => ?_, fun base _ _ => ok_law T⟩
  obtain ⟨oc, od, kV, doc, pm, an, cdv, ct, osl, rfl, _, _⟩ := F_law.ex
  exact .of_eq rfl
theorem lawStart {K : PySem.W.Frag} {H : Hp} (a : Addr) (ns : List Int) (hl : ns.length ≤ 63) (hS : SqL K H a (ns.map V.int)) : spLaw K [.ref a] H (fun v _ => v = .bl true) fun _ _ _ => False := ⟨a, ns, rfl, hS, hl, fun _ => rfl⟩
end Own
open PySem PySem.W PySem.Calls PyProof.Rows
set_option maxRecDepth 100000 in
set_option maxHeartbeats 0 in
theorem PySem.Challenge.cw_bindspan_k06_captures_compare_holds : PySem.Challenge.rw_bindspan_k06_captures_compare.Holds := by
  w_on; o_law
  refine HandSHeadRun.head_any (r := OpenLaw.row PySem.Challenge.rw_bindspan_k06_captures_compare) (q := view (OpenLaw.row PySem.Challenge.rw_bindspan_k06_captures_compare).prog [35]) (H := Own.hookA Own.chkA Own.fnA Own.tfA Own.adL) (ob := Own.obA Own.chkA Own.fnA Own.tfA Own.adL) (M := 9000) (loose := Own.namesL) (d := HandSHeadRun.topDef (OpenLaw.row PySem.Challenge.rw_bindspan_k06_captures_compare).prog 35) (kwd := []) Own.obA_eq
    (by kernel_rfl) (fun s => by kernel_rfl) Own.run (by kernel_rfl) (by kernel_rfl) (by kernel_rfl) (by rfl) (by first | assumption | decide +kernel) (by decide +kernel) ⟨rfl, rfl, rfl, rfl, rfl, by decide +kernel⟩ ?hw ?hc
  case hw => w_witness2
  case hc =>
    refine L2.walk_ofE (l := PySem.Challenge.rw_bindspan_k06_captures_compare) (n := 63) (k := 12) (x := "_law_script") (CX := L2.CX0) rfl (by decide) (by kernel_rfl) ⟨rfl, by decide, by decide⟩ ?F (fun _ _ _ _ z => z)
    intro w mg fa h Y G hmg0
    obtain ⟨K, KX, c, _, pz⟩ := Y
    have hmg : mg ("law" : PySem.Str) = some (.ref fa) := by
      have e : (HandSHeadRun.topDef (OpenLaw.row PySem.Challenge.rw_bindspan_k06_captures_compare).prog 35).name = ("law" : PySem.Str) := by kernel_rfl
      rw [← e]
      exact hmg0
    obtain ⟨fd, hb, hF⟩ := Own.facts (P := (PySem.Challenge.rw_bindspan_k06_captures_compare).prog) (w := w) KX G hmg c pz
    exact ⟨K, fd, Own.spLaw K, KX, hb, fun H a ns hl _ hS => Own.lawStart a ns hl hS, hF⟩

